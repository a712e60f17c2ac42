/-
  The document's Parse of a world (rewindref12.Parse), walked.
-/
import Derived.Test.YtoailhkaenofpaaDoorWdZ
import Derived.BigRegion
import Derived.RegionTactic
namespace Go.Proofs.YtoailhkaenofpaaDoor
open Go.RowKit

/-- Where the loop over a text stands. -/
def PI (r : List UInt8) (j f : Nat) (out : List Int) : Prop :=
  j ≤ r.length ∧ f ≤ j ∧ (32 : UInt8) ∉ (r.drop f).take (j - f) ∧ ∃ P, splitL r = P ++ splitL (r.drop f) ∧ numsM P = some out
theorem pi_zero (r : List UInt8) : PI r 0 0 [] := ⟨Nat.zero_le _, Nat.le_refl _, by simp, [], rfl, rfl⟩
theorem take_more {r : List UInt8} {j f : Nat} (hj : j < r.length) (hf : f ≤ j) : (r.drop f).take (j + 1 - f) = (r.drop f).take (j - f) ++ [r[j]] := by
  have e : j + 1 - f = (j - f) + 1 := by omega
  have h : j - f < (r.drop f).length := by rw [List.length_drop]; omega
  rw [e, List.take_succ_eq_append_getElem h, List.getElem_drop]
  congr 3
  omega
theorem pi_skip {r : List UInt8} {j f : Nat} {out : List Int} (h : PI r j f out) (hj : j < r.length) (hn : r[j] ≠ 32) : PI r (j + 1) f out := by
  obtain ⟨h1, h2, h3, h4⟩ := h
  refine ⟨hj, by omega, ?_, h4⟩
  rw [take_more hj h2, List.mem_append]
  rintro (h | h)
  · exact h3 h
  · exact hn (List.mem_singleton.1 h).symm
theorem seg_all {r : List UInt8} {f : Nat} {out : List Int} (h : PI r r.length f out) : splitL (r.drop f) = [(r.drop f).take (r.length - f)] := by
  obtain ⟨_, _, h3, _⟩ := h
  rw [List.take_of_length_le (by rw [List.length_drop]; omega)] at h3 ⊢
  exact splitL_none h3
theorem seg_blank {r : List UInt8} {j f : Nat} {out : List Int} (h : PI r j f out) (hj : j < r.length) (hb : r[j] = 32) : splitL (r.drop f) = (r.drop f).take (j - f) :: splitL (r.drop (j + 1)) := by
  obtain ⟨_, h2, h3, _⟩ := h
  have e : r.drop f = (r.drop f).take (j - f) ++ 32 :: r.drop (j + 1) := by
    have h5 := (List.take_append_drop (j - f) (r.drop f)).symm
    have h6 : (r.drop f).drop (j - f) = 32 :: r.drop (j + 1) := by
      rw [List.drop_drop, show f + (j - f) = j by omega, ← hb]
      exact List.drop_eq_getElem_cons hj
    rw [h6] at h5
    exact h5
  rw [e]
  have e2 : ((r.drop f).take (j - f) ++ 32 :: r.drop (j + 1)).take (j - f) = (r.drop f).take (j - f) := by rw [← e]
  rw [e2]
  exact splitT_at h3 _
theorem pi_blank {r : List UInt8} {j f : Nat} {out : List Int} {m : Int} (h : PI r j f out) (hj : j < r.length) (hb : r[j] = 32) (hm : numM ((r.drop f).take (j - f)) = some m) : PI r (j + 1) (j + 1) (out ++ [m]) := by
  have hs := seg_blank h hj hb
  obtain ⟨_, _, _, P, hP, hn⟩ := h
  refine ⟨hj, Nat.le_refl _, by simp, P ++ [(r.drop f).take (j - f)], ?_, numsM_some _ _ _ _ hn hm⟩
  rw [hP, hs]; simp
theorem pi_last {r : List UInt8} {f : Nat} {out : List Int} {m : Int} (h : PI r r.length f out) (hm : numM ((r.drop f).take (r.length - f)) = some m) : numsM (splitL r) = some (out ++ [m]) := by
  have hs := seg_all h
  obtain ⟨_, _, _, P, hP, hn⟩ := h
  rw [hP, hs]
  exact numsM_some _ _ _ _ hn hm
theorem pi_none {r : List UInt8} {j f : Nat} {out : List Int} (h : PI r j f out) (hj : j = r.length ∨ ∃ h : j < r.length, r[j] = 32) (hm : numM ((r.drop f).take (j - f)) = none) : numsM (splitL r) = none := by
  have hk : ∃ R, splitL (r.drop f) = (r.drop f).take (j - f) :: R := by
    rcases hj with rfl | ⟨hj, hb⟩
    · exact ⟨[], seg_all h⟩
    · exact ⟨_, seg_blank h hj hb⟩
  obtain ⟨R, hR⟩ := hk
  obtain ⟨_, _, _, P, hP, _⟩ := h
  rw [hP, hR]
  refine numsM_none _ P.length (by simp) ?_
  rw [List.getElem_append_right (Nat.le_refl _)]
  simpa using hm
/-- The loop's own place, told by its variables. -/
def PX (r : List UInt8) (q g : Nat) (out : List Int) : Prop :=
  (∃ j f, q = 6 + j ∧ g = 6 + f ∧ PI r j f out) ∨ (q = r.length + 7 ∧ numsM (splitL r) = some out)
theorem wOf_short {t : List UInt8} (h : t.length < 8) : wOf t = none := by
  cases hw : wOf t with
  | none => rfl
  | some l =>
    exfalso
    unfold wOf at hw
    split at hw
    · rename_i hc
      have e : (t.drop 6).dropLast = [] := List.eq_nil_of_length_eq_zero (by rw [List.length_dropLast, List.length_drop]; omega)
      rw [e, show numsM (splitL []) = none from by decide +kernel] at hw
      cases hw
    · cases hw
theorem ext_bs (t : List UInt8) (a b : Nat) : (bs t).extract a b = bs ((t.drop a).take (b - a)) := by
  apply bs_eq.2
  simp [bs, ByteArray.data_extract]

/-- What the document's Parse answers. -/
def RpP (T : List UInt8) (w : World) (e : Ending) (w' : World) : Prop :=
  Below w.heap.size w w' ∧ ((∃ s l A c, wOf T = some (s :: l) ∧ GoodW ⟨s, l⟩ ∧ e = .returned (.tuple #[.int .i64 s, .slice A l.length c, .int .i64 0]) ∧ IsAt w' w'.heap.size A l) ∨
    (∃ s l, wOf T = some (s :: l) ∧ ¬ GoodW ⟨s, l⟩ ∧ e = .returned (.tuple #[.int .i64 0, .slice none 0 0, .int .i64 15])) ∨
    (wOf T = none ∧ e = .returned (.tuple #[.int .i64 0, .slice none 0 0, .int .i64 3])))
set_option maxRecDepth 100000 in
set_option maxHeartbeats 4000000 in
theorem refParse_no (T : List UInt8) (hT : T.length ≤ 1000000) (w : World) (hno : wOf T = none) (h : T.length < 8 ∨ (8 ≤ T.length ∧ T.take 6 ≠ headB) ∨ (8 ≤ T.length ∧ T.take 6 = headB ∧ T.getLast? ≠ some 10)) :
    Calls Tryd.prog 14 #[.string (bs T)] w (RpP T w) := by
  have hsz : (bs T).size = T.length := bs_size T
  have HNO := Lib.hid hno
  have HE1 : Hid ((bs T).extract 0 6 = bs (T.take 6)) := Lib.hid (by rw [ext_bs]; simp)
  have HG : Hid (∀ (k : Nat) (h : k < (bs T).size) (h' : k < T.length), (bs T)[k]'h = T[k]) := Lib.hid (fun k h h' => rfl)
  clear hno
  generalize hS : bs T = S at *
  clear hS
  rcases h with h8 | ⟨h8, hp⟩ | ⟨h8, hp, hl⟩
  · have d1 : decide ((T.length : Int) < 8) = true := decide_eq_true (by omega)
    have d2 : decide (T.length < 8) = true := decide_eq_true h8
    go_enter Tryd.func14, Tryd.ntmps14
    go_wp2
    exact bodyPost_ret (v := .tuple #[.int .i64 0, .slice none 0 0, .int .i64 3]) (by simp [results, Tryd.f14, go_sem]) rfl ⟨Below.refl _ _, .inr (.inr ⟨HNO.out, rfl⟩)⟩
  · have d1 : decide ((T.length : Int) < 8) = false := decide_eq_false (by omega)
    have d2 : decide (T.length < 8) = false := decide_eq_false (by omega)
    have hs3 : 6 ≤ S.size := by omega
    have hs4 : (6 : Int) ≤ (T.length : Int) := by omega
    have p1 : ((S.extract 0 6).toList == [115, 116, 101, 112, 115, 32]) = false := by
      rw [HE1.out, ByteArray.toList_eq, bs_toList]; exact beq_eq_false_iff_ne.2 hp
    clear hp
    go_enter Tryd.func14, Tryd.ntmps14
    go_wp2
    exact bodyPost_ret (v := .tuple #[.int .i64 0, .slice none 0 0, .int .i64 3]) (by simp [results, Tryd.f14, go_sem]) rfl ⟨Below.refl _ _, .inr (.inr ⟨HNO.out, rfl⟩)⟩
  · have d1 : decide ((T.length : Int) < 8) = false := decide_eq_false (by omega)
    have d2 : decide (T.length < 8) = false := decide_eq_false (by omega)
    have hs2 : T.length - 1 < S.size := by omega
    have hs3 : 6 ≤ S.size := by omega
    have hs4 : (6 : Int) ≤ (T.length : Int) := by omega
    have hs5 : (1 : Int) ≤ (T.length : Int) := by omega
    have p1 : ((S.extract 0 6).toList == [115, 116, 101, 112, 115, 32]) = true := by
      rw [HE1.out, ByteArray.toList_eq, bs_toList]; exact beq_iff_eq.2 hp
    have p2 : (((S[T.length - 1]'hs2).toNat : Int) != 10) = true := by
      rw [HG.out _ _ (by omega)]
      have : T[T.length - 1]'(by omega) ≠ 10 := fun e => hl (by rw [List.getLast?_eq_getElem?, List.getElem?_eq_getElem (by omega), e])
      simp only [bne_iff_ne]
      exact fun e => this (UInt8.toNat_inj.1 (by simpa using (show (T[T.length - 1]'(by omega)).toNat = 10 by omega)))
    clear hp hl
    go_enter Tryd.func14, Tryd.ntmps14
    go_wp2
    exact bodyPost_ret (v := .tuple #[.int .i64 0, .slice none 0 0, .int .i64 3]) (by simp [results, Tryd.f14, go_sem]) rfl ⟨Below.refl _ _, .inr (.inr ⟨HNO.out, rfl⟩)⟩
set_option maxRecDepth 100000 in
set_option maxHeartbeats 4000000 in
theorem refParse_yes (r : List UInt8) (hr0 : 0 < r.length) (hr : r.length ≤ 900000) (w : World) :
    Calls Tryd.prog 14 #[.string (bs (headB ++ r ++ [10]))] w (RpP (headB ++ r ++ [10]) w) := by
  obtain ⟨i0, hi0, hz0, hz1, hz2⟩ := info_parts Tryd.infoInt
  obtain ⟨T, hT⟩ : ∃ T, T = headB ++ r ++ [10] := ⟨_, rfl⟩
  have hlen : T.length = r.length + 7 := by rw [hT]; simp [headB]
  have HWO : Hid (wOf T = numsM (splitL r)) := Lib.hid (by rw [hT]; exact wOf_eq r)
  have hsz : (bs T).size = T.length := bs_size T
  have HG1 : Hid (∀ (j : Nat) (h : 6 + j < (bs T).size) (h' : j < r.length), (bs T)[6 + j]'h = r[j]) := Lib.hid (fun j h h' => by
    show T[6 + j]'(by omega) = r[j]
    subst hT
    rw [List.getElem_append_left (by simp [headB]; omega), List.getElem_append_right (by simp [headB])]
    congr 1
    simp [headB])
  have HG2 : Hid (∀ (h : 6 + r.length < (bs T).size), (bs T)[6 + r.length]'h = 10) := Lib.hid (fun h => by
    show T[6 + r.length]'(by omega) = 10
    subst hT
    rw [List.getElem_append_right (by simp [headB]; omega)]
    simp [headB])
  have HX : Hid (∀ j f, f ≤ j → j ≤ r.length → (bs T).extract (6 + f) (6 + j) = bs ((r.drop f).take (j - f))) := Lib.hid (fun j f h1 h2 => by
    rw [ext_bs]
    congr 1
    subst hT
    rw [List.append_assoc, List.drop_append, List.drop_of_length_le (by simp [headB]), List.nil_append, show 6 + f - headB.length = f by simp [headB], List.drop_append_of_le_length (by omega), List.take_append_of_le_length (by rw [List.length_drop]; omega)]
    congr 1
    omega)
  have HE1 : Hid ((bs T).extract 0 6 = bs headB) := Lib.hid (by rw [ext_bs, hT, List.append_assoc]; congr 1)
  rw [← hT]
  clear hT
  generalize hn : T.length = n at *
  generalize hS : bs T = S at *
  have d1 : decide ((n : Int) < 8) = false := decide_eq_false (by omega)
  have d2 : decide (n < 8) = false := decide_eq_false (by omega)
  have hs2 : n - 1 < S.size := by omega
  have hs3 : 6 ≤ S.size := by omega
  have hs4 : (6 : Int) ≤ (n : Int) := by omega
  have hs5 : (1 : Int) ≤ (n : Int) := by omega
  have p1 : ((S.extract 0 6).toList == [115, 116, 101, 112, 115, 32]) = true := by
    rw [HE1.out, ByteArray.toList_eq, bs_toList]; rfl
  have p2 : (((S[n - 1]'hs2).toNat : Int) != 10) = false := by
    have e : n - 1 = 6 + r.length := by omega
    have := HG2.out (by omega)
    simp only [e, this]
    rfl
  have hnm : n ≤ 1000000 := by omega
  have HLEN := Lib.hid hlen
  clear hn hS hlen hr
  go_enter Tryd.func14, Tryd.ntmps14
  go_wp2
  go_loopw [5, 6, 7] (fun v g i wr => ∃ (q g' : Nat) (out : List Int), q ≤ n ∧ 6 ≤ g' ∧ out.length ≤ q ∧ i = .int .i64 q ∧ g = .int .i64 g' ∧ Hid (wr.ownsRow w.heap.size 3 1 v out.length (intsL out)) ∧ Hid (PX r q g' out) ∧ Hid (Below w.heap.size w wr)) (fun _ _ i _ => n - (intOf i).toNat)
  case atStart => exact ⟨6, 6, [], by omega, by omega, by simp, rfl, rfl, Lib.hid (World.ownsRow_nil _ _ _ _), Lib.hid (.inl ⟨0, 0, rfl, rfl, pi_zero r⟩), Lib.hid (Below.refl _ _)⟩
  case round =>
    obtain ⟨q, g', out, hq, hg, hol, rfl, rfl, HV, HP, HB⟩ := hrel
    obtain ⟨A4, c4, hv⟩ := own_sliceC HV.out
    subst hv
    have hsw : w.heap.size ≤ wr.heap.size := HB.out.size
    by_cases hlt : q < n
    · have hqs : q < S.size := by omega
      obtain ⟨j, f, hqj, hgf, hpi⟩ : ∃ j f, q = 6 + j ∧ g' = 6 + f ∧ PI r j f out := by
        rcases HP.out with h | ⟨h, _⟩
        · exact h
        · have := HLEN.out; omega
      have hLN := HLEN.out
      have hgq : g' ≤ q := by have := hpi.2.1; omega
      have k0 : (0 : Int) ≤ (g' : Int) := by omega
      have k1 : (g' : Int) ≤ (q : Int) := by omega
      have k2 : (q : Int) ≤ (n : Int) := by omega
      by_cases hskip : ∃ h : j < r.length, r[j] ≠ 32
      · obtain ⟨hj, hb⟩ := hskip
        have HP2 : Hid (PX r (q + 1) g' out) := Lib.hid (.inl ⟨j + 1, f, by omega, hgf, pi_skip hpi hj hb⟩)
        have e1 : (((S[q]'hqs).toNat : Int) != 32) = true := by
          subst hqj
          rw [HG1.out j hqs hj]
          simp only [bne_iff_ne]
          exact fun e => hb (UInt8.toNat_inj.1 (by simpa using (show (r[j]).toNat = 32 by omega)))
        have e2 : decide ((q : Int) < (n : Int) - 1) = true := decide_eq_true (by omega)
        have e3 : decide (q < n - 1) = true := decide_eq_true (by omega)
        clear hqj hgf hpi hb hj hLN
        go_wp2
        go_roundw
        case rel => exact ⟨q + 1, g', out, by omega, hg, by omega, by go_num, rfl, HV, HP2, HB⟩
        case measure => simp [intOf]; omega
      · have hor : j = r.length ∨ ∃ h : j < r.length, r[j] = 32 := by
          by_cases hj : j < r.length
          · exact .inr ⟨hj, Classical.byContradiction fun h => hskip ⟨hj, h⟩⟩
          · exact .inl (by have := hpi.1; omega)
        have hc : ((((S[q]'hqs).toNat : Int) != 32) = false) ∨ ((((S[q]'hqs).toNat : Int) != 32) = true ∧ decide ((q : Int) < (n : Int) - 1) = false ∧ decide (q < n - 1) = false) := by
          subst hqj
          rcases hor with rfl | ⟨hj, hb⟩
          · exact .inr ⟨by rw [HG2.out hqs]; rfl, decide_eq_false (by omega), decide_eq_false (by omega)⟩
          · exact .inl (by rw [HG1.out j hqs hj, hb]; rfl)
        have hxe : S.extract g' q = bs ((r.drop f).take (j - f)) := by rw [hqj, hgf]; exact HX.out j f hpi.2.1 hpi.1
        have HNU : Hid (Calls Tryd.prog 25 #[.string (S.extract g' q)] wr (NuP ((r.drop f).take (j - f)) wr)) := Lib.hid (by
          rw [hxe]; exact number_calls _ (by rw [List.length_take, List.length_drop]; omega) wr)
        have HSOME : Hid (∀ m, numM ((r.drop f).take (j - f)) = some m → PX r (q + 1) (q + 1) (out ++ [m])) := Lib.hid (fun m hm => by
          rcases hor with rfl | ⟨hj, hb⟩
          · exact .inr ⟨by omega, pi_last hpi hm⟩
          · exact .inl ⟨j + 1, j + 1, by omega, by omega, pi_blank hpi hj hb hm⟩)
        have HNONE : Hid (numM ((r.drop f).take (j - f)) = none → wOf T = none) := Lib.hid (fun hm => by rw [HWO.out]; exact pi_none hpi hor hm)
        generalize (r.drop f).take (j - f) = seg at *
        clear hqj hgf hpi hor hskip hxe hLN
        rcases hc with e1 | ⟨e1, e2, e3⟩
        all_goals
          go_wp2_with fail
          refine HNU.out.mono ?_
          rintro e w5 ⟨hB5, h5⟩
          have HB5 := Lib.hid (HB.out.trans (hB5.mono (by omega)))
          have HV5 := Lib.hid (own_keepC HV.out fun g hg => hB5.block g (own_ltC HV.out g hg).2)
          have hz5 : w.heap.size ≤ w5.heap.size := HB5.out.size
          clear hB5 HNU
          rcases h5 with ⟨m, hm, rfl⟩ | ⟨hm, m, rfl⟩
          · have HP2 := Lib.hid (HSOME.out m hm)
            clear hm
            go_wp2_with (at_builtin; refine wpList_append_own _ rfl _ _ 22 rfl w.heap.size 3 i0 (.int .i64 0) 1 8 Tryd.underlying22 hi0 hz0 hz1 hz2 rfl (by decide) (.slice A4 out.length c4) out.length (intsL out) rfl (HV5.out.alloc _) ⟨w5.heap.size, 0, none⟩ 1 1 [.int .i64 m] (by rfl) rfl (newsI w5 (.int .i64 m) 3 w5.heap.size rfl) (oneI _) (by unfold maxLen; omega) (by omega) (by simp; omega) ?_; intro v' w6 hown6 hgrow hnil; clear hnil; have HG6 := Lib.hid hgrow; have H6 := Lib.hid hown6; clear hgrow hown6)
            go_roundw
            case rel => exact ⟨q + 1, q + 1, out ++ [m], by omega, by omega, by simp; omega, by go_num, by go_num, Lib.hid (by rw [intsL_snoc, List.length_append]; exact H6.out), HP2, Lib.hid (below_appC (HB5.out.alloc hz5 _) (Nat.le_refl _) (HV5.out.alloc _) HG6.out)⟩
            case measure => simp [intOf]; omega
          · have HN := Lib.hid (HNONE.out hm)
            clear hm
            go_wp2
            exact bodyPost_ret (v := .tuple #[.int .i64 0, .slice none 0 0, .int .i64 3]) (by simp [results, Tryd.f14, go_sem]) rfl ⟨HB5.out, .inr (.inr ⟨HN.out, rfl⟩)⟩
    · obtain rfl : q = n := by omega
      have hns : numsM (splitL r) = some out := by
        rcases HP.out with ⟨j, f, h, _, hpi⟩ | ⟨_, h⟩
        · have := hpi.1; have := HLEN.out; omega
        · exact h
      obtain ⟨s, l, rfl⟩ := numsM_ne hns
      have HW : Hid (wOf T = some (s :: l)) := Lib.hid (by rw [HWO.out]; exact hns)
      have hro := HV.out
      rw [List.length_cons] at hro
      obtain ⟨g, cap, hv, hg1, hg2, hc1, hc2, hcl⟩ := own_cellC hro (by omega)
      injection hv with eA _ eC
      subst eA eC
      have xg : wr.cell? ⟨g, 0, none⟩ = some (.int .i64 s) := hcl 0 (by omega)
      have yg : wr.drew.cell? ⟨g, 0, none⟩ = _ := xg
      have HCL := Lib.hid hcl
      unfold maxLen at hc2
      have HP3 := HP
      by_cases hg0 : GoodW ⟨s, l⟩
      · have HG := Lib.hid hg0
        have hl9 := hg0.2
        dsimp only at hl9
        have a1 : decide (s < 0) = false := decide_eq_false (by have := hg0.1.1; dsimp only at this; omega)
        have a2 : decide ((100000 : Int) < s) = false := decide_eq_false (by have := hg0.1.2; dsimp only at this; omega)
        have a3 : decide ((1001 : Int) < (l.length : Int) + 1) = false := decide_eq_false (by omega)
        have a4 : decide (1001 < l.length + 1) = false := decide_eq_false (by omega)
        have j1 : (1 : Int) ≤ (l.length : Int) + 1 := by omega
        have j2 : (l.length : Int) + 1 ≤ (c4 : Int) := by omega
        have j3 : (0 : Int) ≤ (l.length : Int) := by omega
        clear hg0 hcl hro hns HP HV
        by_cases hcc : c4 = 1
        · have hp0 : l.length = 0 := by omega
          obtain rfl : l = [] := List.eq_nil_of_length_eq_zero hp0
          subst hcc
          clear hp0
          go_wp2
          go_region
          all_goals go_wp2
          all_goals exact bodyPost_ret (v := .tuple #[.int .i64 s, .slice (some ⟨g, 0, none⟩) 0 0, .int .i64 0]) (by simp [results, Tryd.f14, go_sem]) rfl ⟨below_drewC HB.out 1, .inl ⟨s, [], _, _, HW.out, HG.out, rfl, fun hn => absurd hn (by simp)⟩⟩
        · go_wp2
          go_region
          all_goals go_wp2
          all_goals exact bodyPost_ret (v := .tuple #[.int .i64 s, .slice (some ⟨g, 1, none⟩) l.length (c4 - 1), .int .i64 0]) (by simp [results, Tryd.f14, go_sem]) rfl ⟨below_drewC HB.out 1, .inl ⟨s, l, _, _, HW.out, HG.out, rfl, fun hn => ⟨g, 1, rfl, hg2, fun i hi => by
            have h := HCL.out (i + 1) (by omega)
            rw [Nat.add_comm 1 i]
            exact h.trans (by simp [intsL, hi])⟩⟩⟩
      · have HNG := Lib.hid hg0
        have hcases : (decide (s < 0) = true) ∨ (decide (s < 0) = false ∧ decide ((100000 : Int) < s) = true) ∨ (decide (s < 0) = false ∧ decide ((100000 : Int) < s) = false ∧ decide ((1001 : Int) < (l.length : Int) + 1) = true ∧ decide (1001 < l.length + 1) = true) := by
          by_cases h0 : s < 0
          · exact .inl (decide_eq_true h0)
          · by_cases h1 : 100000 < s
            · exact .inr (.inl ⟨decide_eq_false h0, decide_eq_true h1⟩)
            · have h2 : 1000 < l.length := by
                rcases Nat.lt_or_ge 1000 l.length with h | h
                · exact h
                · exact absurd ⟨⟨by show 0 ≤ s; omega, by show s ≤ 100000; omega⟩, h⟩ hg0
              exact .inr (.inr ⟨decide_eq_false h0, decide_eq_false h1, decide_eq_true (by omega), decide_eq_true (by omega)⟩)
        clear hg0 hcl hro hns HP HV
        rcases hcases with a1 | ⟨a1, a2⟩ | ⟨a1, a2, a3, a4⟩
        all_goals
          go_wp2
          exact bodyPost_ret (v := .tuple #[.int .i64 0, .slice none 0 0, .int .i64 15]) (by simp [results, Tryd.f14, go_sem]) rfl ⟨HB.out, .inr (.inl ⟨s, l, HW.out, HNG.out, rfl⟩)⟩
theorem refParse_calls (T : List UInt8) (hT : T.length ≤ 900000) (w : World) : Calls Tryd.prog 14 #[.string (bs T)] w (RpP T w) := by
  by_cases h8 : T.length < 8
  · exact refParse_no T (by omega) w (wOf_short h8) (.inl h8)
  · by_cases hp : T.take 6 = headB
    · by_cases hl : T.getLast? = some 10
      · have hd : T = headB ++ T.drop 6 := by rw [← hp, List.take_append_drop]
        have e2 : (T.drop 6).getLast? = some 10 := by
          rw [hd, List.getLast?_append] at hl
          cases hx : (T.drop 6).getLast? with
          | none => rw [List.getLast?_eq_none_iff] at hx; have := congrArg List.length hx; simp at this; omega
          | some x => rw [hx] at hl; simpa using hl
        obtain ⟨r, hr⟩ := List.getLast?_eq_some_iff.1 e2
        have e3 : T = headB ++ r ++ [10] := by rw [List.append_assoc, ← hr]; exact hd
        have hlen := congrArg List.length e3
        simp [headB] at hlen
        rw [e3]
        exact refParse_yes r (by omega) (by omega) w
      · have hno : wOf T = none := by
          unfold wOf
          rw [if_neg (fun h => hl h.2.2)]
        exact refParse_no T (by omega) w hno (.inr (.inr ⟨by omega, hp, hl⟩))
    · have hno : wOf T = none := by
        unfold wOf
        rw [if_neg (fun h => hp h.1)]
      exact refParse_no T (by omega) w hno (.inr (.inl ⟨by omega, hp⟩))
end Go.Proofs.YtoailhkaenofpaaDoor
