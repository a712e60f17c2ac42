/-
  The document's Number (rewindref10.Number), walked: the int that a text tells.
  rewindref10.split: a line's parts between blanks.
-/
import Derived.Test.YthkpnbekkoompabGreatDoorQ09
import Derived.Test.YthkpnbekkoompabGreatDoorCpAQ
import Derived.Deep.CutRange
import Derived.Deep.RegionHeld3
import Derived.IntWalk
import Derived.Test.YthkpnbekkoompabGreatDoorCpPQ
import Derived.Test.YthkpnbekkoompabGreatDoorCpDQ
import Derived.Test.YthkpnbekkoompabGreatDoorCpT
import Derived.BigRegion
import Derived.RegionTactic
namespace Go.Proofs.YthkpnbekkoompabGreatDoor
open Go.RowKit

theorem decD_len : ∀ (k u : Nat), u < 10 ^ (k + 1) → (Lib.decDigits u).length ≤ k + 1
  | 0, u, h => by rw [decD_small (by simpa using h)]; simp
  | k + 1, u, h => by
    by_cases hu : u < 10
    · rw [decD_small hu]; simp
    · rw [decD_big hu, List.length_append]
      have := decD_len k (u / 10) (by rw [Nat.pow_succ] at h; omega)
      simpa using this
theorem itoa_len20 {n : Int} (h : i64 n) : 0 < (Lib.itoa n).length ∧ (Lib.itoa n).length ≤ 20 := by
  obtain ⟨h0, h1⟩ := h
  by_cases hn : n < 0
  · rw [itoa_neg hn]
    have := decD_len 18 n.natAbs (by omega)
    simp only [List.length_cons]; omega
  · rw [itoa_pos hn]
    have := decD_len 18 n.toNat (by omega)
    have h2 := decD_ne n.toNat
    have h3 := List.length_pos_iff.2 h2
    omega
theorem i64_wrap (n : Int) : i64 (wrap64 n) := by unfold i64 wrap64; omega
/-- What the loop has of a number's text, where there is one. -/
def NInv (t : List UInt8) (k : Nat) (v : Int) : Prop :=
  ∀ m, i64 m → Lib.itoa m = t → (m < 0 → v = -(valD 0 ((t.drop 1).take (k - 1)) : Int)) ∧ (¬ m < 0 → v = (valD 0 (t.take k) : Int))
theorem nin_zero (t : List UInt8) : NInv t 0 0 := fun _m _ _ => ⟨fun _ => rfl, fun _ => rfl⟩
theorem dig_first {u : Nat} {t : List UInt8} (h : Lib.decDigits u = t) (h0 : 0 < t.length) : t[0] ≠ 45 := by
  intro e
  subst h
  have := decD_dig u _ (List.getElem_mem h0)
  rw [e] at this
  exact absurd this.1 (by decide)
theorem nin_skip {t : List UInt8} {v : Int} (h0 : 0 < t.length) (h : t[0] = 45) (hn : NInv t 0 v) : NInv t 1 v := fun m hi ht => ⟨fun hm => (hn m hi ht).1 hm, fun hm => by
  rw [itoa_pos hm] at ht
  exact absurd h (dig_first ht h0)⟩
theorem valD_take (l : List UInt8) (k : Nat) (h : k < l.length) : valD 0 (l.take (k + 1)) = valD 0 (l.take k) * 10 + (l[k].toNat - 48) ∧ valD 0 (l.take (k + 1)) ≤ valD 0 l := by
  refine ⟨?_, ?_⟩
  · rw [List.take_succ_eq_append_getElem h, valD_append]; rfl
  · have : valD 0 l = valD (valD 0 (l.take (k + 1))) (l.drop (k + 1)) := by rw [← valD_append, List.take_append_drop]
    rw [this]
    exact valD_ge _ _
theorem nin_neg {t : List UInt8} {k : Nat} {v : Int} (hk : k < t.length) (h0 : t[0] = 45) (hd : 48 ≤ t[k].toNat ∧ t[k].toNat ≤ 57) (h : NInv t k v) : NInv t (k + 1) (wrap64 (wrap64 (v * 10) - ((t[k].toNat : Int) - 48))) := by
  intro m hm ht
  obtain ⟨h1, _⟩ := h m hm ht
  refine ⟨fun hn => ?_, fun hn => ?_⟩
  · have hv := h1 hn
    rw [itoa_neg hn] at ht
    subst ht
    obtain ⟨q, rfl⟩ : ∃ q, k = q + 1 := by
      cases k with
      | zero => exfalso; have := hd.1; revert this; simp only [List.getElem_cons_zero]; decide
      | succ q => exact ⟨q, rfl⟩
    simp only [List.drop_succ_cons, List.drop_zero, Nat.add_sub_cancel, List.getElem_cons_succ] at hv hd ⊢
    have hq : q < (Lib.decDigits m.natAbs).length := by simpa using hk
    obtain ⟨e1, e2⟩ := valD_take _ q hq
    rw [valD_dec] at e2
    have hm1 := hm.1
    have a1 : wrap64 (v * 10) = v * 10 := IntWalk.wrap64_in _ (by omega)
    rw [a1, IntWalk.wrap64_in _ (by omega)]
    omega
  · rw [itoa_pos hn] at ht
    exact absurd h0 (dig_first ht (by omega))
theorem nin_pos {t : List UInt8} {k : Nat} {v : Int} (hk : k < t.length) (h0 : t[0] ≠ 45) (hd : 48 ≤ t[k].toNat ∧ t[k].toNat ≤ 57) (h : NInv t k v) : NInv t (k + 1) (wrap64 (wrap64 (v * 10) + ((t[k].toNat : Int) - 48))) := by
  intro m hm ht
  obtain ⟨_, h1⟩ := h m hm ht
  refine ⟨fun hn => ?_, fun hn => ?_⟩
  · rw [itoa_neg hn] at ht
    subst ht
    exact absurd rfl h0
  · have hv := h1 hn
    rw [itoa_pos hn] at ht
    subst ht
    obtain ⟨e1, e2⟩ := valD_take _ k hk
    rw [valD_dec] at e2
    have hm1 := hm.2
    have a1 : wrap64 (v * 10) = v * 10 := IntWalk.wrap64_in _ (by omega)
    rw [a1, IntWalk.wrap64_in _ (by omega)]
    omega
theorem nin_bad {t : List UInt8} {k : Nat} (hk : k < t.length) (hd : ¬ (48 ≤ t[k].toNat ∧ t[k].toNat ≤ 57)) (h0 : ¬ (t[k] = 45 ∧ k = 0)) : numM t = none := by
  cases h : numM t with
  | none => rfl
  | some m =>
    exfalso
    obtain ⟨ht, hm⟩ := numM_some h
    by_cases hn : m < 0
    · rw [itoa_neg hn] at ht
      subst ht
      cases k with
      | zero => exact h0 ⟨rfl, rfl⟩
      | succ q =>
        simp only [List.getElem_cons_succ] at hd
        exact hd (decD_dig _ _ (List.getElem_mem _))
    · rw [itoa_pos hn] at ht
      subst ht
      exact hd (decD_dig _ _ (List.getElem_mem _))
theorem nin_end {t : List UInt8} {v m : Int} (h : NInv t t.length v) (hm : numM t = some m) : m = v := by
  obtain ⟨ht, hi⟩ := numM_some hm
  obtain ⟨h1, h2⟩ := h m hi ht
  by_cases hn : m < 0
  · have := h1 hn
    rw [itoa_neg hn] at ht
    subst ht
    simp only [List.drop_succ_cons, List.drop_zero, List.length_cons, Nat.add_sub_cancel, List.take_length, valD_dec] at this
    omega
  · have := h2 hn
    rw [itoa_pos hn] at ht
    subst ht
    rw [List.take_length, valD_dec] at this
    omega
theorem numM_long {t : List UInt8} (h : ¬ (0 < t.length ∧ t.length ≤ 20)) : numM t = none := by
  cases hm : numM t with
  | none => rfl
  | some m =>
    obtain ⟨ht, hi⟩ := numM_some hm
    exact absurd (ht ▸ itoa_len20 hi) h

/-- What Number answers. -/
def NuP (t : List UInt8) (w : World) (e : Ending) (w' : World) : Prop :=
  Below w.heap.size w w' ∧ ((∃ n, numM t = some n ∧ e = .returned (.tuple #[.int .i64 n, .bool true])) ∨ (numM t = none ∧ ∃ n, e = .returned (.tuple #[.int .i64 n, .bool false])))
set_option maxRecDepth 100000 in
set_option maxHeartbeats 2000000 in
theorem number_calls (t : List UInt8) (ht : t.length ≤ 1000000) (w : World) : Calls Tryz.prog 27 #[.string (bs t)] w (NuP t w) := by
  have hsz : (bs t).size = t.length := bs_size t
  by_cases hl : 0 < t.length ∧ t.length ≤ 20
  · have d1 : ((t.length : Int) == 0) = false := beq_eq_false_iff_ne.2 (by omega)
    have d2 : (t.length == 0) = false := beq_eq_false_iff_ne.2 (by omega)
    have d3 : decide ((20 : Int) < (t.length : Int)) = false := decide_eq_false (by omega)
    have d4 : decide (20 < t.length) = false := decide_eq_false (by omega)
    obtain ⟨h0, h1⟩ := hl
    have HG : Hid (∀ (k : Nat) (h : k < (bs t).size) (h' : k < t.length), (bs t)[k]'h = t[k]) := Lib.hid (fun k h h' => rfl)
    have hS1 : Hid ((bs t).data.toList = t) := Lib.hid (bs_toList t)
    generalize hS : bs t = S at *
    have HS := Lib.hid hS
    have hz2 : 0 < S.size := by omega
    clear hS
    go_enter Tryz.func27, Tryz.ntmps27
    go_wp2
    go_loopw [4, 5] (fun n i wr => ∃ (k : Nat) (v : Int), k ≤ t.length ∧ i = .int .i64 k ∧ n = .int .i64 v ∧ Hid (i64 v) ∧ Hid (NInv t k v) ∧ wr = w) (fun _ i _ => t.length - (intOf i).toNat)
    case atStart => exact ⟨0, 0, by omega, rfl, rfl, Lib.hid (by unfold i64; omega), Lib.hid (nin_zero t), rfl⟩
    case round =>
      obtain ⟨k, v, hk, rfl, rfl, HV, HN, rfl⟩ := hrel
      by_cases hlt : k < t.length
      · have hks : k < S.size := by omega
        have g1 := HG.out k hks hlt
        have g0 := HG.out 0 hz2 h0
        by_cases hd : 48 ≤ (S[k]'hks).toNat ∧ (S[k]'hks).toNat ≤ 57
        · obtain ⟨e5, e6⟩ := hd
          have e1 : ((((S[k]'hks)).toNat : Int) == 45) = false := beq_eq_false_iff_ne.2 (by omega)
          have e2 : decide ((((S[k]'hks)).toNat : Int) < 48) = false := decide_eq_false (by omega)
          have e3 : decide ((57 : Int) < (((S[k]'hks)).toNat : Int)) = false := decide_eq_false (by omega)
          by_cases hm : S[0]'hz2 = 45
          · have e4 : (((S[0]'hz2).toNat : Int) == 45) = true := by rw [hm]; rfl
            have HN2 := Lib.hid (nin_neg hlt (g0 ▸ hm) (g1 ▸ ⟨e5, e6⟩) HN.out)
            rw [← g1] at HN2
            clear hm g0 g1
            go_wp2
            go_roundw
            case rel => exact ⟨k + 1, _, by omega, by go_num, rfl, Lib.hid (i64_wrap _), HN2, trivial⟩
            case measure => simp [intOf]; omega
          · have e4 : (((S[0]'hz2).toNat : Int) == 45) = false := beq_eq_false_iff_ne.2 (fun h => hm (UInt8.toNat_inj.1 (by simpa using (show (S[0]'hz2).toNat = 45 by omega))))
            have HN2 := Lib.hid (nin_pos hlt (g0 ▸ hm) (g1 ▸ ⟨e5, e6⟩) HN.out)
            rw [← g1] at HN2
            clear hm g0 g1
            go_wp2
            go_roundw
            case rel => exact ⟨k + 1, _, by omega, by go_num, rfl, Lib.hid (i64_wrap _), HN2, trivial⟩
            case measure => simp [intOf]; omega
        · have hxx : ((S[k]'hks) = 45 ∧ k = 0) ∨ ¬ ((S[k]'hks) = 45 ∧ k = 0) := Classical.em _
          rcases hxx with ⟨h45, rfl⟩ | hbad
          · have e1 : ((((S[0]'hks)).toNat : Int) == 45) = true := by rw [h45]; rfl
            have HN2 := Lib.hid (nin_skip hlt (g1 ▸ h45) HN.out)
            have e9 : ((0 : Int) == 0) = true := rfl
            clear hd g0 g1 h45 HN
            go_wp2
            go_roundw
            case rel => exact ⟨1, _, by omega, by go_num, rfl, HV, HN2, trivial⟩
            case measure => simp [intOf]; omega
          · have HNO := Lib.hid (nin_bad hlt (g1 ▸ hd) (g1 ▸ hbad))
            have hc : (((((S[k]'hks)).toNat : Int) == 45) = true ∧ ((k : Int) == 0) = false ∧ (k == 0) = false ∧ decide ((((S[k]'hks)).toNat : Int) < 48) = true) ∨ (((((S[k]'hks)).toNat : Int) == 45) = false ∧ decide ((((S[k]'hks)).toNat : Int) < 48) = true) ∨ (((((S[k]'hks)).toNat : Int) == 45) = false ∧ decide ((((S[k]'hks)).toNat : Int) < 48) = false ∧ decide ((57 : Int) < (((S[k]'hks)).toNat : Int)) = true) := by
              by_cases h4 : (S[k]'hks).toNat = 45
              · have hk0 : k ≠ 0 := fun e => hbad ⟨UInt8.toNat_inj.1 (by simpa using h4), e⟩
                exact .inl ⟨beq_iff_eq.2 (by omega), beq_eq_false_iff_ne.2 (by omega), beq_eq_false_iff_ne.2 hk0, decide_eq_true (by omega)⟩
              · by_cases h8 : (S[k]'hks).toNat < 48
                · exact .inr (.inl ⟨beq_eq_false_iff_ne.2 (by omega), decide_eq_true (by omega)⟩)
                · exact .inr (.inr ⟨beq_eq_false_iff_ne.2 (by omega), decide_eq_false (by omega), decide_eq_true (by omega)⟩)
            clear hd g0 g1 hbad HN HV
            rcases hc with ⟨e1, e2, e3, e4⟩ | ⟨e1, e2⟩ | ⟨e1, e2, e3⟩
            all_goals
              go_wp2
              exact bodyPost_ret (v := .tuple #[.int .i64 0, .bool false]) (by simp [results, Tryz.f27, go_sem]) rfl ⟨Below.refl _ _, .inr ⟨HNO.out, 0, rfl⟩⟩
      · obtain rfl : k = t.length := by omega
        have HD := Lib.hid (refDec_calls v HV.out wr)
        by_cases hq : Lib.itoa v = t
        · have HQ : Hid (numM t = some v) := Lib.hid (by rw [← hq]; exact numM_itoa v HV.out)
          have hseq : ((bs (Lib.itoa v)).toList == S.toList) = true := by rw [← HS.out, str_eqC]; exact decide_eq_true hq
          generalize bs (Lib.itoa v) = D at *
          clear hq hlt hk
          go_wp2_with fail
          refine HD.out.mono ?_
          rintro e w1 ⟨rfl, hB1⟩
          have HB1 := Lib.hid hB1
          clear hB1
          go_wp2
          exact bodyPost_ret (v := .tuple #[.int .i64 v, .bool true]) (by simp [results, Tryz.f27, go_sem]) rfl ⟨HB1.out, .inl ⟨v, HQ.out, rfl⟩⟩
        · have HQ : Hid (numM t = none) := Lib.hid (by
            cases hm : numM t with
            | none => rfl
            | some m =>
              have := nin_end HN.out hm
              subst this
              exact absurd (numM_some hm).1 hq)
          have hseq : ((bs (Lib.itoa v)).toList == S.toList) = false := by rw [← HS.out, str_eqC]; exact decide_eq_false hq
          generalize bs (Lib.itoa v) = D at *
          clear hq hlt hk
          go_wp2_with fail
          refine HD.out.mono ?_
          rintro e w1 ⟨rfl, hB1⟩
          have HB1 := Lib.hid hB1
          clear hB1
          go_wp2
          exact bodyPost_ret (v := .tuple #[.int .i64 v, .bool false]) (by simp [results, Tryz.f27, go_sem]) rfl ⟨HB1.out, .inr ⟨HQ.out, v, rfl⟩⟩
  · have HNO := Lib.hid (numM_long hl)
    have hcase : (((t.length : Int) == 0) = true ∧ (t.length == 0) = true) ∨ (((t.length : Int) == 0) = false ∧ (t.length == 0) = false ∧ decide ((20 : Int) < (t.length : Int)) = true ∧ decide (20 < t.length) = true) := by
      by_cases h : t.length = 0
      · exact .inl ⟨beq_iff_eq.2 (by omega), beq_iff_eq.2 h⟩
      · exact .inr ⟨beq_eq_false_iff_ne.2 (by omega), beq_eq_false_iff_ne.2 h, decide_eq_true (by omega), decide_eq_true (by omega)⟩
    clear hl
    generalize bs t = S at *
    rcases hcase with ⟨d1, d2⟩ | ⟨d1, d2, d3, d4⟩
    all_goals
      go_enter Tryz.func27, Tryz.ntmps27
      go_wp2
      exact bodyPost_ret (v := .tuple #[.int .i64 0, .bool false]) (by simp [results, Tryz.f27, go_sem]) rfl ⟨Below.refl _ _, .inr ⟨HNO.out, 0, rfl⟩⟩
end Go.Proofs.YthkpnbekkoompabGreatDoor

namespace Go.Proofs.YthkpnbekkoompabGreatDoor
open Go.RowKit

theorem splitL_blank (a : List UInt8) : splitL (a ++ [32]) = splitL a ++ [[]] := by
  induction a with
  | nil => rfl
  | cons c a ih =>
    rw [List.cons_append, splitL, splitL, ih]
    by_cases hc : c = 32
    · rw [if_pos hc, if_pos hc]; rfl
    · rw [if_neg hc, if_neg hc]
      cases hs : splitL a with
      | nil => exact absurd hs (splitT_ne a)
      | cons h t => rfl
theorem splitL_more (a : List UInt8) (c : UInt8) (hc : c ≠ 32) : ∃ p l, splitL a = p ++ [l] ∧ splitL (a ++ [c]) = p ++ [l ++ [c]] := by
  induction a with
  | nil => exact ⟨[], [], rfl, by simp [splitL, hc]⟩
  | cons d a ih =>
    obtain ⟨p, l, h1, h2⟩ := ih
    rw [List.cons_append, splitL, splitL, h1, h2]
    by_cases hd : d = 32
    · rw [if_pos hd, if_pos hd]; exact ⟨[] :: p, l, rfl, rfl⟩
    · rw [if_neg hd, if_neg hd]
      cases p with
      | nil => exact ⟨[], d :: l, rfl, rfl⟩
      | cons h t => exact ⟨(d :: h) :: t, l, rfl, rfl⟩
theorem splitL_sz (a : List UInt8) : (splitL a).length ≤ a.length + 1 ∧ ∀ p ∈ splitL a, p.length ≤ a.length := by
  induction a with
  | nil => simp [splitL]
  | cons c a ih =>
    rw [splitL]
    split
    · refine ⟨by simp; omega, fun p hp => ?_⟩
      rcases List.mem_cons.1 hp with rfl | hp
      · simp
      · have := ih.2 p hp; simp; omega
    · cases hs : splitL a with
      | nil => exact absurd hs (splitT_ne a)
      | cons h t =>
        rw [hs] at ih
        refine ⟨by have := ih.1; simp at this ⊢; omega, fun p hp => ?_⟩
        rcases List.mem_cons.1 hp with rfl | hp
        · have := ih.2 h (List.mem_cons_self ..); simp; omega
        · have := ih.2 p (List.mem_cons_of_mem _ hp); simp; omega

theorem extC (t : List UInt8) (a b : Nat) : (bs t).extract a b = bs ((t.drop a).take (b - a)) := WideShapes.bytes_inj (by
  rw [bs_toList]
  simp [bs, ByteArray.data_extract])
theorem own_cells2 {w : World} {base n : Nat} {e : TypeId} {size : Nat} {v : Value} {xs : List Value} (h : w.ownsRow base e size v n xs) (g : Nat) (hg : v.ownBlock = some g) : ∃ cur, w.heap[g]? = some (.cells cur e (0, 0)) := by
  rcases h.2 with ⟨rfl, _⟩ | ⟨g', cap, cur, rfl, _, hb, _⟩
  · simp [Value.ownBlock] at hg
  · obtain rfl : g' = g := by simpa [Value.ownBlock] using hg
    exact ⟨cur, hb⟩
theorem strsP_set (P : List (List UInt8)) (l : List UInt8) (x : ByteArray) (y : List UInt8) (h : x = bs y) : (strsP (P ++ [l])).set P.length (.string x) = strsP (P ++ [y]) := by
  subst h
  simp [strsP]
/-- What split answers. -/
def RsP (t : List UInt8) (w : World) (e : Ending) (w' : World) : Prop :=
  Below w.heap.size w w' ∧ ∃ v, e = .returned v ∧ w'.ownsRow w.heap.size 9 1 v (splitL t).length (strsP (splitL t))
set_option maxRecDepth 100000 in
set_option maxHeartbeats 2000000 in
theorem refSplit_calls (t : List UInt8) (ht : t.length ≤ 100000) (w : World) : Calls Tryz.prog 25 #[.string (bs t)] w (RsP t w) := by
  obtain ⟨i0, hi0, hz0, hz1, hz2⟩ := info_parts Tryz.infoStr
  have hsz : (bs t).size = t.length := bs_size t
  have HG : Hid (∀ (k : Nat) (h : k < (bs t).size) (h' : k < t.length), (bs t)[k]'h = t[k]) := Lib.hid (fun k h h' => rfl)
  have HEX : Hid (∀ k (h : k < t.length), (bs t).extract k (k + 1) = bs [t[k]]) := Lib.hid (fun k h => by
    rw [extC, show k + 1 - k = 1 by omega, List.drop_eq_getElem_cons h]
    rfl)
  generalize hS : bs t = S at *
  have HN0 := Lib.hid (heapOne w #[.string ⟨#[]⟩] 9)
  have HB0 := Lib.hid ((Below.refl w.heap.size w).alloc (Nat.le_refl _) (.cells #[.string ⟨#[]⟩] 9))
  clear hS
  go_enter Tryz.func25, Tryz.ntmps25
  go_wp2
  generalize w.alloc (.cells #[.string ⟨#[]⟩] 9) = W0 at *
  go_loopw [3, 4] (fun v i wr => ∃ (k : Nat), k ≤ t.length ∧ i = .int .i64 k ∧ Hid (wr.ownsRow w.heap.size 9 1 v (splitL (t.take k)).length (strsP (splitL (t.take k)))) ∧ Hid (Below w.heap.size w wr)) (fun _ i _ => t.length - (intOf i).toNat)
  case atStart => exact ⟨0, by omega, rfl, Lib.hid (own_block HN0.out (by omega) rfl (by simp) (by decide)), HB0⟩
  case round =>
    obtain ⟨k, hk, rfl, HV, HB⟩ := hrel
    obtain ⟨A4, c4, hv⟩ := own_sliceC HV.out
    subst hv
    have hsw : w.heap.size ≤ wr.heap.size := HB.out.size
    have hpl := (splitL_sz (t.take k)).1
    rw [List.length_take] at hpl
    by_cases hlt : k < t.length
    · have hks : k < S.size := by omega
      have hx := HG.out k hks hlt
      have HTK : Hid (t.take (k + 1) = t.take k ++ [t[k]]) := Lib.hid (List.take_succ_eq_append_getElem hlt)
      by_cases hb : t[k] = 32
      · have e1 : (((S[k]'hks).toNat : Int) == 32) = true := by rw [hx, hb]; rfl
        have HST : Hid (splitL (t.take (k + 1)) = splitL (t.take k) ++ [[]]) := Lib.hid (by rw [HTK.out, hb, splitL_blank])
        clear hx hb
        generalize hpp : splitL (t.take k) = P at *
        clear hpp
        go_wp2_with (at_builtin; refine wpList_append_own _ rfl _ _ 46 rfl w.heap.size 9 i0 (.string ⟨#[]⟩) 1 16 Tryz.underlying46 hi0 hz0 hz1 hz2 rfl (by decide) (.slice A4 P.length c4) P.length (strsP P) rfl (HV.out.alloc _) ⟨wr.heap.size, 0, none⟩ 1 1 [.string ⟨#[]⟩] (by rfl) rfl (newsI wr (.string ⟨#[]⟩) 9 wr.heap.size rfl) (oneStr _) (by unfold maxLen; omega) (by omega) (by simp; omega) ?_; intro v' w6 hown6 hgrow hnil; clear hnil; have HG6 := Lib.hid hgrow; have H6 := Lib.hid hown6; clear hgrow hown6)
        go_roundw
        case rel => exact ⟨k + 1, by omega, by go_num, Lib.hid (by rw [HST.out, strsP_snoc, List.length_append]; exact H6.out), Lib.hid (below_appC (HB.out.alloc hsw _) (Nat.le_refl _) (HV.out.alloc _) HG6.out)⟩
        case measure => simp [intOf]; omega
      · have e1 : (((S[k]'hks).toNat : Int) == 32) = false := by
          rw [hx]
          exact beq_eq_false_iff_ne.2 (fun h => hb (UInt8.toNat_inj.1 (by simpa using (show (t[k]).toNat = 32 by omega))))
        obtain ⟨P, l, hp1, hp2⟩ := splitL_more (t.take k) t[k] hb
        have hE := HEX.out k hlt
        have HST : Hid (splitL (t.take (k + 1)) = P ++ [l ++ [t[k]]]) := Lib.hid (by rw [HTK.out, hp2])
        have hll := (splitL_sz (t.take k)).2 l (by rw [hp1]; simp)
        rw [List.length_take] at hll
        have hv2 := HV.out
        rw [hp1, List.length_append, List.length_singleton] at hv2
        rw [hp1] at hpl
        rw [hp1, List.length_append, List.length_singleton]
        have HV2 := Lib.hid hv2
        simp only [List.length_append, List.length_singleton] at hpl
        obtain ⟨g, cap, hv, hg1, hg2, hc1, hc2, hcl⟩ := own_cellC hv2 (by omega)
        injection hv with e1' _ e3
        subst e1' e3
        have xc : wr.cell? ⟨g, P.length, none⟩ = some (.string (bs l)) := by rw [hcl _ (by omega)]; simp [strsP]
        obtain ⟨cur, hcur⟩ := own_cells2 hv2 g rfl
        have xf : wr.frozen? ⟨g, P.length, none⟩ = false := by simp [World.frozen?, hcur]
        have HSET := Lib.hid (fun u => own_setC (j := P.length) (u := u) hv2 (by omega))
        have HSX := Lib.hid (fun x y (h : x = bs y) => strsP_set P l x y h)
        have HCT : Hid (bs l ++ bs [t[k]] = bs (l ++ [t[k]])) := Lib.hid (WideShapes.bytes_inj (by rw [ByteArray.data_append, Array.toList_append, bs_toList, bs_toList, bs_toList]))
        have z0 : (bs l).size ≤ 100000 := by rw [bs_size]; omega
        have z1 : (bs [t[k]]).size = 1 := by rw [bs_size]; rfl
        obtain ⟨L, hL⟩ : ∃ L, L = bs l := ⟨_, rfl⟩
        obtain ⟨X, hX⟩ : ∃ X, X = bs [t[k]] := ⟨_, rfl⟩
        rw [← hL] at xc z0 HCT
        rw [← hX] at hE z1 HCT
        have g1 : (9223372036854775807 < L.size + X.size) = False := eq_false (by omega)
        have g2 : (9223372036854775807 < L.size + 1) = False := eq_false (by omega)
        have k0 : (0 : Int) ≤ (k : Int) := by omega
        have k1 : (k : Int) < (t.length : Int) := by omega
        have k2 : (k : Int) + 1 ≤ (t.length : Int) := by omega
        have k3 : k + 1 ≤ S.size := by omega
        have p0 : (0 : Int) ≤ (P.length : Int) := by omega
        unfold maxLen at hc2
        generalize t[k] = ch at *
        generalize hnp : P.length = np at *
        have HNP := Lib.hid hnp
        clear hnp
        clear hcl hp1 hp2 hx hb hv2 hcur hL hX hll
        go_wp2
        go_region
        all_goals
          have hown := (HSET.out (.string (L ++ X))).drew
          rw [HSX.out (L ++ X) (l ++ [ch]) HCT.out] at hown
          have HO := Lib.hid hown
          have HBZ := Lib.hid (below_drewC (HB.out.setCell (p := ⟨g, np, none⟩) hg1 (.string (L ++ X))) 1)
          clear hown xc xf
          go_wp2
          go_roundw
          case rel => exact ⟨k + 1, by omega, by go_num, Lib.hid (by rw [HST.out, List.length_append, List.length_singleton, HNP.out]; exact HO.out), HBZ⟩
          case measure => simp [intOf]; omega
    · obtain rfl : k = t.length := by omega
      have hv2 := HV.out
      rw [List.take_length] at hv2 ⊢
      have HV2 := Lib.hid hv2
      clear hv2 hlt hk hpl
      go_wp2
      go_ret
      exact ⟨HB.out, _, rfl, HV2.out⟩
end Go.Proofs.YthkpnbekkoompabGreatDoor
