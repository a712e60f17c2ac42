/-
  The statement about lines, walked.
-/
import Derived.Test.YtbhlockoeiedcaaGreatDoorCpQ
import Derived.Test.YtbhlockoeiedcaaGreatDoorQ01
import Derived.IntWalk
namespace Go.Proofs.YtbhlockoeiedcaaGreatDoor
open Go.RowKit

theorem ext_take (t : List UInt8) (k : Nat) (_hk : k ≤ t.length) : (bs t).extract 0 k = bs (t.take k) := by
  apply WideShapes.bytes_inj
  rw [bs_toList]
  simp [bs]
theorem bs_getC (t : List UInt8) (i : Nat) (_h : i < (bs t).size) (h2 : i < t.length) : (bs t)[i] = t[i] := by
  show (bs t).data[i] = _
  simp [bs]
/-- What no whole row of lines is isn't parsed. -/
theorem cut_bad {T : List UInt8} {k : Nat} (h : k = 0 ∨ (T.take k).getLast? ≠ some 10) : (∃ j, parseM (T.take k) = .inl j) ∨ ∃ c j, parseM (T.take k) = .inr (c, j) ∧ ¬ GoodC c := by
  by_cases h0 : T.take k = []
  · rw [h0]; exact .inr ⟨_, _, nil_bad⟩
  · rcases h with h | h
    · subst h; simp at h0
    · exact .inl (lines_open _ _ _ _ h0 h)
theorem cnt_step (t : List UInt8) (j : Nat) (h : j < t.length) : (t.take (j + 1)).count 10 = (t.take j).count 10 + if t[j] = 10 then 1 else 0 := by
  rw [List.take_succ_eq_append_getElem h, List.count_append, List.count_singleton]
  simp
theorem take_last (t : List UInt8) (k : Nat) (h : k < t.length) (h0 : 0 < k) : (t.take k).getLast? = some t[k - 1] := by
  rw [List.getLast?_eq_getElem?, List.length_take, Nat.min_eq_left (by omega), List.getElem?_take, if_pos (by omega), List.getElem?_eq_getElem]

set_option maxRecDepth 100000 in
set_option maxHeartbeats 4000000 in
theorem codeLines_law (c : CoM) (A A2 : Option Addr) (c1 c2 : Nat) (cut : Nat) (w : World) (hcut : cut < 65536) (hc : CoAt w w.heap.size A c1 A2 c2 c) (hnm : ∀ p ∈ c.ps, p.name.length ≤ maxLen) (hX : TX w) :
    Calls Tryz.prog 6 #[coV A c1 A2 c2 c, .int .u16 (cut : Int)] w fun e w' => e = .returned (.bool true) ∧ Below w.heap.size w w' := by
  have hfew := hc.few
  have hcp := hc.capP
  have hci := hc.capI
  have HFE := Lib.hid (fun W (hb : Below w.heap.size w W) => few_calls c A A2 c1 c2 W ((hc.below hb (Nat.le_refl _)).wide hb.size) hnm)
  have HAW := Lib.hid (fun W (hb : Below w.heap.size w W) => awakeC_calls W (hX.below hb (Nat.le_refl _)))
  have HLT : fewM c → GoodC c → (txtC c).length ≤ 20000 := fun hf hg => by
    have := len_txt hg.1 hc.fitP hc.fitI hf.1
    have := hf.2
    omega
  have HPT := Lib.hid (fun (hf : fewM c) W (hb : Below w.heap.size w W) => print_calls c A A2 c1 c2 W ((hc.below hb (Nat.le_refl _)).wide hb.size) (fun p hp => Nat.le_trans (hf.1 p hp) (by omega)) (Nat.le_trans hf.2.2 (by omega)) (hX.below hb (Nat.le_refl _)) (fun hg => Nat.le_trans (HLT hf hg) (by omega)))
  have HGD := Lib.hid (fun (hf : fewM c) W (hb : Below w.heap.size w W) => good_calls c A A2 c1 c2 W ((hc.below hb (Nat.le_refl _)).wide hb.size) (fun p hp => Nat.le_trans (hf.1 p hp) (by omega)) (Nat.le_trans hf.2.2 (by omega)) (hX.below hb (Nat.le_refl _)).ts)
  have HPS := Lib.hid (fun (T : List UInt8) (hT : T.length ≤ 90000) W (hb : Below w.heap.size w W) => parse_calls T hT W (hX.below hb (Nat.le_refl _)))
  have HLT := Lib.hid HLT
  have HCT := Lib.hid (fun (hg : GoodC c) => cnt_txt hg.1)
  unfold maxLen at hfew
  unfold coV at HFE HPT HGD ⊢
  have HB0 := Lib.hid ((Below.refl w.heap.size w).alloc (Nat.le_refl _) (.cells #[.slice A c.ps.length c1, .slice A2 c.is.length c2] 25))
  have HX := Lib.hid (heapOne w #[.slice A c.ps.length c1, .slice A2 c.is.length c2] 25)
  clear hc hnm hX
  go_enter Tryz.func6, Tryz.ntmps6
  go_wp2_with fail
  generalize w.alloc (.cells #[.slice A c.ps.length c1, .slice A2 c.is.length c2] 25) = W0 at *
  have hsz0 : w.heap.size < W0.heap.size := blkLt HX.out
  refine (HAW.out _ HB0.out).mono ?_
  rintro e w1 ⟨rfl, hb1⟩
  have HB1 := Lib.hid (HB0.out.trans (hb1.mono (by omega)))
  have HX1 := Lib.hid ((hb1.block w.heap.size hsz0).trans HX.out)
  have x0 : w1.cell? ⟨w.heap.size, 0, none⟩ = some (.slice A c.ps.length c1) := cellC HX1.out 0
  have x1 : w1.cell? ⟨w.heap.size, 1, none⟩ = some (.slice A2 c.is.length c2) := cellC HX1.out 1
  have hsz1 : w.heap.size < w1.heap.size := blkLt HX1.out
  clear hb1
  go_wp2_with fail
  refine (HFE.out _ HB1.out).mono ?_
  rintro e w2 ⟨hb2, h2⟩
  have HB2 := Lib.hid (HB1.out.trans (hb2.mono (by omega)))
  have HX2 := Lib.hid ((hb2.block w.heap.size hsz1).trans HX1.out)
  have x0 : w2.cell? ⟨w.heap.size, 0, none⟩ = some (.slice A c.ps.length c1) := cellC HX2.out 0
  have x1 : w2.cell? ⟨w.heap.size, 1, none⟩ = some (.slice A2 c.is.length c2) := cellC HX2.out 1
  have hsz2 : w.heap.size < w2.heap.size := blkLt HX2.out
  clear hb2
  rcases h2 with ⟨hf, rfl⟩ | ⟨_, rfl⟩
  · have HF := Lib.hid hf
    clear hf
    go_wp2_with fail
    refine (HPT.out HF.out _ HB2.out).mono ?_
    rintro e w3 ⟨hb3, h3⟩
    have HB3 := Lib.hid (HB2.out.trans (hb3.mono (by omega)))
    have HX3 := Lib.hid ((hb3.block w.heap.size hsz2).trans HX2.out)
    have x0 : w3.cell? ⟨w.heap.size, 0, none⟩ = some (.slice A c.ps.length c1) := cellC HX3.out 0
    have x1 : w3.cell? ⟨w.heap.size, 1, none⟩ = some (.slice A2 c.is.length c2) := cellC HX3.out 1
    have hsz3 : w.heap.size < w3.heap.size := blkLt HX3.out
    clear hb3
    rcases h3 with ⟨hg, he⟩ | ⟨hg, he⟩
    · have HCT := Lib.hid (HCT.out hg)
      have htl := HLT.out HF.out hg
      have hpos : 0 < (txtC c).length := by
        have h1 := HCT.out
        have h2 : 0 < c.ps.length := List.length_pos_iff.2 hg.1.1.1
        have h3 := List.count_le_length (a := (10 : UInt8)) (l := txtC c)
        omega
      clear hg
      generalize hT : txtC c = T at *
      have hs0 : ((bs T).toList == []) = false := by
        rw [ByteArray.toList_eq, bs_toList, beq_eq_false_iff_ne]
        intro e; rw [e] at hpos; simp at hpos
      have hsz : (bs T).size = T.length := bs_size T
      clear hT
      obtain ⟨s, hs⟩ : ∃ s, s = bs T := ⟨_, rfl⟩
      have HSL : Hid (∀ k, k ≤ T.length → s.extract 0 k = bs (T.take k)) := Lib.hid (by rw [hs]; exact ext_take T)
      have HGT : Hid (∀ i (h : i < s.size) (h2 : i < T.length), s[i] = T[i]) := Lib.hid (by subst hs; exact bs_getC T)
      rw [← hs] at hs0 hsz he
      subst he
      clear hs
      obtain ⟨k, hk⟩ : ∃ k : Nat, k = cut % T.length := ⟨_, rfl⟩
      have hkl : k < T.length := by rw [hk]; exact Nat.mod_lt _ hpos
      have HM := Lib.hid (show (cut : Int).tmod (T.length : Int) = (k : Int) by rw [Int.tmod_eq_emod_of_nonneg (by omega), hk]; rfl)
      clear hk
      go_wp2_with fail
      go_loopw [6, 29] (fun n i wr => ∃ (j : Nat), j ≤ T.length ∧ i = .int .i64 j ∧ n = .int .i64 ((T.take j).count 10 : Nat) ∧ wr = w3) (fun _ i _ => T.length - (intOf i).toNat)
      case atStart => exact ⟨0, by omega, rfl, by simp, rfl⟩
      case round =>
        obtain ⟨j, hj, rfl, rfl, rfl⟩ := hrel
        have hcm : (T.take j).count 10 ≤ 20000 := by
          have h1 := List.count_le_length (a := (10 : UInt8)) (l := T.take j)
          rw [List.length_take] at h1
          omega
        by_cases hlt : j < T.length
        · have hjs : j < s.size := by omega
          have hg := HGT.out j hjs hlt
          have hstep := cnt_step T j hlt
          have hj0 : (0 : Int) ≤ (j : Int) := by omega
          have hj1 : (j : Int) < (T.length : Int) := by omega
          by_cases hc : T[j] = 10
          · rw [if_pos hc] at hstep
            have e1 : ((s[j].toNat : Int) == 10) = true := by rw [hg, hc]; rfl
            have HS := Lib.hid hstep
            clear hstep hc hg
            generalize (T.take j).count 10 = m at *
            go_wp2
            go_roundw
            case rel => exact ⟨j + 1, by omega, by go_num, (by rw [HS.out]; go_num), trivial⟩
            case measure => simp [intOf]; omega
          · rw [if_neg hc] at hstep
            have e1 : ((s[j].toNat : Int) == 10) = false := by rw [hg]; exact (bytes_ne _ 10 (by omega) hc).1
            have HS := Lib.hid hstep
            clear hstep hc hg
            generalize (T.take j).count 10 = m at *
            go_wp2
            go_roundw
            case rel => exact ⟨j + 1, by omega, by go_num, (by rw [HS.out]; go_num), trivial⟩
            case measure => simp [intOf]; omega
        · obtain rfl : j = T.length := by omega
          have hcn := HCT.out
          rw [List.take_length]
          rw [List.take_length] at hcm
          rw [hcn] at hcm ⊢
          have hm4 := HM.out
          have hT0 : ((T.length : Int) == 0) = false := beq_eq_false_iff_ne.2 (by omega)
          have hT1 : ¬ (T.length : Int) = 0 := by omega
          have hk0 : (0 : Int) ≤ (k : Int) := by omega
          have hk1 : (k : Int) ≤ (T.length : Int) := by omega
          have HP : Hid (Calls Tryz.prog 16 #[.string (s.extract 0 k)] wr (PsP (T.take k) wr)) := Lib.hid (by rw [HSL.out k (by omega)]; exact HPS.out _ (by rw [List.length_take]; omega) _ HB3.out)
          have hsum : ((c.ps.length + c.is.length : Nat) : Int) = (c.ps.length : Int) + (c.is.length : Int) := by omega
          have hfew2 := HF.out.2
          have HCB := Lib.hid (fun h => cut_bad (T := T) (k := k) h)
          have HTL := Lib.hid (fun h => take_last T k hkl h)
          have HGK := Lib.hid (fun (m : Nat) (hm : m < T.length) => HGT.out m (by omega) hm)
          have hsv : ∀ m, m < T.length → m < s.size := fun m hm => by omega
          clear hcn hlt hj HLT HSL HGT HCT HPS HGD HPT HFE HAW
          rw [hsum]
          by_cases hP : 0 < k ∧ (T.take k).getLast? = some 10
          · obtain ⟨m, hm⟩ : ∃ m : Nat, k = m + 1 := ⟨k - 1, by omega⟩
            have hml : m < T.length := by omega
            have hms := hsv m hml
            have hb : T[m] = 10 := by
              have h1 := (HTL.out hP.1).symm.trans hP.2
              have h2 : T[k - 1] = T[m] := by congr 1; omega
              rw [h2] at h1
              exact Option.some.inj h1
            have e1 : ((s[m].toNat : Int) == 10) = true := by rw [HGK.out m hml, hb]; rfl
            have hw1 : IntKind.i64.wrap ((k : Int) - 1) = (m : Int) := by rw [IntWalk.i64_in _ (by omega)]; omega
            have hkp : (0 : Int) < (k : Int) := by omega
            have hm0 : (0 : Int) ≤ (m : Int) := by omega
            have hm1 : (m : Int) < (T.length : Int) := by omega
            clear hm hb hP HTL HGK hsv
            go_wp2_with fail
            refine HP.out.mono ?_
            rintro e w4 ⟨hB4, h4⟩
            have HB4 := Lib.hid hB4
            have hz4 := hB4.size
            have x0 : w4.cell? ⟨w.heap.size, 0, none⟩ = some (.slice A c.ps.length c1) := keepC hB4 x0 hsz3
            have x1 : w4.cell? ⟨w.heap.size, 1, none⟩ = some (.slice A2 c.is.length c2) := keepC hB4 x1 hsz3
            have x0n := fun o => newC x0 o
            have x1n := fun o => newC x1 o
            clear hB4
            rcases h4 with ⟨kk, _, rfl⟩ | ⟨c', kk, _, _, rfl⟩ | ⟨c', kk, A', c1', A2', c2', _, _, _, rfl, _, _⟩
            · unfold zeroC
              go_wp2
              go_ret
              exact ⟨rfl, (HB3.out.trans (HB4.out.mono (by omega))).alloc (by omega) _⟩
            · unfold zeroC
              go_wp2
              go_ret
              exact ⟨rfl, (HB3.out.trans (HB4.out.mono (by omega))).alloc (by omega) _⟩
            · unfold coV
              go_wp2
              go_ret
              exact ⟨rfl, (HB3.out.trans (HB4.out.mono (by omega))).alloc (by omega) _⟩
          · have hP2 : k = 0 ∨ (T.take k).getLast? ≠ some 10 := by
              by_cases h : k = 0
              · exact .inl h
              · exact .inr (fun e => hP ⟨by omega, e⟩)
            have HBD := Lib.hid (HCB.out hP2)
            have HKV : Hid (k = 0 ∨ ∃ m : Nat, k = m + 1 ∧ ∃ h : m < T.length, T[m] ≠ 10) := Lib.hid (by
              by_cases h : k = 0
              · exact .inl h
              · refine .inr ⟨k - 1, by omega, by omega, fun e => ?_⟩
                exact hP ⟨by omega, by rw [HTL.out (by omega), e]⟩)
            clear hP hP2 HCB HTL
            go_wp2_with fail
            refine HP.out.mono ?_
            rintro e w4 ⟨hB4, h4⟩
            have HB4 := Lib.hid hB4
            have hz4 := hB4.size
            have x0 : w4.cell? ⟨w.heap.size, 0, none⟩ = some (.slice A c.ps.length c1) := keepC hB4 x0 hsz3
            have x1 : w4.cell? ⟨w.heap.size, 1, none⟩ = some (.slice A2 c.is.length c2) := keepC hB4 x1 hsz3
            have x0n := fun o => newC x0 o
            have x1n := fun o => newC x1 o
            obtain ⟨kk, rfl⟩ : ∃ kk : Nat, e = .returned (.tuple #[zeroC, .int .i64 (kk : Int), .int .i64 3]) := by
              rcases h4 with ⟨kk, _, rfl⟩ | ⟨c', kk, _, _, rfl⟩ | ⟨c', kk, A', c1', A2', c2', hr, hg, _, rfl, _, _⟩
              · exact ⟨kk, rfl⟩
              · exact ⟨kk, rfl⟩
              · exfalso
                rcases HBD.out with ⟨q, hq⟩ | ⟨c3, q, hq, hn⟩
                · rw [hq] at hr; cases hr
                · rw [hq] at hr; cases hr; exact hn hg
            clear hB4 h4 HBD
            rcases HKV.out with h0 | ⟨m, hm, hml, hne⟩
            · have hkz : (k : Int) = 0 := by omega
              clear h0 HKV HGK hsv hk0 hk1
              unfold zeroC
              go_wp2
              go_ret
              exact ⟨rfl, (HB3.out.trans (HB4.out.mono (by omega))).alloc (by omega) _⟩
            · have hms := hsv m hml
              have e1 : ((s[m].toNat : Int) == 10) = false := by rw [HGK.out m hml]; exact (bytes_ne _ 10 (by omega) hne).1
              have hw1 : IntKind.i64.wrap ((k : Int) - 1) = (m : Int) := by rw [IntWalk.i64_in _ (by omega)]; omega
              have hkp : (0 : Int) < (k : Int) := by omega
              have hm0 : (0 : Int) ≤ (m : Int) := by omega
              have hm1 : (m : Int) < (T.length : Int) := by omega
              clear hm hne HKV HGK hsv
              unfold zeroC
              go_wp2
              go_ret
              exact ⟨rfl, (HB3.out.trans (HB4.out.mono (by omega))).alloc (by omega) _⟩
    · have HG := Lib.hid hg
      clear hg
      have hs0 : ((bs []).toList == []) = true := by rw [ByteArray.toList_eq, bs_toList]; rfl
      obtain ⟨s, hs⟩ : ∃ s, s = bs [] := ⟨_, rfl⟩
      rw [← hs] at hs0 he
      subst he
      clear hs
      go_wp2_with fail
      refine (HGD.out HF.out _ HB3.out).mono ?_
      rintro e w4 ⟨hb4, h4⟩
      obtain ⟨_, rfl⟩ : ¬ GoodC c ∧ e = .returned (.bool false) := h4.resolve_left (fun h => HG.out h.1)
      have HB4 := Lib.hid (HB3.out.trans (hb4.mono (by omega)))
      clear hb4 h4
      go_wp2
      go_ret
      exact ⟨rfl, HB4.out⟩
  · go_wp2_with fail
    refine (HAW.out _ HB2.out).mono ?_
    rintro e w3 ⟨rfl, hb3⟩
    have HB3 := Lib.hid (HB2.out.trans (hb3.mono (by omega)))
    clear hb3
    go_wp2
    go_ret
    exact ⟨rfl, HB3.out⟩
theorem wf_u16C {n : Int} (h : (Lit.int .u16 n).wf = true) : 0 ≤ n ∧ n < 65536 := by
  have e1 : IntKind.u16.min = 0 := rfl
  have e2 : IntKind.u16.max = 65535 := rfl
  simp [Lit.wf, e1, e2] at h
  omega
theorem codeLines_at (c : CoM) (A A2 : Option Addr) (c1 c2 : Nat) (a : Int) (ha : (Lit.int .u16 a).wf = true) (w : World) (hc : CoAt w w.heap.size A c1 A2 c2 c) (hnm : ∀ p ∈ c.ps, p.name.length ≤ maxLen) (hX : TX w) :
    Calls Tryz.prog 6 #[coV A c1 A2 c2 c, .int .u16 a] w fun e w' => e = .returned (.bool true) ∧ Below w.heap.size w w' := by
  have h := wf_u16C ha
  obtain ⟨n, rfl⟩ : ∃ n : Nat, a = (n : Int) := ⟨a.toNat, by omega⟩
  exact codeLines_law c A A2 c1 c2 n w (by omega) hc hnm hX
end Go.Proofs.YtbhlockoeiedcaaGreatDoor
