/-
  rewindref10's Decimal, Number and IsName, in layer 18's seat.
-/
import Derived.Test.YtdknejmhlfpdfaaGreatDoorOrN
import Derived.Test.YtdknejmhlfpdfaaGreatDoorCoN
import Derived.Test.YtdknejmhlfpdfaaGreatDoorRefAll
import Derived.Lib.SlBytesRow
import Derived.Deep.RegionWith
import Derived.Deep.CutRange
import Derived.Deep.RegionHeld3
import Derived.RegionTactic
import Derived.BigRegion
import Derived.BigQuiet
namespace Go.Proofs.YtdknejmhlfpdfaaGreatDoor
open Go.RowKit

/-- What the loop has written, and what is left. -/
def decG (n m : Nat) (s : List UInt8) : Prop := (s = [] ∧ m = n) ∨ (s ≠ [] ∧ 0 < m ∧ Lib.decDigits n = Lib.decDigits m ++ s) ∨ (s ≠ [] ∧ m = 0 ∧ Lib.decDigits n = s)
def digM (m : Nat) : UInt8 := UInt8.ofNat (48 + m % 10)
theorem decG.step {n m : Nat} {s : List UInt8} (h : decG n m s) (hg : 0 < m ∨ s = []) : decG n (m / 10) (digM m :: s) := by
  have key : Lib.decDigits n = Lib.decDigits m ++ s := by
    rcases h with ⟨rfl, rfl⟩ | ⟨_, _, e⟩ | ⟨hs, h0, _⟩
    · rw [List.append_nil]
    · exact e
    · exact absurd hg (by rintro (h | h); omega; exact hs h)
  by_cases hm : m < 10
  · refine .inr (.inr ⟨by simp, by omega, ?_⟩)
    rw [key, Lib.decDigits_one hm]
    unfold digM
    rw [Nat.mod_eq_of_lt hm]; rfl
  · refine .inr (.inl ⟨by simp, by omega, ?_⟩)
    rw [key]
    conv => lhs; rw [Lib.decDigits, dif_neg hm]
    rw [List.append_assoc]; rfl
theorem decG.len {n m : Nat} {s : List UInt8} (h : decG n m s) (hn : n < 18446744073709551616) : s.length ≤ 20 := by
  have := Lib.nDigits_le20 n hn
  rw [← Lib.decDigits_length] at this
  rcases h with ⟨rfl, rfl⟩ | ⟨_, _, e⟩ | ⟨hs, h0, e⟩
  · simp
  · rw [e, List.length_append] at this; omega
  · rw [e] at this; exact this
theorem conv1s (w : World) (d : Nat) (hd : d < 10) : Sem.run Tryz.prog (convert 57 9 (.slice (some ⟨w.heap.size, 0, none⟩) 1 1)) (w.alloc (.cells #[.int .u8 (48 + (d : Int))] 5)) = .ok (.string (bs [UInt8.ofNat (48 + d)])) (w.alloc (.cells #[.int .u8 (48 + (d : Int))] 5)) := by
  have hb : Lib.Bytes (w.alloc (.cells #[.int .u8 (48 + (d : Int))] 5)) w.heap.size 0 (bs [UInt8.ofNat (48 + d)]) := by
    intro i hi
    have h0 : i = 0 := by
      have : i < 1 := hi
      omega
    subst h0
    have e : ((bs [UInt8.ofNat (48 + d)])[0]'hi).toNat = 48 + d := by
      show (UInt8.ofNat (48 + d)).toNat = 48 + d
      rw [UInt8.toNat_ofNat']
      omega
    rw [e]
    simp
  exact Lib.run_convert_whole (P := Tryz.prog) _ 57 5 9 Tryz.underlying57 Tryz.underlying5 Tryz.underlying9 w.heap.size 0 (bs [UInt8.ofNat (48 + d)]) hb 1
theorem bs_cons (a : UInt8) (s : List UInt8) : bs [a] ++ bs s = bs (a :: s) := by
  apply ByteArray.ext
  apply Array.toList_inj.1
  simp [bs]
def strE : Value → Nat
  | .string b => if b.size = 0 then 1 else 0
  | _ => 0
theorem strE_cons (c : UInt8) (s : List UInt8) : strE (.string (bs (c :: s))) = 0 := by
  show (if (bs (c :: s)).size = 0 then 1 else 0) = 0
  rw [bs_size, if_neg (by simp)]
set_option maxRecDepth 100000 in
set_option maxHeartbeats 4000000 in
theorem refDecN_calls (n : Nat) (hn : n < 9223372036854775808) (w : World) :
    Calls Tryz.prog 19 #[.int .i64 (n : Int)] w fun e w' => e = .returned (.string (bs (Lib.decDigits n))) ∧ Below w.heap.size w w' := by
  have hn0 : (0 : Int) ≤ (n : Int) := by omega
  have hn1 : (n : Int) ≤ 9223372036854775807 := by omega
  have hnm : decide ((n : Int) = -9223372036854775808) = false := decide_eq_false (by omega)
  have hnn : decide ((n : Int) < 0) = false := decide_eq_false (by omega)
  go_enter Tryz.func19, Tryz.ntmps19
  go_wp2_with fail
  go_loopw [0, 3] (fun i t wr => ∃ (m : Nat) (s : List UInt8), m ≤ n ∧ i = .int .i64 m ∧ t = .string (bs s) ∧ decG n m s ∧ Hid (Below w.heap.size w wr)) (fun i t _ => (intOf i).toNat + strE t)
  case atStart => exact ⟨n, [], Nat.le_refl _, rfl, rfl, .inl ⟨rfl, rfl⟩, Lib.hid (Below.refl _ _)⟩
  case round =>
    obtain ⟨m, s, hm, rfl, rfl, hd, HB⟩ := hrel
    have hL := hd.len (by omega)
    have hm0 : (0 : Int) ≤ (m : Int) := by omega
    have hm1 : (m : Int) ≤ 9223372036854775807 := by omega
    have eq1 : (m : Int).tdiv 10 = ((m / 10 : Nat) : Int) := by rw [Int.tdiv_eq_ediv_of_nonneg hm0]; simp
    have er1 : (m : Int).tmod 10 = ((m % 10 : Nat) : Int) := by rw [Int.tmod_eq_emod_of_nonneg hm0]; simp
    have hlt : m % 10 < 10 := Nat.mod_lt _ (by omega)
    have hcv := conv1s wr (m % 10) hlt
    have hS0 := hd.step
    unfold digM at hS0
    have hszS : (bs s).size = s.length := bs_size s
    have hvs2 : (9223372036854775807 < 1 + (bs s).size) = False := eq_false (by rw [hszS]; omega)
    generalize hcc : UInt8.ofNat (48 + m % 10) = c at *
    have hbc := bs_cons c s
    have hvs : (9223372036854775807 < (bs [c]).size + (bs s).size) = False := eq_false (by rw [hszS, bs_size]; simp; omega)
    clear hszS
    have hE := Lib.hid hcc
    clear hcc
    generalize hdd : m % 10 = d at *
    have hE2 := Lib.hid hdd
    clear hdd
    have hkeep := Lib.hid hd
    by_cases hp : 0 < m
    · have hgt : decide ((0 : Int) < (m : Int)) = true := decide_eq_true (by omega)
      have hS := hS0 (.inl hp)
      clear hS0 hd
      go_wp2
      go_roundw
      case rel => exact ⟨m / 10, c :: s, by omega, (by go_num), rfl, hS, Lib.hid (HB.out.alloc HB.out.size _)⟩
      case measure =>
        rw [strE_cons]
        show ((m : Int) / 10).toNat + 0 < (m : Int).toNat + _
        omega
    · have hm00 : m = 0 := by omega
      subst hm00
      have hd0 : d = 0 := hE2.out.symm
      subst hd0
      have hcv : Sem.run Tryz.prog (convert 57 9 (.slice (some ⟨wr.heap.size, 0, none⟩) 1 1)) (wr.alloc (.cells #[.int .u8 48] 5)) = .ok (.string (bs [c])) (wr.alloc (.cells #[.int .u8 48] 5)) := hcv
      by_cases hs : s = []
      · have hS := hS0 (.inr hs)
        have hem : (bs s).toList.isEmpty = true := by rw [ByteArray.toList_eq, bs_toList, hs]; rfl
        clear hS0 hd
        generalize hss : s = t at hem hbc hvs hvs2 ⊢
        go_wp2
        go_roundw
        case rel => exact ⟨0, c :: t, by omega, rfl, rfl, hss ▸ hS, Lib.hid (HB.out.alloc HB.out.size _)⟩
        case measure =>
          rw [strE_cons, ← hss, hs]
          show 0 < 1
          omega
      · have hem : (bs s).toList.isEmpty = false := by
          rw [ByteArray.toList_eq, bs_toList]
          cases s with
          | nil => exact absurd rfl hs
          | cons _ _ => rfl
        have hfin : Lib.decDigits n = s := by
          rcases hd with ⟨h, _⟩ | ⟨_, h, _⟩ | ⟨_, _, h⟩
          · exact absurd h hs
          · omega
          · exact h
        clear hS0 hd
        go_wp2
        go_ret
        exact ⟨by rw [← hfin]; rfl, HB.out⟩
set_option maxRecDepth 100000 in
set_option maxHeartbeats 4000000 in
theorem refDec_calls (n : Int) (hn : i64 n) (w : World) :
    Calls Tryz.prog 19 #[.int .i64 n] w fun e w' => e = .returned (.string (bs (Lib.itoa n))) ∧ Below w.heap.size w w' := by
  obtain ⟨l0, l1⟩ := hn
  by_cases h0 : n < 0
  · by_cases hm : n = -9223372036854775808
    · subst hm
      rw [itoa_min]
      clear l0 l1 h0
      go_enter Tryz.func19, Tryz.ntmps19
      go_wp2
      go_ret
      exact ⟨rfl, Below.refl _ w⟩
    · rw [itoa_neg h0]
      obtain ⟨m, hmn⟩ : ∃ m : Nat, n = -(m : Int) := ⟨n.natAbs, by omega⟩
      subst hmn
      have em : (-(m : Int)).natAbs = m := by omega
      rw [em]
      have hC := refDecN_calls m (by omega) w
      have hnm : decide (-(m : Int) = -9223372036854775808) = false := decide_eq_false (by omega)
      have hnn : decide (-(m : Int) < 0) = true := decide_eq_true (by omega)
      have hL : (Lib.decDigits m).length ≤ 20 := by rw [Lib.decDigits_length]; exact Lib.nDigits_le20 m (by omega)
      have hbc := bs_cons 45 (Lib.decDigits m)
      generalize Lib.decDigits m = s at *
      have hvs2 : (9223372036854775807 < 1 + (bs s).size) = False := eq_false (by rw [bs_size]; omega)
      have hvs : (9223372036854775807 < (bs [45]).size + (bs s).size) = False := eq_false (by rw [bs_size, bs_size]; simp; omega)
      go_enter Tryz.func19, Tryz.ntmps19
      go_wp2_with fail
      refine hC.mono ?_
      rintro e w1 ⟨rfl, hB⟩
      go_wp2
      go_ret
      exact ⟨by first | rfl | (rw [← hbc]; rfl), hB⟩
  · rw [itoa_pos h0]
    obtain ⟨m, rfl⟩ := Int.eq_ofNat_of_zero_le (by omega : 0 ≤ n)
    exact refDecN_calls m (by omega) w
/-- What Number answers. -/
def NuP (t : List UInt8) (w : World) (e : Ending) (w' : World) : Prop :=
  Below w.heap.size w w' ∧ ((∃ n, numM t = some n ∧ e = .returned (.tuple #[.int .i64 n, .bool true])) ∨ (numM t = none ∧ ∃ n, e = .returned (.tuple #[.int .i64 n, .bool false])))
set_option maxRecDepth 100000 in
set_option maxHeartbeats 2000000 in
theorem number_calls (t : List UInt8) (ht : t.length ≤ 1000000) (w : World) : Calls Tryz.prog 25 #[.string (bs t)] w (NuP t w) := by
  have hsz : (bs t).size = t.length := bs_size t
  by_cases hl : 0 < t.length ∧ t.length ≤ 20
  · have d1 : ((t.length : Int) == 0) = false := beq_eq_false_iff_ne.2 (by omega)
    have d2 : (t.length == 0) = false := beq_eq_false_iff_ne.2 (by omega)
    have d3 : decide ((20 : Int) < (t.length : Int)) = false := decide_eq_false (by omega)
    have d4 : decide (20 < t.length) = false := decide_eq_false (by omega)
    obtain ⟨h0, h1⟩ := hl
    have HG : Hid (∀ (k : Nat) (h : k < (bs t).size) (h' : k < t.length), (bs t)[k]'h = t[k]) := Lib.hid (fun k h h' => rfl)
    have hS1 : Hid ((bs t).data.toList = t) := Lib.hid (bs_toList t)
    generalize hS : bs t = S at *
    have HS := Lib.hid hS
    have hz2 : 0 < S.size := by omega
    clear hS
    go_enter Tryz.func25, Tryz.ntmps25
    go_wp2
    go_loopw [4, 5] (fun n i wr => ∃ (k : Nat) (v : Int), k ≤ t.length ∧ i = .int .i64 k ∧ n = .int .i64 v ∧ Hid (i64 v) ∧ Hid (NInv t k v) ∧ wr = w) (fun _ i _ => t.length - (intOf i).toNat)
    case atStart => exact ⟨0, 0, by omega, rfl, rfl, Lib.hid (by unfold i64; omega), Lib.hid (nin_zero t), rfl⟩
    case round =>
      obtain ⟨k, v, hk, rfl, rfl, HV, HN, rfl⟩ := hrel
      by_cases hlt : k < t.length
      · have hks : k < S.size := by omega
        have g1 := HG.out k hks hlt
        have g0 := HG.out 0 hz2 h0
        by_cases hd : 48 ≤ (S[k]'hks).toNat ∧ (S[k]'hks).toNat ≤ 57
        · obtain ⟨e5, e6⟩ := hd
          have e1 : ((((S[k]'hks)).toNat : Int) == 45) = false := beq_eq_false_iff_ne.2 (by omega)
          have e2 : decide ((((S[k]'hks)).toNat : Int) < 48) = false := decide_eq_false (by omega)
          have e3 : decide ((57 : Int) < (((S[k]'hks)).toNat : Int)) = false := decide_eq_false (by omega)
          by_cases hm : S[0]'hz2 = 45
          · have e4 : (((S[0]'hz2).toNat : Int) == 45) = true := by rw [hm]; rfl
            have HN2 := Lib.hid (nin_neg hlt (g0 ▸ hm) (g1 ▸ ⟨e5, e6⟩) HN.out)
            rw [← g1] at HN2
            clear hm g0 g1
            go_wp2
            go_roundw
            case rel => exact ⟨k + 1, _, by omega, by go_num, rfl, Lib.hid (i64_wrap _), HN2, trivial⟩
            case measure => simp [intOf]; omega
          · have e4 : (((S[0]'hz2).toNat : Int) == 45) = false := beq_eq_false_iff_ne.2 (fun h => hm (UInt8.toNat_inj.1 (by simpa using (show (S[0]'hz2).toNat = 45 by omega))))
            have HN2 := Lib.hid (nin_pos hlt (g0 ▸ hm) (g1 ▸ ⟨e5, e6⟩) HN.out)
            rw [← g1] at HN2
            clear hm g0 g1
            go_wp2
            go_roundw
            case rel => exact ⟨k + 1, _, by omega, by go_num, rfl, Lib.hid (i64_wrap _), HN2, trivial⟩
            case measure => simp [intOf]; omega
        · have hxx : ((S[k]'hks) = 45 ∧ k = 0) ∨ ¬ ((S[k]'hks) = 45 ∧ k = 0) := Classical.em _
          rcases hxx with ⟨h45, rfl⟩ | hbad
          · have e1 : ((((S[0]'hks)).toNat : Int) == 45) = true := by rw [h45]; rfl
            have HN2 := Lib.hid (nin_skip hlt (g1 ▸ h45) HN.out)
            have e9 : ((0 : Int) == 0) = true := rfl
            clear hd g0 g1 h45 HN
            go_wp2
            go_roundw
            case rel => exact ⟨1, _, by omega, by go_num, rfl, HV, HN2, trivial⟩
            case measure => simp [intOf]; omega
          · have HNO := Lib.hid (nin_bad hlt (g1 ▸ hd) (g1 ▸ hbad))
            have hc : (((((S[k]'hks)).toNat : Int) == 45) = true ∧ ((k : Int) == 0) = false ∧ (k == 0) = false ∧ decide ((((S[k]'hks)).toNat : Int) < 48) = true) ∨ (((((S[k]'hks)).toNat : Int) == 45) = false ∧ decide ((((S[k]'hks)).toNat : Int) < 48) = true) ∨ (((((S[k]'hks)).toNat : Int) == 45) = false ∧ decide ((((S[k]'hks)).toNat : Int) < 48) = false ∧ decide ((57 : Int) < (((S[k]'hks)).toNat : Int)) = true) := by
              by_cases h4 : (S[k]'hks).toNat = 45
              · have hk0 : k ≠ 0 := fun e => hbad ⟨UInt8.toNat_inj.1 (by simpa using h4), e⟩
                exact .inl ⟨beq_iff_eq.2 (by omega), beq_eq_false_iff_ne.2 (by omega), beq_eq_false_iff_ne.2 hk0, decide_eq_true (by omega)⟩
              · by_cases h8 : (S[k]'hks).toNat < 48
                · exact .inr (.inl ⟨beq_eq_false_iff_ne.2 (by omega), decide_eq_true (by omega)⟩)
                · exact .inr (.inr ⟨beq_eq_false_iff_ne.2 (by omega), decide_eq_false (by omega), decide_eq_true (by omega)⟩)
            clear hd g0 g1 hbad HN HV
            rcases hc with ⟨e1, e2, e3, e4⟩ | ⟨e1, e2⟩ | ⟨e1, e2, e3⟩
            all_goals
              go_wp2
              exact bodyPost_ret (v := .tuple #[.int .i64 0, .bool false]) (by simp [results, Tryz.f25, go_sem]) rfl ⟨Below.refl _ _, .inr ⟨HNO.out, 0, rfl⟩⟩
      · obtain rfl : k = t.length := by omega
        have HD := Lib.hid (refDec_calls v HV.out wr)
        by_cases hq : Lib.itoa v = t
        · have HQ : Hid (numM t = some v) := Lib.hid (by rw [← hq]; exact numM_itoa v HV.out)
          have hseq : ((bs (Lib.itoa v)).toList == S.toList) = true := by rw [← HS.out, str_eqC]; exact decide_eq_true hq
          generalize bs (Lib.itoa v) = D at *
          clear hq hlt hk
          go_wp2_with fail
          refine HD.out.mono ?_
          rintro e w1 ⟨rfl, hB1⟩
          have HB1 := Lib.hid hB1
          clear hB1
          go_wp2
          exact bodyPost_ret (v := .tuple #[.int .i64 v, .bool true]) (by simp [results, Tryz.f25, go_sem]) rfl ⟨HB1.out, .inl ⟨v, HQ.out, rfl⟩⟩
        · have HQ : Hid (numM t = none) := Lib.hid (by
            cases hm : numM t with
            | none => rfl
            | some m =>
              have := nin_end HN.out hm
              subst this
              exact absurd (numM_some' hm).1 hq)
          have hseq : ((bs (Lib.itoa v)).toList == S.toList) = false := by rw [← HS.out, str_eqC]; exact decide_eq_false hq
          generalize bs (Lib.itoa v) = D at *
          clear hq hlt hk
          go_wp2_with fail
          refine HD.out.mono ?_
          rintro e w1 ⟨rfl, hB1⟩
          have HB1 := Lib.hid hB1
          clear hB1
          go_wp2
          exact bodyPost_ret (v := .tuple #[.int .i64 v, .bool false]) (by simp [results, Tryz.f25, go_sem]) rfl ⟨HB1.out, .inr ⟨HQ.out, v, rfl⟩⟩
  · have HNO := Lib.hid (numM_long hl)
    have hcase : (((t.length : Int) == 0) = true ∧ (t.length == 0) = true) ∨ (((t.length : Int) == 0) = false ∧ (t.length == 0) = false ∧ decide ((20 : Int) < (t.length : Int)) = true ∧ decide (20 < t.length) = true) := by
      by_cases h : t.length = 0
      · exact .inl ⟨beq_iff_eq.2 (by omega), beq_iff_eq.2 h⟩
      · exact .inr ⟨beq_eq_false_iff_ne.2 (by omega), beq_eq_false_iff_ne.2 h, decide_eq_true (by omega), decide_eq_true (by omega)⟩
    clear hl
    generalize bs t = S at *
    rcases hcase with ⟨d1, d2⟩ | ⟨d1, d2, d3, d4⟩
    all_goals
      go_enter Tryz.func25, Tryz.ntmps25
      go_wp2
      exact bodyPost_ret (v := .tuple #[.int .i64 0, .bool false]) (by simp [results, Tryz.f25, go_sem]) rfl ⟨Below.refl _ _, .inr ⟨HNO.out, 0, rfl⟩⟩
theorem ret_boolC {a b : Bool} (h : a = b) : Ending.returned (.bool a) = .returned (.bool b) := by rw [h]
set_option maxRecDepth 100000 in
set_option maxHeartbeats 2000000 in
theorem refIsName_calls (t : List UInt8) (ht : t.length ≤ 20000) (w : World) :
    Calls Tryz.prog 17 #[.string (bs t)] w fun e w' => e = .returned (.bool (isNm t)) ∧ Below w.heap.size w w' := by
  have hsz : (bs t).size = t.length := bs_size t
  have HA := Lib.hid (refAll0_calls (bs t) (by omega) w)
  have HN := Lib.hid (isNm_toks t)
  unfold AllPost at HA
  rw [bs_toList] at HA
  generalize isNm t = r at *
  generalize toks t 0 = T at *
  obtain ⟨xs, o⟩ := T
  dsimp only at HA HN
  go_enter Tryz.func17, Tryz.ntmps17
  go_wp2_with fail
  refine HA.out.mono ?_
  rintro e w1 ⟨hB, h⟩
  have HB := Lib.hid hB
  clear hB HA
  rcases h with ⟨p, hp, rfl⟩ | ⟨hn, A, c, rfl, hk⟩
  · have HR : Hid (r = false) := Lib.hid (by
      cases r with
      | false => rfl
      | true => exact absurd ((HN.out.2 rfl).1) (by rw [hp]; simp))
    clear hp HN
    go_wp2
    go_ret
    exact ⟨ret_boolC HR.out.symm, HB.out⟩
  · by_cases h2 : xs.length = 2
    · obtain ⟨b, off, rfl, hb, hx, d0, d1, d2⟩ := hk.get 0 (by omega)
      have HR : Hid ((xs[0].kind = 1 ∧ xs[0].lo = 0 ∧ xs[0].hi = t.length) ↔ r = true) := Lib.hid (by
        rw [← HN.out]
        constructor
        · intro hh; exact ⟨hn, h2, xs[0], List.getElem?_eq_getElem hx, hh⟩
        · rintro ⟨_, _, x, hx0, hh⟩
          rw [List.getElem?_eq_getElem hx] at hx0
          obtain rfl := Option.some.inj hx0
          exact hh)
      generalize xs[0].kind = kd at *
      generalize xs[0].lo = lo at *
      generalize xs[0].hi = hi at *
      simp only [Nat.zero_mul, Nat.add_zero] at d0 d1 d2
      rw [h2]
      have HZ := Lib.hid hsz
      clear hk hx h2 HN hn hsz
      go_wp2
      all_goals
        go_ret
        refine ⟨ret_boolC ?_, HB.out⟩
        have hr := HR.out
        have hz := HZ.out
        rw [Bool.eq_iff_iff, ← hr]
        simp <;> omega
    · have HR : Hid (r = false) := Lib.hid (by
        cases r with
        | false => rfl
        | true => exact absurd ((HN.out.2 rfl).2.1) h2)
      have e1 : ((xs.length : Int) == 2) = false := beq_eq_false_iff_ne.2 (by omega)
      have e2 : (xs.length == 2) = false := beq_eq_false_iff_ne.2 h2
      clear hk HN h2 hn
      go_wp2
      go_ret
      exact ⟨ret_boolC HR.out.symm, HB.out⟩

end Go.Proofs.YtdknejmhlfpdfaaGreatDoor
