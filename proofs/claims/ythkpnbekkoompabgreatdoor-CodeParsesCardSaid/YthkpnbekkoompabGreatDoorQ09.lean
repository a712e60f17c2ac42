/-
  rewindref10: how many numbers an operation has, and a number's decimal.
  rewindref10: the operations' words.
-/
import Derived.Test.YthkpnbekkoompabGreatDoorCpT
import Derived.Test.YthkpnbekkoompabGreatDoorCrAQ
import Derived.Lib.SlBytesRow
import Derived.Deep.RegionWith
import Derived.RegionTactic
import Derived.BigRegion
namespace Go.Proofs.YthkpnbekkoompabGreatDoor
open Go.RowKit

set_option maxRecDepth 100000 in
set_option maxHeartbeats 4000000 in
theorem refHas_calls (op : Int) (h1 : 1 ≤ op) (h2 : op ≤ 29) (w : World) :
    Calls Tryz.prog 29 #[.int .i64 op] w fun e w' => e = .returned (.int .i64 ((manyM op.toNat : Nat) : Int)) ∧ Below w.heap.size w w' := by
  have hops := op_cases (x := ⟨op, 0, 0⟩) h1 h2
  dsimp only at hops
  rcases hops with rfl | rfl | rfl | rfl | rfl | rfl | rfl | rfl | rfl | rfl | rfl | rfl | rfl | rfl | rfl | rfl | rfl | rfl | rfl | rfl | rfl | rfl | rfl | rfl | rfl | rfl | rfl | rfl | rfl
  all_goals
    go_enter Tryz.func29, Tryz.ntmps29
    go_wp2
    go_ret
    exact ⟨rfl, Below.refl _ w⟩

/-- What the loop has written, and what is left. -/
def decG (n m : Nat) (s : List UInt8) : Prop := (s = [] ∧ m = n) ∨ (s ≠ [] ∧ 0 < m ∧ Lib.decDigits n = Lib.decDigits m ++ s) ∨ (s ≠ [] ∧ m = 0 ∧ Lib.decDigits n = s)
def digM (m : Nat) : UInt8 := UInt8.ofNat (48 + m % 10)
theorem decG.step {n m : Nat} {s : List UInt8} (h : decG n m s) (hg : 0 < m ∨ s = []) : decG n (m / 10) (digM m :: s) := by
  have key : Lib.decDigits n = Lib.decDigits m ++ s := by
    rcases h with ⟨rfl, rfl⟩ | ⟨_, _, e⟩ | ⟨hs, h0, _⟩
    · rw [List.append_nil]
    · exact e
    · exact absurd hg (by rintro (h | h); omega; exact hs h)
  by_cases hm : m < 10
  · refine .inr (.inr ⟨by simp, by omega, ?_⟩)
    rw [key, Lib.decDigits_one hm]
    unfold digM
    rw [Nat.mod_eq_of_lt hm]; rfl
  · refine .inr (.inl ⟨by simp, by omega, ?_⟩)
    rw [key]
    conv => lhs; rw [Lib.decDigits, dif_neg hm]
    rw [List.append_assoc]; rfl
theorem decG.len {n m : Nat} {s : List UInt8} (h : decG n m s) (hn : n < 18446744073709551616) : s.length ≤ 20 := by
  have := Lib.nDigits_le20 n hn
  rw [← Lib.decDigits_length] at this
  rcases h with ⟨rfl, rfl⟩ | ⟨_, _, e⟩ | ⟨hs, h0, e⟩
  · simp
  · rw [e, List.length_append] at this; omega
  · rw [e] at this; exact this
theorem conv1s (w : World) (d : Nat) (hd : d < 10) : Sem.run Tryz.prog (convert 58 9 (.slice (some ⟨w.heap.size, 0, none⟩) 1 1)) (w.alloc (.cells #[.int .u8 (48 + (d : Int))] 5)) = .ok (.string (bs [UInt8.ofNat (48 + d)])) (w.alloc (.cells #[.int .u8 (48 + (d : Int))] 5)) := by
  have hb : Lib.Bytes (w.alloc (.cells #[.int .u8 (48 + (d : Int))] 5)) w.heap.size 0 (bs [UInt8.ofNat (48 + d)]) := by
    intro i hi
    have h0 : i = 0 := by
      have : i < 1 := hi
      omega
    subst h0
    have e : ((bs [UInt8.ofNat (48 + d)])[0]'hi).toNat = 48 + d := by
      show (UInt8.ofNat (48 + d)).toNat = 48 + d
      rw [UInt8.toNat_ofNat']
      omega
    rw [e]
    simp
  exact Lib.run_convert_whole (P := Tryz.prog) _ 58 5 9 Tryz.underlying58 Tryz.underlying5 Tryz.underlying9 w.heap.size 0 (bs [UInt8.ofNat (48 + d)]) hb 1
theorem bs_cons (a : UInt8) (s : List UInt8) : bs [a] ++ bs s = bs (a :: s) := by
  apply ByteArray.ext
  apply Array.toList_inj.1
  simp [bs]

def strE : Value → Nat
  | .string b => if b.size = 0 then 1 else 0
  | _ => 0
theorem strE_cons (c : UInt8) (s : List UInt8) : strE (.string (bs (c :: s))) = 0 := by
  show (if (bs (c :: s)).size = 0 then 1 else 0) = 0
  rw [bs_size, if_neg (by simp)]

set_option maxRecDepth 100000 in
set_option maxHeartbeats 4000000 in
theorem refDecN_calls (n : Nat) (hn : n < 9223372036854775808) (w : World) :
    Calls Tryz.prog 49 #[.int .i64 (n : Int)] w fun e w' => e = .returned (.string (bs (Lib.decDigits n))) ∧ Below w.heap.size w w' := by
  have hn0 : (0 : Int) ≤ (n : Int) := by omega
  have hn1 : (n : Int) ≤ 9223372036854775807 := by omega
  have hnm : decide ((n : Int) = -9223372036854775808) = false := decide_eq_false (by omega)
  have hnn : decide ((n : Int) < 0) = false := decide_eq_false (by omega)
  go_enter Tryz.func49, Tryz.ntmps49
  go_wp2_with fail
  go_loopw [0, 3] (fun i t wr => ∃ (m : Nat) (s : List UInt8), m ≤ n ∧ i = .int .i64 m ∧ t = .string (bs s) ∧ decG n m s ∧ Hid (Below w.heap.size w wr)) (fun i t _ => (intOf i).toNat + strE t)
  case atStart => exact ⟨n, [], Nat.le_refl _, rfl, rfl, .inl ⟨rfl, rfl⟩, Lib.hid (Below.refl _ _)⟩
  case round =>
    obtain ⟨m, s, hm, rfl, rfl, hd, HB⟩ := hrel
    have hL := hd.len (by omega)
    have hm0 : (0 : Int) ≤ (m : Int) := by omega
    have hm1 : (m : Int) ≤ 9223372036854775807 := by omega
    have eq1 : (m : Int).tdiv 10 = ((m / 10 : Nat) : Int) := by rw [Int.tdiv_eq_ediv_of_nonneg hm0]; simp
    have er1 : (m : Int).tmod 10 = ((m % 10 : Nat) : Int) := by rw [Int.tmod_eq_emod_of_nonneg hm0]; simp
    have hlt : m % 10 < 10 := Nat.mod_lt _ (by omega)
    have hcv := conv1s wr (m % 10) hlt
    have hS0 := hd.step
    unfold digM at hS0
    have hszS : (bs s).size = s.length := bs_size s
    have hvs2 : (9223372036854775807 < 1 + (bs s).size) = False := eq_false (by rw [hszS]; omega)
    generalize hcc : UInt8.ofNat (48 + m % 10) = c at *
    have hbc := bs_cons c s
    have hvs : (9223372036854775807 < (bs [c]).size + (bs s).size) = False := eq_false (by rw [hszS, bs_size]; simp; omega)
    clear hszS
    have hE := Lib.hid hcc
    clear hcc
    generalize hdd : m % 10 = d at *
    have hE2 := Lib.hid hdd
    clear hdd
    have hkeep := Lib.hid hd
    by_cases hp : 0 < m
    · have hgt : decide ((0 : Int) < (m : Int)) = true := decide_eq_true (by omega)
      have hS := hS0 (.inl hp)
      clear hS0 hd
      go_wp2
      go_roundw
      case rel => exact ⟨m / 10, c :: s, by omega, (by go_num), rfl, hS, Lib.hid (HB.out.alloc HB.out.size _)⟩
      case measure =>
        rw [strE_cons]
        show ((m : Int) / 10).toNat + 0 < (m : Int).toNat + _
        omega
    · have hm00 : m = 0 := by omega
      subst hm00
      have hd0 : d = 0 := hE2.out.symm
      subst hd0
      have hcv : Sem.run Tryz.prog (convert 58 9 (.slice (some ⟨wr.heap.size, 0, none⟩) 1 1)) (wr.alloc (.cells #[.int .u8 48] 5)) = .ok (.string (bs [c])) (wr.alloc (.cells #[.int .u8 48] 5)) := hcv
      by_cases hs : s = []
      · have hS := hS0 (.inr hs)
        have hem : (bs s).toList.isEmpty = true := by rw [ByteArray.toList_eq, bs_toList, hs]; rfl
        clear hS0 hd
        generalize hss : s = t at hem hbc hvs hvs2 ⊢
        go_wp2
        go_roundw
        case rel => exact ⟨0, c :: t, by omega, rfl, rfl, hss ▸ hS, Lib.hid (HB.out.alloc HB.out.size _)⟩
        case measure =>
          rw [strE_cons, ← hss, hs]
          show 0 < 1
          omega
      · have hem : (bs s).toList.isEmpty = false := by
          rw [ByteArray.toList_eq, bs_toList]
          cases s with
          | nil => exact absurd rfl hs
          | cons _ _ => rfl
        have hfin : Lib.decDigits n = s := by
          rcases hd with ⟨h, _⟩ | ⟨_, h, _⟩ | ⟨_, _, h⟩
          · exact absurd h hs
          · omega
          · exact h
        clear hS0 hd
        go_wp2
        go_ret
        exact ⟨by rw [← hfin]; rfl, HB.out⟩

theorem itoa_neg {n : Int} (h : n < 0) : Lib.itoa n = 45 :: Lib.decDigits n.natAbs := by unfold Lib.itoa; rw [if_pos h]
theorem itoa_pos {n : Int} (h : ¬ n < 0) : Lib.itoa n = Lib.decDigits n.toNat := by unfold Lib.itoa; rw [if_neg h]
theorem itoa_min : Lib.itoa (-9223372036854775808) = [45, 57, 50, 50, 51, 51, 55, 50, 48, 51, 54, 56, 53, 52, 55, 55, 53, 56, 48, 56] := by decide +kernel

set_option maxRecDepth 100000 in
set_option maxHeartbeats 4000000 in
theorem refDec_calls (n : Int) (hn : i64 n) (w : World) :
    Calls Tryz.prog 49 #[.int .i64 n] w fun e w' => e = .returned (.string (bs (Lib.itoa n))) ∧ Below w.heap.size w w' := by
  obtain ⟨l0, l1⟩ := hn
  by_cases h0 : n < 0
  · by_cases hm : n = -9223372036854775808
    · subst hm
      rw [itoa_min]
      clear l0 l1 h0
      go_enter Tryz.func49, Tryz.ntmps49
      go_wp2
      go_ret
      exact ⟨rfl, Below.refl _ w⟩
    · rw [itoa_neg h0]
      obtain ⟨m, hmn⟩ : ∃ m : Nat, n = -(m : Int) := ⟨n.natAbs, by omega⟩
      subst hmn
      have em : (-(m : Int)).natAbs = m := by omega
      rw [em]
      have hC := refDecN_calls m (by omega) w
      have hnm : decide (-(m : Int) = -9223372036854775808) = false := decide_eq_false (by omega)
      have hnn : decide (-(m : Int) < 0) = true := decide_eq_true (by omega)
      have hL : (Lib.decDigits m).length ≤ 20 := by rw [Lib.decDigits_length]; exact Lib.nDigits_le20 m (by omega)
      have hbc := bs_cons 45 (Lib.decDigits m)
      generalize Lib.decDigits m = s at *
      have hvs2 : (9223372036854775807 < 1 + (bs s).size) = False := eq_false (by rw [bs_size]; omega)
      have hvs : (9223372036854775807 < (bs [45]).size + (bs s).size) = False := eq_false (by rw [bs_size, bs_size]; simp; omega)
      go_enter Tryz.func49, Tryz.ntmps49
      go_wp2_with fail
      refine hC.mono ?_
      rintro e w1 ⟨rfl, hB⟩
      go_wp2
      go_ret
      exact ⟨by first | rfl | (rw [← hbc]; rfl), hB⟩
  · rw [itoa_pos h0]
    obtain ⟨m, rfl⟩ := Int.eq_ofNat_of_zero_le (by omega : 0 ≤ n)
    exact refDecN_calls m (by omega) w
end Go.Proofs.YthkpnbekkoompabGreatDoor

namespace Go.Proofs.YthkpnbekkoompabGreatDoor
open Go.RowKit

def wdV : List Value := opW.map fun s => .string (bs s)
theorem wdV_at (w : World) (g : Nat) (h : w.heap[g]? = some (.cells wdV.toArray 9 (0, 0))) (k : Nat) (hk : k < 30) : w.cell? ⟨g, k, none⟩ = some (.string (bs (opW.getD k []))) := by
  rw [cellC h k]
  unfold wdV
  have hl : k < opW.length := by simpa [opW] using hk
  rw [List.getD_eq_getElem?_getD, List.getElem?_eq_getElem hl]
  simp [hl]

set_option maxRecDepth 100000 in
set_option maxHeartbeats 4000000 in
theorem refOpWords_calls (w : World) : Calls Tryz.prog 28 #[] w fun e w' => e = .returned (.slice (some ⟨w.heap.size, 0, none⟩) 30 30) ∧ (∀ k, k < 30 → w'.cell? ⟨w.heap.size, k, none⟩ = some (.string (bs (opW.getD k [])))) ∧ Below w.heap.size w w' ∧ w.heap.size < w'.heap.size := by
  go_enter Tryz.func28, Tryz.ntmps28
  go_wp2
  go_ret
  refine ⟨rfl, fun k hk => wdV_at _ _ (heapOne w _ _) k hk, (Below.refl w.heap.size w).alloc (Nat.le_refl _) _, by simp⟩
