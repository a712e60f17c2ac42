/-
  rewindref10's Decimal, Number and IsName, in layer 18's seat.
-/
import Derived.Test.YtdknejmhlfpdfaaDoorOrN
import Derived.Test.YtdknejmhlfpdfaaDoorCoN
import Derived.Test.YtdknejmhlfpdfaaDoorRefAll
import Derived.Lib.SlBytesRow
import Derived.Deep.RegionWith
import Derived.Deep.CutRange
import Derived.Deep.RegionHeld3
import Derived.RegionTactic
import Derived.BigRegion
import Derived.BigQuiet
namespace Go.Proofs.YtdknejmhlfpdfaaDoor
open Go.RowKit

/-- What the loop has written, and what is left. -/
def decG (n m : Nat) (s : List UInt8) : Prop := (s = [] ∧ m = n) ∨ (s ≠ [] ∧ 0 < m ∧ Lib.decDigits n = Lib.decDigits m ++ s) ∨ (s ≠ [] ∧ m = 0 ∧ Lib.decDigits n = s)
def digM (m : Nat) : UInt8 := UInt8.ofNat (48 + m % 10)
theorem decG.step {n m : Nat} {s : List UInt8} (h : decG n m s) (hg : 0 < m ∨ s = []) : decG n (m / 10) (digM m :: s) := by
  have key : Lib.decDigits n = Lib.decDigits m ++ s := by
    rcases h with ⟨rfl, rfl⟩ | ⟨_, _, e⟩ | ⟨hs, h0, _⟩
    · rw [List.append_nil]
    · exact e
    · exact absurd hg (by rintro (h | h); omega; exact hs h)
  by_cases hm : m < 10
  · refine .inr (.inr ⟨by simp, by omega, ?_⟩)
    rw [key, Lib.decDigits_one hm]
    unfold digM
    rw [Nat.mod_eq_of_lt hm]; rfl
  · refine .inr (.inl ⟨by simp, by omega, ?_⟩)
    rw [key]
    conv => lhs; rw [Lib.decDigits, dif_neg hm]
    rw [List.append_assoc]; rfl
theorem decG.len {n m : Nat} {s : List UInt8} (h : decG n m s) (hn : n < 18446744073709551616) : s.length ≤ 20 := by
  have := Lib.nDigits_le20 n hn
  rw [← Lib.decDigits_length] at this
  rcases h with ⟨rfl, rfl⟩ | ⟨_, _, e⟩ | ⟨hs, h0, e⟩
  · simp
  · rw [e, List.length_append] at this; omega
  · rw [e] at this; exact this
theorem conv1s (w : World) (d : Nat) (hd : d < 10) : Sem.run Tryd.prog (convert 84 9 (.slice (some ⟨w.heap.size, 0, none⟩) 1 1)) (w.alloc (.cells #[.int .u8 (48 + (d : Int))] 5)) = .ok (.string (bs [UInt8.ofNat (48 + d)])) (w.alloc (.cells #[.int .u8 (48 + (d : Int))] 5)) := by
  have hb : Lib.Bytes (w.alloc (.cells #[.int .u8 (48 + (d : Int))] 5)) w.heap.size 0 (bs [UInt8.ofNat (48 + d)]) := by
    intro i hi
    have h0 : i = 0 := by
      have : i < 1 := hi
      omega
    subst h0
    have e : ((bs [UInt8.ofNat (48 + d)])[0]'hi).toNat = 48 + d := by
      show (UInt8.ofNat (48 + d)).toNat = 48 + d
      rw [UInt8.toNat_ofNat']
      omega
    rw [e]
    simp
  exact Lib.run_convert_whole (P := Tryd.prog) _ 84 5 9 Tryd.underlying84 Tryd.underlying5 Tryd.underlying9 w.heap.size 0 (bs [UInt8.ofNat (48 + d)]) hb 1
theorem bs_cons (a : UInt8) (s : List UInt8) : bs [a] ++ bs s = bs (a :: s) := by
  apply ByteArray.ext
  apply Array.toList_inj.1
  simp [bs]
def strE : Value → Nat
  | .string b => if b.size = 0 then 1 else 0
  | _ => 0
theorem strE_cons (c : UInt8) (s : List UInt8) : strE (.string (bs (c :: s))) = 0 := by
  show (if (bs (c :: s)).size = 0 then 1 else 0) = 0
  rw [bs_size, if_neg (by simp)]
/-- What Number answers. -/
def NuP (t : List UInt8) (w : World) (e : Ending) (w' : World) : Prop :=
  Below w.heap.size w w' ∧ ((∃ n, numM t = some n ∧ e = .returned (.tuple #[.int .i64 n, .bool true])) ∨ (numM t = none ∧ ∃ n, e = .returned (.tuple #[.int .i64 n, .bool false])))
theorem ret_boolC {a b : Bool} (h : a = b) : Ending.returned (.bool a) = .returned (.bool b) := by rw [h]
end Go.Proofs.YtdknejmhlfpdfaaDoor
