/-
  The reference's place behind blanks.
-/
import Derived.Test.YtdknejmhlfpdfaaDoorTake
import Derived.Deep.LoopGhost
namespace Go.Proofs.YtdknejmhlfpdfaaDoor
open Go.RowKit

theorem bytes_ne (c : UInt8) (n : Nat) (hn : n < 256) (h : c ≠ UInt8.ofNat n) : ((c.toNat : Int) == (n : Int)) = false ∧ ((c.toNat : Int) != (n : Int)) = true := by
  have : ¬ (c.toNat : Int) = (n : Int) := fun e => h (by apply UInt8.toNat_inj.1; simp; omega)
  exact ⟨by rw [beq_eq_false_iff_ne]; exact this, by rw [bne_iff_ne]; exact this⟩
theorem isBl_false (c : UInt8) (h : isBl c = false) : ((c.toNat : Int) == 32) = false ∧ ((c.toNat : Int) == 9) = false ∧ ((c.toNat : Int) == 10) = false ∧ ((c.toNat : Int) == 13) = false := by
  rw [isBl_int] at h; simpa [and_assoc] using h

end Go.Proofs.YtdknejmhlfpdfaaDoor
