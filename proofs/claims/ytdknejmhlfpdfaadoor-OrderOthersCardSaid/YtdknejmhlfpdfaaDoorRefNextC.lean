/-
  The reference's Next at a sign.
-/
import Derived.Test.YtdknejmhlfpdfaaDoorRefHas
namespace Go.Proofs.YtdknejmhlfpdfaaDoor
open Go.RowKit

theorem strAt_two (w : World) (o o2 : Obj) : StrAt (((w.alloc o).alloc (.cells #[Value.string ⟨#[61, 61]⟩, Value.string ⟨#[33, 61]⟩, Value.string ⟨#[60, 61]⟩, Value.string ⟨#[62, 61]⟩, Value.string ⟨#[38, 38]⟩, Value.string ⟨#[124, 124]⟩] 9)).alloc o2) (w.heap.size + 1 + 1) (some ⟨w.heap.size + 1, 0, none⟩) 6 twoL := by
  have h := strAt_new (w.alloc o) #[Value.string ⟨#[61, 61]⟩, Value.string ⟨#[33, 61]⟩, Value.string ⟨#[60, 61]⟩, Value.string ⟨#[62, 61]⟩, Value.string ⟨#[38, 38]⟩, Value.string ⟨#[124, 124]⟩] 9 twoL 6 rfl (fun i h => by
    have : i = 0 ∨ i = 1 ∨ i = 2 ∨ i = 3 ∨ i = 4 ∨ i = 5 := by simp [twoL] at h; omega
    rcases this with rfl | rfl | rfl | rfl | rfl | rfl <;> rfl)
  rw [World.size_alloc] at h
  exact h.below ((Below.refl _ _).alloc (Nat.le_refl _) o2) (by simp)
theorem strAt_one (w : World) (o o2 : Obj) : StrAt (((w.alloc o).alloc o2).alloc (.cells #[Value.string ⟨#[43]⟩, Value.string ⟨#[45]⟩, Value.string ⟨#[42]⟩, Value.string ⟨#[47]⟩, Value.string ⟨#[37]⟩, Value.string ⟨#[60]⟩, Value.string ⟨#[62]⟩, Value.string ⟨#[33]⟩, Value.string ⟨#[61]⟩, Value.string ⟨#[40]⟩, Value.string ⟨#[41]⟩, Value.string ⟨#[123]⟩, Value.string ⟨#[125]⟩, Value.string ⟨#[91]⟩, Value.string ⟨#[93]⟩, Value.string ⟨#[44]⟩, Value.string ⟨#[59]⟩] 9)) (w.heap.size + 1 + 1 + 1) (some ⟨w.heap.size + 1 + 1, 0, none⟩) 17 oneL := by
  have h := strAt_new ((w.alloc o).alloc o2) #[Value.string ⟨#[43]⟩, Value.string ⟨#[45]⟩, Value.string ⟨#[42]⟩, Value.string ⟨#[47]⟩, Value.string ⟨#[37]⟩, Value.string ⟨#[60]⟩, Value.string ⟨#[62]⟩, Value.string ⟨#[33]⟩, Value.string ⟨#[61]⟩, Value.string ⟨#[40]⟩, Value.string ⟨#[41]⟩, Value.string ⟨#[123]⟩, Value.string ⟨#[125]⟩, Value.string ⟨#[91]⟩, Value.string ⟨#[93]⟩, Value.string ⟨#[44]⟩, Value.string ⟨#[59]⟩] 9 oneL 17 rfl (fun i h => by
    have : i = 0 ∨ i = 1 ∨ i = 2 ∨ i = 3 ∨ i = 4 ∨ i = 5 ∨ i = 6 ∨ i = 7 ∨ i = 8 ∨ i = 9 ∨ i = 10 ∨ i = 11 ∨ i = 12 ∨ i = 13 ∨ i = 14 ∨ i = 15 ∨ i = 16 := by simp [oneL] at h; omega
    rcases this with rfl | rfl | rfl | rfl | rfl | rfl | rfl | rfl | rfl | rfl | rfl | rfl | rfl | rfl | rfl | rfl | rfl <;> rfl)
  rw [World.size_alloc, World.size_alloc] at h
  exact h
theorem two_none (c : UInt8) : isTwo [c] = false := by simp [isTwo, twoL]

end Go.Proofs.YtdknejmhlfpdfaaDoor
