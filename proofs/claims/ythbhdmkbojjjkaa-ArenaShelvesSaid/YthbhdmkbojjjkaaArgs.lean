/-
  Arguments that came in: slices of bytes, of texts.
-/
import Derived.WalkKit
import Derived.WalkSpells
import Derived.Below
import Derived.Test.YthbhdmkbojjjkaaRows
namespace Go.Proofs.Ythbhdmkbojjjkaa
open Go.RowKit

/-- A slice value reads as the bytes zs, in a block below B. -/
def ByAt (w : World) (B : Nat) (A : Option Addr) (n : Nat) (zs : List Int) : Prop :=
  zs.length = n ∧ (0 < n → ∃ b off, A = some ⟨b, off, none⟩ ∧ b < B ∧ ∀ i (h : i < zs.length), w.cell? ⟨b, off + i, none⟩ = some (.int .u8 zs[i]))
theorem ByAt.below {w w' : World} {B B' : Nat} {A : Option Addr} {n : Nat} {zs : List Int} (h : ByAt w B A n zs) (hb : Below B' w w') (hB : B ≤ B') : ByAt w' B A n zs :=
  ⟨h.1, fun hn => by
    obtain ⟨b, off, rfl, hlt, hc⟩ := h.2 hn
    exact ⟨b, off, rfl, hlt, fun i hi => (hb.cell (p := ⟨b, off + i, none⟩) (by simp; omega)).trans (hc i hi)⟩⟩
theorem ByAt.get {w : World} {B : Nat} {A : Option Addr} {n : Nat} {zs : List Int} (h : ByAt w B A n zs) (i : Nat) (hi : i < n) : ∃ b off, A = some ⟨b, off, none⟩ ∧ b < B ∧ ∃ h : i < zs.length, w.cell? ⟨b, off + i, none⟩ = some (.int .u8 zs[i]) := by
  obtain ⟨b, off, e, hlt, hc⟩ := h.2 (by omega)
  have hx : i < zs.length := by rw [h.1]; exact hi
  exact ⟨b, off, e, hlt, hx, hc i hx⟩
/-- A slice value reads as the texts ss, in a block below B. -/
def StsAt (w : World) (B : Nat) (A : Option Addr) (n : Nat) (ss : List ByteArray) : Prop :=
  ss.length = n ∧ (0 < n → ∃ b off, A = some ⟨b, off, none⟩ ∧ b < B ∧ ∀ i (h : i < ss.length), w.cell? ⟨b, off + i, none⟩ = some (.string ss[i]))
theorem StsAt.below {w w' : World} {B B' : Nat} {A : Option Addr} {n : Nat} {ss : List ByteArray} (h : StsAt w B A n ss) (hb : Below B' w w') (hB : B ≤ B') : StsAt w' B A n ss :=
  ⟨h.1, fun hn => by
    obtain ⟨b, off, rfl, hlt, hc⟩ := h.2 hn
    exact ⟨b, off, rfl, hlt, fun i hi => (hb.cell (p := ⟨b, off + i, none⟩) (by simp; omega)).trans (hc i hi)⟩⟩
theorem StsAt.get {w : World} {B : Nat} {A : Option Addr} {n : Nat} {ss : List ByteArray} (h : StsAt w B A n ss) (i : Nat) (hi : i < n) : ∃ b off, A = some ⟨b, off, none⟩ ∧ b < B ∧ ∃ h : i < ss.length, w.cell? ⟨b, off + i, none⟩ = some (.string ss[i]) := by
  obtain ⟨b, off, e, hlt, hc⟩ := h.2 (by omega)
  have hx : i < ss.length := by rw [h.1]; exact hi
  exact ⟨b, off, e, hlt, hx, hc i hx⟩

end Go.Proofs.Ythbhdmkbojjjkaa
