/-
  The statements of layer 18, walked upon what the document's functions answer: what is asked of these; the example; OrderParses.
-/
import Derived.Test.YtdknejmhlfpdfaaGreatDoorOrQ
import Derived.Test.YtdknejmhlfpdfaaGreatDoorOrT
namespace Go.Proofs.YtdknejmhlfpdfaaGreatDoor
open Go.RowKit

def ordV (o : OrdM) : Value := .agg #[.int .i64 o.kind, .string (bs o.name), .int .i64 o.num]
def GoodX (o : OrdM) : Prop := i64 o.kind ∧ i64 o.num ∧ o.name.length ≤ 1000
/-- What Parse, Good, Text and Words answer, in a world where X holds. -/
def PaC (X : World → Prop) : Prop := ∀ (t : List UInt8), t.length ≤ 100000 → ∀ w, X w → Calls Tryz.prog 6 #[.string (bs t)] w fun e w' => e = .returned (.tuple #[ordV (ordM t).1, .int .i64 ((ordM t).2 : Int)]) ∧ Below w.heap.size w w'
def GoC (X : World → Prop) : Prop := ∀ o, GoodX o → ∀ w, X w → Calls Tryz.prog 9 #[ordV o] w fun e w' => (∃ b, e = .returned (.bool b) ∧ (b = true ↔ GoodO o)) ∧ Below w.heap.size w w'
def TeC (X : World → Prop) : Prop := ∀ o, GoodX o → ∀ w, X w → Calls Tryz.prog 8 #[ordV o] w fun e w' => (∃ s, e = .returned (.string (bs s)) ∧ (GoodO o → s = txtO o) ∧ (¬ GoodO o → s = [])) ∧ Below w.heap.size w w'
def KeC (X : World → Prop) : Prop := ∀ w w' B, X w → Below B w w' → w.heap.size ≤ B → X w'
theorem GoodO.x {o : OrdM} (h : GoodO o) : GoodX o := by
  have hh := h
  obtain ⟨⟨h0, h1⟩, h2⟩ := h
  split at h2
  · obtain ⟨e, n0, n1⟩ := h2
    exact ⟨by unfold i64; omega, by unfold i64; omega, by rw [e]; simp⟩
  · split at h2
    · rename_i _ hk
      obtain ⟨_, n0, n1, hl⟩ := h2
      refine ⟨by unfold i64; omega, by unfold i64; omega, ?_⟩
      unfold txtO at hl
      rw [if_neg (by omega), if_pos hk] at hl
      simp only [placeT, List.length_append, List.length_cons] at hl
      omega
    · obtain ⟨e, e2⟩ := h2
      exact ⟨by unfold i64; omega, by unfold i64; omega, by rw [e]; simp⟩
/-- The line of the example. -/
def exL : List UInt8 := [112, 114, 105, 110, 116, 32, 97, 91, 51, 93]
theorem itoa3 : Lib.itoa 3 = [51] := by
  rw [itoa_pos (by decide), show Int.toNat 3 = 3 from rfl, decD_small (by omega)]
  rfl
set_option maxRecDepth 100000 in
theorem ex_good : GoodO ⟨14, [97], 3⟩ ∧ txtO ⟨14, [97], 3⟩ = exL := by
  have ht : txtO ⟨14, [97], 3⟩ = exL := by
    unfold txtO placeT
    rw [if_neg (by decide), if_pos (by decide)]
    simp only
    rw [if_pos (by decide), itoa3]
    decide
  refine ⟨⟨by decide, ?_⟩, ht⟩
  rw [if_neg (by decide), if_pos (by decide)]
  exact ⟨by decide, by decide, by decide, by rw [ht]; decide⟩
theorem ex_ord : ordM exL = (⟨14, [97], 3⟩, 0) := by rw [← ex_good.2]; exact (ord_txt ex_good.1).1
set_option maxRecDepth 100000 in
set_option maxHeartbeats 1000000 in
theorem ordAwake_calls {X : World → Prop} (HP : PaC X) (w : World) (hX : X w) : Calls Tryz.prog 5 #[] w fun e w' => e = .returned (.bool true) ∧ Below w.heap.size w w' := by
  have HC := Lib.hid (HP exL (by decide) w hX)
  rw [ex_ord] at HC
  have ha : (bs [97]).toList = [97] := by rw [ByteArray.toList_eq, bs_toList]
  unfold ordV at HC
  go_enter Tryz.func5, Tryz.ntmps5
  go_wp2_with fail
  refine HC.out.mono ?_
  rintro e w1 ⟨rfl, hB1⟩
  have HB1 := Lib.hid (hB1.alloc hB1.size (.cells #[.int .i64 14, .string (bs [97]), .int .i64 3] 24))
  have HX1 := Lib.hid (heapOne w1 #[.int .i64 14, .string (bs [97]), .int .i64 3] 24)
  clear hB1
  go_wp2_with fail
  go_ret
  exact ⟨rfl, HB1.out⟩

end Go.Proofs.YtdknejmhlfpdfaaGreatDoor
