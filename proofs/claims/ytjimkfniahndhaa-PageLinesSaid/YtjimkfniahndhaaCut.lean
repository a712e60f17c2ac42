/-
  page.Cut: the bytes of a span of the text.
-/
import Derived.Test.YtjimkfniahndhaaSort
import Derived.WalkSpells
namespace Go.Proofs.Ytjimkfniahndhaa
open Go.RowKit

set_option maxHeartbeats 400000 in
theorem sclone_calls (s : ByteArray) (hs : s.size ≤ 1000) (w : World) : Calls Try.prog 28 #[.string s] w fun e w' => e = .returned (.string s) ∧ RowKit.Below w.heap.size w w' := by
  have hc := Lib.hid (fun w => clone_calls s hs w)
  go_enter Try.func28, Try.ntmps28
  go_wp2_with (go_at_call 31; refine (hc.out _).mono ?_; rintro e w' ⟨rfl, hB⟩)
  go_ret
  exact ⟨rfl, hB⟩

set_option maxHeartbeats 400000 in
theorem cut_calls (s : ByteArray) (hs : s.size ≤ 1000) (a b : Nat) (hab : a ≤ b) (hb : b ≤ s.size) (w : World) :
    Calls Try.prog 20 #[.string s, .agg #[.int .i64 (a : Int), .int .i64 (b : Int)]] w fun e w' => e = .returned (.string (s.extract a b)) ∧ RowKit.Below w.heap.size w w' := by
  have hg : goodB ((a : Int), (b : Int)) s.size = true := by simp [goodB]; omega
  have hcall := Lib.hid (fun W => good_calls ((a : Int), (b : Int)) s.size W)
  rw [hg] at hcall
  clear hg
  have hcl := Lib.hid (fun w => sclone_calls (s.extract a b) (by simp; omega) w)
  go_enter Try.func20, Try.ntmps20
  go_wp2_with fail
  refine (hcall.out _).mono ?_
  rintro e w1 ⟨rfl, rfl⟩
  go_wp2_with fail
  refine (hcl.out _).mono ?_
  rintro e w2 ⟨rfl, hB⟩
  go_wp2
  go_ret
  exact ⟨rfl, (((RowKit.Below.refl _ w).alloc (Nat.le_refl _) _).alloc (by simp) _).trans (hB.mono (by simp; omega))⟩

end Go.Proofs.Ytjimkfniahndhaa
