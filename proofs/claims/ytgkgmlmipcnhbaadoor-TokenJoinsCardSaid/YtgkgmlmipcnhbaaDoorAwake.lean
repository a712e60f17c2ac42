/-
  The statements' own small fact: the document's example.
-/
import Derived.Test.YtgkgmlmipcnhbaaDoorAll
namespace Go.Proofs.YtgkgmlmipcnhbaaDoor
open Go.RowKit

theorem toksF_len (t : List UInt8) : ∀ n k, k ≤ t.length → (toksF n t k).1.length + k ≤ t.length + 1 := by
  intro n
  induction n with
  | zero => intro k hk; simp [toksF]; omega
  | succ n ih =>
    intro k hk
    rw [toksF]
    split
    · simp; omega
    · split
      · simp; omega
      · rename_i h0
        have h1 := nextT_le t k hk
        have h2 := nextT_kind t k h0
        have := ih (nextT t k).hi (by omega)
        simp; omega
theorem toks_len (s : ByteArray) : (toks s.data.toList 0).1.length ≤ s.size + 1 := by
  have := toksF_len s.data.toList (s.data.toList.length - 0 + 1) 0 (Nat.zero_le _)
  rw [sizeL] at this
  unfold toks
  rw [sizeL]
  omega

abbrev exText : ByteArray := ⟨#[120, 60, 61, 49, 48]⟩
theorem ex_toks : toks exText.data.toList 0 = ([⟨1, 0, 1⟩, ⟨4, 1, 3⟩, ⟨2, 3, 5⟩, ⟨0, 5, 5⟩], none) := by decide

set_option maxHeartbeats 1000000 in
theorem awake_calls (w : World) (hw : Tabs w) : Calls Tryd.prog 12 #[] w fun e w' => e = .returned (.bool true) ∧ Below w.heap.size w w' := by
  have hp : Calls Tryd.prog 13 #[.string exText] w fun e w' => ∃ A c b off, A = some ⟨b, off, none⟩ ∧ e = .returned (.tuple #[.slice A 4 c, .int .i64 0, .int .i64 0]) ∧ w'.cell? ⟨b, off + 3, none⟩ = some (.int .i64 4) ∧ w'.cell? ⟨b, off + 9, none⟩ = some (.int .i64 0) ∧ Below w.heap.size w w' := by
    refine (all_calls exText (by decide) w hw).mono fun e w' ⟨hB, h⟩ => ?_
    rw [ex_toks] at h
    rcases h with ⟨p, hp, _⟩ | ⟨_, A, c, he, ht⟩
    · cases hp
    · obtain ⟨b, off, rfl, _, hc⟩ := ht.2 (by simp)
      exact ⟨_, c, b, off, rfl, he, (hc 1 (by simp)).1, (hc 3 (by simp)).1, hB⟩
  have HP := Lib.hid hp
  clear hp
  go_enter Tryd.func12, Tryd.ntmps12
  go_wp2_with fail
  refine HP.out.mono ?_
  rintro e w' ⟨A, c, b, off, rfl, rfl, c1, c3, hB⟩
  go_wp2
  go_ret
  exact ⟨rfl, hB⟩

end Go.Proofs.YtgkgmlmipcnhbaaDoor
