/-
  A shelf's places, looked for by a closure: slices.IndexFunc at numbered things, place.
-/
import Derived.Test.YthbhdmkbojjjkaaArBase
namespace Go.Proofs.Ythbhdmkbojjjkaa
open Go.RowKit

theorem place1_calls (a b k : Int) (kb : Nat) (w : World) (hkb : kb < w.heap.size) (hc : w.cell? ⟨kb, 0, none⟩ = some (.int .i64 k)) :
    Calls Try.prog 28 #[.agg #[.int .i64 a, .int .i64 b], .pointer (some ⟨kb, 0, none⟩)] w fun e w' => e = .returned (.bool (a == k)) ∧ w.alloc (.cells #[.int .i64 a, .int .i64 b] 51) = w' := by
  go_enter Try.func28, Try.ntmps28
  go_wp2
  go_ret
  exact ⟨rfl, rfl⟩

set_option maxHeartbeats 1000000 in
theorem index_calls (A : Option Addr) (n c : Nat) (xs : List It) (k : Int) (kb : Nat) (w : World) (hn : n ≤ 100000) (hx : NbAt w A n xs) (hkb : kb < w.heap.size) (hc : w.cell? ⟨kb, 0, none⟩ = some (.int .i64 k)) :
    Calls Try.prog 27 #[.slice A n c, .func (.func 28) #[] #[.pointer (some ⟨kb, 0, none⟩)]] w fun e w' => e = .returned (.int .i64 (plc k xs)) ∧ Below w.heap.size w w' := by
  have HC := Lib.hid hc
  have HX := Lib.hid hx
  clear hc hx
  go_enter Try.func27, Try.ntmps27
  go_wp2
  go_loopw [8] (fun i wr => ∃ j : Nat, j ≤ n ∧ i = .int .i64 j ∧ Hid (∀ t (ht : t < xs.length), t < j → (xs[t]).1 ≠ k) ∧ Below w.heap.size w wr) (fun i _ => n - (intOf i).toNat)
  case atStart => exact ⟨0, by omega, rfl, Lib.hid (by omega), Below.refl _ _⟩
  case round =>
    obtain ⟨j, hj, rfl, HB, hB⟩ := hrel
    have hbs := hB.size
    by_cases hlt : j < n
    · obtain ⟨g, rfl, hg, hcs⟩ := HX.out.2 (by omega)
      have hjl : j < xs.length := by have := HX.out.1; omega
      obtain ⟨c0, c1⟩ := hcs j hjl
      have d0 := (hB.cell (p := ⟨g, j * 2, none⟩) hg).trans c0
      have d1 := (hB.cell (p := ⟨g, j * 2 + 1, none⟩) hg).trans c1
      clear c0 c1 hcs
      have hcall := Lib.hid (place1_calls (xs[j]).1 (xs[j]).2 k kb wr (by omega) ((hB.cell (p := ⟨kb, 0, none⟩) hkb).trans HC.out))
      have HE : Hid ((xs[j]).1 = k ∨ (xs[j]).1 ≠ k) := Lib.hid (Classical.em _)
      have HF : Hid ((xs[j]).1 = k → plc k xs = j) := Lib.hid fun h => plc_at k xs j hjl h fun t ht => HB.out t (by omega) ht
      have HG : Hid ((xs[j]).1 ≠ k → ∀ t (ht : t < xs.length), t < j + 1 → (xs[t]).1 ≠ k) := Lib.hid fun h t ht h' => by
        rcases Nat.lt_or_ge t j with h1 | h1
        · exact HB.out t ht h1
        · obtain rfl : t = j := by omega
          exact h
      generalize hgx : xs[j] = x at d0 d1 hcall HE HF HG
      clear hgx HB
      obtain ⟨xa, xb⟩ := x
      dsimp only at d0 d1 hcall HE HF HG
      rcases HE.out with he | he
      · have hq : (xa == k) = true := by simpa using he
        have HP := Lib.hid (HF.out he)
        rw [hq] at hcall
        clear he HE HF HG hq
        go_wp2_with ((with_reducible refine hcall.out.mono ?_); rintro e w' ⟨rfl, rfl⟩)
        go_ret
        exact ⟨by rw [HP.out]; rfl, hB.alloc (by omega) _⟩
      · have hq : (xa == k) = false := by simpa using he
        have HP := Lib.hid (HG.out he)
        rw [hq] at hcall
        clear he HE HF HG hq
        go_wp2_with ((with_reducible refine hcall.out.mono ?_); rintro e w' ⟨rfl, rfl⟩)
        go_roundw
        case rel => exact ⟨j + 1, by omega, by go_num, HP, hB.alloc (by omega) _⟩
        case measure => simp [intOf]; omega
    · have HP : Hid (plc k xs = -1) := Lib.hid (plc_none k xs fun x hx => by
        obtain ⟨t, ht, rfl⟩ := List.getElem_of_mem hx
        exact HB.out t ht (by have := HX.out.1; omega))
      have hd : decide ((j : Int) < (n : Int)) = false := by simp; omega
      go_wp2
      go_ret
      exact ⟨by rw [HP.out]; rfl, hB⟩

set_option maxHeartbeats 1000000 in
theorem place_calls (b : Nat) (A : Option Addr) (n c : Nat) (xs : List It) (k : Int) (w : World) (hn : n ≤ 100000) (hb : b < w.heap.size) (hc : w.cell? ⟨b, 2, none⟩ = some (.slice A n c)) (hx : NbAt w A n xs) :
    Calls Try.prog 24 #[.pointer (some ⟨b, 0, none⟩), .int .i64 k] w fun e w' => e = .returned (.int .i64 (plc k xs)) ∧ Below w.heap.size w w' := by
  have hcall := Lib.hid (index_calls A n c xs k w.heap.size (w.alloc (.cells #[.int .i64 k] 3)) hn (hx.below ((Below.refl _ _).alloc (Nat.le_refl _) _) (Nat.le_refl _)) (by simp) (by simp))
  clear hx
  go_enter Try.func24, Try.ntmps24
  go_wp2_with ((with_reducible refine hcall.out.mono ?_); rintro e w' ⟨rfl, hB⟩)
  go_ret
  exact ⟨rfl, ((Below.refl _ _).alloc (Nat.le_refl _) _).trans (hB.mono (by simp))⟩

end Go.Proofs.Ythbhdmkbojjjkaa
