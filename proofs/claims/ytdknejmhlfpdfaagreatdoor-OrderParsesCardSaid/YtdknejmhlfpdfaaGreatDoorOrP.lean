/-
  rewindref18: its words, its numbers.
-/
import Derived.Test.YtdknejmhlfpdfaaGreatDoorOrS
import Derived.Test.YtdknejmhlfpdfaaGreatDoorOrD
import Derived.Test.YtdknejmhlfpdfaaGreatDoorRefHas
namespace Go.Proofs.YtdknejmhlfpdfaaGreatDoor
open Go.RowKit

def kwV : Array Value := #[Value.string (bs (kwB 0)), .string (bs (kwB 1)), .string (bs (kwB 2)), .string (bs (kwB 3)), .string (bs (kwB 4)), .string (bs (kwB 5)), .string (bs (kwB 6)), .string (bs (kwB 7)), .string (bs (kwB 8)), .string (bs (kwB 9)), .string (bs (kwB 10)), .string (bs (kwB 11)), .string (bs (kwB 12)), .string (bs (kwB 13)), .string (bs (kwB 14)), .string (bs (kwB 15)), .string (bs (kwB 16)), .string (bs (kwB 17)), .string (bs (kwB 18)), .string (bs (kwB 19)), .string (bs (kwB 20))]
theorem kwV_get : ∀ i : Fin 21, kwV[i.1]? = some (.string (bs (kwB i.1))) := by
  intro ⟨i, hi⟩
  have : i = 0 ∨ i = 1 ∨ i = 2 ∨ i = 3 ∨ i = 4 ∨ i = 5 ∨ i = 6 ∨ i = 7 ∨ i = 8 ∨ i = 9 ∨ i = 10 ∨ i = 11 ∨ i = 12 ∨ i = 13 ∨ i = 14 ∨ i = 15 ∨ i = 16 ∨ i = 17 ∨ i = 18 ∨ i = 19 ∨ i = 20 := by omega
  rcases this with rfl | rfl | rfl | rfl | rfl | rfl | rfl | rfl | rfl | rfl | rfl | rfl | rfl | rfl | rfl | rfl | rfl | rfl | rfl | rfl | rfl <;> rfl
set_option maxRecDepth 100000 in
set_option maxHeartbeats 1000000 in
theorem ordWords_calls (w : World) : Calls Tryz.prog 15 #[] w fun e w' => e = .returned (.slice (some ⟨w.heap.size, 0, none⟩) 21 21) ∧ w.alloc (.cells kwV 9) = w' := by
  go_enter Tryz.func15, Tryz.ntmps15
  go_wp2
  go_ret
  exact ⟨rfl, rfl⟩
theorem kwV_cell (w : World) (k : Nat) (hk : k < 21) : (w.alloc (.cells kwV 9)).cell? ⟨w.heap.size, k, none⟩ = some (.string (bs (kwB k))) := by
  rw [cellC (heapOne w kwV 9)]
  exact kwV_get ⟨k, hk⟩
/-- What number answers. -/
def NoP (t : List UInt8) (w : World) (e : Ending) (w' : World) : Prop :=
  Below w.heap.size w w' ∧ ((∃ n, numO t = some n ∧ e = .returned (.tuple #[.int .i64 n, .bool true])) ∨ (numO t = none ∧ ∃ n, e = .returned (.tuple #[.int .i64 n, .bool false])))
set_option maxRecDepth 100000 in
set_option maxHeartbeats 1000000 in
theorem ordNumber_calls (t : List UInt8) (ht : t.length ≤ 100000) (w : World) : Calls Tryz.prog 16 #[.string (bs t)] w (NoP t w) := by
  have HN := Lib.hid (number_calls t (by omega) w)
  have HO : Hid (numO t = match numM t with | some n => if 0 ≤ n ∧ n ≤ 999999 then some n else none | none => none) := Lib.hid rfl
  go_enter Tryz.func16, Tryz.ntmps16
  go_wp2_with fail
  refine HN.out.mono ?_
  rintro e w1 ⟨hB, h⟩
  have HB := Lib.hid hB
  clear hB
  rcases h with ⟨n, hn, rfl⟩ | ⟨hn, n, rfl⟩
  · have hO := HO.out
    rw [hn] at hO
    simp only at hO
    by_cases h0 : 0 ≤ n
    · by_cases h1 : n ≤ 999999
      · rw [if_pos ⟨h0, h1⟩] at hO
        have HR := Lib.hid hO
        clear hO hn
        go_wp2
        exact bodyPost_ret (v := .tuple #[.int .i64 n, .bool true]) (by simp [results, Tryz.f16, go_sem]) rfl ⟨HB.out, .inl ⟨n, HR.out, rfl⟩⟩
      · rw [if_neg (fun h => h1 h.2)] at hO
        have HR := Lib.hid hO
        have d1 : decide (n ≤ 999999) = false := decide_eq_false h1
        clear hO hn h1
        go_wp2
        exact bodyPost_ret (v := .tuple #[.int .i64 n, .bool false]) (by simp [results, Tryz.f16, go_sem]) rfl ⟨HB.out, .inr ⟨HR.out, n, rfl⟩⟩
    · rw [if_neg (fun h => h0 h.1)] at hO
      have HR := Lib.hid hO
      have d1 : decide (0 ≤ n) = false := decide_eq_false h0
      clear hO hn h0
      go_wp2
      exact bodyPost_ret (v := .tuple #[.int .i64 n, .bool false]) (by simp [results, Tryz.f16, go_sem]) rfl ⟨HB.out, .inr ⟨HR.out, n, rfl⟩⟩
  · have hO := HO.out
    rw [hn] at hO
    have HR := Lib.hid hO
    clear hO hn
    go_wp2
    exact bodyPost_ret (v := .tuple #[.int .i64 n, .bool false]) (by simp [results, Tryz.f16, go_sem]) rfl ⟨HB.out, .inr ⟨HR.out, n, rfl⟩⟩

end Go.Proofs.YtdknejmhlfpdfaaGreatDoor
