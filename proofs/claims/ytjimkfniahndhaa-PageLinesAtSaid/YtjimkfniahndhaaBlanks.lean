/-
  page.blanks: a text's bytes, all of them blanked, in a new row.
-/
import Derived.Test.YtjimkfniahndhaaSpans
import Derived.Laws.MakeOwn
namespace Go.Proofs.Ytjimkfniahndhaa
open Go.RowKit

def blankB (c : UInt8) : UInt8 := if c = 10 then 10 else 32
def byteV (c : UInt8) : Value := .int .u8 c.toNat

theorem Try.info5 : (Try.prog.info? 5).map (fun i => (i.zero, i.size, i.bytes)) = some (some (.int .u8 0), 1, 1) := by kernel_rfl

theorem make5 (n : Nat) (hn : n ≤ 1000) : ∃ M : Array Value, M.size = n ∧ ∀ W : World, (Instr.makeSlice 49 (.int .i64 (n : Int)) (.int .i64 (n : Int))).run Try.prog W = .ok (.slice (some ⟨W.heap.size, 0, none⟩) n n) (W.alloc (.cells M 5)) := by
  obtain ⟨i0, hi, hz0, hz1, hz2⟩ := info_parts Try.info5
  refine ⟨madeCells (Value.int .u8 0).cells (((n : Nat) : Int).toNat * i0.size), by rw [size_madeCells, hz1]; simp, fun W => ?_⟩
  have h := run_make (P := Try.prog) W 49 5 i0 (.int .u8 0) Try.underlying49 hi hz0 .i64 .i64 (n : Int) (n : Int) (by omega) (by omega) (by rw [hz2]; omega) (by omega)
  simpa using h

theorem row_cell {w : World} {R : Array Value} {t : TypeId} {k : Nat} {v : Value} (h : R[k]? = some v) : (w.alloc (.cells R t)).cell? ⟨w.heap.size, k, none⟩ = some v := by
  have := heap_alloc_new w (.cells R t)
  simp only [World.cell?, this, h]
  simp
theorem row_frozen {w : World} {R : Array Value} {t : TypeId} {k : Nat} : (w.alloc (.cells R t)).frozen? ⟨w.heap.size, k, none⟩ = false := by
  have := heap_alloc_new w (.cells R t)
  simp only [World.frozen?, this]
  simp

def BlankTo (s : ByteArray) (k : Nat) (R : Array Value) : Prop := R.size = s.size ∧ ∀ j (h : j < s.size), j < k → R[j]? = some (byteV (blankB s[j]))

theorem blankTo_step {s : ByteArray} {k : Nat} {R : Array Value} (h : BlankTo s k R) (hk : k < s.size) {R' : Array Value} (e : R' = R.setIfInBounds k (byteV (blankB s[k]))) : BlankTo s (k + 1) R' := by
  subst e
  refine ⟨by simpa using h.1, fun j hj hjk => ?_⟩
  by_cases e : j = k
  · subst e; simp [h.1, hj]
  · rw [Array.getElem?_setIfInBounds_ne (Ne.symm e)]; exact h.2 j hj (by omega)

set_option maxRecDepth 100000 in
set_option maxHeartbeats 1000000 in
theorem blanks_calls (s : ByteArray) (hs : s.size ≤ 1000) (w : World) :
    Calls Try.prog 26 #[.string s] w fun e w' => e = .returned (.slice (some ⟨w.heap.size, 0, none⟩) s.size s.size) ∧ ∃ R, BlankTo s s.size R ∧ w.alloc (.cells R 5) = w' := by
  obtain ⟨M, hM, hmk⟩ := make5 s.size hs
  have HM := Lib.hid hM
  clear hM
  go_enter Try.func26, Try.ntmps26
  go_wp2
  clear hmk
  go_loopw [10] (fun c wr => ∃ (k : Nat) (R : Array Value), k ≤ s.size ∧ c = .int .i64 k ∧ BlankTo s k R ∧ wr = w.alloc (.cells R 5)) (fun c _ => s.size - (intOf c).toNat)
  case atStart => exact ⟨0, M, Nat.zero_le _, rfl, ⟨HM.out, fun j _ h => absurd h (by omega)⟩, rfl⟩
  case round =>
    obtain ⟨k, R, hk, rfl, hR, rfl⟩ := hrel
    by_cases hlt : k < s.size
    · obtain ⟨v, hv⟩ : ∃ v, R[k]? = some v := ⟨_, Array.getElem?_eq_getElem (by rw [hR.1]; exact hlt)⟩
      have hc : (w.alloc (.cells R 5)).cell? ⟨w.heap.size, k, none⟩ = some v := row_cell hv
      have hf : (w.alloc (.cells R 5)).frozen? ⟨w.heap.size, k, none⟩ = false := row_frozen
      have HR := Lib.hid hR
      have hRs := hR.1
      clear hR hv
      by_cases h10 : s[k] = 10
      · have hcb : ((s[k].toNat : Int) == 10) = true := by simp [h10]
        have HB := Lib.hid (show Value.int .u8 10 = byteV (blankB s[k]) by simp [byteV, blankB, h10])
        clear h10
        go_wp2
        go_roundw
        case rel => exact ⟨k + 1, _, by omega, by go_num, blankTo_step HR.out hlt (by rw [HB.out]), rfl⟩
        case measure => simp [intOf]; omega
      · have hcb : ((s[k].toNat : Int) == 10) = false := by
          rw [beq_eq_false_iff_ne]; intro h; apply h10; apply UInt8.toNat_inj.1; simp; omega
        have HB := Lib.hid (show Value.int .u8 32 = byteV (blankB s[k]) by simp [byteV, blankB, h10])
        clear h10
        go_wp2
        go_roundw
        case rel => exact ⟨k + 1, _, by omega, by go_num, blankTo_step HR.out hlt (by rw [HB.out]), rfl⟩
        case measure => simp [intOf]; omega
    · obtain rfl : k = s.size := by omega
      have HR := Lib.hid hR
      clear hR
      go_wp2
      go_ret
      exact ⟨rfl, R, HR.out, rfl⟩

end Go.Proofs.Ytjimkfniahndhaa
