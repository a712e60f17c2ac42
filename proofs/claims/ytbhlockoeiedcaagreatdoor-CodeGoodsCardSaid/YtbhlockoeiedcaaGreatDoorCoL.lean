/-
  code: slices.Repeat of one int, -1.
-/
import Derived.Test.YtbhlockoeiedcaaGreatDoorCoI
import Derived.Test.YtbhlockoeiedcaaGreatDoorCoX
import Derived.Laws.CopyOwn
import Derived.Deep.RegionLaw
import Derived.IntWalk
import Derived.Deep.AppendLies
namespace Go.Proofs.YtbhlockoeiedcaaGreatDoor
open Go.RowKit

def fillL (m n : Nat) : List Value := List.replicate m (.int .i64 (-1)) ++ List.replicate (n - m) (.int .i64 0)
theorem fillL_len (m n : Nat) (h : m ≤ n) : (fillL m n).length = n := by unfold fillL; simp; omega
theorem fillL_get (m n j : Nat) (hj : j < m) : (fillL m n)[j]? = some (.int .i64 (-1)) := by
  unfold fillL
  rw [List.getElem?_append_left (by simpa using hj), List.getElem?_replicate, if_pos hj]
theorem fillL_all (n : Nat) : fillL n n = intsL (List.replicate n (-1)) := by unfold fillL intsL; simp
theorem fillL_splice (m n k : Nat) (_h : m + k ≤ n) : splice (fillL m n) m (List.replicate k (.int .i64 (-1))) = fillL (m + k) n := by
  have e1 : (fillL m n).take m = List.replicate m (.int .i64 (-1)) := by
    unfold fillL; rw [List.take_append_of_le_length (by simp), List.take_of_length_le (by simp)]
  have e2 : (fillL m n).drop (m + k) = List.replicate (n - (m + k)) (.int .i64 0) := by
    unfold fillL
    rw [List.drop_append, List.drop_eq_nil_of_le (by simp), List.nil_append, List.drop_replicate]
    congr 1
    simp; omega
  unfold splice
  rw [List.length_replicate, e1, e2]
  unfold fillL
  rw [← List.append_assoc, List.replicate_append_replicate]
theorem fillL_zero (n : Nat) : (madeCells (Value.cells (.int .i64 0)) (n * 1)).toList = fillL 0 n := by
  unfold fillL
  apply List.ext_getElem?
  intro i
  by_cases h : i < n
  · simp [madeCells, Value.cells, h, Nat.mod_one]
  · rw [List.getElem?_eq_none (by simp [madeCells]; omega), List.getElem?_eq_none (by simp; omega)]
theorem own_whole {w : World} {base n : Nat} {e : TypeId} {g : Nat} {xs : List Value} (h : w.ownsRow base e 1 (.slice (some ⟨g, 0, none⟩) n n) n xs) : w.heap[g]? = some (.cells xs.toArray e (0, 0)) := by
  rcases h.2 with ⟨h0, _⟩ | ⟨g', cap, cur, hv, hb, hg, h1, h2, h3, h4⟩
  · cases h0
  · injection hv with e1 e2 e3
    injection e1 with e1
    injection e1 with e1
    subst e1
    have hl : cur.toList.take (n * 1) = cur.toList := List.take_of_length_le (by rw [Array.length_toList]; omega)
    rw [hl] at h4
    rw [hg, ← h4]
theorem oneCellAt {w : World} {g : Nat} {u : Value} (h : w.cell? ⟨g, 0, none⟩ = some u) : ∀ j v, [u][j]? = some v → w.cell? ((⟨g, 0, none⟩ : Addr).add j) = some v := by
  intro j v hv
  match j with
  | 0 => simp at hv; subst hv; simpa [Addr.add] using h
  | j + 1 => simp at hv
theorem rowAt {w : World} {g m k : Nat} {u : Value} (h : ∀ j, j < m → w.cell? ⟨g, j, none⟩ = some u) (hk : k ≤ m) : ∀ j v, (List.replicate k u)[j]? = some v → w.cell? ((⟨g, 0, none⟩ : Addr).add j) = some v := by
  intro j v hv
  rw [List.getElem?_replicate] at hv
  split at hv
  · rename_i hj
    obtain rfl := Option.some.inj hv
    rw [Addr.add_lit, Nat.zero_add]
    exact h j (by omega)
  · cases hv
theorem below_grown0 {w w' : World} (h : w.grownBy w' none) : Below w.heap.size w w' := ⟨h.os, h.tape, h.output, h.size, fun k hk => h.block k hk (by simp)⟩
def RepP (n : Nat) (w : World) (e : Ending) (w' : World) : Prop :=
  ∃ g, e = .returned (.slice (some ⟨g, 0, none⟩) n n) ∧ w.heap.size ≤ g ∧ w'.heap[g]? = some (.cells (intsL (List.replicate n (-1))).toArray 3 (0, 0)) ∧ Below w.heap.size w w'

set_option maxRecDepth 100000 in
set_option maxHeartbeats 2000000 in
theorem repeat_calls (n g : Nat) (w : World) (h1 : 1 ≤ n) (hn : n ≤ 100000) (hc : w.cell? ⟨g, 0, none⟩ = some (.int .i64 (-1))) :
    Calls Tryz.prog 25 #[.slice (some ⟨g, 0, none⟩) 1 1, .int .i64 (n : Int)] w (RepP n w) := by
  obtain ⟨i0, hi0, hz0, hz1, hz2⟩ := info_parts Tryz.infoInt
  have hsz : (Tryz.prog.info? 3).map (·.size) = some 1 := by rw [hi0]; simp [hz1]
  have HM : Hid (∀ W, Calls Tryz.prog 50 #[.int .u64 1, .int .u64 (n : Int)] W fun e w' => e = .returned (.tuple #[.int .u64 0, .int .u64 (n : Int)]) ∧ W = w') := Lib.hid fun W => by
    have h := Tryz.mulW 1 n (by omega) (by omega) W
    have e1 : 1 * n / 18446744073709551616 = 0 := by rw [Nat.one_mul]; exact Nat.div_eq_of_lt (by omega)
    have e2 : 1 * n % 18446744073709551616 = n := by rw [Nat.one_mul]; exact Nat.mod_eq_of_lt (by omega)
    rw [e1, e2] at h
    exact h.mono fun _ _ hv => ⟨hv.1, hv.2.symm⟩
  have hlt := ltC hc
  have hn0 : decide ((n : Int) < 0) = false := decide_eq_false (by omega)
  have hn1 : (0 : Int) ≤ (n : Int) := by omega
  have hn2 : (n : Int) ≤ 100000 := by omega
  have hn3 : decide ((9223372036854775807 : Int) < (n : Int)) = false := decide_eq_false (by omega)
  go_enter Tryz.func25, Tryz.ntmps25
  go_wp2_with (first | (go_at_call 50; refine (HM.out _).mono ?_; rintro e w' ⟨rfl, rfl⟩) | (at_make; refine wpList_make_full _ rfl _ _ 28 rfl w.heap.size 3 i0 (.int .i64 0) 1 Tryz.underlying28 hi0 hz0 hz1 .i64 .i64 (n : Int) (n : Int) n (by rfl) (by rfl) rfl rfl (by rw [hz2]; omega) (by unfold maxLen; omega) (Nat.le_refl _) ?_; intro w1 hown hgrow; have HO := Lib.hid (own_whole hown); have HG := Lib.hid hgrow; have hc1 := (hgrow.cell_far ⟨g, 0, none⟩ hlt (by simp)).trans hc; have hlt1 : g < w1.heap.size := Nat.lt_of_lt_of_le hlt hgrow.size; clear hown hgrow) | (refine wpList_copy_splice rfl (.tmp 31) (.tmp 32) 28 28 rfl 3 Tryz.underlying28 hsz (some ⟨w.heap.size, 0, none⟩) (some ⟨g, 0, none⟩) n n 1 1 (by rfl) (by rfl) w.heap.size 0 (fillL 0 n) 3 (by rw [← fillL_zero]; exact HO.out) [.int .i64 (-1)] (by show 1 = min 1 n; omega) (fun _ => ⟨rfl, ⟨g, 0, none⟩, rfl, oneCellAt hc1⟩) (by rw [fillL_len _ _ (by omega)]; simp; omega) (by simp [Value.oneCell']) w.heap.size w (below_grown0 HG.out) (Nat.le_refl _) ?_; intro w2 H2 hB2; have HB2 := Lib.hid hB2; clear hB2))
  have H2' : Hid (w2.heap[w.heap.size]? = some (.cells (fillL 1 n).toArray 3 (0, 0))) := Lib.hid (by
    rw [H2.out, show [Value.int .i64 (-1)] = List.replicate 1 (.int .i64 (-1)) from rfl, fillL_splice 0 n 1 (by omega)])
  clear H2 hc1 hlt1 HG HO
  go_loopw [8] (fun v wr => ∃ m : Nat, 1 ≤ m ∧ m ≤ n ∧ v = .int .i64 m ∧ Hid (wr.heap[w.heap.size]? = some (.cells (fillL m n).toArray 3 (0, 0))) ∧ Hid (Below w.heap.size w wr)) (fun v _ => n - (intOf v).toNat)
  case atStart => exact ⟨1, by omega, h1, rfl, H2', HB2⟩
  case round =>
    obtain ⟨m, hm1, hmn, rfl, HM2, HBr⟩ := hrel
    clear HB2 H2'
    by_cases hlt : m < n
    · obtain ⟨k, hkd⟩ : ∃ k, k = min m (n - m) := ⟨_, rfl⟩
      have hk1 : k ≤ m ∧ k ≤ n - m ∧ 1 ≤ k := by omega
      have HKN : Hid (List.length (List.replicate k (Value.int .i64 (-1))) = Nat.min m (n - m)) := Lib.hid (by rw [List.length_replicate, hkd])
      have HK : Hid (List.length (List.replicate k (Value.int .i64 (-1))) = k) := Lib.hid List.length_replicate
      clear hkd
      have b0 : (0 : Int) ≤ (m : Int) := by omega
      have b1 : (m : Int) < (n : Int) := by omega
      have b2 : (m : Int) ≤ (n : Int) := by omega
      have b3 : ¬ n = m := by omega
      have HSP := Lib.hid (fillL_splice m n k (by omega))
      have HNX : Hid ((m : Int) + (k : Int) = ((m + k : Nat) : Int)) := Lib.hid (by omega)
      have hsum : IntKind.i64.wrap ((m : Int) + (k : Int)) = ((m + k : Nat) : Int) := by rw [← HNX.out]; exact IntWalk.i64_in _ (by omega)
      have HG9 : Hid (wr.drew.heap[w.heap.size]? = some (.cells (fillL m n).toArray 3 (0, 0))) := Lib.hid HM2.out
      have HBd := Lib.hid HBr.out.drew
      have HCL : Hid (∀ j, j < m → wr.drew.cell? ⟨w.heap.size, j, none⟩ = some (.int .i64 (-1))) := Lib.hid (fun j (hj : j < m) => (cellC HG9.out j).trans (by rw [List.getElem?_toArray, fillL_get m n j hj] : (fillL m n).toArray[j]? = some (.int .i64 (-1))))
      go_wp2
      go_region_law ((refine step_copy_splice rfl (.tmp 41) (.tmp 44) 28 28 rfl 3 Tryz.underlying28 hsz (some ⟨w.heap.size, m, none⟩) (some ⟨w.heap.size, 0, none⟩) (n - m) (n - m) m n (by go_simp) (by go_simp) w.heap.size m (fillL m n) 3 HG9.out (List.replicate k (.int .i64 (-1))) HKN.out (fun _ => ⟨rfl, ⟨w.heap.size, 0, none⟩, rfl, rowAt HCL.out hk1.1⟩) (by rw [HK.out, fillL_len _ _ (by omega)]; omega) (fun v hv => by rw [List.eq_of_mem_replicate hv]; rfl) w.heap.size w HBd.out (Nat.le_refl _) ?_; intro w4 hg4 hb4; rw [HK.out]; have HB4 := Lib.hid hb4; clear hb4))
      all_goals
        simp only [Act.put, List.getElem_toArray, List.getElem_cons_succ, List.getElem_cons_zero, List.setIfInBounds_toArray, List.set_cons_zero, List.set_cons_succ]
        go_roundw
        case rel => ((repeat apply Exists.intro); exact ⟨⟨m + k, by omega, by omega, by go_num, Lib.hid (by rw [hg4.out, HSP.out]), HB4⟩, rfl⟩)
        case measure => simp [intOf]; omega
    · obtain rfl : m = n := by omega
      clear hlt
      go_wp2
      go_ret
      exact ⟨w.heap.size, rfl, Nat.le_refl _, by rw [HM2.out, fillL_all], HBr.out⟩
end Go.Proofs.YtbhlockoeiedcaaGreatDoor
