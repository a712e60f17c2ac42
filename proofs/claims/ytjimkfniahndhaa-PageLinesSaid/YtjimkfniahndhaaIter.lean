/-
  The iterator of a text's lines (page.lineSpans): it gives each line's number and span, in order, and no more as soon as it is told so.
-/
import Derived.RangeFuncNested
import Derived.RangeFuncBound
import Derived.RangeFuncCalls
import Derived.RangeFuncLeaves
import Derived.Shelf.Abstract
import Derived.Shelf.RegionOpen
import Derived.WalkKit
import Derived.OwnWalkIn
import Derived.TacticsInMore
import Derived.LoopNIn
import Derived.LoopIn
import Derived.Lib.Hide
import Derived.Test.YtjimkfniahndhaaRows
import Derived.Test.YtjimkfniahndhaaMathA
namespace Go.Proofs.Ytjimkfniahndhaa
open Go.RowKit Go.Shelf
attribute [local go_sem] Oper.semAt_some

/-- A line with small numbers. -/
abbrev Lb := { x : Ln // x.1 ≤ 1001 ∧ x.2.1 ≤ x.2.2 ∧ x.2.2 ≤ 1000 }
abbrev lbEnc (x : Lb) : Array Value := #[.int .i64 (x.1.1 : Int), .agg #[.int .i64 (x.1.2.1 : Int), .int .i64 (x.1.2.2 : Int)]]

/-- What a round that goes on keeps: the cell of the text. -/
def KpC (B : Nat) (s : ByteArray) (W W' : World) : Prop := W.cell? ⟨B, 0, none⟩ = some (.string s) → W'.cell? ⟨B, 0, none⟩ = some (.string s)

theorem drop_cons (s : ByteArray) (k : Nat) (h : k < s.size) : s.data.toList.drop k = s[k] :: s.data.toList.drop (k + 1) := by
  rw [List.drop_eq_getElem_cons (by simpa using h)]; rfl

set_option maxRecDepth 100000 in
set_option maxHeartbeats 1000000 in
theorem spans1_in (F : Fence) (n : Nat) (h30 : F.fn 30) (hro : F.round = none) (hn : 1 ≤ n) (l Bs : Nat) (s : ByteArray) (hs : s.size ≤ 1000) (J Jx : List Lb → World → Prop)
    (hY : ∀ pre x W, J pre W → pre.length < 1001 → YieldAt F (n - 1) Try.prog l (lbEnc x) W fun e W' =>
      (e = .returned (.bool true) ∧ J (pre ++ [x]) W' ∧ KpC Bs s W W') ∨ (e = .returned (.bool false) ∧ Jx (pre ++ [x]) W'))
    (W : World) (hBs : W.cell? ⟨Bs, 0, none⟩ = some (.string s)) (h0 : J [] W) :
    CallsIn F n Try.prog 30 #[.func (.yield l) #[] #[], .pointer (some ⟨Bs, 0, none⟩)] W fun e W' => (∃ v, e = .returned v) ∧
      ((∃ ys : List Lb, ys.map (·.1) = spans s.data.toList ∧ J ys W') ∨ (∃ pre : List Lb, pre.map (·.1) <+: spans s.data.toList ∧ Jx pre W')) := by
  refine callsIn_of_wp Try.func30 rfl h30 ?_ hro
  simp only [Try.ntmps30, List.size_toArray, List.length_cons, List.length_nil, Nat.reduceAdd, Nat.reduceSub, Array.replicate_succ, Array.replicate_zero, List.push_toArray, List.append_toArray, List.nil_append, List.cons_append]
  gi_wp2
  gi_loopw [3, 4, 8] (fun a b c wr => ∃ (k ln fr : Nat) (pre : List Lb), k ≤ s.size ∧ fr ≤ k ∧ ln ≤ k + 1 ∧ pre.length ≤ k ∧ a = .int .i64 ln ∧ b = .int .i64 fr ∧ c = .int .i64 k ∧ pre.map (·.1) ++ spansFrom (s.data.toList.drop k) k ln fr = spans s.data.toList ∧ J pre wr ∧ wr.cell? ⟨Bs, 0, none⟩ = some (.string s))
    (fun _ _ c _ => s.size - (intOf c).toNat)
  case atStart => exact ⟨0, 1, 0, [], Nat.zero_le _, Nat.le_refl _, by omega, by simp, rfl, rfl, rfl, by simp [spans], h0, hBs⟩
  case round =>
    obtain ⟨k, ln, fr, pre, hk, hf, hl, hpl, rfl, rfl, rfl, hx, hJs, hB⟩ := hrel
    have HX := Lib.hid hx
    clear hx
    by_cases hlt : k < s.size
    · have HD := Lib.hid (drop_cons s k hlt)
      by_cases hc : s[k] = 10
      · have hcb : ((s[k].toNat : Int) != 10) = false := by simp [hc]
        have HC := Lib.hid hc
        clear hc
        obtain ⟨fn, tmps, assign, body, hy, hR⟩ := hY pre ⟨(ln, fr, k), by simp; omega⟩ wr hJs (by omega)
        dsimp only [lbEnc] at hy
        gi_wp2
        refine hR.mono ?_
        rintro e W3 (⟨rfl, hJ3, hk3⟩ | ⟨rfl, hJx3⟩)
        · have hB3 := hk3 hB
          gi_wp2
          go_roundw
          case rel => exact ⟨k + 1, ln + 1, k + 1, _, by omega, by omega, by omega, by simp; omega, by go_num, by go_num, by go_num, by rw [← HX.out, HD.out]; simp [spansFrom, HC.out], hJ3, hB3⟩
          case measure => simp [intOf]; omega
        · gi_wp2
          refine bodyPost_ret (results_none rfl _ _ _) rfl ?_
          exact ⟨⟨_, rfl⟩, .inr ⟨_, by rw [← HX.out, HD.out]; simp [spansFrom, HC.out], hJx3⟩⟩
      · have hcb : ((s[k].toNat : Int) != 10) = true := by
          rw [bne_iff_ne]; intro h; apply hc; apply UInt8.toNat_inj.1; simp; omega
        have HC := Lib.hid hc
        clear hc
        gi_wp2
        go_roundw
        case rel => exact ⟨k + 1, ln, fr, pre, by omega, by omega, by omega, by omega, by go_num, by go_num, by go_num, by rw [← HX.out, HD.out]; simp [spansFrom, HC.out], hJs, hB⟩
        case measure => simp [intOf]; omega
    · obtain rfl : k = s.size := by omega
      have HD := Lib.hid (show s.data.toList.drop s.size = [] from List.drop_of_length_le (by simp))
      obtain ⟨fn, tmps, assign, body, hy, hR⟩ := hY pre ⟨(ln, fr, s.size), by simp; omega⟩ wr hJs (by omega)
      dsimp only [lbEnc] at hy
      gi_wp2
      refine hR.mono ?_
      rintro e W3 (⟨rfl, hJ3, hk3⟩ | ⟨rfl, hJx3⟩)
      · gi_wp2
        go_end0
        exact ⟨⟨_, rfl⟩, .inl ⟨_, by rw [← HX.out, HD.out]; simp [spansFrom], hJ3⟩⟩
      · gi_wp2
        go_end0
        exact ⟨⟨_, rfl⟩, .inr ⟨_, by rw [← HX.out, HD.out]; simp [spansFrom], hJx3⟩⟩

set_option maxHeartbeats 1000000 in
/-- lineSpans(text): the text is boxed; the function value captures the box. -/
theorem spans_in' (F : Fence) (n : Nat) (h23 : F.fn 23) (hro : F.round = none) (s : ByteArray) (w : World) :
    CallsIn F n Try.prog 23 #[.string s] w fun e w' => e = .returned (.func (.func 30) #[] #[.pointer (some ⟨w.heap.size, 0, none⟩)]) ∧ w.alloc (.cells #[.string s] 9) = w' := by
  refine callsIn_of_wp Try.func23 rfl h23 ?_ hro
  simp only [Try.ntmps23, List.size_toArray, List.length_cons, List.length_nil, Nat.reduceAdd, Nat.reduceSub, Array.replicate_succ, Array.replicate_zero, List.push_toArray, List.append_toArray, List.nil_append, List.cons_append]
  gi_wp2
  go_ret
  exact ⟨rfl, rfl⟩

theorem spans_stops (F : Fence) (n : Nat) (h30 : F.fn 30) (hro : F.round = none) (hn : 1 ≤ n) (Bs : Nat) (s : ByteArray) (hs : s.size ≤ 1000) (w : World) (hBs : Bs < w.heap.size) (hc : w.cell? ⟨Bs, 0, none⟩ = some (.string s)) :
    SeqStopsK F n Try.prog 30 #[.pointer (some ⟨Bs, 0, none⟩)] lbEnc (KpC Bs s) (fun ys : List Lb => ys.map (·.1) = spans s.data.toList) (fun pre => pre.map (·.1) <+: spans s.data.toList) 1001 w := fun l J Jx W hW _ _ hY h0 =>
  spans1_in F n h30 hro hn l Bs s hs J Jx hY W ((hW.cell (p := ⟨Bs, 0, none⟩) hBs).trans hc) h0

theorem kpc_t {B : Nat} {s : ByteArray} {X Y Z : World} (h : KpC B s X Y) (k : KpC B s Y Z) : KpC B s X Z := fun e => k (h e)
theorem kpc_b {B : Nat} {s : ByteArray} {w : World} (W : World) (l : Nat) (o o' : Obj) (_ : w.heap.size ≤ l) (h : W.heap[l]? = some o) (hc : o.isCells = false) (_ : o.isWalk = false) : KpC B s W (W.putObj l o') :=
  fun e => cell_kept e (grownBy_putObj' W l o') (fun r er => by cases er; exact ⟨_, h, hc⟩)

end Go.Proofs.Ytjimkfniahndhaa
