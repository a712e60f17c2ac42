/-
  The iterator of a text's lines (page.lineSpans), once more: what it gives are lines of the text.
-/
import Derived.RangeFuncNested
import Derived.RangeFuncBound
import Derived.RangeFuncCalls
import Derived.RangeFuncLeaves
import Derived.Shelf.Abstract
import Derived.Shelf.RegionOpen
import Derived.WalkKit
import Derived.OwnWalkIn
import Derived.TacticsInMore
import Derived.LoopNIn
import Derived.LoopIn
import Derived.Lib.Hide
import Derived.Test.YtjimkfniahndhaaPlace
namespace Go.Proofs.Ytjimkfniahndhaa
open Go.RowKit Go.Shelf
attribute [local go_sem] Oper.semAt_some

/-- A line of a text. -/
abbrev Lm (t : List UInt8) := { x : Ln // x ∈ spans t }
abbrev lmEnc (t : List UInt8) (x : Lm t) : Array Value := #[.int .i64 (x.1.1 : Int), .agg #[.int .i64 (x.1.2.1 : Int), .int .i64 (x.1.2.2 : Int)]]

set_option maxRecDepth 100000 in
set_option maxHeartbeats 1000000 in
theorem spansM1_in (F : Fence) (n : Nat) (h30 : F.fn 30) (hro : F.round = none) (hn : 1 ≤ n) (l Bs : Nat) (s : ByteArray) (hs : s.size ≤ 1000) (J Jx : List (Lm s.data.toList) → World → Prop)
    (hY : ∀ pre x W, J pre W → pre.length < 1001 → YieldAt F (n - 1) Try.prog l (lmEnc s.data.toList x) W fun e W' =>
      (e = .returned (.bool true) ∧ J (pre ++ [x]) W' ∧ KpC Bs s W W') ∨ (e = .returned (.bool false) ∧ Jx (pre ++ [x]) W'))
    (W : World) (hBs : W.cell? ⟨Bs, 0, none⟩ = some (.string s)) (h0 : J [] W) :
    CallsIn F n Try.prog 30 #[.func (.yield l) #[] #[], .pointer (some ⟨Bs, 0, none⟩)] W fun e W' => (∃ v, e = .returned v) ∧
      ((∃ ys : List (Lm s.data.toList), ys.map (·.1) = spans s.data.toList ∧ J ys W') ∨ (∃ pre : List (Lm s.data.toList), pre.map (·.1) <+: spans s.data.toList ∧ Jx pre W')) := by
  refine callsIn_of_wp Try.func30 rfl h30 ?_ hro
  simp only [Try.ntmps30, List.size_toArray, List.length_cons, List.length_nil, Nat.reduceAdd, Nat.reduceSub, Array.replicate_succ, Array.replicate_zero, List.push_toArray, List.append_toArray, List.nil_append, List.cons_append]
  gi_wp2
  gi_loopw [3, 4, 8] (fun a b c wr => ∃ (k ln fr : Nat) (pre : List (Lm s.data.toList)), k ≤ s.size ∧ fr ≤ k ∧ ln ≤ k + 1 ∧ pre.length ≤ k ∧ a = .int .i64 ln ∧ b = .int .i64 fr ∧ c = .int .i64 k ∧ pre.map (·.1) ++ spansFrom (s.data.toList.drop k) k ln fr = spans s.data.toList ∧ J pre wr ∧ wr.cell? ⟨Bs, 0, none⟩ = some (.string s))
    (fun _ _ c _ => s.size - (intOf c).toNat)
  case atStart => exact ⟨0, 1, 0, [], Nat.zero_le _, Nat.le_refl _, by omega, by simp, rfl, rfl, rfl, by simp [spans], h0, hBs⟩
  case round =>
    obtain ⟨k, ln, fr, pre, hk, hf, hl, hpl, rfl, rfl, rfl, hx, hJs, hB⟩ := hrel
    have HX := Lib.hid hx
    clear hx
    by_cases hlt : k < s.size
    · have HD := Lib.hid (drop_cons s k hlt)
      by_cases hc : s[k] = 10
      · have hcb : ((s[k].toNat : Int) != 10) = false := by simp [hc]
        have HC := Lib.hid hc
        clear hc
        obtain ⟨fn, tmps, assign, body, hy, hR⟩ := hY pre ⟨(ln, fr, k), by rw [← HX.out, HD.out]; simp [spansFrom, HC.out]⟩ wr hJs (by omega)
        dsimp only [lmEnc] at hy
        gi_wp2
        refine hR.mono ?_
        rintro e W3 (⟨rfl, hJ3, hk3⟩ | ⟨rfl, hJx3⟩)
        · have hB3 := hk3 hB
          gi_wp2
          go_roundw
          case rel => exact ⟨k + 1, ln + 1, k + 1, _, by omega, by omega, by omega, by simp; omega, by go_num, by go_num, by go_num, by have e := HX.out; rw [HD.out] at e; simpa [spansFrom, HC.out] using e, hJ3, hB3⟩
          case measure => simp [intOf]; omega
        · gi_wp2
          refine bodyPost_ret (results_none rfl _ _ _) rfl ?_
          exact ⟨⟨_, rfl⟩, .inr ⟨_, ⟨_, by have e := HX.out; rw [HD.out] at e; simpa [spansFrom, HC.out] using e⟩, hJx3⟩⟩
      · have hcb : ((s[k].toNat : Int) != 10) = true := by
          rw [bne_iff_ne]; intro h; apply hc; apply UInt8.toNat_inj.1; simp; omega
        have HC := Lib.hid hc
        clear hc
        gi_wp2
        go_roundw
        case rel => exact ⟨k + 1, ln, fr, pre, by omega, by omega, by omega, by omega, by go_num, by go_num, by go_num, by have e := HX.out; rw [HD.out] at e; simpa [spansFrom, HC.out] using e, hJs, hB⟩
        case measure => simp [intOf]; omega
    · obtain rfl : k = s.size := by omega
      have HD := Lib.hid (show s.data.toList.drop s.size = [] from List.drop_of_length_le (by simp))
      obtain ⟨fn, tmps, assign, body, hy, hR⟩ := hY pre ⟨(ln, fr, s.size), by rw [← HX.out, HD.out]; simp [spansFrom]⟩ wr hJs (by omega)
      dsimp only [lmEnc] at hy
      gi_wp2
      refine hR.mono ?_
      rintro e W3 (⟨rfl, hJ3, hk3⟩ | ⟨rfl, hJx3⟩)
      · gi_wp2
        go_end0
        exact ⟨⟨_, rfl⟩, .inl ⟨_, by have e := HX.out; rw [HD.out] at e; simpa [spansFrom] using e, hJ3⟩⟩
      · gi_wp2
        go_end0
        exact ⟨⟨_, rfl⟩, .inr ⟨_, ⟨[], by have e := HX.out; rw [HD.out] at e; simpa [spansFrom] using e⟩, hJx3⟩⟩

theorem spansM_stops (F : Fence) (n : Nat) (h30 : F.fn 30) (hro : F.round = none) (hn : 1 ≤ n) (Bs : Nat) (s : ByteArray) (hs : s.size ≤ 1000) (w : World) (hBs : Bs < w.heap.size) (hc : w.cell? ⟨Bs, 0, none⟩ = some (.string s)) :
    SeqStopsK F n Try.prog 30 #[.pointer (some ⟨Bs, 0, none⟩)] (lmEnc s.data.toList) (KpC Bs s) (fun ys : List (Lm s.data.toList) => ys.map (·.1) = spans s.data.toList) (fun pre => pre.map (·.1) <+: spans s.data.toList) 1001 w := fun l J Jx W hW _ _ hY h0 =>
  spansM1_in F n h30 hro hn l Bs s hs J Jx hY W ((hW.cell (p := ⟨Bs, 0, none⟩) hBs).trans hc) h0

end Go.Proofs.Ytjimkfniahndhaa
