/-
  strings.SplitSeq at one blank: it gives a text's parts, one by one, and no more as soon as it is told so.
-/
import Derived.Test.YtoailhkaenofpaaDoorWdL
import Derived.Test.YtoailhkaenofpaaDoorWdX
import Derived.Test.YtoailhkaenofpaaDoorWdB
import Derived.Shelf.Abstract
import Derived.Shelf.RegionOpen
import Derived.OwnWalkIn
import Derived.TacticsInMore
import Derived.LoopNIn
import Derived.LoopIn
namespace Go.Proofs.YtoailhkaenofpaaDoor
open Go.RowKit Go.Shelf
attribute [local go_sem] Oper.semAt_some

/-- A part that isn't too long. -/
abbrev Pt := { x : List UInt8 // x.length ≤ 1000000 }
abbrev ptEnc (x : Pt) : Array Value := #[.string (bs x.1)]
/-- The iterator's own three boxes lie as they lay. -/
def KpS (N : Nat) (W W' : World) : Prop := ∀ k, N ≤ k → k < N + 3 → W'.heap[k]? = W.heap[k]?
theorem KpS.trans {N : Nat} {A B C : World} (h : KpS N A B) (k : KpS N B C) : KpS N A C := fun i h1 h2 => (k i h1 h2).trans (h i h1 h2)
/-- An invariant that abides what the iterator writes. -/
def AbS (N : Nat) (J : List Pt → World → Prop) : Prop := ∀ pre W v, J pre W → J pre (W.setCell ⟨N, 0, none⟩ v)
def SpB (N : Nat) (t : List UInt8) (W : World) : Prop := Boxed W N 9 (.string (bs t)) ∧ Boxed W (N + 1) 9 (.string ⟨#[32]⟩) ∧ Boxed W (N + 2) 3 (.int .i64 0)
theorem SpB.keep {N : Nat} {t : List UInt8} {W W' : World} (h : SpB N t W) (hk : KpS N W W') : SpB N t W' :=
  ⟨(hk N (by omega) (by omega)).trans h.1, (hk (N + 1) (by omega) (by omega)).trans h.2.1, (hk (N + 2) (by omega) (by omega)).trans h.2.2⟩
theorem SpB.put {N : Nat} {t r : List UInt8} {W : World} (h : SpB N t W) : SpB N r (W.setCell ⟨N, 0, none⟩ (.string (bs r))) :=
  ⟨h.1.set _, h.2.1.other (by omega) _, h.2.2.other (by omega) _⟩
theorem ext_head (a r : List UInt8) : (bs (a ++ 32 :: r)).extract 0 a.length = bs a := by
  apply bs_eq.2
  rw [ByteArray.data_extract, Array.toList_extract, bs_toList]
  simp
theorem ext_tail (a r : List UInt8) : (bs (a ++ 32 :: r)).extract (a.length + 1) (bs (a ++ 32 :: r)).size = bs r := by
  apply bs_eq.2
  rw [ByteArray.data_extract, Array.toList_extract, bs_toList, bs_size]
  simp
  rw [List.take_of_length_le (by omega)]

set_option maxRecDepth 100000 in
set_option maxHeartbeats 1000000 in
theorem split_in (n : Nat) (hn : 1 ≤ n) (l N : Nat) (t : List UInt8) (ht : t.length ≤ 1000000) (J Jx : List Pt → World → Prop) (hE : AbS N J)
    (hY : ∀ pre x W, J pre W → YieldAt Fence.wide (n - 1) Tryd.prog l (ptEnc x) W fun e W' =>
      (e = .returned (.bool true) ∧ J (pre ++ [x]) W' ∧ KpS N W W') ∨ (e = .returned (.bool false) ∧ Jx (pre ++ [x]) W'))
    (W : World) (hB : SpB N t W) (h0 : J [] W) :
    CallsIn Fence.wide n Tryd.prog 50 #[.func (.yield l) #[] #[], .pointer (some ⟨N + 1, 0, none⟩), .pointer (some ⟨N, 0, none⟩), .pointer (some ⟨N + 2, 0, none⟩)] W fun e W' => (∃ v, e = .returned v) ∧
      ((∃ ys : List Pt, ys.map (·.1) = splitL t ∧ J ys W') ∨ (∃ pre : List Pt, pre.map (·.1) <+: splitL t ∧ Jx pre W')) := by
  have HSP := Lib.hid hB
  have c1 := hB.1.cell
  have c2 := hB.2.1.cell
  have c3 := hB.2.2.cell
  refine callsIn_of_wp Tryd.func50 rfl trivial ?_ rfl
  simp only [Tryd.ntmps50, List.size_toArray, List.length_cons, List.length_nil, Nat.reduceAdd, Nat.reduceSub, Array.replicate_succ, Array.replicate_zero, List.push_toArray, List.append_toArray, List.nil_append, List.cons_append]
  gi_wp2
  clear c1 c2 c3
  gi_loopw [7, 8] (fun _ _ wr => ∃ (rest : List UInt8) (pre : List Pt), rest.length ≤ t.length ∧ pre.map (·.1) ++ splitL rest = splitL t ∧ J pre wr ∧ SpB N rest wr)
    (fun _ _ wr => match wr.cell? ⟨N, 0, none⟩ with | some (.string b) => b.size | _ => 0)
  case atStart => exact ⟨t, [], Nat.le_refl _, by simp, h0, HSP.out⟩
  case round =>
    obtain ⟨rest, pre, hl, hx, hJs, hB⟩ := hrel
    have HX := Lib.hid hx
    have HSP := Lib.hid hB
    have c1 := hB.1.cell
    have c2 := hB.2.1.cell
    have c3 := hB.2.2.cell
    have f1 := hB.1.frozen
    clear hx hB
    have HI := Lib.hid (fun W => (callsIn_wide (n := n - 1)).2 (Tryd.indexW (bs rest) 32 W))
    simp only [bs_toList] at HI
    have hd : 1 ≤ n := hn
    rcases part_cut rest with hno | ⟨a, r, rfl, ha⟩
    · rw [indexByte_no hno] at HI
      have HSL := Lib.hid (splitL_none hno)
      clear hno
      obtain ⟨fn, tmps, assign, body, hy, hR⟩ := hY pre ⟨rest, by omega⟩ wr hJs
      dsimp only [ptEnc] at hy
      have HR := Lib.hid hR
      clear hR
      gi_wp2_with (refine ⟨trivial, ?_⟩; gi_at_call 52; refine (HI.out _).mono ?_; rintro e w' ⟨rfl, rfl⟩)
      refine HR.out.mono ?_
      rintro e W3 (⟨rfl, hJ3, hk3⟩ | ⟨rfl, hJx3⟩)
      · gi_wp2
        go_end0
        exact ⟨⟨_, rfl⟩, .inl ⟨_, by rw [← HX.out, HSL.out]; simp, hJ3⟩⟩
      · gi_wp2
        go_end0
        exact ⟨⟨_, rfl⟩, .inr ⟨_, by rw [← HX.out, HSL.out]; simp, hJx3⟩⟩
    · rw [indexByte_at ha] at HI
      have HSL := Lib.hid (splitT_at ha r)
      have hal : a.length + 1 + r.length ≤ t.length := by simp at hl; omega
      have e1 := ext_head a r
      have e2 := ext_tail a r
      have e3 : (bs (a ++ 32 :: r)).size = a.length + 1 + r.length := by rw [bs_size]; simp; omega
      rw [e3] at e2
      have HE3 := Lib.hid e3
      clear ha hl
      obtain ⟨fn, tmps, assign, body, hy, hR⟩ := hY pre ⟨a, by omega⟩ wr hJs
      dsimp only [ptEnc] at hy
      have HR := Lib.hid hR
      clear hR
      gi_wp2_with (refine ⟨trivial, ?_⟩; gi_at_call 52; refine (HI.out _).mono ?_; rintro e w' ⟨rfl, rfl⟩)
      refine HR.out.mono ?_
      rintro e W3 (⟨rfl, hJ3, hk3⟩ | ⟨rfl, hJx3⟩)
      · have HS3 := Lib.hid (HSP.out.keep hk3)
        have q1 := HS3.out.1.cell
        have q2 := HS3.out.2.1.cell
        have q3 := HS3.out.2.2.cell
        have g1 := HS3.out.1.frozen
        have HM := Lib.hid c1
        have HM3 : Hid ((W3.setCell ⟨N, 0, none⟩ (.string (bs r))).cell? ⟨N, 0, none⟩ = some (.string (bs r))) := Lib.hid (HS3.out.put (r := r)).1.cell
        clear c1 c2 c3 f1 hk3
        gi_wp2
        go_roundw
        case rel => exact ⟨r, _, by omega, by rw [← HX.out, HSL.out]; simp, hE _ _ _ hJ3, HS3.out.put⟩
        case measure => rw [HM.out, HM3.out]; show (bs r).size < (bs (a ++ 32 :: r)).size; rw [HE3.out, bs_size]; omega
      · gi_wp2
        refine bodyPost_ret (results_none rfl _ _ _) rfl ?_
        exact ⟨⟨_, rfl⟩, .inr ⟨_, by rw [← HX.out, HSL.out]; exact ⟨splitL r, by simp⟩, hJx3⟩⟩

/-- strings.SplitSeq: three boxes; the function value captures them. -/
theorem splitSeq_in (n : Nat) (s : ByteArray) (w : World) :
    CallsIn Fence.wide n Tryd.prog 40 #[.string s, .string ⟨#[32]⟩, .int .i64 0] w fun e w' => e = .returned (.func (.func 50) #[] #[.pointer (some ⟨w.heap.size + 1, 0, none⟩), .pointer (some ⟨w.heap.size, 0, none⟩), .pointer (some ⟨w.heap.size + 1 + 1, 0, none⟩)]) ∧
      ((w.alloc (.cells #[.string s] 9)).alloc (.cells #[.string ⟨#[32]⟩] 9)).alloc (.cells #[.int .i64 0] 3) = w' := by
  refine callsIn_of_wp Tryd.func40 rfl trivial ?_ rfl
  simp only [Tryd.ntmps40, List.size_toArray, List.length_cons, List.length_nil, Nat.reduceAdd, Nat.reduceSub, Array.replicate_succ, Array.replicate_zero, List.push_toArray, List.append_toArray, List.nil_append, List.cons_append]
  gi_wp2
  go_ret
  exact ⟨rfl, rfl⟩
theorem SplitSeq_in (n : Nat) (hn : 1 ≤ n) (s : ByteArray) (w : World) :
    CallsIn Fence.wide n Tryd.prog 33 #[.string s, .string ⟨#[32]⟩] w fun e w' => e = .returned (.func (.func 50) #[] #[.pointer (some ⟨w.heap.size + 1, 0, none⟩), .pointer (some ⟨w.heap.size, 0, none⟩), .pointer (some ⟨w.heap.size + 1 + 1, 0, none⟩)]) ∧
      ((w.alloc (.cells #[.string s] 9)).alloc (.cells #[.string ⟨#[32]⟩] 9)).alloc (.cells #[.int .i64 0] 3) = w' := by
  refine callsIn_of_wp Tryd.func33 rfl trivial ?_ rfl
  simp only [Tryd.ntmps33, List.size_toArray, List.length_cons, List.length_nil, Nat.reduceAdd, Nat.reduceSub, Array.replicate_succ, Array.replicate_zero, List.push_toArray, List.append_toArray, List.nil_append, List.cons_append]
  gi_wp2_with (refine ⟨trivial, ?_⟩; gi_at_call 40; refine (splitSeq_in _ _ _).mono ?_; rintro e w' ⟨rfl, rfl⟩)
  go_ret
  exact ⟨rfl, rfl⟩
theorem split_gives (n : Nat) (hn : 1 ≤ n) (N : Nat) (t : List UInt8) (ht : t.length ≤ 1000000) (w : World) (hN : N + 3 ≤ w.heap.size) (hB : SpB N t w) :
    StGives Fence.wide n Tryd.prog 50 #[.pointer (some ⟨N + 1, 0, none⟩), .pointer (some ⟨N, 0, none⟩), .pointer (some ⟨N + 2, 0, none⟩)] ptEnc (KpS N) (AbS N) (fun ys => ys.map (·.1) = splitL t) (fun pre => pre.map (·.1) <+: splitL t) w := fun l J Jx W hW hE hY h0 =>
  split_in n hn l N t ht J Jx hE hY W (hB.keep fun k _ h2 => hW.block k (by omega)) h0
end Go.Proofs.YtoailhkaenofpaaDoor
