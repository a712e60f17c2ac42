/-
  page.Lines: each line's number and bytes are handed to a function, in order, as long as it says so.
-/
import Derived.Test.YtjimkfniahndhaaIterM
import Derived.Test.YtjimkfniahndhaaCut
namespace Go.Proofs.Ytjimkfniahndhaa
open Go.RowKit Go.Shelf
attribute [local go_sem] Oper.semAt_some

/-- What lies at or above B lies as it lay. -/
structure Above (B : Nat) (W W' : World) : Prop where
  size : W.heap.size ≤ W'.heap.size
  same : ∀ k, B ≤ k → k < W.heap.size → W'.heap[k]? = W.heap[k]?

theorem Above.refl (B : Nat) (W : World) : Above B W W := ⟨Nat.le_refl _, fun _ _ _ => rfl⟩
theorem Above.trans {B : Nat} {X Y Z : World} (h : Above B X Y) (k : Above B Y Z) : Above B X Z :=
  ⟨Nat.le_trans h.size k.size, fun i hi hl => (k.same i hi (Nat.lt_of_lt_of_le hl h.size)).trans (h.same i hi hl)⟩
theorem Above.of_below {B : Nat} {X Y : World} (h : RowKit.Below X.heap.size X Y) : Above B X Y := ⟨h.size, fun i _ hl => h.block i hl⟩
theorem Above.keeps {B C : Nat} {X Y : World} (h : Above B X Y) (hC : B ≤ C) : KeepsFrom C X Y :=
  ⟨h.size, fun k o hk ho _ => (h.same k (by omega) (Array.getElem?_eq_some_iff.1 ho).1).trans ho⟩
theorem Above.boxed {B b : Nat} {t : TypeId} {v : Value} {X Y : World} (h : Above B X Y) (hb : B ≤ b) (hx : Boxed X b t v) : Boxed Y b t v := (h.same b hb hx.lt).trans hx
theorem Above.cell {B : Nat} {X Y : World} (h : Above B X Y) {p : Addr} {v : Value} (hb : B ≤ p.block) (hx : X.cell? p = some v) : Y.cell? p = some v := by
  have hl : p.block < X.heap.size := by
    rcases Nat.lt_or_ge p.block X.heap.size with h' | h'
    · exact h'
    · have e : X.heap[p.block]? = none := Array.getElem?_eq_none h'
      simp [World.cell?, e] at hx
  exact (World.cell?_of_block (h.same _ hb hl)).trans hx

theorem grown_of_below {a w : World} (h : RowKit.Below a.heap.size a w) : a.grownBy w none := ⟨h.os, h.tape, h.output, h.size, fun i hi _ => h.block i hi⟩

theorem ownFrom_mono {β : Type} {B B' : Nat} {I : β → World → Prop} (h : OwnFrom B I) (hB : B ≤ B') : OwnFrom B' I :=
  fun s X Y row hs hg hr => h s X Y row hs hg (fun r e => ⟨Nat.le_trans hB (hr r e).1, (hr r e).2⟩)

/-- What is asked of a function that lines are handed to. -/
def Takes (s : ByteArray) (B : Nat) (gf : Nat) (lb : Array Value) (J Jx : List (Lm s.data.toList) → World → Prop) : Prop :=
  ∀ (pre : List (Lm s.data.toList)) (x : Lm s.data.toList) (W : World), J pre W → pre.length < 1001 →
    Calls Try.prog gf (#[.int .i64 (x.1.1 : Int), .string (s.extract x.1.2.1 x.1.2.2)] ++ lb) W fun e W' => Above B W W' ∧ ∃ b, e = .returned (.bool b) ∧ (b = true → J (pre ++ [x]) W') ∧ (b = false → Jx (pre ++ [x]) W')

theorem takes_app {s : ByteArray} {B gf : Nat} {lb : Array Value} {J Jx : List (Lm s.data.toList) → World → Prop} (hT : Takes s B gf lb J Jx) (l n : Nat) (pre : List (Lm s.data.toList)) (x : Lm s.data.toList) (W : World) (hj : J pre W) (hl : pre.length < 1001) :
    CallsIn (Fence.wide.inRound l) n Try.prog gf (#[.int .i64 (x.1.1 : Int), .string (s.extract x.1.2.1 x.1.2.2)] ++ lb) W fun e W' => Above B W W' ∧ ∃ b, e = .returned (.bool b) ∧ (b = true → J (pre ++ [x]) W') ∧ (b = false → Jx (pre ++ [x]) W') :=
  CallsIn.inRound l (callsIn_wide.2 (hT pre x W hj hl))

set_option maxHeartbeats 1000000 in
theorem lines_calls (s : ByteArray) (w : World) :
    Calls Try.prog 15 #[.string s] w fun e w' => e = .returned (.func (.func 25) #[] #[.pointer (some ⟨w.heap.size, 0, none⟩)]) ∧ w.alloc (.cells #[.string s] 9) = w' := by
  go_enter Try.func15, Try.ntmps15
  go_wp2
  go_ret
  exact ⟨rfl, rfl⟩

set_option maxRecDepth 100000 in
set_option maxHeartbeats 8000000 in
theorem lines1_calls (s : ByteArray) (hs : s.size ≤ 1000) (gf : Nat) (lb : Array Value) (w : World) (Bt : Nat) (J Jx : List (Lm s.data.toList) → World → Prop)
    (eg : ∀ args w, (callFunc gf args).run Try.prog w = .ok (.enter gf args) w)
    (hJ : OwnFrom w.heap.size J) (hJx : OwnFrom w.heap.size Jx) (hJt : ∀ pre W, J pre W → W.cell? ⟨Bt, 0, none⟩ = some (.string s)) (hT : Takes s w.heap.size gf lb J Jx) (h0 : J [] w) :
    Calls Try.prog 25 #[.func (.func gf) #[] lb, .pointer (some ⟨Bt, 0, none⟩)] w fun e W' => e = .returned (.tuple #[]) ∧ ((∃ xs : List (Lm s.data.toList), xs.map (·.1) = spans s.data.toList ∧ J xs W') ∨ (∃ pre : List (Lm s.data.toList), pre.map (·.1) <+: spans s.data.toList ∧ Jx pre W')) := by
  refine (callsIn_wide (n := 6)).1 ?_
  have hF : ∀ f, Fence.wide.fn f := fun _ => trivial
  have hro : Fence.wide.round = none := rfl
  have h1 : 1 ≤ 6 := by omega
  have ht0 := hJt [] w h0
  have HT := Lib.hid hT
  have HJt := Lib.hid hJt
  clear hT hJt
  refine callsIn_of_wp_marks Try.func25 rfl (hF 25) ?_ hro
  simp only [Try.ntmps25, List.size_toArray, List.length_cons, List.length_nil, Nat.reduceAdd, Nat.reduceSub, Array.replicate_succ, Array.replicate_zero, List.push_toArray, List.append_toArray, List.nil_append, List.cons_append]
  have ht1 : (w.alloc (.cells #[.func (.func gf) #[] lb] 35)).cell? ⟨Bt, 0, none⟩ = some (.string s) := cell_kept ht0 (World.grownBy_alloc w _ none) (fun r e => by cases e)
  gi_wp2_with (gi_at_call 23; refine (spans_in' Fence.wide (6 - 1) (hF 23) hro _ _).mono ?_; rintro e w' ⟨rfl, rfl⟩)
  obtain ⟨W0, hW0⟩ : ∃ W0, (w.alloc (.cells #[.func (.func gf) #[] lb] 35)).alloc (.cells #[.string s] 9) = W0 := ⟨_, rfl⟩
  rw [hW0]
  have hsz0 : W0.heap.size = w.heap.size + 1 + 1 := by rw [← hW0]; simp
  have hI0 : J [] W0 ∧ Boxed W0 w.heap.size 35 (.func (.func gf) #[] lb) := by
    rw [← hW0]
    exact ⟨hJ.alloc _ (hJ.alloc _ h0), (Boxed.new _ _ _).alloc _⟩
  have hS : Boxed W0 (w.heap.size + 1) 9 (.string s) := by
    rw [← hW0]
    have := Boxed.new (w.alloc (.cells #[.func (.func gf) #[] lb] 35)) 9 (.string s); rw [World.size_alloc] at this; exact this
  have HSZ := Lib.hid hsz0
  have hszle : w.heap.size + 1 + 1 ≤ W0.heap.size := by omega
  clear hW0 ht0 ht1 h0 hsz0
  refine wpIn_rangeFunc_ownH hro h1 (gf := 30) (lb := #[.pointer (some ⟨w.heap.size + 1, 0, none⟩)]) rfl (hF 30) (enters_of Try.func30 (by kernel_rfl) rfl)
    (spansM_stops Fence.wide (6 - 1) (hF 30) hro (by omega) _ s hs W0 hS.lt hS.cell) kpc_t kpc_b (Below.refl _ _) (fun _ => rfl)
    (fun pre W => J pre W ∧ Boxed W w.heap.size 35 (.func (.func gf) #[] lb))
    (fun c pre W => c = .ret ∧ Jx pre W)
    (OwnFrom.and (ownFrom_mono hJ (by omega)) ((boxed_own _ _ _).from _))
    (fun c => OwnFrom.and (fun _ _ _ _ hs _ _ => hs) (ownFrom_mono hJx (by omega)))
    hI0
    (fun x a' W => ∃ Bx, w.heap.size < Bx ∧ Boxed2 W Bx 41 (.int .i64 x.1.2.1) (.int .i64 x.1.2.2) ∧ ∃ v8, a' = { tmps := #[.func (.func gf) #[] lb, .pointer (some ⟨Bt, 0, none⟩), .pointer (some ⟨w.heap.size, 0, none⟩), .int .i64 x.1.1, .pointer (some ⟨Bx, 0, none⟩), .string s, .func (.func 30) #[] #[.pointer (some ⟨w.heap.size + 1, 0, none⟩)], .int .i64 x.1.1, v8, undef, undef, undef, undef, undef, undef, undef], defers := [] })
    ?hAx ?assign ?body ?done ?stop
  case hAx =>
    rintro x a' _ X Y row ⟨Bx, hb, h2, v8, e⟩ hg hr
    exact ⟨Bx, hb, (boxed2_own _ _ (fun _ : Unit => _) (fun _ : Unit => _)).from _ () X Y row h2 hg hr, v8, e⟩
  case assign =>
    rintro l pre x W K ⟨hi, bn⟩ hK
    gi_wp2
    exact hK _ _ ((KeepsOthers.alloc _ _).from _) (kpc_alloc _ _) ⟨hJ.alloc _ hi, bn.alloc _⟩ ⟨W.heap.size, bn.lt, Boxed2.new W 41 _ _, _, rfl⟩
  case body =>
    rintro l pre x a' W hl ⟨r, hr⟩ ⟨hj, bn⟩ ⟨Bx, hBx, bb, v8, rfl⟩ hlen
    have hxm := spans_mem _ _ x.2
    have hx1 : x.1.2.1 ≤ x.1.2.2 := hxm.2.2.1
    have hx2 : x.1.2.2 ≤ s.size := by have := hxm.2.2.2; simpa using this
    clear hxm
    have ctx := HJt.out pre W hj
    have cn := bn.cell
    have d0 := bb.cell0
    have d1 := bb.cell1
    have hmx : Try.prog.follows .mixedOrders = true := by kernel_rfl
    have hgr : ∀ W1, RowKit.Below W.drew.heap.size W.drew W1 → J pre W1 := fun W1 hB => hJ pre W W1 none hj ⟨hB.os, hB.tape, hB.output, hB.size, fun i hi _ => hB.block i hi⟩ (fun r e => by cases e)
    have hcn : ∀ W1, RowKit.Below W.drew.heap.size W.drew W1 → W1.cell? ⟨w.heap.size, 0, none⟩ = some (.func (.func gf) #[] lb) := fun W1 hB => (hB.cell (p := ⟨w.heap.size, 0, none⟩) bn.lt).trans cn
    have HGR := Lib.hid hgr
    have HCN := Lib.hid hcn
    have HCut := Lib.hid (fun (W : World) => CallsIn.inRound l ((callsIn_wide (n := 3)).2 (cut_calls s hs x.1.2.1 x.1.2.2 hx1 hx2 W)))
    have HTk := Lib.hid (fun (W1 : World) (hB1 : RowKit.Below W.drew.heap.size W.drew W1) => takes_app HT.out l 3 pre x W1 (HGR.out W1 hB1) hlen)
    have HFin := Lib.hid (show ∀ W1 W2, RowKit.Below W.drew.heap.size W.drew W1 → Above w.heap.size W1 W2 → KeepsFrom W0.heap.size W W2 ∧ KpC (w.heap.size + 1) s W W2 ∧ Boxed W2 w.heap.size 35 (.func (.func gf) #[] lb) from fun W1 W2 hB hA => by
      have hA' : Above w.heap.size W W2 := (show Above w.heap.size W W1 from ⟨hB.size, fun i _ hl => hB.block i hl⟩).trans hA
      exact ⟨hA'.keeps (by omega), fun e => hA'.cell (by simp) e, hA'.boxed (Nat.le_refl _) bn⟩)
    clear hgr hcn hI0 hS hszle hr hl bn bb hBx hx1 hx2 hj hlen hJ hJx hro h1 hs
    gi_wp2
    gi_region_with_o (first | (gi_at_call 20; ((with_reducible refine (HCut.out _).mono ?_); rintro e W1 ⟨rfl, hB1⟩; have cn1 := HCN.out W1 hB1)) | ((with_reducible refine (HTk.out W1 hB1).mono ?_); rintro e W2 ⟨hab, b, rfl, hq1, hq2⟩; have HQ1 := Lib.hid hq1; have HQ2 := Lib.hid hq2; clear hq1 hq2))
    all_goals
      have hfin := HFin.out W1 W2 hB1 hab
      have HFF := Lib.hid hfin
      clear hfin hab hB1 cn1
      cases b
      · gi_wp2
        exact ⟨HFF.out.1, rfl, HQ2.out (by trivial)⟩
      · gi_wp2
        exact ⟨HFF.out.1, HFF.out.2.1, HQ1.out (by trivial), HFF.out.2.2⟩
  case done =>
    rintro D ys W hD hys ⟨hj, -⟩ hK
    have HYS := Lib.hid hys
    clear hys
    gi_wp2
    refine ⟨by simp, .inl ⟨_, _, rfl, run_takeDeferred hK, ?_⟩⟩
    exact ⟨_, results_none rfl _ _ _, rfl, .inl ⟨ys, HYS.out, hJ.putObj _ hj (by omega) hK rfl⟩⟩
  case stop =>
    rintro D c pre W hD hpre ⟨rfl, hjx⟩ hK
    have HYS := Lib.hid hpre
    clear hpre
    gi_wp2
    refine ⟨by simp, .inl ⟨_, _, rfl, run_takeDeferred hK, ?_⟩⟩
    exact ⟨_, results_none rfl _ _ _, rfl, .inr ⟨pre, HYS.out, hJx.putObj _ hjx (by omega) hK rfl⟩⟩

end Go.Proofs.Ytjimkfniahndhaa
