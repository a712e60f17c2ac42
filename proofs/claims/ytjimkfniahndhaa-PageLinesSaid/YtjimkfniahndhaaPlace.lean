/-
  page.Place: a place's line and column, or that it is none.
-/
import Derived.Test.YtjimkfniahndhaaIter
import Derived.RegionTactic
namespace Go.Proofs.Ytjimkfniahndhaa
open Go.RowKit Go.Shelf
attribute [local go_sem] Oper.semAt_some

/-- Block B is the box of a struct of two cells. -/
def Boxed2 (W : World) (B : Nat) (t : TypeId) (u v : Value) : Prop := W.heap[B]? = some (.cells #[u, v] t (0, 0))
theorem Boxed2.cell0 {W : World} {B : Nat} {t : TypeId} {u v : Value} (h : Boxed2 W B t u v) : W.cell? ⟨B, 0, none⟩ = some u := by simp [World.cell?, show W.heap[B]? = _ from h]
theorem Boxed2.cell1 {W : World} {B : Nat} {t : TypeId} {u v : Value} (h : Boxed2 W B t u v) : W.cell? ⟨B, 1, none⟩ = some v := by simp [World.cell?, show W.heap[B]? = _ from h]
theorem Boxed2.lt {W : World} {B : Nat} {t : TypeId} {u v : Value} (h : Boxed2 W B t u v) : B < W.heap.size := (Array.getElem?_eq_some_iff.1 h).1
theorem Boxed2.new (W : World) (t : TypeId) (u v : Value) : Boxed2 (W.alloc (.cells #[u, v] t)) W.heap.size t u v := World.alloc_heap_new W _
theorem Boxed2.kept {W W' : World} {row : Option Nat} {B : Nat} {t : TypeId} {u v : Value} (h : Boxed2 W B t u v) (hg : W.grownBy W' row) (hne : some B ≠ row) : Boxed2 W' B t u v := (hg.block B h.lt hne).trans h
theorem boxed2_own {β : Type} (B : Nat) (t : TypeId) (f g : β → Value) : Own (fun s W => Boxed2 W B t (f s) (g s)) := fun s X Y row hs hg hrow =>
  hs.kept hg (fun e' => by obtain ⟨o, ho, hc⟩ := hrow B e'.symm; rw [show X.heap[B]? = _ from hs] at ho; cases ho; cases hc)
theorem kpc_alloc {B : Nat} {s : ByteArray} (W : World) (o : Obj) : KpC B s W (W.alloc o) := fun e => cell_kept e (World.grownBy_alloc W o none) (fun r e => by cases e)

theorem spans_place' (t : List UInt8) (pre : List Ln) (x : Ln) (hp : pre ++ [x] <+: spans t) (k : Nat) (hk : k ≤ t.length) (hpre : ∀ y ∈ pre, y.2.2 < k) (hx : k ≤ x.2.2) :
    x.2.1 ≤ k ∧ placeOf t k = (x.1, k - x.2.1 + 1) := by
  have h1 := spans_place t pre x hp k hpre hx
  obtain ⟨y, hy, h2, h3, h4⟩ := spans_of t k hk
  have : x = y := spans_unique t x y (hp.subset (by simp)) hy (by rw [h1] at h4; simpa using (Prod.mk.inj h4).1)
  subst this
  exact ⟨h2, h1⟩

def placeI (N : Nat) (k : Int) (pre : List Lb) (W : World) : Prop :=
  (∀ y ∈ pre, (y.1.2.2 : Int) < k) ∧ Boxed W N 3 (.int .i64 k) ∧ Boxed W (N + 1) 3 (.int .i64 0) ∧ Boxed W (N + 1 + 1) 3 (.int .i64 0) ∧ Boxed W (N + 1 + 1 + 1) 23 (.int .i64 0)
def placeX (N : Nat) (k : Int) (c : Code) (pre : List Lb) (W : World) : Prop :=
  c = .ret ∧ ∃ (p0 : List Lb) (x : Lb), pre = p0 ++ [x] ∧ (∀ y ∈ p0, (y.1.2.2 : Int) < k) ∧ k ≤ (x.1.2.2 : Int) ∧ Boxed W (N + 1) 3 (.int .i64 x.1.1) ∧ Boxed W (N + 1 + 1) 3 (.int .i64 (k - x.1.2.1 + 1)) ∧ Boxed W (N + 1 + 1 + 1) 23 (.int .i64 0)

theorem placeI_own (N : Nat) (k : Int) (B : Nat) : OwnFrom B (placeI N k) :=
  OwnFrom.and (fun _ _ _ _ hs _ _ => hs) (OwnFrom.and ((boxed_own _ _ _).from _) (OwnFrom.and ((boxed_own _ _ _).from _) (OwnFrom.and ((boxed_own _ _ _).from _) ((boxed_own _ _ _).from _))))
theorem placeX_own (N : Nat) (k : Int) (B : Nat) (c : Code) : OwnFrom B (placeX N k c) := by
  rintro pre X Y row ⟨hc, p0, x, e, h1, h2, b1, b2, b3⟩ hg hr
  exact ⟨hc, p0, x, e, h1, h2, (boxed_own _ _ (fun _ : Unit => _)).from _ () X Y row b1 hg hr, (boxed_own _ _ (fun _ : Unit => _)).from _ () X Y row b2 hg hr, (boxed_own _ _ (fun _ : Unit => _)).from _ () X Y row b3 hg hr⟩

theorem boxed_drew {W : World} {B : Nat} {t : TypeId} {v : Value} (h : Boxed W B t v) : Boxed W.drew B t v := h

theorem place_wrap (k : Int) (fr : Nat) (h0 : 0 ≤ k) (h : k ≤ 1000) (h' : fr ≤ 1000) : IntKind.i64.wrap (IntKind.i64.wrap (k - fr) + 1) = k - fr + 1 := by
  have e : IntKind.i64.wrap (k - fr) = k - fr := IntWalk.i64_in _ (by omega)
  rw [e]; exact IntWalk.i64_in _ (by omega)

theorem place_fin {N : Nat} {k : Int} {pre : List Lb} {W w0 : World} (x : Lb) (hN : w0.heap.size ≤ N) (hk0 : 0 ≤ k) (hk1 : k ≤ 1000) (hp : ∀ y ∈ pre, (y.1.2.2 : Int) < k) (hkt : k ≤ x.1.2.2)
    (b1 : Boxed W (N + 1) 3 (.int .i64 0)) (b2 : Boxed W (N + 1 + 1) 3 (.int .i64 0)) (b3 : Boxed W (N + 1 + 1 + 1) 23 (.int .i64 0)) (hB : Below w0.heap.size w0 W) (C : Nat) :
    KeepsFrom C W (((W.setCell ⟨N + 1, 0, none⟩ (.int .i64 x.1.1)).setCell ⟨N + 1 + 1, 0, none⟩ (.int .i64 (IntKind.i64.wrap (IntKind.i64.wrap (k - x.1.2.1) + 1)))).setCell ⟨N + 1 + 1 + 1, 0, none⟩ (.int .i64 0)).drew ∧
    placeX N k .ret (pre ++ [x]) (((W.setCell ⟨N + 1, 0, none⟩ (.int .i64 x.1.1)).setCell ⟨N + 1 + 1, 0, none⟩ (.int .i64 (IntKind.i64.wrap (IntKind.i64.wrap (k - x.1.2.1) + 1)))).setCell ⟨N + 1 + 1 + 1, 0, none⟩ (.int .i64 0)).drew ∧
    Below w0.heap.size w0 (((W.setCell ⟨N + 1, 0, none⟩ (.int .i64 x.1.1)).setCell ⟨N + 1 + 1, 0, none⟩ (.int .i64 (IntKind.i64.wrap (IntKind.i64.wrap (k - x.1.2.1) + 1)))).setCell ⟨N + 1 + 1 + 1, 0, none⟩ (.int .i64 0)).drew := by
  rw [place_wrap k x.1.2.1 hk0 hk1 (by have := x.2; omega)]
  refine ⟨((((KeepsOthers.setCell _ _ _).trans (KeepsOthers.setCell _ _ _)).trans (KeepsOthers.setCell _ _ _)).trans (KeepsOthers.drew _)).from _, ⟨rfl, pre, x, rfl, hp, by omega, ?_, ?_, ?_⟩, ?_⟩
  · refine boxed_drew (((b1.set _).other ?_ _).other ?_ _) <;> omega
  · refine boxed_drew (((b2.other ?_ _).set _).other ?_ _) <;> omega
  · refine boxed_drew (((b3.other ?_ _).other ?_ _).set _) <;> omega
  · exact (((hB.setCell (p := ⟨N + 1, 0, none⟩) (by simp; omega) _).setCell (p := ⟨N + 1 + 1, 0, none⟩) (by simp; omega) _).setCell (p := ⟨N + 1 + 1 + 1, 0, none⟩) (by simp; omega) _).drew

def PlacePost (s : ByteArray) (k : Int) (e : Ending) : Prop :=
  (k ≤ s.size ∧ e = .returned (.tuple #[.int .i64 (placeOf s.data.toList k.toNat).1, .int .i64 (placeOf s.data.toList k.toNat).2, .int .i64 0])) ∨ (s.size < k ∧ e = .returned (.tuple #[.int .i64 0, .int .i64 0, .int .i64 15]))

set_option maxRecDepth 100000 in
set_option maxHeartbeats 1000000 in
theorem place_in (F : Fence) (n : Nat) (hF : ∀ f, F.fn f) (hro : F.round = none) (hn : 3 ≤ n) (s : ByteArray) (hs : s.size ≤ 1000) (k : Int) (hk : 0 ≤ k) (w : World) :
    CallsIn F n Try.prog 12 #[.string s, .int .i64 k] w fun e W' => PlacePost s k e ∧ Below w.heap.size w W' := by
  have h1 : 1 ≤ n := by omega
  refine callsIn_of_wp_marks Try.func12 rfl (hF 12) ?_ hro
  simp only [Try.ntmps12, List.size_toArray, List.length_cons, List.length_nil, Nat.reduceAdd, Nat.reduceSub, Array.replicate_succ, Array.replicate_zero, List.push_toArray, List.append_toArray, List.nil_append, List.cons_append]
  have hk0 : decide ((k : Int) < 0) = false := by simp; omega
  gi_wp2_with (gi_at_call 23; refine (spans_in' F (n - 1) (hF 23) hro _ _).mono ?_; rintro e w' ⟨rfl, rfl⟩)
  have b0 : Boxed (w.alloc (.cells #[.int .i64 k] 3)) w.heap.size 3 (.int .i64 k) := Boxed.new _ _ _
  obtain ⟨W0, hW0⟩ : ∃ W0, ((((w.alloc (Obj.cells #[Value.int IntKind.i64 k] 3)).alloc (Obj.cells #[Value.int IntKind.i64 0] 3)).alloc (Obj.cells #[Value.int IntKind.i64 0] 3)).alloc (Obj.cells #[Value.int IntKind.i64 0] 23)).alloc (Obj.cells #[Value.string s] 9) = W0 := ⟨_, rfl⟩
  rw [hW0]
  have hB0 : Below w.heap.size w W0 := by rw [← hW0]; exact (((((Below.refl _ w).alloc (Nat.le_refl _) _).alloc (by simp) _).alloc (by simp; omega) _).alloc (by simp; omega) _).alloc (by simp; omega) _
  have hI0 : placeI w.heap.size k [] W0 := by
    rw [← hW0]
    refine ⟨by simp, (((b0.alloc _).alloc _).alloc _).alloc _, ?_, ?_, ?_⟩
    · have := Boxed.new (w.alloc (.cells #[.int .i64 k] 3)) 3 (.int .i64 0); rw [World.size_alloc] at this; exact ((this.alloc _).alloc _).alloc _
    · have := Boxed.new ((w.alloc (.cells #[.int .i64 k] 3)).alloc (.cells #[.int .i64 0] 3)) 3 (.int .i64 0); simp only [World.size_alloc] at this; exact (this.alloc _).alloc _
    · have := Boxed.new (((w.alloc (.cells #[.int .i64 k] 3)).alloc (.cells #[.int .i64 0] 3)).alloc (.cells #[.int .i64 0] 3)) 23 (.int .i64 0); simp only [World.size_alloc] at this; exact this.alloc _
  have hS : Boxed W0 (w.heap.size + 1 + 1 + 1 + 1) 9 (.string s) := by
    rw [← hW0]
    have := Boxed.new ((((w.alloc (.cells #[.int .i64 k] 3)).alloc (.cells #[.int .i64 0] 3)).alloc (.cells #[.int .i64 0] 3)).alloc (.cells #[.int .i64 0] 23)) 9 (.string s); simp only [World.size_alloc] at this; exact this
  clear hW0 b0
  refine wpIn_rangeFunc_ownH hro h1 (gf := 30) (lb := #[.pointer (some ⟨w.heap.size + 1 + 1 + 1 + 1, 0, none⟩)]) rfl (hF 30) (enters_of Try.func30 (by kernel_rfl) rfl)
    (spans_stops F (n - 1) (hF 30) hro (by omega) _ s hs W0 hS.lt hS.cell) kpc_t kpc_b (Below.refl _ _) (fun _ => rfl)
    (fun pre W => placeI w.heap.size k pre W ∧ Below w.heap.size w W)
    (fun c pre W => placeX w.heap.size k c pre W ∧ Below w.heap.size w W)
    (OwnFrom.and (placeI_own _ _ _) (ownFrom_below (Nat.le_refl _) hB0.size))
    (fun c => OwnFrom.and (placeX_own _ _ _ _) (ownFrom_below (Nat.le_refl _) hB0.size))
    ⟨hI0, hB0⟩
    (fun x a' W => ∃ Bx, w.heap.size + 1 + 1 + 1 < Bx ∧ Boxed2 W Bx 41 (.int .i64 x.1.2.1) (.int .i64 x.1.2.2) ∧ ∃ v14, a' = { tmps := #[.string s, .int .i64 k, undef, .pointer (some ⟨w.heap.size, 0, none⟩), .pointer (some ⟨w.heap.size + 1, 0, none⟩), .pointer (some ⟨w.heap.size + 1 + 1, 0, none⟩), .pointer (some ⟨w.heap.size + 1 + 1 + 1, 0, none⟩), .int .i64 x.1.1, .pointer (some ⟨Bx, 0, none⟩), .int .i64 k, .bool false, .string s, .func (.func 30) #[] #[.pointer (some ⟨w.heap.size + 1 + 1 + 1 + 1, 0, none⟩)], .int .i64 x.1.1, v14, undef, undef, undef, undef, undef, undef, undef, undef, undef, undef], defers := [] })
    ?hAx ?assign ?body ?done ?stop
  case hAx =>
    rintro x a' _ X Y row ⟨Bx, hb, h2, v14, e⟩ hg hr
    exact ⟨Bx, hb, (boxed2_own _ _ (fun _ : Unit => _) (fun _ : Unit => _)).from _ () X Y row h2 hg hr, v14, e⟩
  case assign =>
    rintro l pre x W K ⟨hi, hB⟩ hK
    gi_wp2
    exact hK _ _ ((KeepsOthers.alloc _ _).from _) (kpc_alloc _ _) ⟨⟨hi.1, hi.2.1.alloc _, hi.2.2.1.alloc _, hi.2.2.2.1.alloc _, hi.2.2.2.2.alloc _⟩, hB.alloc hB.size _⟩ ⟨W.heap.size, hi.2.2.2.2.lt, Boxed2.new W 41 _ _, _, rfl⟩
  case body =>
    rintro l pre ⟨⟨ln, fr, to⟩, hx⟩ a' W hl ⟨r, hr⟩ ⟨⟨hp, b0, b1, b2, b3⟩, hB⟩ ⟨Bx, hBx, bb, v14, rfl⟩ _
    dsimp only at bb
    have hx1 := hx.1
    have hx2 := hx.2.1
    have hx3 := hx.2.2
    dsimp only at hx1 hx2 hx3
    have c0 := b0.cell
    have c1 := b1.cell
    have c2 := b2.cell
    have c3 := b3.cell
    have f1 := b1.frozen
    have f2 := b2.frozen
    have f3 := b3.frozen
    have d0 := bb.cell0
    have d1 := bb.cell1
    have hmx : Try.prog.follows .mixedOrders = true := by kernel_rfl
    by_cases hkt : k ≤ to
    · have hfin := place_fin (N := w.heap.size) (k := k) (w0 := w) ⟨(ln, fr, to), hx⟩ (Nat.le_refl _) hk (by omega) hp hkt b1 b2 b3 hB W0.heap.size
      have HF := Lib.hid hfin
      clear hfin hp hB
      gi_wp2
      gi_region_with_o (fail)
      all_goals gi_wp2
      all_goals exact HF.out
    · have hp' : ∀ y ∈ pre ++ [(⟨(ln, fr, to), hx⟩ : Lb)], (y.1.2.2 : Int) < k := fun y hy => by
        rcases List.mem_append.1 hy with hy | hy
        · exact hp y hy
        · simp at hy; subst hy; simp; omega
      have HP := Lib.hid hp'
      clear hp hp'
      gi_wp2
      exact ⟨KeepsFrom.refl _ _, fun e => e, ⟨HP.out, b0, b1, b2, b3⟩, hB⟩
  case done =>
    rintro D ys W hD hys ⟨⟨hp, -, b1, b2, b3⟩, hB⟩ hK
    have hlt := spans_none s.data.toList k.toNat (fun y hy => by
      rw [← hys] at hy
      obtain ⟨z, hz, rfl⟩ := List.mem_map.1 hy
      have := hp z hz; omega)
    have e1 : s.data.toList.length = s.size := by simp
    have hlt' : (s.size : Int) < k := by omega
    have c1 := b1.cell
    have c2 := b2.cell
    have c3 := b3.cell
    have f1 := b1.frozen
    have f2 := b2.frozen
    have f3 := b3.frozen
    clear hp hys e1 hlt
    gi_wp2
    have hK' := (((KeepsOthers.setCell W ⟨w.heap.size + 1, 0, none⟩ (.int .i64 0)).trans (KeepsOthers.setCell _ ⟨w.heap.size + 1 + 1, 0, none⟩ (.int .i64 0))).trans (KeepsOthers.setCell _ ⟨w.heap.size + 1 + 1 + 1, 0, none⟩ (.int .i64 15))).same D _ hK rfl
    refine ⟨by simp, .inl ⟨_, _, rfl, run_takeDeferred hK', ?_⟩⟩
    have g1 : Boxed _ (w.heap.size + 1) 3 (.int .i64 0) := ((b1.set (.int .i64 0)).other (B' := w.heap.size + 1 + 1) (by omega) (.int .i64 0)).other (B' := w.heap.size + 1 + 1 + 1) (by omega) (.int .i64 15)
    have g2 : Boxed _ (w.heap.size + 1 + 1) 3 (.int .i64 0) := ((b2.other (B' := w.heap.size + 1) (by omega) (.int .i64 0)).set (.int .i64 0)).other (B' := w.heap.size + 1 + 1 + 1) (by omega) (.int .i64 15)
    have g3 : Boxed _ (w.heap.size + 1 + 1 + 1) 23 (.int .i64 15) := ((b3.other (B' := w.heap.size + 1) (by omega) (.int .i64 0)).other (B' := w.heap.size + 1 + 1) (by omega) (.int .i64 0)).set (.int .i64 15)
    have c1 := cell_kept g1.cell (grownBy_putObj' _ D (.deferred none)) (fun r e => by cases e; exact ⟨_, hK', rfl⟩)
    have c2 := cell_kept g2.cell (grownBy_putObj' _ D (.deferred none)) (fun r e => by cases e; exact ⟨_, hK', rfl⟩)
    have c3 := cell_kept g3.cell (grownBy_putObj' _ D (.deferred none)) (fun r e => by cases e; exact ⟨_, hK', rfl⟩)
    refine ⟨.tuple #[.int .i64 0, .int .i64 0, .int .i64 15], ?_, .inr ⟨hlt', rfl⟩, (((hB.setCell (p := ⟨w.heap.size + 1, 0, none⟩) (by simp) _).setCell (p := ⟨w.heap.size + 1 + 1, 0, none⟩) (by simp; omega) _).setCell (p := ⟨w.heap.size + 1 + 1 + 1, 0, none⟩) (by simp; omega) _).trans (belowK_b (w := w) (Nat.le_refl _) _ D _ _ (by have := hB0.size; omega) hK' rfl rfl)⟩
    simp [results, Try.f12, go_sem, c1, c2, c3]
  case stop =>
    rintro D c pre W hD hpre ⟨⟨rfl, p0, x, rfl, hp, hkx, b1, b2, b3⟩, hB⟩ hK
    have hxm : x.1 ∈ spans s.data.toList := hpre.subset (by simp)
    have hxs := spans_mem _ _ hxm
    have e1 : s.data.toList.length = s.size := by simp
    obtain ⟨g1, g2⟩ := spans_place' s.data.toList (p0.map (·.1)) x.1 (by simpa using hpre) k.toNat (by omega) (fun y hy => by
      obtain ⟨z, hz, rfl⟩ := List.mem_map.1 hy
      have := hp z hz; omega) (by omega)
    have G2 := Lib.hid g2
    have hks : k ≤ s.size := by omega
    clear hp hpre g2 hxm hxs e1
    gi_wp2
    refine ⟨by simp, .inl ⟨_, _, rfl, run_takeDeferred hK, ?_⟩⟩
    have c1 := cell_kept b1.cell (grownBy_putObj' _ D (.deferred none)) (fun r e => by cases e; exact ⟨_, hK, rfl⟩)
    have c2 := cell_kept b2.cell (grownBy_putObj' _ D (.deferred none)) (fun r e => by cases e; exact ⟨_, hK, rfl⟩)
    have c3 := cell_kept b3.cell (grownBy_putObj' _ D (.deferred none)) (fun r e => by cases e; exact ⟨_, hK, rfl⟩)
    refine ⟨.tuple #[.int .i64 x.1.1, .int .i64 (k - x.1.2.1 + 1), .int .i64 0], ?_, .inl ⟨hks, by rw [G2.out]; simp; omega⟩, hB.trans (belowK_b (w := w) (Nat.le_refl _) _ D _ _ (by have := hB0.size; omega) hK rfl rfl)⟩
    simp [results, Try.f12, go_sem, c1, c2, c3]

set_option maxRecDepth 100000 in
set_option maxHeartbeats 1000000 in
theorem place_neg_in (F : Fence) (n : Nat) (hF : ∀ f, F.fn f) (hro : F.round = none) (s : ByteArray) (k : Int) (hk : k < 0) (w : World) :
    CallsIn F n Try.prog 12 #[.string s, .int .i64 k] w fun e W' => e = .returned (.tuple #[.int .i64 0, .int .i64 0, .int .i64 15]) ∧ Below w.heap.size w W' := by
  refine callsIn_of_wp Try.func12 rfl (hF 12) ?_ hro
  simp only [Try.ntmps12, List.size_toArray, List.length_cons, List.length_nil, Nat.reduceAdd, Nat.reduceSub, Array.replicate_succ, Array.replicate_zero, List.push_toArray, List.append_toArray, List.nil_append, List.cons_append]
  gi_wp2
  refine bodyPost_ret (v := .tuple #[.int .i64 0, .int .i64 0, .int .i64 15]) (by simp [results, Try.f12, go_sem]) rfl ⟨rfl, ?_⟩
  exact ((((Below.refl _ w).alloc (Nat.le_refl _) _).alloc (by simp) _).alloc (by simp; omega) _).alloc (by simp; omega) _

end Go.Proofs.Ytjimkfniahndhaa
