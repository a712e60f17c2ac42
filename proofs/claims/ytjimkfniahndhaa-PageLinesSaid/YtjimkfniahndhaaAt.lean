/-
  page.At: the place of a line and a column, or that there is none.
-/
import Derived.Test.YtjimkfniahndhaaPlace
namespace Go.Proofs.Ytjimkfniahndhaa
open Go.RowKit Go.Shelf
attribute [local go_sem] Oper.semAt_some

/-- What inLine answers of a line and a column. -/
def InLn (fr to : Nat) (col a e : Int) : Prop := (1 ≤ col ∧ col ≤ to - fr + 1 ∧ a = fr + col - 1 ∧ e = 0) ∨ (¬ (1 ≤ col ∧ col ≤ to - fr + 1) ∧ a = 0 ∧ e = 15)

set_option maxRecDepth 100000 in
set_option maxHeartbeats 1000000 in
theorem inLine_in (F : Fence) (n : Nat) (hF : ∀ f, F.fn f) (hro : F.round = none) (fr to : Nat) (h1 : fr ≤ to) (h2 : to ≤ 1000) (col : Int) (w : World) :
    CallsIn F n Try.prog 24 #[.agg #[.int .i64 fr, .int .i64 to], .int .i64 col] w fun e W' => (∃ a b, InLn fr to col a b ∧ e = .returned (.tuple #[.int .i64 a, .int .i64 b])) ∧ w.alloc (.cells #[.int .i64 fr, .int .i64 to] 41) = W' := by
  by_cases hc1 : col < 1
  · have HP := Lib.hid (show InLn fr to col 0 15 from .inr ⟨by omega, rfl, rfl⟩)
    refine callsIn_of_wp Try.func24 rfl (hF 24) ?_ hro
    simp only [Try.ntmps24, List.size_toArray, List.length_cons, List.length_nil, Nat.reduceAdd, Nat.reduceSub, Array.replicate_succ, Array.replicate_zero, List.push_toArray, List.append_toArray, List.nil_append, List.cons_append]
    gi_wp2
    go_ret2
    exact ⟨⟨_, _, HP.out, rfl⟩, rfl⟩
  · have hd : decide (col < 1) = false := by simp; omega
    by_cases hc2 : (to : Int) - fr + 1 < col
    · have HP := Lib.hid (show InLn fr to col 0 15 from .inr ⟨by omega, rfl, rfl⟩)
      refine callsIn_of_wp Try.func24 rfl (hF 24) ?_ hro
      simp only [Try.ntmps24, List.size_toArray, List.length_cons, List.length_nil, Nat.reduceAdd, Nat.reduceSub, Array.replicate_succ, Array.replicate_zero, List.push_toArray, List.append_toArray, List.nil_append, List.cons_append]
      gi_wp2
      go_ret2
      exact ⟨⟨_, _, HP.out, rfl⟩, rfl⟩
    · have HP := Lib.hid (show InLn fr to col (fr + col - 1) 0 from .inl ⟨by omega, by omega, rfl, rfl⟩)
      refine callsIn_of_wp Try.func24 rfl (hF 24) ?_ hro
      simp only [Try.ntmps24, List.size_toArray, List.length_cons, List.length_nil, Nat.reduceAdd, Nat.reduceSub, Array.replicate_succ, Array.replicate_zero, List.push_toArray, List.append_toArray, List.nil_append, List.cons_append]
      gi_wp2
      go_ret2
      exact ⟨⟨_, _, HP.out, rfl⟩, rfl⟩

def atI (N : Nat) (line col : Int) (pre : List Lb) (W : World) : Prop :=
  (∀ y ∈ pre, (y.1.1 : Int) ≠ line) ∧ Boxed W N 3 (.int .i64 line) ∧ Boxed W (N + 1) 3 (.int .i64 col) ∧ Boxed W (N + 1 + 1) 3 (.int .i64 0) ∧ Boxed W (N + 1 + 1 + 1) 23 (.int .i64 0)
def atX (N : Nat) (line col : Int) (c : Code) (pre : List Lb) (W : World) : Prop :=
  c = .ret ∧ ∃ (p0 : List Lb) (x : Lb) (a b : Int), pre = p0 ++ [x] ∧ (x.1.1 : Int) = line ∧ InLn x.1.2.1 x.1.2.2 col a b ∧ Boxed W (N + 1 + 1) 3 (.int .i64 a) ∧ Boxed W (N + 1 + 1 + 1) 23 (.int .i64 b)
theorem atI_own (N : Nat) (line col : Int) (B : Nat) : OwnFrom B (atI N line col) :=
  OwnFrom.and (fun _ _ _ _ hs _ _ => hs) (OwnFrom.and ((boxed_own _ _ _).from _) (OwnFrom.and ((boxed_own _ _ _).from _) (OwnFrom.and ((boxed_own _ _ _).from _) ((boxed_own _ _ _).from _))))
theorem atX_own (N : Nat) (line col : Int) (B : Nat) (c : Code) : OwnFrom B (atX N line col c) := by
  rintro pre X Y row ⟨hc, p0, x, a, b, e, h1, h2, b1, b2⟩ hg hr
  exact ⟨hc, p0, x, a, b, e, h1, h2, (boxed_own _ _ (fun _ : Unit => _)).from _ () X Y row b1 hg hr, (boxed_own _ _ (fun _ : Unit => _)).from _ () X Y row b2 hg hr⟩

def AtPost (s : ByteArray) (line col : Int) (e : Ending) : Prop :=
  ∃ a b : Int, e = .returned (.tuple #[.int .i64 a, .int .i64 b]) ∧ ((∃ x ∈ spans s.data.toList, (x.1 : Int) = line ∧ InLn x.2.1 x.2.2 col a b) ∨ ((∀ x ∈ spans s.data.toList, (x.1 : Int) ≠ line) ∧ a = 0 ∧ b = 15))

set_option maxRecDepth 100000 in
set_option maxHeartbeats 1000000 in
theorem at_in (F : Fence) (n : Nat) (hF : ∀ f, F.fn f) (hro : F.round = none) (hn : 4 ≤ n) (s : ByteArray) (hs : s.size ≤ 1000) (line col : Int) (w : World) :
    CallsIn F n Try.prog 14 #[.string s, .int .i64 line, .int .i64 col] w fun e W' => AtPost s line col e ∧ Below w.heap.size w W' := by
  have h1 : 1 ≤ n := by omega
  refine callsIn_of_wp_marks Try.func14 rfl (hF 14) ?_ hro
  simp only [Try.ntmps14, List.size_toArray, List.length_cons, List.length_nil, Nat.reduceAdd, Nat.reduceSub, Array.replicate_succ, Array.replicate_zero, List.push_toArray, List.append_toArray, List.nil_append, List.cons_append]
  gi_wp2_with (gi_at_call 23; refine (spans_in' F (n - 1) (hF 23) hro _ _).mono ?_; rintro e w' ⟨rfl, rfl⟩)
  obtain ⟨W0, hW0⟩ : ∃ W0, ((((w.alloc (Obj.cells #[Value.int IntKind.i64 line] 3)).alloc (Obj.cells #[Value.int IntKind.i64 col] 3)).alloc (Obj.cells #[Value.int IntKind.i64 0] 3)).alloc (Obj.cells #[Value.int IntKind.i64 0] 23)).alloc (Obj.cells #[Value.string s] 9) = W0 := ⟨_, rfl⟩
  rw [hW0]
  have hB0 : Below w.heap.size w W0 := by rw [← hW0]; exact (((((Below.refl _ w).alloc (Nat.le_refl _) _).alloc (by simp) _).alloc (by simp; omega) _).alloc (by simp; omega) _).alloc (by simp; omega) _
  have hI0 : atI w.heap.size line col [] W0 := by
    rw [← hW0]
    refine ⟨by simp, ((((Boxed.new _ _ _).alloc _).alloc _).alloc _).alloc _, ?_, ?_, ?_⟩
    · have := Boxed.new (w.alloc (.cells #[.int .i64 line] 3)) 3 (.int .i64 col); rw [World.size_alloc] at this; exact ((this.alloc _).alloc _).alloc _
    · have := Boxed.new ((w.alloc (.cells #[.int .i64 line] 3)).alloc (.cells #[.int .i64 col] 3)) 3 (.int .i64 0); simp only [World.size_alloc] at this; exact (this.alloc _).alloc _
    · have := Boxed.new (((w.alloc (.cells #[.int .i64 line] 3)).alloc (.cells #[.int .i64 col] 3)).alloc (.cells #[.int .i64 0] 3)) 23 (.int .i64 0); simp only [World.size_alloc] at this; exact this.alloc _
  have hS : Boxed W0 (w.heap.size + 1 + 1 + 1 + 1) 9 (.string s) := by
    rw [← hW0]
    have := Boxed.new ((((w.alloc (.cells #[.int .i64 line] 3)).alloc (.cells #[.int .i64 col] 3)).alloc (.cells #[.int .i64 0] 3)).alloc (.cells #[.int .i64 0] 23)) 9 (.string s); simp only [World.size_alloc] at this; exact this
  clear hW0
  refine wpIn_rangeFunc_ownH hro h1 (gf := 30) (lb := #[.pointer (some ⟨w.heap.size + 1 + 1 + 1 + 1, 0, none⟩)]) rfl (hF 30) (enters_of Try.func30 (by kernel_rfl) rfl)
    (spans_stops F (n - 1) (hF 30) hro (by omega) _ s hs W0 hS.lt hS.cell) kpc_t kpc_b (Below.refl _ _) (fun _ => rfl)
    (fun pre W => atI w.heap.size line col pre W ∧ Below w.heap.size w W)
    (fun c pre W => atX w.heap.size line col c pre W ∧ Below w.heap.size w W)
    (OwnFrom.and (atI_own _ _ _ _) (ownFrom_below (Nat.le_refl _) hB0.size))
    (fun c => OwnFrom.and (atX_own _ _ _ _ _) (ownFrom_below (Nat.le_refl _) hB0.size))
    ⟨hI0, hB0⟩
    (fun x a' W => ∃ Bx, w.heap.size + 1 + 1 + 1 < Bx ∧ Boxed2 W Bx 41 (.int .i64 x.1.2.1) (.int .i64 x.1.2.2) ∧ ∃ v13, a' = { tmps := #[.string s, .int .i64 line, .int .i64 col, undef, .pointer (some ⟨w.heap.size, 0, none⟩), .pointer (some ⟨w.heap.size + 1, 0, none⟩), .pointer (some ⟨w.heap.size + 1 + 1, 0, none⟩), .pointer (some ⟨w.heap.size + 1 + 1 + 1, 0, none⟩), .int .i64 x.1.1, .pointer (some ⟨Bx, 0, none⟩), .string s, .func (.func 30) #[] #[.pointer (some ⟨w.heap.size + 1 + 1 + 1 + 1, 0, none⟩)], .int .i64 x.1.1, v13, undef, undef, undef, undef, undef, undef, undef, undef], defers := [] })
    ?hAx ?assign ?body ?done ?stop
  case hAx =>
    rintro x a' _ X Y row ⟨Bx, hb, h2, v13, e⟩ hg hr
    exact ⟨Bx, hb, (boxed2_own _ _ (fun _ : Unit => _) (fun _ : Unit => _)).from _ () X Y row h2 hg hr, v13, e⟩
  case assign =>
    rintro l pre x W K ⟨hi, hB⟩ hK
    gi_wp2
    exact hK _ _ ((KeepsOthers.alloc _ _).from _) (kpc_alloc _ _) ⟨⟨hi.1, hi.2.1.alloc _, hi.2.2.1.alloc _, hi.2.2.2.1.alloc _, hi.2.2.2.2.alloc _⟩, hB.alloc hB.size _⟩ ⟨W.heap.size, hi.2.2.2.2.lt, Boxed2.new W 41 _ _, _, rfl⟩
  case body =>
    rintro l pre ⟨⟨ln, fr, to⟩, hx⟩ a' W hl ⟨r, hr⟩ ⟨⟨hp, b0, b1, b2, b3⟩, hB⟩ ⟨Bx, hBx, bb, v13, rfl⟩ _
    dsimp only at bb
    have hx1 := hx.1
    have hx2 := hx.2.1
    have hx3 := hx.2.2
    dsimp only at hx1 hx2 hx3
    have c0 := b0.cell
    have c1 := b1.cell
    have c2 := b2.cell
    have c3 := b3.cell
    have f2 := b2.frozen
    have f3 := b3.frozen
    have d0 := bb.cell0
    have d1 := bb.cell1
    have hlt2 := b3.lt
    have hd : 1 ≤ n - 1 - 1 := by omega
    by_cases hle : (ln : Int) = line
    · have hb : ((ln : Int) == line) = true := by simp [hle]
      have HE := Lib.hid hle
      have HP := Lib.hid hp
      clear hp hle
      have g2 := b2.alloc (.cells #[.int .i64 fr, .int .i64 to] 41)
      have g3 := b3.alloc (.cells #[.int .i64 fr, .int .i64 to] 41)
      have c2' := g2.cell
      have c3' := g3.cell
      have f2' := g2.frozen
      have f3' := g3.frozen
      gi_wp2_with (gi_at_call 24; refine (CallsIn.inRound l (inLine_in F _ hF hro fr to hx2 hx3 col _)).mono ?_; rintro e w' ⟨⟨a, b, hab, rfl⟩, rfl⟩; have HAB := Lib.hid hab; clear hab)
      refine ⟨(((KeepsOthers.alloc _ _).trans (KeepsOthers.setCell _ _ _)).trans (KeepsOthers.setCell _ _ _)).from _, ⟨rfl, pre, ⟨(ln, fr, to), hx⟩, _, _, rfl, HE.out, HAB.out, ?_, ?_⟩, ?_⟩
      · exact (g2.set _).other (by omega) _
      · exact (g3.other (by omega) _).set _
      · exact ((hB.alloc hB.size _).setCell (p := ⟨w.heap.size + 1 + 1, 0, none⟩) (by simp; omega) _).setCell (p := ⟨w.heap.size + 1 + 1 + 1, 0, none⟩) (by simp; omega) _
    · have hb : ((ln : Int) == line) = false := by simp [hle]
      have hp' : ∀ y ∈ pre ++ [(⟨(ln, fr, to), hx⟩ : Lb)], (y.1.1 : Int) ≠ line := fun y hy => by
        rcases List.mem_append.1 hy with hy | hy
        · exact hp y hy
        · simp at hy; subst hy; exact hle
      have HP := Lib.hid hp'
      clear hp hp' hle
      gi_wp2
      exact ⟨KeepsFrom.refl _ _, fun e => e, ⟨HP.out, b0, b1, b2, b3⟩, hB⟩
  case done =>
    rintro D ys W hD hys ⟨⟨hp, -, -, b2, b3⟩, hB⟩ hK
    have hno : ∀ x ∈ spans s.data.toList, (x.1 : Int) ≠ line := fun y hy => by
      rw [← hys] at hy
      obtain ⟨z, hz, rfl⟩ := List.mem_map.1 hy
      exact hp z hz
    have HN := Lib.hid hno
    have c2 := b2.cell
    have c3 := b3.cell
    have f2 := b2.frozen
    have f3 := b3.frozen
    clear hp hys hno
    gi_wp2
    have hK' := ((KeepsOthers.setCell W ⟨w.heap.size + 1 + 1, 0, none⟩ (.int .i64 0)).trans (KeepsOthers.setCell _ ⟨w.heap.size + 1 + 1 + 1, 0, none⟩ (.int .i64 15))).same D _ hK rfl
    refine ⟨by simp, .inl ⟨_, _, rfl, run_takeDeferred hK', ?_⟩⟩
    have g2 : Boxed _ (w.heap.size + 1 + 1) 3 (.int .i64 0) := (b2.set (.int .i64 0)).other (B' := w.heap.size + 1 + 1 + 1) (by omega) (.int .i64 15)
    have g3 : Boxed _ (w.heap.size + 1 + 1 + 1) 23 (.int .i64 15) := (b3.other (B' := w.heap.size + 1 + 1) (by omega) (.int .i64 0)).set (.int .i64 15)
    have c2 := cell_kept g2.cell (grownBy_putObj' _ D (.deferred none)) (fun r e => by cases e; exact ⟨_, hK', rfl⟩)
    have c3 := cell_kept g3.cell (grownBy_putObj' _ D (.deferred none)) (fun r e => by cases e; exact ⟨_, hK', rfl⟩)
    refine ⟨.tuple #[.int .i64 0, .int .i64 15], ?_, ⟨_, _, rfl, .inr ⟨HN.out, rfl, rfl⟩⟩, ((hB.setCell (p := ⟨w.heap.size + 1 + 1, 0, none⟩) (by simp; omega) _).setCell (p := ⟨w.heap.size + 1 + 1 + 1, 0, none⟩) (by simp; omega) _).trans (belowK_b (w := w) (Nat.le_refl _) _ D _ _ (by have := hB0.size; omega) hK' rfl rfl)⟩
    simp [results, Try.f14, go_sem, c2, c3]
  case stop =>
    rintro D c pre W hD hpre ⟨⟨rfl, p0, x, a, b, rfl, hxl, hab, b2, b3⟩, hB⟩ hK
    have HX := Lib.hid (show ∃ x ∈ spans s.data.toList, (x.1 : Int) = line ∧ InLn x.2.1 x.2.2 col a b from ⟨x.1, hpre.subset (by simp), hxl, hab⟩)
    clear hpre hxl hab
    gi_wp2
    refine ⟨by simp, .inl ⟨_, _, rfl, run_takeDeferred hK, ?_⟩⟩
    have c2 := cell_kept b2.cell (grownBy_putObj' _ D (.deferred none)) (fun r e => by cases e; exact ⟨_, hK, rfl⟩)
    have c3 := cell_kept b3.cell (grownBy_putObj' _ D (.deferred none)) (fun r e => by cases e; exact ⟨_, hK, rfl⟩)
    refine ⟨.tuple #[.int .i64 a, .int .i64 b], ?_, ⟨_, _, rfl, .inl HX.out⟩, hB.trans (belowK_b (w := w) (Nat.le_refl _) _ D _ _ (by have := hB0.size; omega) hK rfl rfl)⟩
    simp [results, Try.f14, go_sem, c2, c3]

/-- At, at a place's line and column: that place. -/
theorem at_yes {s : ByteArray} {i : Nat} (hi : i ≤ s.size) {e : Ending} (h : AtPost s (placeOf s.data.toList i).1 (placeOf s.data.toList i).2 e) : e = .returned (.tuple #[.int .i64 i, .int .i64 0]) := by
  obtain ⟨x, hx, h1, h2, h3⟩ := spans_of s.data.toList i (by simpa using hi)
  rw [h3] at h
  obtain ⟨a, b, rfl, ⟨y, hy, hl, hin⟩ | ⟨hno, _⟩⟩ := h
  · obtain rfl := spans_unique _ x y hx hy (by simp at hl; omega)
    rcases hin with ⟨_, _, rfl, rfl⟩ | ⟨hn, _⟩
    · simp; omega
    · exfalso; apply hn; simp; omega
  · exact absurd rfl (hno x hx)

/-- At, at a line and a column that no place has: none. -/
theorem at_no {s : ByteArray} {line col : Int} (hn : ∀ i, i ≤ s.size → ¬ (((placeOf s.data.toList i).1 : Int) = line ∧ ((placeOf s.data.toList i).2 : Int) = col)) {e : Ending} (h : AtPost s line col e) : e = .returned (.tuple #[.int .i64 0, .int .i64 15]) := by
  obtain ⟨a, b, rfl, ⟨y, hy, hl, hin⟩ | ⟨hno, rfl, rfl⟩⟩ := h
  · rcases hin with ⟨g1, g2, rfl, rfl⟩ | ⟨_, rfl, rfl⟩
    · exfalso
      have hm := spans_mem _ y hy
      have e1 : s.data.toList.length = s.size := by simp
      refine hn (y.2.1 + col.toNat - 1) (by omega) ?_
      rw [spans_in _ y hy (y.2.1 + col.toNat - 1) (by omega) (by omega)]
      simp; omega
    · rfl
  · rfl

end Go.Proofs.Ytjimkfniahndhaa
