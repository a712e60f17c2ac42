/-
  world.worldOf: the numbers that a text tells.
-/
import Derived.Test.YtoailhkaenofpaaDoorWdS
import Derived.Lib.Strings
import Derived.RegionTactic
import Derived.Deep.RegionHeld3
import Derived.BigRegion
namespace Go.Proofs.YtoailhkaenofpaaDoor
open Go.RowKit Go.Shelf
attribute [local go_sem] Oper.semAt_some

theorem cut_forms (T : List UInt8) :
    (Lib.hasSuffix T [10] = false ∧ ∀ r, T ≠ headB ++ r ++ [10]) ∨
    (Lib.hasSuffix T [10] = true ∧ Lib.hasPrefix (Lib.trimSuffix T [10]) headB = false ∧ ∀ r, T ≠ headB ++ r ++ [10]) ∨
    (∃ r, T = headB ++ r ++ [10] ∧ Lib.hasSuffix T [10] = true ∧ Lib.hasPrefix (Lib.trimSuffix T [10]) headB = true ∧ Lib.trimPrefix (Lib.trimSuffix T [10]) headB = r) := by
  cases hs : Lib.hasSuffix T [10] with
  | false =>
    refine .inl ⟨rfl, fun r hr => ?_⟩
    have : Lib.hasSuffix T [10] = true := by
      unfold Lib.hasSuffix
      rw [List.isSuffixOf_iff_suffix, hr]
      exact ⟨_, rfl⟩
    rw [hs] at this; cases this
  | true =>
    have h1 : [10] <:+ T := by unfold Lib.hasSuffix at hs; rwa [List.isSuffixOf_iff_suffix] at hs
    obtain ⟨y, rfl⟩ := h1
    have e1 : Lib.trimSuffix (y ++ [10]) [10] = y := by
      unfold Lib.trimSuffix
      rw [if_pos hs]
      simp
    rw [e1]
    cases hp : Lib.hasPrefix y headB with
    | false =>
      refine .inr (.inl ⟨rfl, rfl, fun r hr => ?_⟩)
      have e2 : y = headB ++ r := List.append_cancel_right hr
      have : Lib.hasPrefix y headB = true := by
        unfold Lib.hasPrefix
        rw [List.isPrefixOf_iff_prefix, e2]
        exact ⟨_, rfl⟩
      rw [hp] at this; cases this
    | true =>
      have h2 : headB <+: y := by unfold Lib.hasPrefix at hp; rwa [List.isPrefixOf_iff_prefix] at hp
      obtain ⟨r, rfl⟩ := h2
      refine .inr (.inr ⟨r, rfl, rfl, rfl, ?_⟩)
      unfold Lib.trimPrefix
      rw [if_pos hp]
      simp
theorem numsM_pre : ∀ (a b : List (List UInt8)), numsM a = none → numsM (a ++ b) = none
  | [], b, h => by simp [numsM] at h
  | t :: a, b, h => by
    rw [List.cons_append, numsM]
    rw [numsM] at h
    cases ht : numM t with
    | none => rfl
    | some n =>
      rw [ht] at h
      cases ha : numsM a with
      | none => rw [numsM_pre a b ha]
      | some k => rw [ha] at h; cases h

/-- Blocks that hold cells abide what an iterator's round keeps. -/
theorem cells_kept {X Y : World} {row : Option Nat} {B k : Nat} {cs : Array Value} {t : TypeId} {fr : Nat × Nat} (h : X.heap[k]? = some (.cells cs t fr)) (hg : X.grownBy Y row) (hr : ∀ r, row = some r → B ≤ r ∧ ∃ o : Obj, X.heap[r]? = some o ∧ o.isCells = false) : Y.heap[k]? = some (.cells cs t fr) :=
  (hg.block k (blkLt h) (fun e => by obtain ⟨_, o, ho, hc⟩ := hr k e.symm; rw [h] at ho; cases ho; cases hc)).trans h
theorem own_cells {w : World} {base n : Nat} {e : TypeId} {size : Nat} {v : Value} {xs : List Value} (h : w.ownsRow base e size v n xs) (g : Nat) (hg : v.ownBlock = some g) : ∃ cur, w.heap[g]? = some (.cells cur e (0, 0)) := by
  rcases h.2 with ⟨rfl, _⟩ | ⟨g', cap, cur, rfl, _, hb, _⟩
  · simp [Value.ownBlock] at hg
  · obtain rfl : g' = g := by simpa [Value.ownBlock] using hg
    exact ⟨cur, hb⟩
theorem row_kept {X Y : World} {row : Option Nat} {B base n : Nat} {e : TypeId} {size : Nat} {v : Value} {xs : List Value} (h : X.ownsRow base e size v n xs) (hg : X.grownBy Y row) (hr : ∀ r, row = some r → B ≤ r ∧ ∃ o : Obj, X.heap[r]? = some o ∧ o.isCells = false) : Y.ownsRow base e size v n xs :=
  own_keepC h fun g e => by
    obtain ⟨cur, hc⟩ := own_cells h g e
    rw [hc]; exact cells_kept hc hg hr
theorem keeps_of_below {w w' : World} (h : Below w.heap.size w w') (B : Nat) : KeepsFrom B w w' := ⟨h.size, fun k _ _ hk _ => (h.block k (blkLt hk)).trans hk⟩

/-- Between two rounds. -/
structure WI (N : Nat) (w : World) (l : List Int) (v : Value) (W : World) : Prop where
  r0 : W.heap[N]? = some (.cells #[.int .i64 0, .slice none 0 0] 24 (0, 0))
  r1 : Boxed W (N + 1) 4 (.bool false)
  r2 : Boxed W (N + 2) 22 v
  row : W.ownsRow (N + 6) 3 1 v (l.take 1002).length (intsL (l.take 1002))
  low : Below N w W
  size : N + 6 ≤ W.heap.size
def WIe (N : Nat) (w : World) (pre : List Pt) (W : World) : Prop := ∃ l v, numsM (pre.map (·.1)) = some l ∧ WI N w l v W
/-- A round has left. -/
def WXe (N : Nat) (w : World) (pre : List Pt) (W : World) : Prop :=
  numsM (pre.map (·.1)) = none ∧ W.heap[N]? = some (.cells #[.int .i64 0, .slice none 0 0] 24 (0, 0)) ∧ Boxed W (N + 1) 4 (.bool false) ∧ Below N w W
theorem WI.kept {X Y : World} {row : Option Nat} {B N : Nat} {w : World} {l : List Int} {v : Value} (h : WI N w l v X) (hN : N ≤ w.heap.size) (hB : N ≤ B) (hg : X.grownBy Y row) (hr : ∀ r, row = some r → B ≤ r ∧ ∃ o : Obj, X.heap[r]? = some o ∧ o.isCells = false) : WI N w l v Y :=
  ⟨cells_kept h.r0 hg hr, cells_kept h.r1 hg hr, cells_kept h.r2 hg hr, row_kept h.row hg hr, ownFrom_below (β := Unit) hN hB () X Y row h.low hg hr, Nat.le_trans h.size hg.size⟩
theorem WIe_own (N : Nat) (w : World) (hN : N ≤ w.heap.size) (B : Nat) (hB : N ≤ B) : OwnFrom B (WIe N w) := by
  rintro pre X Y row ⟨l, v, hn, h⟩ hg hr
  exact ⟨l, v, hn, h.kept hN hB hg hr⟩
theorem WXe_own (N : Nat) (w : World) (hN : N ≤ w.heap.size) (B : Nat) (hB : N ≤ B) : OwnFrom B (WXe N w) := by
  rintro pre X Y row ⟨hn, h0, h1, h2⟩ hg hr
  exact ⟨hn, cells_kept h0 hg hr, cells_kept h1 hg hr, ownFrom_below (β := Unit) hN hB () X Y row h2 hg hr⟩
theorem WI.put {X : World} {N : Nat} {w : World} {l : List Int} {v : Value} (h : WI N w l v X) (u : Value) : WI N w l v (X.setCell ⟨N + 3, 0, none⟩ u) :=
  ⟨(setNe _ _ _ _ _ (by omega)).trans h.r0, h.r1.other (by omega) _, h.r2.other (by omega) _, own_keepC h.row fun g e => setNe _ _ _ _ _ (by have := (own_ltC h.row g e).1; omega), h.low.setCell (p := ⟨N + 3, 0, none⟩) (by simp) _, Nat.le_trans h.size (KeepsOthers.setCell X _ u).size⟩
theorem WI.below {X Y : World} {N : Nat} {w : World} {l : List Int} {v : Value} (h : WI N w l v X) (hb : Below X.heap.size X Y) : WI N w l v Y :=
  ⟨(hb.block _ (blkLt h.r0)).trans h.r0, (hb.block _ h.r1.lt).trans h.r1, (hb.block _ h.r2.lt).trans h.r2, own_keepC h.row fun g e => hb.block g (own_ltC h.row g e).2, h.low.trans (hb.mono (by have := h.size; omega)), Nat.le_trans h.size hb.size⟩
theorem frzC {w : World} {k : Nat} {cs : Array Value} {t : TypeId} (h : w.heap[k]? = some (.cells cs t (0, 0))) (o : Nat) : w.frozen? ⟨k, o, none⟩ = false := by simp [World.frozen?, h]
theorem cellSetNe (w : World) (g o b p : Nat) (v : Value) (h : b ≠ g) : (w.setCell ⟨g, o, none⟩ v).cell? ⟨b, p, none⟩ = w.cell? ⟨b, p, none⟩ := World.cell?_of_block (a := ⟨b, p, none⟩) (setNe w g o v b h)
theorem boxed_ne {W : World} {B g o : Nat} {t : TypeId} {v u : Value} (h : Boxed W B t v) (hne : B ≠ g) : Boxed (W.setCell ⟨g, o, none⟩ u) B t v := (setNe _ _ _ _ _ hne).trans h
theorem set2 {W : World} {N : Nat} {a b : Value} {t : TypeId} (h : W.heap[N]? = some (.cells #[a, b] t (0, 0))) (u v : Value) : ((W.setCell ⟨N, 0, none⟩ u).setCell ⟨N, 1, none⟩ v).heap[N]? = some (.cells #[u, v] t (0, 0)) :=
  setAt _ N 1 v _ _ _ (setAt W N 0 u _ _ _ h)
/-- A number more is put behind the others. -/
theorem WI.app {X w3 : World} {N : Nat} {w : World} {q : List Int} {v v' : Value} {m : Int} {o : Obj} (h : WI N w q v X) (hq : q.length ≤ 1001)
    (hown : w3.ownsRow (N + 6) 3 1 v' (q.length + 1) (intsL q ++ [.int .i64 m])) (hg : (X.alloc o).grownBy w3 v.ownBlock) :
    Boxed w3 (N + 2) 22 v ∧ WI N w (q ++ [m]) v' (w3.setCell ⟨N + 2, 0, none⟩ v') ∧ KeepsOthers X (w3.setCell ⟨N + 2, 0, none⟩ v') ∧ ∀ k, k < N + 6 → k ≠ N + 2 → (w3.setCell ⟨N + 2, 0, none⟩ v').heap[k]? = X.heap[k]? := by
  have hs := h.size
  have hlo : ∀ k, k < N + 6 → w3.heap[k]? = X.heap[k]? := fun k hk =>
    (hg.block k (by simp; omega) (fun e => by have := (own_ltC h.row k e.symm).1; omega)).trans (Below.heap_alloc X o k (by omega))
  have b2 : Boxed w3 (N + 2) 22 v := (hlo _ (by omega)).trans h.r2
  have hl2 : ∀ k, k < N + 6 → k ≠ N + 2 → (w3.setCell ⟨N + 2, 0, none⟩ v').heap[k]? = X.heap[k]? := fun k h1 h2 => (setNe _ _ _ _ _ h2).trans (hlo k h1)
  have h3 : X.heap.size ≤ w3.heap.size := by have := hg.size; simp at this; omega
  refine ⟨b2, ⟨(hl2 _ (by omega) (by omega)).trans h.r0, (hl2 _ (by omega) (by omega)).trans h.r1, b2.set v', ?_, ?_, by have := (KeepsOthers.setCell w3 ⟨N + 2, 0, none⟩ v').size; omega⟩, ?_, hl2⟩
  · have e : (q ++ [m]).take 1002 = q ++ [m] := List.take_of_length_le (by simp; omega)
    rw [e, intsL_snoc, List.length_append, List.length_singleton]
    exact own_keepC hown fun g e => setNe _ _ _ _ _ (by have := (own_ltC hown g e).1; omega)
  · refine h.low.trans ⟨hg.os, hg.tape, hg.output, by have := (KeepsOthers.setCell w3 ⟨N + 2, 0, none⟩ v').size; omega, fun k hk => hl2 k (by omega) (by omega)⟩
  · refine ((KeepsOthers.alloc X o).trans (KeepsOthers.of_grownBy hg fun j ob ej hj => ?_)).trans (KeepsOthers.setCell _ _ _)
    obtain ⟨cur, hc⟩ := own_cells (h.row.alloc o) j ej
    rw [hc] at hj; cases hj; rfl

theorem newAt (W : World) (o : Obj) (n : Nat) (h : W.heap.size = n) : (W.alloc o).heap[n]? = some o := by rw [← h]; exact World.alloc_heap_new W o
theorem alloc6 (w : World) (a b c d e f : Obj) : ∃ W, W = (((((w.alloc a).alloc b).alloc c).alloc d).alloc e).alloc f ∧ W.heap.size = w.heap.size + 6 ∧ Below w.heap.size w W ∧
    W.heap[w.heap.size]? = some a ∧ W.heap[w.heap.size + 1]? = some b ∧ W.heap[w.heap.size + 2]? = some c ∧ W.heap[w.heap.size + 3]? = some d ∧ W.heap[w.heap.size + 4]? = some e ∧ W.heap[w.heap.size + 5]? = some f := by
  refine ⟨_, rfl, by simp, ((((((Below.refl w.heap.size w).alloc (Nat.le_refl _) _).alloc (by simp) _).alloc (by simp; omega) _).alloc (by simp; omega) _).alloc (by simp; omega) _).alloc (by simp; omega) _, ?_, ?_, ?_, ?_, ?_, ?_⟩
  all_goals
    repeat (first | exact newAt _ _ _ (by simp only [World.size_alloc]) | rw [Below.heap_alloc _ _ _ (by simp only [World.size_alloc]; omega)])

/-- What worldOf answers. -/
def WofP (T : List UInt8) (w : World) (e : Ending) (w' : World) : Prop :=
  Below w.heap.size w w' ∧ ((wOf T = none ∧ e = .returned (.tuple #[.agg #[.int .i64 0, .slice none 0 0], .bool false])) ∨
    (∃ s l A c, wOf T = some (s :: l) ∧ e = .returned (.tuple #[.agg #[.int .i64 s, .slice A (l.take 1001).length c], .bool true]) ∧ IsAt w' w'.heap.size A (l.take 1001) ∧ (l.take 1001).length ≤ c ∧ c ≤ maxLen ∧ (∃ b off, A = some ⟨b, off, none⟩ ∧ w.heap.size ≤ b)))

/-- At the function's return. -/
theorem wof_fin {T : List UInt8} {w W : World} {N D c : Nat} {s : Int} {l p : List Int} {v : Value} {A : Option Addr} (hN : w.heap.size = N) (HI : WI N w (s :: l) v W) (hw : wOf T = some (s :: l)) (hp : l.take 1001 = p)
    (hK : W.heap[D]? = some (.deferred (some []))) (hD : N + 6 ≤ D) {g : Nat} (hg : N + 6 ≤ g) (hA : 0 < p.length → A = some ⟨g, 1, none⟩ ∧ ∀ i (h : i < p.length), W.cell? ⟨g, 1 + i, none⟩ = some (.int .i64 p[i])) (hAA : ∃ off, A = some ⟨g, off, none⟩) (hc : p.length ≤ c) (hm : c ≤ maxLen) :
    ∃ Wf, Wf = (((W.setCell ⟨N, 0, none⟩ (.int .i64 s)).setCell ⟨N, 1, none⟩ (.slice A p.length c)).setCell ⟨N + 1, 0, none⟩ (.bool true)).drew ∧ Wf.heap[D]? = some (.deferred (some [])) ∧
      (Wf.putObj D (.deferred none)).cell? ⟨N, 0, none⟩ = some (.int .i64 s) ∧ (Wf.putObj D (.deferred none)).cell? ⟨N, 1, none⟩ = some (.slice A p.length c) ∧ (Wf.putObj D (.deferred none)).cell? ⟨N + 1, 0, none⟩ = some (.bool true) ∧
      WofP T w (.returned (.tuple #[.agg #[.int .i64 s, .slice A p.length c], .bool true])) (Wf.putObj D (.deferred none)) := by
  refine ⟨_, rfl, ?_⟩
  generalize hWf : (((W.setCell ⟨N, 0, none⟩ (.int .i64 s)).setCell ⟨N, 1, none⟩ (.slice A p.length c)).setCell ⟨N + 1, 0, none⟩ (.bool true)).drew = Wf
  have e0 : Wf.heap[N]? = some (.cells #[.int .i64 s, .slice A p.length c] 24 (0, 0)) := by
    rw [← hWf]; exact (setNe _ _ _ _ _ (by omega)).trans (set2 HI.r0 _ _)
  have e1 : Wf.heap[N + 1]? = some (.cells #[.bool true] 4 (0, 0)) := by
    rw [← hWf]; exact (boxed_ne (boxed_ne HI.r1 (by omega)) (by omega)).set _
  have ek : Wf.heap[D]? = some (.deferred (some [])) := by
    rw [← hWf]; exact ((((KeepsOthers.setCell _ _ _).trans (KeepsOthers.setCell _ _ _)).trans (KeepsOthers.setCell _ _ _)).trans (KeepsOthers.drew _)).same D _ hK rfl
  have eb : Below N w Wf := by
    rw [← hWf]; exact (((HI.low.setCell (p := ⟨N, 0, none⟩) (by simp) _).setCell (p := ⟨N, 1, none⟩) (by simp) _).setCell (p := ⟨N + 1, 0, none⟩) (by simp) _).drew
  have es : Wf.heap.size = W.heap.size := by
    rw [← hWf]; simp [World.setCell, World.drew]
  have eo : ∀ k, k ≠ N → k ≠ N + 1 → Wf.heap[k]? = W.heap[k]? := fun k h1 h2 => by
    rw [← hWf]; exact (setNe _ _ _ _ _ h2).trans ((setNe _ _ _ _ _ h1).trans (setNe _ _ _ _ _ h1))
  have po : ∀ k, k ≠ D → (Wf.putObj D (.deferred none)).heap[k]? = Wf.heap[k]? := fun k h => World.putObj_heap_other h
  have ps : (Wf.putObj D (.deferred none)).heap.size = W.heap.size := by rw [← es]; simp [World.putObj]
  refine ⟨ek, cellC ((po N (by omega)).trans e0) 0, cellC ((po N (by omega)).trans e0) 1, cellC ((po (N + 1) (by omega)).trans e1) 0, ?_, .inr ⟨s, l, A, c, hw, ?_, ?_, ?_, hm, ?_⟩⟩
  · rw [hN]
    exact eb.trans (belowK_b (w := w) (by omega) _ D _ _ (by omega) ek rfl rfl)
  · rw [hp]
  · rw [hp, ps]
    intro hn
    obtain ⟨e, hcl⟩ := hA hn
    have hgD : g ≠ D := fun e => by
      have := hcl 0 hn
      rw [e] at this
      simp [World.cell?, hK] at this
    refine ⟨g, 1, e, ltC (hcl 0 hn), fun i hi => ?_⟩
    exact (World.cell?_of_block (a := ⟨g, 1 + i, none⟩) ((po g hgD).trans (eo g (by omega) (by omega)))).trans (hcl i hi)
  · rw [hp]; exact hc
  · obtain ⟨off, e⟩ := hAA
    exact ⟨g, off, e, by omega⟩
set_option maxRecDepth 100000 in
set_option maxHeartbeats 2000000 in
theorem worldOf_no (T : List UInt8) (hT : T.length ≤ 1000000) (w : World) (hno : wOf T = none) (h : Lib.hasSuffix T [10] = false ∨ (Lib.hasSuffix T [10] = true ∧ Lib.hasPrefix (Lib.trimSuffix T [10]) headB = false)) : Calls Tryd.prog 23 #[.string (bs T)] w (WofP T w) := by
  have hsz : (bs T).size = T.length := bs_size T
  have HS := Lib.hid (fun W => Tryd.cutSufW (bs T) ⟨#[10]⟩ W (by omega))
  have HP := Lib.hid (fun s W => Tryd.cutPreW s ⟨#[115, 116, 101, 112, 115, 32]⟩ W)
  have ed : (⟨#[10]⟩ : ByteArray).data.toList = [10] := rfl
  have eh : (⟨#[115, 116, 101, 112, 115, 32]⟩ : ByteArray).data.toList = headB := rfl
  rw [bs_toList, ed] at HS
  rw [eh] at HP
  have HNO := Lib.hid hno
  clear ed eh hsz hno
  have HPL := Lib.hid (show (⟨(Lib.trimSuffix T [10]).toArray⟩ : ByteArray).data.toList = Lib.trimSuffix T [10] by simp)
  generalize Lib.hasSuffix T [10] = sf at *
  have HB := Lib.hid (((Below.refl w.heap.size w).alloc (Nat.le_refl _) (.cells #[.int .i64 0, .slice none 0 0] 24)).alloc (by simp) (.cells #[.bool false] 4))
  rcases h with rfl | ⟨rfl, hp⟩
  · go_enter Tryd.func23, Tryd.ntmps23
    go_wp2_with fail
    refine (HS.out _).mono ?_
    rintro e w' ⟨rfl, rfl⟩
    go_wp2_with fail
    refine (HP.out _ _).mono ?_
    rintro e w' ⟨rfl, rfl⟩
    go_wp2
    exact bodyPost_ret (v := .tuple #[.agg #[.int .i64 0, .slice none 0 0], .bool false]) (by simp [results, Tryd.f23, go_sem]) rfl ⟨HB.out, .inl ⟨HNO.out, rfl⟩⟩
  · rw [← HPL.out] at hp
    have HP2 := Lib.hid (fun W => HP.out ⟨(Lib.trimSuffix T [10]).toArray⟩ W)
    rw [hp] at HP2
    clear hp HPL HP
    go_enter Tryd.func23, Tryd.ntmps23
    go_wp2_with fail
    refine (HS.out _).mono ?_
    rintro e w' ⟨rfl, rfl⟩
    go_wp2_with fail
    refine (HP2.out _).mono ?_
    rintro e w' ⟨rfl, rfl⟩
    go_wp2
    exact bodyPost_ret (v := .tuple #[.agg #[.int .i64 0, .slice none 0 0], .bool false]) (by simp [results, Tryd.f23, go_sem]) rfl ⟨HB.out, .inl ⟨HNO.out, rfl⟩⟩
set_option maxRecDepth 100000 in
set_option maxHeartbeats 2000000 in
theorem worldOf_calls (T : List UInt8) (hT : T.length ≤ 1000000) (w : World) (hX : TX w) : Calls Tryd.prog 23 #[.string (bs T)] w (WofP T w) := by
  obtain ⟨i0, hi0, hz0, hz1, hz2⟩ := info_parts Tryd.infoInt
  have HX := Lib.hid (fun W (hW : Below w.heap.size w W) => hX.below hW (Nat.le_refl _))
  have hsz : (bs T).size = T.length := bs_size T
  have HS := Lib.hid (fun W => (callsIn_wide (n := 5)).2 (Tryd.cutSufW (bs T) ⟨#[10]⟩ W (by omega)))
  have HP := Lib.hid (fun s W => (callsIn_wide (n := 5)).2 (Tryd.cutPreW s ⟨#[115, 116, 101, 112, 115, 32]⟩ W))
  have ed : (⟨#[10]⟩ : ByteArray).data.toList = [10] := rfl
  have eh : (⟨#[115, 116, 101, 112, 115, 32]⟩ : ByteArray).data.toList = headB := rfl
  rw [bs_toList, ed] at HS
  rw [eh] at HP
  clear ed eh hsz hX
  have hF := cut_forms T
  generalize hsf : Lib.hasSuffix T [10] = sf at *
  have HSF := Lib.hid hsf
  clear hsf
  rcases hF with ⟨rfl, hno⟩ | ⟨rfl, hp, hno⟩ | ⟨r, hTr, rfl, hp, hr⟩
  · exact worldOf_no T hT w (wOf_none hno) (.inl HSF.out)
  · exact worldOf_no T hT w (wOf_none hno) (.inr ⟨HSF.out, hp⟩)
  · have HTR := Lib.hid hTr
    clear hTr
    refine (callsIn_wide (n := 6)).1 ?_
    refine callsIn_of_wp_marks Tryd.func23 rfl trivial ?_ rfl
    simp only [Tryd.ntmps23, List.size_toArray, List.length_cons, List.length_nil, Nat.reduceAdd, Nat.reduceSub, Array.replicate_succ, Array.replicate_zero, List.push_toArray, List.append_toArray, List.nil_append, List.cons_append]
    rw [← bs_toList (Lib.trimSuffix T [10])] at hp hr
    have HP2 := Lib.hid (fun W => HP.out (bs (Lib.trimSuffix T [10])) W)
    rw [hp, hr] at HP2
    have HHP := Lib.hid hp
    have HHR := Lib.hid hr
    clear hp hr
    gi_wp2
    refine ⟨trivial, (HS.out _).mono ?_⟩
    rintro e w' ⟨rfl, hw⟩
    rw [hw]
    clear hw
    gi_wp2
    refine ⟨trivial, (HP2.out _).mono ?_⟩
    rintro e w' ⟨rfl, hw⟩
    rw [hw]
    clear hw
    gi_wp2
    refine ⟨trivial, (SplitSeq_in _ (by omega) _ _).mono ?_⟩
    rintro e w' ⟨rfl, hw⟩
    obtain ⟨W0, hW0, hs0, hB0, b0, b1, b2, b3, b4, b5⟩ := alloc6 w (.cells #[.int .i64 0, .slice none 0 0] 24) (.cells #[.bool false] 4) (.cells #[.slice none 0 0] 22) (.cells #[.string (bs r)] 9) (.cells #[.string ⟨#[32]⟩] 9) (.cells #[.int .i64 0] 3)
    have hw2 : W0 = w' := hW0.trans hw
    subst hw2
    clear hW0 hw
    have HS0 := Lib.hid hs0
    have hrl : r.length ≤ 1000000 := by rw [HTR.out] at hT; simp at hT; omega
    have HSP : Hid (SpB (w.heap.size + 3) r W0) := Lib.hid ⟨b3, b4, b5⟩
    have HI0 : Hid (WIe w.heap.size w [] W0) := Lib.hid ⟨[], .slice none 0 0, rfl, b0, b1, b2, World.ownsRow_nil _ _ _ _, hB0, by omega⟩
    clear b0 b1 b2 b3 b4 b5 hs0 hB0 HS HP HP2
    generalize hln : (⟨(Lib.trimSuffix T [10]).toArray⟩ : ByteArray) = ln at *
    clear HHP HHR hln
    simp only [World.size_alloc]
    generalize hN : w.heap.size = N at *
    have HN := Lib.hid hN
    clear hN
    gi_wp2
    refine wpIn_rangeFunc_state rfl (by omega) (gf := 50) (lb := #[.pointer (some ⟨N + 3 + 1, 0, none⟩), .pointer (some ⟨N + 3, 0, none⟩), .pointer (some ⟨N + 3 + 2, 0, none⟩)]) rfl trivial (enters_of Tryd.func50 (by kernel_rfl) rfl)
      (split_gives (6 - 1) (by omega) (N + 3) r hrl W0 (by have := HS0.out; omega) HSP.out) (fun h k => h.trans k)
      (fun W l o o' hl _ _ k h1 h2 => World.putObj_heap_other (by have := HS0.out; omega)) (fun _ => rfl)
      (WIe N w) (WXe N w) (WIe_own N w (by rw [HN.out]; exact Nat.le_refl _) _ (by have := HS0.out; omega)) (WXe_own N w (by rw [HN.out]; exact Nat.le_refl _) _ (by have := HS0.out; omega)) ?hE HI0.out
      (fun x => { tmps := #[.string (bs T), undef, .pointer (some ⟨N, 0, none⟩), .pointer (some ⟨N + 1, 0, none⟩), .string ln, .bool true, .string ⟨r.toArray⟩, .bool true, .pointer (some ⟨N + 1 + 1, 0, none⟩), .string (bs x.1), undef, undef, .tuple #[.string ln, .bool true], .string (bs T), .tuple #[.string ln, .bool true], .string ln, .bool true, .tuple #[.string ⟨r.toArray⟩, .bool true], .string ln, .tuple #[.string ⟨r.toArray⟩, .bool true], .string ⟨r.toArray⟩, .bool true, .bool true, .bool false, .bool false, .bool true, .bool false, .bool false, undef, .string ⟨r.toArray⟩, .func (.func 50) #[] #[.pointer (some ⟨N + 1 + 1 + 1 + 1, 0, none⟩), .pointer (some ⟨N + 1 + 1 + 1, 0, none⟩), .pointer (some ⟨N + 1 + 1 + 1 + 1 + 1, 0, none⟩)], .string (bs x.1), undef, undef, undef, undef, undef, undef, undef, undef, undef, undef, undef, undef, undef, undef, undef, undef, undef, undef, undef, undef, undef], defers := [] }) ?assign ?body ?done ?stop
    case hE =>
      rintro o1 o2 h1 h2 pre W v ⟨⟨q, u, hn, hi⟩, hl, hd⟩
      have hz := HS0.out
      exact ⟨⟨q, u, hn, hi.put v⟩, (setNe _ _ _ _ _ (by omega)).trans hl, (setNe _ _ _ _ _ (by omega)).trans hd⟩
    case assign =>
      intro l x W K hK
      gi_wp2
      exact hK
    case body =>
      rintro l pre x W ⟨q, v, hn, hI⟩
      have HTX := Lib.hid (HX.out W hI.low)
      have HNO := Lib.hid (fun W1 hT => CallsIn.inRound l ((callsIn_wide (n := 3)).2 (numberOf_calls x.1 x.2 W1 hT)))
      have HI := Lib.hid hI
      have HNN := Lib.hid hn
      have hsW := hI.size
      generalize hxx : x.1 = t at *
      have HXX : Hid ((pre ++ [x]).map (·.1) = pre.map (·.1) ++ [t]) := Lib.hid (by rw [List.map_append, ← hxx]; rfl)
      clear hI hn hxx
      gi_wp2
      refine ⟨trivial, (HNO.out _ HTX.out).mono ?_⟩
      rintro e w1 ⟨hB1, hno⟩
      have HB1 := Lib.hid hB1
      have HI1 := Lib.hid (HI.out.below hB1)
      clear hB1 HNO
      rcases hno with ⟨m, hm, rfl⟩ | ⟨hm, m, rfl⟩
      · have HM := Lib.hid hm
        clear hm
        have HQ : Hid (numsM ((pre ++ [x]).map (·.1)) = some (q ++ [m])) := Lib.hid (by rw [HXX.out]; exact numsM_some _ _ _ _ HNN.out HM.out)
        obtain ⟨A4, c4, hv⟩ := own_sliceC HI1.out.row
        subst hv
        have c2 : w1.cell? ⟨N + 1 + 1, 0, none⟩ = some (.slice A4 (q.take 1002).length c4) := HI1.out.r2.cell
        by_cases hq : q.length ≤ 1001
        · have e : q.take 1002 = q := List.take_of_length_le (by omega)
          have hro := HI1.out.row
          rw [e] at c2 hro
          have HRO := Lib.hid hro
          have HI2 := Lib.hid (show WI N w q (.slice A4 q.length c4) w1 by have := HI1.out; rw [e] at this; exact this)
          have d1 : decide (q.length ≤ 1001) = true := decide_eq_true hq
          have d2 : decide ((q.length : Int) ≤ 1001) = true := decide_eq_true (by omega)
          have hs1 : N + 6 ≤ w1.heap.size := HI2.out.size
          clear e HI1 hro
          gi_wp2_with (gi_at_builtin; refine wpListIn_append_own _ rfl _ _ 22 rfl (N + 6) 3 i0 (.int .i64 0) 1 8 Tryd.underlying22 hi0 hz0 hz1 hz2 rfl (by decide) (.slice A4 q.length c4) q.length (intsL q) rfl (HRO.out.alloc _) ⟨w1.heap.size, 0, none⟩ 1 1 [.int .i64 m] (by rfl) rfl (newsI w1 (.int .i64 m) 3 w1.heap.size rfl) (oneI _) (by unfold maxLen; omega) (by omega) (by simp; omega) ?_; intro v' w3 hown3 hgrow hnil; clear hnil; obtain ⟨g', cap', rfl⟩ := ownsRow_succ hown3; obtain ⟨hv1, hv2, hk2, hl2⟩ := HI2.out.app hq hown3 hgrow; have HV2 := Lib.hid hv2; have HK2 := Lib.hid hk2; have HL2 := Lib.hid hl2; have hc1 : w3.cell? ⟨N + 1 + 1, 0, none⟩ = _ := hv1.cell; have hf1 : w3.frozen? ⟨N + 1 + 1, 0, none⟩ = _ := hv1.frozen; clear hv1 hv2 hk2 hl2 hown3 hgrow)
          exact ⟨(keeps_of_below HB1.out _).trans (HK2.out.from _), fun k h1 h2 => (HL2.out k (by omega) (by omega)).trans (HB1.out.block k (by omega)), _, _, HQ.out, HV2.out⟩
        · have e : (q ++ [m]).take 1002 = q.take 1002 := by rw [List.take_append_of_le_length (by omega)]
          have hk : (q.take 1002).length = 1002 := by rw [List.length_take]; omega
          have HI2 : Hid (WI N w (q ++ [m]) (.slice A4 1002 c4) w1) := Lib.hid (by
            have := HI1.out
            rw [hk] at this
            exact ⟨this.r0, this.r1, this.r2, by rw [e]; exact this.row, this.low, this.size⟩)
          rw [hk] at c2
          clear e hk HI1 hq
          gi_wp2
          exact ⟨keeps_of_below HB1.out _, fun k h1 h2 => HB1.out.block k (by omega), _, _, HQ.out, HI2.out⟩
      · have HM := Lib.hid hm
        clear hm
        have c0 := cellC HI1.out.r0 0
        have c1 := cellC HI1.out.r0 1
        have c2 := HI1.out.r1.cell
        have f0 := frzC HI1.out.r0 0
        have f1 := frzC HI1.out.r0 1
        have f2 := HI1.out.r1.frozen
        gi_wp2
        refine ⟨(keeps_of_below HB1.out _).trans ((((KeepsOthers.setCell _ _ _).trans (KeepsOthers.setCell _ _ _)).trans (KeepsOthers.setCell _ _ _)).from _), ?_, ?_, ?_, ?_⟩
        · rw [HXX.out, numsM_snoc, HNN.out, HM.out]
        · exact (setNe _ _ _ _ _ (by omega)).trans (set2 HI1.out.r0 _ _)
        · exact (boxed_ne (boxed_ne HI1.out.r1 (by omega)) (by omega)).set _
        · exact ((HI1.out.low.setCell (p := ⟨N, 0, none⟩) (by simp) _).setCell (p := ⟨N, 1, none⟩) (by simp) _).setCell (p := ⟨N + 1, 0, none⟩) (by simp) _
    case done =>
      rintro D xs W hD hxs ⟨q, v, hn, hI⟩ hK
      rw [hxs] at hn
      obtain ⟨s, l, rfl⟩ := numsM_ne hn
      have HW : Hid (wOf T = some (s :: l)) := Lib.hid (by rw [HTR.out, wOf_eq]; exact hn)
      have hro := hI.row
      rw [show (s :: l).take 1002 = s :: l.take 1001 from rfl] at hro
      have HI := Lib.hid hI
      generalize hp : l.take 1001 = p at *
      have HPP := Lib.hid hp
      have hpl : p.length ≤ 1001 := by rw [← hp, List.length_take]; omega
      rw [List.length_cons] at hro
      obtain ⟨g, cap, hv, hg1, hg2, hc1, hc2, hcl⟩ := own_cellC hro (by omega)
      subst hv
      have hD' := Lib.hid hD
      have x2 : W.cell? ⟨N + 1 + 1, 0, none⟩ = _ := hI.r2.cell
      have x0 := cellC hI.r0 0
      have x1 := cellC hI.r0 1
      have xb := hI.r1.cell
      have f0 := frzC hI.r0 0
      have f1 := frzC hI.r0 1
      have fb := hI.r1.frozen
      have xg : W.cell? ⟨g, 0, none⟩ = some (.int .i64 s) := hcl 0 (by omega)
      have HCL := Lib.hid hcl
      have HK := Lib.hid hK
      unfold maxLen at hc2
      clear hp hn hxs hI hro hcl hK hD
      have hne2 : N + 1 + 1 ≠ N := by omega
      have hne3 : N + 1 + 1 ≠ N + 1 := by omega
      have hne4 : g ≠ N := by omega
      have hne5 : g ≠ N + 1 := by omega
      have y2 : W.drew.cell? ⟨N + 1 + 1, 0, none⟩ = _ := x2
      have yg : W.drew.cell? ⟨g, 0, none⟩ = _ := xg
      have j1 : (1 : Int) ≤ (p.length : Int) + 1 := by omega
      have j2 : (p.length : Int) + 1 ≤ (cap : Int) := by omega
      have j3 : (0 : Int) ≤ (p.length : Int) := by omega
      by_cases hcc : cap = 1
      · have hp0 : p.length = 0 := by omega
        have HF := Lib.hid (wof_fin (A := some ⟨g, 0, none⟩) (c := 0) HN.out HI.out HW.out HPP.out HK.out (by have := HS0.out; have := hD'.out; omega) hg1 (fun h => absurd h (by omega)) ⟨0, rfl⟩ (by omega) (by unfold maxLen; omega))
        obtain rfl : p = [] := List.eq_nil_of_length_eq_zero hp0
        subst hcc
        clear j1 j2 j3 hp0 hpl hc1
        gi_wp2
        refine wpIn_wide.2 ?_
        go_region
        all_goals go_wp2
        all_goals gi_wp2
        all_goals
          obtain ⟨Wf, hWf, g1, g2, g3, g4, g5⟩ := HF.out
          have hWf : Wf = (((W.setCell ⟨N, 0, none⟩ (.int .i64 s)).setCell ⟨N, 1, none⟩ (.slice (some ⟨g, 0, none⟩) 0 0)).setCell ⟨N + 1, 0, none⟩ (.bool true)).drew := hWf
          rw [← hWf]
          refine ⟨by simp, .inl ⟨_, _, rfl, run_takeDeferred g1, ?_⟩⟩
          refine ⟨.tuple #[.agg #[.int .i64 s, .slice (some ⟨g, 0, none⟩) ([] : List Int).length 0], .bool true], ?_, g5⟩
          simp [results, Tryd.f23, go_sem, g2, g3, g4]
      · have HF := Lib.hid (wof_fin (A := some ⟨g, 1, none⟩) (c := cap - 1) HN.out HI.out HW.out HPP.out HK.out (by have := HS0.out; have := hD'.out; omega) hg1 (fun _ => ⟨rfl, fun i hi => by rw [Nat.add_comm 1 i, HCL.out (i + 1) (by omega)]; simp [intsL, hi]⟩) ⟨1, rfl⟩ (by omega) (by unfold maxLen; omega))
        gi_wp2
        refine wpIn_wide.2 ?_
        go_region
        all_goals go_wp2
        all_goals gi_wp2
        all_goals
          obtain ⟨Wf, hWf, g1, g2, g3, g4, g5⟩ := HF.out
          rw [← hWf]
          refine ⟨by simp, .inl ⟨_, _, rfl, run_takeDeferred g1, ?_⟩⟩
          refine ⟨.tuple #[.agg #[.int .i64 s, .slice (some ⟨g, 1, none⟩) p.length (cap - 1)], .bool true], ?_, g5⟩
          simp [results, Tryd.f23, go_sem, g2, g3, g4]
    case stop =>
      rintro D pre W hD hpre ⟨hn, h0, h1, hlow⟩ hK
      obtain ⟨tl, htl⟩ := hpre
      have hwo : wOf T = none := by rw [HTR.out, wOf_eq, ← htl]; exact numsM_pre _ _ hn
      have hz := HS0.out
      have po : ∀ k, k ≠ D → (W.putObj D (.deferred none)).heap[k]? = W.heap[k]? := fun k h => World.putObj_heap_other h
      have q0 := cellC ((po N (by omega)).trans h0) 0
      have q1 := cellC ((po N (by omega)).trans h0) 1
      have q2 := cellC ((po (N + 1) (by omega)).trans h1) 0
      have hlow2 : Below w.heap.size w (W.putObj D (.deferred none)) := by
        rw [HN.out]; exact hlow.trans (belowK_b (w := w) (by rw [HN.out]; exact Nat.le_refl _) _ D _ _ (by rw [HN.out]; omega) hK rfl rfl)
      have HWO := Lib.hid hwo
      clear hn h0 h1 hlow hwo htl po hz
      gi_wp2
      refine ⟨by simp, .inl ⟨_, _, rfl, run_takeDeferred hK, ?_⟩⟩
      refine ⟨.tuple #[.agg #[.int .i64 0, .slice none 0 0], .bool false], ?_, hlow2, .inl ⟨HWO.out, rfl⟩⟩
      simp [results, Tryd.f23, go_sem, q0, q1, q2]
end Go.Proofs.YtoailhkaenofpaaDoor
