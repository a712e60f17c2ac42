/-
  Things are put: an expression, a statement, a function.
-/
import Derived.Test.YtdeflloidhbpmaaGreatDoorK05
import Derived.Deep.AppendLies
import Derived.Deep.RegionLaw
namespace Go.Proofs.YtdeflloidhbpmaaGreatDoor
open Go.RowKit

/-- With what a value owns. -/
def With (S : Nat → Prop) (v : Value) (b : Nat) : Prop := S b ∨ v.ownBlock = some b
/-- Blocks of its own, behind the parser, of a list that is handed over. -/
def Fresh (C : Cx) (S : Nat → Prop) (g : Nat) : Prop := C.q < g ∧ ¬ S g
theorem PIn.take {C : Cx} {S S' : Nat → Prop} {s : Sg} {w : World} {ve vs vf : Value} {ce cs cf : List Value} (h : PIn C S' s w ve vs vf ce cs cf) (hS : ∀ b, S b → S' b) : PIn C S s w ve vs vf ce cs cf :=
  h.move (Nat.le_refl _) (fun _ _ _ => rfl) fun b hb => ⟨(h.sLt b (hS b hb)).2, .inl (hS b hb)⟩
theorem PIn.list {C : Cx} {S S' : Nat → Prop} {s : Sg} {w : World} {ve vs vf : Value} {ce cs cf : List Value} (h : PIn C S' s w ve vs vf ce cs cf) {l : Value} {xs : List Value} (hl : RwAt w (Fresh C S) l xs) (hS : ∀ g, l.ownBlock = some g → S' g) : RwAt w (Lst S C.q ve vs vf) l xs :=
  hl.keep (Nat.le_refl _) fun g hg hf _ => ⟨⟨hf.1, hf.2, fun e => (h.de g e).1 (hS g hg), fun e => (h.ds g e).1 (hS g hg), fun e => (h.df g e) (hS g hg)⟩, rfl⟩
theorem heap_two (W : World) (o : Obj) (cs : Array Value) (t : TypeId) : ((W.alloc o).alloc (.cells cs t)).heap[W.heap.size + 1]? = some (.cells cs t (0, 0)) := by
  show ((W.heap.push _).push _)[W.heap.size + 1]? = _
  rw [Array.getElem?_push, if_pos (by simp)]
theorem below_two (w : World) (o o' : Obj) : Below w.heap.size w ((w.alloc o).alloc o') := ((Below.refl _ w).alloc (Nat.le_refl _) o).alloc (by simp) o'
theorem put_keep {C : Cx} {S : Nat → Prop} {s : Sg} {w W w3 : World} {ve vs vf v : Value} {ce cs cf : List Value} (h : PIn C S s w ve vs vf ce cs cf) (hW : Below w.heap.size w W) (hG : W.grownBy w3 v.ownBlock) (hv : ∀ g, v.ownBlock = some g → C.q < g ∧ ¬ S g) (o : Nat) (u : Value) : Keep C S w (w3.setCell ⟨C.q, o, none⟩ u) := by
  have hq := h.qlt
  have hws := hW.size
  refine ⟨((hW.mono (Nat.le_of_lt hq)).grown hG (by omega) (fun k hk => Nat.le_of_lt (hv k hk).1)).setCell (p := ⟨C.q, o, none⟩) (Nat.le_refl _) u, fun b hb => ?_⟩
  have h1 := h.sLt b hb
  exact (setCell_ne w3 C.q o u b (by omega)).trans ((hG.block b (by omega) (fun e => (hv b e.symm).2 hb)).trans (hW.block b h1.2))

theorem oneE (x : Ex) (l : Value) (hl : l.oneCell' = true) : ∀ u ∈ (exV x l), u.oneCell' = true := by
  intro u hu
  simp [exV] at hu
  rcases hu with rfl | rfl | rfl | rfl | rfl | rfl | rfl | rfl | rfl
  all_goals first | rfl | assumption
set_option maxRecDepth 100000 in
set_option maxHeartbeats 1000000 in
theorem putE_calls (C : Cx) (S : Nat → Prop) (d : Nat) (s : Sg) (x : Ex) (l : Value) (w : World) (h : PAt C (With S l) (d + 1) s w) (hl : RwAt w (Fresh C S) l (intsV x.list)) :
    Calls Tryz.prog 175 #[.pointer (some ⟨C.q, 4, none⟩), .agg (exV x l).toArray] w (OutP C S d natV (.ok s.ex.length { s with ex := s.ex ++ [x] } : Rs Nat) w) := by
  obtain ⟨h0, ve, vs, vf, ce, cs, cf, h⟩ := h
  obtain ⟨i0, hi0, hz0, hz1, hz2⟩ := info_parts Tryz.infoEx
  have hlt := h.lt
  have hlen := h.len
  have hqb := h.qlt
  have HC : Hid (ExC w (Lst S C.q ve vs vf) x (exV x l)) := Lib.hid ⟨l, rfl, h.list hl fun g hg => .inr hg⟩
  have H : Hid (PIn C S s w ve vs vf ce cs cf) := Lib.hid (h.take fun b hb => .inl hb)
  have ho1 : l.oneCell' = true := by obtain ⟨A, c, rfl, _⟩ := hl; rfl
  have H1 := Lib.hid (oneE x l ho1)
  have HO : Hid (∀ W, Below w.heap.size w W → W.ownsRow (C.q + 1) 63 9 ve s.ex.length ce) := Lib.hid fun W hB => own_keep h.oe fun g hg => hB.block g (own_blk h.oe g hg).2
  have hc := h.cells.2.2.2.1
  have hvq := Lib.hid (fun g (hg : ve.ownBlock = some g) => own_blk h.oe g hg)
  have HF : Hid (∀ W, Below w.heap.size w W → W.cell? ⟨C.q, 4, none⟩ = some ve ∧ W.frozen? ⟨C.q, 4, none⟩ = false) := Lib.hid fun W hB => ⟨(hB.cell (p := ⟨C.q, 4, none⟩) hqb).trans hc, (hB.frozen (p := ⟨C.q, 4, none⟩) hqb).trans (h.frozen 4)⟩
  have hb1 := Lib.hid ((Below.refl w.heap.size w).alloc (Nat.le_refl _) (.cells #[.int .i64 (x.kind : Int), .int .i64 (x.lo : Int), .int .i64 (x.hi : Int), .int .i64 (x.num : Int), .string (bs x.name), .string (bs x.op), .int .i64 (x.a : Int), .int .i64 (x.b : Int), l] 63))
  have hc1 := (HF.out _ hb1.out).1
  have hf1 := (HF.out _ hb1.out).2
  clear h hc
  obtain ⟨n, hn⟩ : ∃ n, s.ex.length = n := ⟨_, rfl⟩
  rw [hn] at HO
  have hnb : n ≤ 20001 := by omega
  change Calls Tryz.prog 175 #[.pointer (some ⟨C.q, 4, none⟩), .agg #[.int .i64 (x.kind : Int), .int .i64 (x.lo : Int), .int .i64 (x.hi : Int), .int .i64 (x.num : Int), .string (bs x.name), .string (bs x.op), .int .i64 (x.a : Int), .int .i64 (x.b : Int), l]] w _
  go_enter Tryz.func175, Tryz.ntmps175
  go_wp2
  go_region_law (refine step_append_lies _ rfl (.tmp 9) (.tmp 11) 23 rfl (C.q + 1) 63 i0 (.agg #[.int .i64 0, .int .i64 0, .int .i64 0, .int .i64 0, .string ⟨#[]⟩, .string ⟨#[]⟩, .int .i64 0, .int .i64 0, .slice none 0 0]) 9 104 Tryz.underlying23 hi0 hz0 hz1 hz2 rfl (by decide) ve n ce (by simp [Act.eval]) (HO.out _ (below_two w _ _).drew) ⟨w.heap.size + 1, 0, none⟩ 1 1 (exV x l) (by simp [Act.eval]) rfl (World.news_of_block (cs := (exV x l).toArray) (t := 63) (fr := (0, 0)) (heap_two w _ _ _)) H1.out (by decide) (by unfold maxLen; omega) (by omega) (by simp <;> omega) (w.heap.size + 2) (by simp) ?_; intro g cap w3 hown hgrow hat hg3; have HG := Lib.hid hgrow; have hb3 := Lib.hid (hgrow.block C.q (by simp <;> omega) (fun e => by have := (hvq.out _ e.symm).1; omega)); have hc3 : w3.cell? ⟨C.q, 4, none⟩ = some ve := ((World.cell?_of_block (a := ⟨C.q, 4, none⟩) hb3.out).trans (HF.out _ (below_two w _ _).drew).1); have hf3 : w3.frozen? ⟨C.q, 4, none⟩ = false := ((World.frozen?_of_block (a := ⟨C.q, 4, none⟩) hb3.out).trans (HF.out _ (below_two w _ _).drew).2); clear hgrow)
  all_goals go_wp2
  all_goals go_ret
  all_goals
    have hW := (below_two w (.cells #[.int .i64 (x.kind : Int), .int .i64 (x.lo : Int), .int .i64 (x.hi : Int), .int .i64 (x.num : Int), .string (bs x.name), .string (bs x.op), .int .i64 (x.a : Int), .int .i64 (x.b : Int), l] 63) (.cells #[.int .i64 (x.kind : Int), .int .i64 (x.lo : Int), .int .i64 (x.hi : Int), .int .i64 (x.num : Int), .string (bs x.name), .string (bs x.op), .int .i64 (x.a : Int), .int .i64 (x.b : Int), l] 63)).drew
    subst hn
    have HP := (H.out.move hW.size (fun k hk _ => hW.block k hk) (fun b hb => ⟨Nat.lt_of_lt_of_le (H.out.sLt b hb).2 hW.size, .inl hb⟩)).putE x _ (ExC.keep ⟨hW.size, fun g hg hgl => ⟨hg, hW.block g hgl⟩⟩ _ _ HC.out) hown HG.out (hat.imp id (fun e => by rw [e]; simp)) hg3
    exact ⟨rfl, ⟨by simp <;> omega, _, _, _, _, _, _, HP⟩, put_keep H.out hW HG.out (fun g hg => ⟨(hvq.out g hg).1, (H.out.de g hg).1⟩) _ _⟩

theorem oneS (x : Sm) (l m : Value) (hl : l.oneCell' = true) (hm : m.oneCell' = true) : ∀ u ∈ (smV x l m), u.oneCell' = true := by
  intro u hu
  simp [smV] at hu
  rcases hu with rfl | rfl | rfl | rfl | rfl | rfl | rfl | rfl | rfl
  all_goals first | rfl | assumption
set_option maxRecDepth 100000 in
set_option maxHeartbeats 1000000 in
theorem putS_calls (C : Cx) (S : Nat → Prop) (d : Nat) (s : Sg) (x : Sm) (l m : Value) (w : World) (h : PAt C (With (With S l) m) (d + 1) s w) (hl : RwAt w (Fresh C S) l (intsV x.thn)) (hm : RwAt w (Fresh C S) m (intsV x.els)) :
    Calls Tryz.prog 141 #[.pointer (some ⟨C.q, 5, none⟩), .agg (smV x l m).toArray] w (OutP C S d natV (.ok s.st.length { s with st := s.st ++ [x] } : Rs Nat) w) := by
  obtain ⟨h0, ve, vs, vf, ce, cs, cf, h⟩ := h
  obtain ⟨i0, hi0, hz0, hz1, hz2⟩ := info_parts Tryz.infoSm
  have hlt := h.lt
  have hlen := h.len
  have hqb := h.qlt
  have HC : Hid (SmC w (Lst S C.q ve vs vf) x (smV x l m)) := Lib.hid ⟨l, m, rfl, h.list hl fun g hg => .inl (.inr hg), h.list hm fun g hg => .inr hg⟩
  have H : Hid (PIn C S s w ve vs vf ce cs cf) := Lib.hid (h.take fun b hb => .inl (.inl hb))
  have ho1 : l.oneCell' = true := by obtain ⟨A, c, rfl, _⟩ := hl; rfl
  have ho2 : m.oneCell' = true := by obtain ⟨A, c, rfl, _⟩ := hm; rfl
  have H1 := Lib.hid (oneS x l m ho1 ho2)
  have HO : Hid (∀ W, Below w.heap.size w W → W.ownsRow (C.q + 1) 42 9 vs s.st.length cs) := Lib.hid fun W hB => own_keep h.os fun g hg => hB.block g (own_blk h.os g hg).2
  have hc := h.cells.2.2.2.2.1
  have hvq := Lib.hid (fun g (hg : vs.ownBlock = some g) => own_blk h.os g hg)
  have HF : Hid (∀ W, Below w.heap.size w W → W.cell? ⟨C.q, 5, none⟩ = some vs ∧ W.frozen? ⟨C.q, 5, none⟩ = false) := Lib.hid fun W hB => ⟨(hB.cell (p := ⟨C.q, 5, none⟩) hqb).trans hc, (hB.frozen (p := ⟨C.q, 5, none⟩) hqb).trans (h.frozen 5)⟩
  have hb1 := Lib.hid ((Below.refl w.heap.size w).alloc (Nat.le_refl _) (.cells #[.int .i64 (x.kind : Int), .int .i64 (x.lo : Int), .int .i64 (x.hi : Int), .string (bs x.name), .int .i64 (x.num : Int), .int .i64 x.a, .int .i64 (x.b : Int), l, m] 42))
  have hc1 := (HF.out _ hb1.out).1
  have hf1 := (HF.out _ hb1.out).2
  clear h hc
  obtain ⟨n, hn⟩ : ∃ n, s.st.length = n := ⟨_, rfl⟩
  rw [hn] at HO
  have hnb : n ≤ 20001 := by omega
  change Calls Tryz.prog 141 #[.pointer (some ⟨C.q, 5, none⟩), .agg #[.int .i64 (x.kind : Int), .int .i64 (x.lo : Int), .int .i64 (x.hi : Int), .string (bs x.name), .int .i64 (x.num : Int), .int .i64 x.a, .int .i64 (x.b : Int), l, m]] w _
  go_enter Tryz.func141, Tryz.ntmps141
  go_wp2
  go_region_law (refine step_append_lies _ rfl (.tmp 9) (.tmp 11) 24 rfl (C.q + 1) 42 i0 (.agg #[.int .i64 0, .int .i64 0, .int .i64 0, .string ⟨#[]⟩, .int .i64 0, .int .i64 0, .int .i64 0, .slice none 0 0, .slice none 0 0]) 9 112 Tryz.underlying24 hi0 hz0 hz1 hz2 rfl (by decide) vs n cs (by simp [Act.eval]) (HO.out _ (below_two w _ _).drew) ⟨w.heap.size + 1, 0, none⟩ 1 1 (smV x l m) (by simp [Act.eval]) rfl (World.news_of_block (cs := (smV x l m).toArray) (t := 42) (fr := (0, 0)) (heap_two w _ _ _)) H1.out (by decide) (by unfold maxLen; omega) (by omega) (by simp <;> omega) (w.heap.size + 2) (by simp) ?_; intro g cap w3 hown hgrow hat hg3; have HG := Lib.hid hgrow; have hb3 := Lib.hid (hgrow.block C.q (by simp <;> omega) (fun e => by have := (hvq.out _ e.symm).1; omega)); have hc3 : w3.cell? ⟨C.q, 5, none⟩ = some vs := ((World.cell?_of_block (a := ⟨C.q, 5, none⟩) hb3.out).trans (HF.out _ (below_two w _ _).drew).1); have hf3 : w3.frozen? ⟨C.q, 5, none⟩ = false := ((World.frozen?_of_block (a := ⟨C.q, 5, none⟩) hb3.out).trans (HF.out _ (below_two w _ _).drew).2); clear hgrow)
  all_goals go_wp2
  all_goals go_ret
  all_goals
    have hW := (below_two w (.cells #[.int .i64 (x.kind : Int), .int .i64 (x.lo : Int), .int .i64 (x.hi : Int), .string (bs x.name), .int .i64 (x.num : Int), .int .i64 x.a, .int .i64 (x.b : Int), l, m] 42) (.cells #[.int .i64 (x.kind : Int), .int .i64 (x.lo : Int), .int .i64 (x.hi : Int), .string (bs x.name), .int .i64 (x.num : Int), .int .i64 x.a, .int .i64 (x.b : Int), l, m] 42)).drew
    subst hn
    have HP := (H.out.move hW.size (fun k hk _ => hW.block k hk) (fun b hb => ⟨Nat.lt_of_lt_of_le (H.out.sLt b hb).2 hW.size, .inl hb⟩)).putS x _ (SmC.keep ⟨hW.size, fun g hg hgl => ⟨hg, hW.block g hgl⟩⟩ _ _ HC.out) hown HG.out (hat.imp id (fun e => by rw [e]; simp)) hg3
    exact ⟨rfl, ⟨by simp <;> omega, _, _, _, _, _, _, HP⟩, put_keep H.out hW HG.out (fun g hg => ⟨(hvq.out g hg).1, (H.out.ds g hg).1⟩) _ _⟩

theorem oneF (x : Fu) (l m : Value) (hl : l.oneCell' = true) (hm : m.oneCell' = true) : ∀ u ∈ (fuV x l m), u.oneCell' = true := by
  intro u hu
  simp [fuV] at hu
  rcases hu with rfl | rfl | rfl | rfl | rfl | rfl
  all_goals first | rfl | assumption
set_option maxRecDepth 100000 in
set_option maxHeartbeats 1000000 in
theorem putF_calls (C : Cx) (S : Nat → Prop) (d : Nat) (s : Sg) (x : Fu) (l m : Value) (w : World) (h : PAt C (With (With S l) m) (d + 1) s w) (hl : RwAt w (Fresh C S) l (strsV x.params)) (hm : RwAt w (Fresh C S) m (intsV x.body)) :
    Calls Tryz.prog 110 #[.pointer (some ⟨C.q, 6, none⟩), .agg (fuV x l m).toArray] w (OutP C S d natV (.ok s.fn.length { s with fn := s.fn ++ [x] } : Rs Nat) w) := by
  obtain ⟨h0, ve, vs, vf, ce, cs, cf, h⟩ := h
  obtain ⟨i0, hi0, hz0, hz1, hz2⟩ := info_parts Tryz.infoFu
  have hlt := h.lt
  have hlen := h.len
  have hqb := h.qlt
  have HC : Hid (FuC w (Lst S C.q ve vs vf) x (fuV x l m)) := Lib.hid ⟨l, m, rfl, h.list hl fun g hg => .inl (.inr hg), h.list hm fun g hg => .inr hg⟩
  have H : Hid (PIn C S s w ve vs vf ce cs cf) := Lib.hid (h.take fun b hb => .inl (.inl hb))
  have ho1 : l.oneCell' = true := by obtain ⟨A, c, rfl, _⟩ := hl; rfl
  have ho2 : m.oneCell' = true := by obtain ⟨A, c, rfl, _⟩ := hm; rfl
  have H1 := Lib.hid (oneF x l m ho1 ho2)
  have HO : Hid (∀ W, Below w.heap.size w W → W.ownsRow (C.q + 1) 69 6 vf s.fn.length cf) := Lib.hid fun W hB => own_keep h.of fun g hg => hB.block g (own_blk h.of g hg).2
  have hc := h.cells.2.2.2.2.2
  have hvq := Lib.hid (fun g (hg : vf.ownBlock = some g) => own_blk h.of g hg)
  have HF : Hid (∀ W, Below w.heap.size w W → W.cell? ⟨C.q, 6, none⟩ = some vf ∧ W.frozen? ⟨C.q, 6, none⟩ = false) := Lib.hid fun W hB => ⟨(hB.cell (p := ⟨C.q, 6, none⟩) hqb).trans hc, (hB.frozen (p := ⟨C.q, 6, none⟩) hqb).trans (h.frozen 6)⟩
  have hb1 := Lib.hid ((Below.refl w.heap.size w).alloc (Nat.le_refl _) (.cells #[.string (bs x.name), .int .i64 (x.lo : Int), .int .i64 (x.hi : Int), l, .int .i64 (x.ty : Int), m] 69))
  have hc1 := (HF.out _ hb1.out).1
  have hf1 := (HF.out _ hb1.out).2
  clear h hc
  obtain ⟨n, hn⟩ : ∃ n, s.fn.length = n := ⟨_, rfl⟩
  rw [hn] at HO
  have hnb : n ≤ 20001 := by omega
  change Calls Tryz.prog 110 #[.pointer (some ⟨C.q, 6, none⟩), .agg #[.string (bs x.name), .int .i64 (x.lo : Int), .int .i64 (x.hi : Int), l, .int .i64 (x.ty : Int), m]] w _
  go_enter Tryz.func110, Tryz.ntmps110
  go_wp2
  go_region_law (refine step_append_lies _ rfl (.tmp 9) (.tmp 11) 25 rfl (C.q + 1) 69 i0 (.agg #[.string ⟨#[]⟩, .int .i64 0, .int .i64 0, .slice none 0 0, .int .i64 0, .slice none 0 0]) 6 88 Tryz.underlying25 hi0 hz0 hz1 hz2 rfl (by decide) vf n cf (by simp [Act.eval]) (HO.out _ (below_two w _ _).drew) ⟨w.heap.size + 1, 0, none⟩ 1 1 (fuV x l m) (by simp [Act.eval]) rfl (World.news_of_block (cs := (fuV x l m).toArray) (t := 69) (fr := (0, 0)) (heap_two w _ _ _)) H1.out (by decide) (by unfold maxLen; omega) (by omega) (by simp <;> omega) (w.heap.size + 2) (by simp) ?_; intro g cap w3 hown hgrow hat hg3; have HG := Lib.hid hgrow; have hb3 := Lib.hid (hgrow.block C.q (by simp <;> omega) (fun e => by have := (hvq.out _ e.symm).1; omega)); have hc3 : w3.cell? ⟨C.q, 6, none⟩ = some vf := ((World.cell?_of_block (a := ⟨C.q, 6, none⟩) hb3.out).trans (HF.out _ (below_two w _ _).drew).1); have hf3 : w3.frozen? ⟨C.q, 6, none⟩ = false := ((World.frozen?_of_block (a := ⟨C.q, 6, none⟩) hb3.out).trans (HF.out _ (below_two w _ _).drew).2); clear hgrow)
  all_goals go_wp2
  all_goals go_ret
  all_goals
    have hW := (below_two w (.cells #[.string (bs x.name), .int .i64 (x.lo : Int), .int .i64 (x.hi : Int), l, .int .i64 (x.ty : Int), m] 69) (.cells #[.string (bs x.name), .int .i64 (x.lo : Int), .int .i64 (x.hi : Int), l, .int .i64 (x.ty : Int), m] 69)).drew
    subst hn
    have HP := (H.out.move hW.size (fun k hk _ => hW.block k hk) (fun b hb => ⟨Nat.lt_of_lt_of_le (H.out.sLt b hb).2 hW.size, .inl hb⟩)).putF x _ (FuC.keep ⟨hW.size, fun g hg hgl => ⟨hg, hW.block g hgl⟩⟩ _ _ HC.out) hown HG.out (hat.imp id (fun e => by rw [e]; simp)) hg3
    exact ⟨rfl, ⟨by simp <;> omega, _, _, _, _, _, _, HP⟩, put_keep H.out hW HG.out (fun g hg => ⟨(hvq.out g hg).1, H.out.df g hg⟩) _ _⟩

end Go.Proofs.YtdeflloidhbpmaaGreatDoor
