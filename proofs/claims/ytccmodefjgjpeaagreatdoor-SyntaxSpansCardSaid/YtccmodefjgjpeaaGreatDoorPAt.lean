/-
  A parser in memory: its tokens, what it has put, and what else may lie beside it.
-/
import Derived.Test.YtccmodefjgjpeaaGreatDoorTabs
import Derived.Laws.AppendOwn
import Derived.OwnWalk
import Derived.Test.YtccmodefjgjpeaaGreatDoorPF
import Derived.Deep.AppendLies
namespace Go.Proofs.YtccmodefjgjpeaaGreatDoor
open Go.RowKit

theorem Tryz.infoEx : (Tryz.prog.info? 35).map (fun i => (i.zero, i.size, i.bytes)) = some (some (.agg #[.int .i64 0, .int .i64 0, .int .i64 0, .int .i64 0, .string ⟨#[]⟩, .string ⟨#[]⟩, .int .i64 0, .int .i64 0, .slice none 0 0]), 9, 104) := by kernel_rfl
theorem Tryz.infoSm : (Tryz.prog.info? 39).map (fun i => (i.zero, i.size, i.bytes)) = some (some (.agg #[.int .i64 0, .int .i64 0, .int .i64 0, .string ⟨#[]⟩, .int .i64 0, .int .i64 0, .int .i64 0, .slice none 0 0, .slice none 0 0]), 9, 112) := by kernel_rfl
theorem Tryz.infoFu : (Tryz.prog.info? 43).map (fun i => (i.zero, i.size, i.bytes)) = some (some (.agg #[.string ⟨#[]⟩, .int .i64 0, .int .i64 0, .slice none 0 0, .int .i64 0, .slice none 0 0]), 6, 88) := by kernel_rfl
theorem Tryz.infoInt : (Tryz.prog.info? 3).map (fun i => (i.zero, i.size, i.bytes)) = some (some (.int .i64 0), 1, 8) := by kernel_rfl

theorem setCell_at (w : World) (g o : Nat) (v : Value) (cur : Array Value) (t : TypeId) (fr : Nat × Nat) (hg : w.heap[g]? = some (.cells cur t fr)) : (w.setCell ⟨g, o, none⟩ v).heap[g]? = some (.cells (cur.setIfInBounds o v) t fr) := by
  simp [World.setCell, Array.getElem?_modify, hg]
theorem setCell_ne (w : World) (g o : Nat) (v : Value) (k : Nat) (h : k ≠ g) : (w.setCell ⟨g, o, none⟩ v).heap[k]? = w.heap[k]? := by
  simp [World.setCell, Array.getElem?_modify, Ne.symm h]

def intsV (l : List Nat) : List Value := l.map fun (n : Nat) => .int .i64 (n : Int)
def strsV (l : List (List UInt8)) : List Value := l.map fun b => .string (bs b)
theorem intsV_len (l : List Nat) : (intsV l).length = l.length := by simp [intsV]
theorem strsV_len (l : List (List UInt8)) : (strsV l).length = l.length := by simp [strsV]

/-- A slice value, of one cell a thing, reads as these cells; its block is one of L. -/
def RwAt (w : World) (L : Nat → Prop) (v : Value) (vs : List Value) : Prop :=
  ∃ A c, v = .slice A vs.length c ∧ (∀ g, v.ownBlock = some g → L g ∧ g < w.heap.size) ∧ (0 < vs.length → ∃ g, A = some ⟨g, 0, none⟩ ∧ ∀ i u, vs[i]? = some u → w.cell? ⟨g, i, none⟩ = some u)
theorem RwAt.keep {w w' : World} {L L' : Nat → Prop} {v : Value} {vs : List Value} (h : RwAt w L v vs) (hs : w.heap.size ≤ w'.heap.size) (hb : ∀ g, v.ownBlock = some g → L g → g < w.heap.size → L' g ∧ w'.heap[g]? = w.heap[g]?) : RwAt w' L' v vs := by
  obtain ⟨A, c, rfl, h1, h2⟩ := h
  refine ⟨A, c, rfl, fun g hg => ?_, fun h0 => ?_⟩
  · have h3 := h1 g hg
    exact ⟨(hb g hg h3.1 h3.2).1, by omega⟩
  · obtain ⟨g, rfl, h3⟩ := h2 h0
    have h4 := h1 g rfl
    exact ⟨g, rfl, fun i u hu => (World.cell?_of_block (a := ⟨g, i, none⟩) (hb g rfl h4.1 h4.2).2).trans (h3 i u hu)⟩
theorem rwAt_nil (w : World) (L : Nat → Prop) : RwAt w L (.slice none 0 0) [] := ⟨none, 0, rfl, fun g h => by simp [Value.ownBlock] at h, fun h => by simp at h⟩
theorem rwAt_of_own {w : World} {base : Nat} {e : TypeId} {v : Value} {n : Nat} {vs : List Value} (h : w.ownsRow base e 1 v n vs) (L : Nat → Prop) (hL : ∀ g, v.ownBlock = some g → L g) : RwAt w L v vs := by
  obtain ⟨hl, h2⟩ := h
  rw [Nat.mul_one] at hl
  rcases h2 with ⟨rfl, rfl⟩ | ⟨g, cap, cur, rfl, hb, hg, hnc, hcm, hcs, ht⟩
  · obtain rfl : vs = [] := List.eq_nil_of_length_eq_zero hl
    exact rwAt_nil w L
  · have hlt := (Array.getElem?_eq_some_iff.1 hg).1
    refine ⟨some ⟨g, 0, none⟩, cap, by rw [hl], fun g' hg' => ⟨hL g' hg', ?_⟩, fun _ => ⟨g, rfl, fun i u hu => ?_⟩⟩
    · obtain rfl : g = g' := by simpa [Value.ownBlock] using hg'
      exact hlt
    · have hi : i < n := by have := (List.getElem?_eq_some_iff.1 hu).1; omega
      rw [← hu, ← ht, List.getElem?_take, if_pos (by omega)]
      simp [World.cell?, hg]

/-- Things one after the other, each of so many cells. -/
def RowsOf {α : Type} (C : α → List Value → Prop) : List α → List Value → Prop
  | [], cs => cs = []
  | x :: r, cs => ∃ h t, cs = h ++ t ∧ C x h ∧ RowsOf C r t
theorem RowsOf.mono {α : Type} {C D : α → List Value → Prop} (hCD : ∀ x h, C x h → D x h) : ∀ {xs : List α} {cs : List Value}, RowsOf C xs cs → RowsOf D xs cs
  | [], _, h => h
  | _ :: _, _, ⟨h, t, e, hc, hr⟩ => ⟨h, t, e, hCD _ _ hc, RowsOf.mono hCD hr⟩
theorem RowsOf.snoc {α : Type} {C : α → List Value → Prop} {x : α} {h : List Value} (hx : C x h) : ∀ {xs : List α} {cs : List Value}, RowsOf C xs cs → RowsOf C (xs ++ [x]) (cs ++ h)
  | [], cs, e => by
    obtain rfl : cs = [] := e
    exact ⟨h, [], by simp, hx, rfl⟩
  | _ :: _, _, ⟨h1, t, e, hc, hr⟩ => ⟨h1, t ++ h, by rw [e, List.append_assoc], hc, RowsOf.snoc hx hr⟩
theorem RowsOf.len {α : Type} {C : α → List Value → Prop} {k : Nat} (hC : ∀ x h, C x h → h.length = k) : ∀ {xs : List α} {cs : List Value}, RowsOf C xs cs → cs.length = xs.length * k
  | [], cs, e => by
    obtain rfl : cs = [] := e
    simp
  | _ :: r, _, ⟨h1, t, e, hc, hr⟩ => by
    have h2 := RowsOf.len hC hr
    rw [e, List.length_append, hC _ _ hc, h2, List.length_cons, Nat.add_mul]; omega
theorem RowsOf.get {α : Type} {C : α → List Value → Prop} {k : Nat} (hC : ∀ x h, C x h → h.length = k) : ∀ {xs : List α} {cs : List Value}, RowsOf C xs cs → ∀ i (hi : i < xs.length), ∃ h, C xs[i] h ∧ ∀ j, j < k → cs[i * k + j]? = h[j]?
  | [], _, _, i, hi => by simp at hi
  | x :: r, cs, ⟨h1, t, e, hc, hr⟩, i, hi => by
    have hl := hC _ _ hc
    cases i with
    | zero =>
      refine ⟨h1, hc, fun j hj => ?_⟩
      rw [e, Nat.zero_mul, Nat.zero_add, List.getElem?_append_left (by omega)]
    | succ i =>
      obtain ⟨h2, hc2, hg⟩ := RowsOf.get hC hr i (by simpa using hi)
      refine ⟨h2, by simpa using hc2, fun j hj => ?_⟩
      have e1 : (i + 1) * k = i * k + k := by rw [Nat.add_mul]; omega
      have e2 : (i + 1) * k + j - h1.length = i * k + j := by omega
      rw [e, List.getElem?_append_right (by omega), e2]
      exact hg j hj

/-- The cells of an expression, a statement, a function. -/
def exV (x : Ex) (l : Value) : List Value := [.int .i64 (x.kind : Int), .int .i64 (x.lo : Int), .int .i64 (x.hi : Int), .int .i64 (x.num : Int), .string (bs x.name), .string (bs x.op), .int .i64 (x.a : Int), .int .i64 (x.b : Int), l]
def smV (x : Sm) (l m : Value) : List Value := [.int .i64 (x.kind : Int), .int .i64 (x.lo : Int), .int .i64 (x.hi : Int), .string (bs x.name), .int .i64 (x.num : Int), .int .i64 x.a, .int .i64 (x.b : Int), l, m]
def fuV (x : Fu) (l m : Value) : List Value := [.string (bs x.name), .int .i64 (x.lo : Int), .int .i64 (x.hi : Int), l, .int .i64 (x.ty : Int), m]
def ExC (w : World) (L : Nat → Prop) (x : Ex) (h : List Value) : Prop := ∃ l, h = exV x l ∧ RwAt w L l (intsV x.list)
def SmC (w : World) (L : Nat → Prop) (x : Sm) (h : List Value) : Prop := ∃ l m, h = smV x l m ∧ RwAt w L l (intsV x.thn) ∧ RwAt w L m (intsV x.els)
def FuC (w : World) (L : Nat → Prop) (x : Fu) (h : List Value) : Prop := ∃ l m, h = fuV x l m ∧ RwAt w L l (strsV x.params) ∧ RwAt w L m (intsV x.body)
theorem ExC.len {w : World} {L : Nat → Prop} (x : Ex) (h : List Value) (hc : ExC w L x h) : h.length = 9 := by obtain ⟨l, rfl, _⟩ := hc; rfl
theorem SmC.len {w : World} {L : Nat → Prop} (x : Sm) (h : List Value) (hc : SmC w L x h) : h.length = 9 := by obtain ⟨l, m, rfl, _⟩ := hc; rfl
theorem FuC.len {w : World} {L : Nat → Prop} (x : Fu) (h : List Value) (hc : FuC w L x h) : h.length = 6 := by obtain ⟨l, m, rfl, _⟩ := hc; rfl
/-- Blocks of L are as they were. -/
def KeptOn (L L' : Nat → Prop) (w w' : World) : Prop := w.heap.size ≤ w'.heap.size ∧ ∀ g, L g → g < w.heap.size → L' g ∧ w'.heap[g]? = w.heap[g]?
theorem ExC.keep {w w' : World} {L L' : Nat → Prop} (hk : KeptOn L L' w w') (x : Ex) (h : List Value) (hc : ExC w L x h) : ExC w' L' x h := by
  obtain ⟨l, e, h1⟩ := hc
  exact ⟨l, e, h1.keep hk.1 fun g _ => hk.2 g⟩
theorem SmC.keep {w w' : World} {L L' : Nat → Prop} (hk : KeptOn L L' w w') (x : Sm) (h : List Value) (hc : SmC w L x h) : SmC w' L' x h := by
  obtain ⟨l, m, e, h1, h2⟩ := hc
  exact ⟨l, m, e, h1.keep hk.1 fun g _ => hk.2 g, h2.keep hk.1 fun g _ => hk.2 g⟩
theorem FuC.keep {w w' : World} {L L' : Nat → Prop} (hk : KeptOn L L' w w') (x : Fu) (h : List Value) (hc : FuC w L x h) : FuC w' L' x h := by
  obtain ⟨l, m, e, h1, h2⟩ := hc
  exact ⟨l, m, e, h1.keep hk.1 fun g _ => hk.2 g, h2.keep hk.1 fun g _ => hk.2 g⟩

/-- Where a parser lies, and its tokens. -/
structure Cx where
  q : Nat
  tv : Value
  sv : Value
  T : List Tk
/-- The tokens, and their bytes, lie ahead of it. -/
def TkR (C : Cx) (w : World) : Prop :=
  ∃ bt ot ct bx ox cx, C.tv = .slice (some ⟨bt, ot, none⟩) C.T.length ct ∧ C.sv = .slice (some ⟨bx, ox, none⟩) C.T.length cx ∧ bt < C.q ∧ bx < C.q ∧
    ∀ i (h : i < C.T.length), w.cell? ⟨bt, ot + i * 3, none⟩ = some (.int .i64 (C.T[i].kind : Int)) ∧ w.cell? ⟨bt, ot + i * 3 + 1, none⟩ = some (.int .i64 (C.T[i].lo : Int)) ∧ w.cell? ⟨bt, ot + i * 3 + 2, none⟩ = some (.int .i64 (C.T[i].hi : Int)) ∧ w.cell? ⟨bx, ox + i, none⟩ = some (.string (bs C.T[i].txt))
theorem TkR.keep {C : Cx} {w w' : World} (h : TkR C w) (hb : ∀ k, k < C.q → w'.heap[k]? = w.heap[k]?) : TkR C w' := by
  obtain ⟨bt, ot, ct, bx, ox, cx, h1, h2, h3, h4, hc⟩ := h
  refine ⟨bt, ot, ct, bx, ox, cx, h1, h2, h3, h4, fun i hi => ?_⟩
  obtain ⟨c1, c2, c3, c4⟩ := hc i hi
  exact ⟨(World.cell?_of_block (a := ⟨bt, _, none⟩) (hb bt h3)).trans c1, (World.cell?_of_block (a := ⟨bt, _, none⟩) (hb bt h3)).trans c2, (World.cell?_of_block (a := ⟨bt, _, none⟩) (hb bt h3)).trans c3, (World.cell?_of_block (a := ⟨bx, _, none⟩) (hb bx h4)).trans c4⟩
/-- The blocks in which the lists may lie of what was put. -/
def Lst (S : Nat → Prop) (q : Nat) (ve vs vf : Value) (g : Nat) : Prop := q < g ∧ ¬ S g ∧ ve.ownBlock ≠ some g ∧ vs.ownBlock ≠ some g ∧ vf.ownBlock ≠ some g

/-- A parser lies in memory; S: blocks that aren't its own. -/
structure PIn (C : Cx) (S : Nat → Prop) (s : Sg) (w : World) (ve vs vf : Value) (ce cs cf : List Value) : Prop where
  box : w.heap[C.q]? = some (.cells #[C.tv, C.sv, .int .i64 (s.at_ : Int), .int .i64 0, ve, vs, vf] 69)
  toks : TkR C w
  lt : s.at_ < C.T.length
  len : C.T.length ≤ 20001
  tk : TkOk C.T
  sLt : ∀ b, S b → C.q < b ∧ b < w.heap.size
  oe : w.ownsRow (C.q + 1) 35 9 ve s.ex.length ce
  os : w.ownsRow (C.q + 1) 39 9 vs s.st.length cs
  of : w.ownsRow (C.q + 1) 43 6 vf s.fn.length cf
  re : RowsOf (ExC w (Lst S C.q ve vs vf)) s.ex ce
  rs : RowsOf (SmC w (Lst S C.q ve vs vf)) s.st cs
  rf : RowsOf (FuC w (Lst S C.q ve vs vf)) s.fn cf
  de : ∀ g, ve.ownBlock = some g → ¬ S g ∧ vs.ownBlock ≠ some g ∧ vf.ownBlock ≠ some g
  ds : ∀ g, vs.ownBlock = some g → ¬ S g ∧ vf.ownBlock ≠ some g
  df : ∀ g, vf.ownBlock = some g → ¬ S g
theorem own_blk {w : World} {base n : Nat} {e : TypeId} {size : Nat} {v : Value} {xs : List Value} (h : w.ownsRow base e size v n xs) (g : Nat) (hg : v.ownBlock = some g) : base ≤ g ∧ g < w.heap.size := by
  rcases h.2 with ⟨rfl, _⟩ | ⟨g', cap, cur, rfl, h1, h2, _⟩
  · cases hg
  · obtain rfl : g' = g := by simpa [Value.ownBlock] using hg
    exact ⟨h1, (Array.getElem?_eq_some_iff.1 h2).1⟩
theorem own_keep {w w' : World} {base n : Nat} {e : TypeId} {size : Nat} {v : Value} {xs : List Value} (h : w.ownsRow base e size v n xs) (hb : ∀ g, v.ownBlock = some g → w'.heap[g]? = w.heap[g]?) : w'.ownsRow base e size v n xs := by
  refine ⟨h.1, ?_⟩
  rcases h.2 with h0 | ⟨g, cap, cur, rfl, h1, h2, hr⟩
  · exact .inl h0
  · exact .inr ⟨g, cap, cur, rfl, h1, (hb g rfl).trans h2, hr⟩
theorem own_form {w : World} {base n : Nat} {e : TypeId} {size : Nat} {v : Value} {xs : List Value} (h : w.ownsRow base e size v n xs) : ∃ A c, v = .slice A n c := by
  rcases h.2 with ⟨rfl, rfl⟩ | ⟨g, cap, cur, rfl, _⟩
  · exact ⟨_, _, rfl⟩
  · exact ⟨_, _, rfl⟩
theorem PIn.qlt {C : Cx} {S : Nat → Prop} {s : Sg} {w : World} {ve vs vf : Value} {ce cs cf : List Value} (h : PIn C S s w ve vs vf ce cs cf) : C.q < w.heap.size := (Array.getElem?_eq_some_iff.1 h.box).1
/-- What isn't S's stays; S may grow by what is new. -/
theorem PIn.move {C : Cx} {S S' : Nat → Prop} {s : Sg} {w w' : World} {ve vs vf : Value} {ce cs cf : List Value} (h : PIn C S s w ve vs vf ce cs cf) (hs : w.heap.size ≤ w'.heap.size)
    (hb : ∀ k, k < w.heap.size → ¬ S k → w'.heap[k]? = w.heap[k]?) (hS : ∀ b, S' b → b < w'.heap.size ∧ (S b ∨ w.heap.size ≤ b)) : PIn C S' s w' ve vs vf ce cs cf := by
  have hq := h.qlt
  have hn : ∀ k, k ≤ C.q → ¬ S k := fun k hk e => by have := (h.sLt k e).1; omega
  have hn' : ∀ g, g < w.heap.size → ¬ S g → ¬ S' g := fun g hg h1 h2 => by rcases (hS g h2).2 with h3 | h3; exact h1 h3; omega
  have hk : KeptOn (Lst S C.q ve vs vf) (Lst S' C.q ve vs vf) w w' := ⟨hs, fun g hL hg => ⟨⟨hL.1, hn' g hg hL.2.1, hL.2.2⟩, hb g hg hL.2.1⟩⟩
  have he := fun g hg => own_blk h.oe g hg
  have hst := fun g hg => own_blk h.os g hg
  have hf := fun g hg => own_blk h.of g hg
  exact { box := (hb C.q hq (hn _ (Nat.le_refl _))).trans h.box
          toks := h.toks.keep fun k hk => hb k (by omega) (hn k (by omega))
          lt := h.lt, len := h.len, tk := h.tk
          sLt := fun b hb' => by rcases (hS b hb').2 with h1 | h1; exact ⟨(h.sLt b h1).1, (hS b hb').1⟩; exact ⟨by omega, (hS b hb').1⟩
          oe := own_keep h.oe fun g hg => hb g (he g hg).2 (h.de g hg).1
          os := own_keep h.os fun g hg => hb g (hst g hg).2 (h.ds g hg).1
          of := own_keep h.of fun g hg => hb g (hf g hg).2 (h.df g hg)
          re := h.re.mono (ExC.keep hk), rs := h.rs.mono (SmC.keep hk), rf := h.rf.mono (FuC.keep hk)
          de := fun g hg => ⟨hn' g (he g hg).2 (h.de g hg).1, (h.de g hg).2⟩
          ds := fun g hg => ⟨hn' g (hst g hg).2 (h.ds g hg).1, (h.ds g hg).2⟩
          df := fun g hg => hn' g (hf g hg).2 (h.df g hg) }
theorem PIn.cells {C : Cx} {S : Nat → Prop} {s : Sg} {w : World} {ve vs vf : Value} {ce cs cf : List Value} (h : PIn C S s w ve vs vf ce cs cf) :
    w.cell? ⟨C.q, 0, none⟩ = some C.tv ∧ w.cell? ⟨C.q, 1, none⟩ = some C.sv ∧ w.cell? ⟨C.q, 2, none⟩ = some (.int .i64 (s.at_ : Int)) ∧ w.cell? ⟨C.q, 4, none⟩ = some ve ∧ w.cell? ⟨C.q, 5, none⟩ = some vs ∧ w.cell? ⟨C.q, 6, none⟩ = some vf := by
  refine ⟨?_, ?_, ?_, ?_, ?_, ?_⟩ <;> simp [World.cell?, h.box]
theorem PIn.frozen {C : Cx} {S : Nat → Prop} {s : Sg} {w : World} {ve vs vf : Value} {ce cs cf : List Value} (h : PIn C S s w ve vs vf ce cs cf) (o : Nat) : w.frozen? ⟨C.q, o, none⟩ = false := by
  simp [World.frozen?, h.box]
/-- Another cell of the parser's own box is written. -/
theorem PIn.next {C : Cx} {S : Nat → Prop} {s : Sg} {w : World} {ve vs vf : Value} {ce cs cf : List Value} (h : PIn C S s w ve vs vf ce cs cf) (hl : s.at_ + 1 < C.T.length) :
    PIn C S { s with at_ := s.at_ + 1 } (w.setCell ⟨C.q, 2, none⟩ (.int .i64 ((s.at_ + 1 : Nat) : Int))) ve vs vf ce cs cf := by
  have hsz : (w.setCell ⟨C.q, 2, none⟩ (.int .i64 ((s.at_ + 1 : Nat) : Int))).heap.size = w.heap.size := by simp [World.setCell]
  have hne : ∀ k, k ≠ C.q → (w.setCell ⟨C.q, 2, none⟩ (.int .i64 ((s.at_ + 1 : Nat) : Int))).heap[k]? = w.heap[k]? := fun k hk => setCell_ne w C.q 2 _ k hk
  have hk : KeptOn (Lst S C.q ve vs vf) (Lst S C.q ve vs vf) w (w.setCell ⟨C.q, 2, none⟩ (.int .i64 ((s.at_ + 1 : Nat) : Int))) := ⟨by omega, fun g hL _ => ⟨hL, hne g (by have := hL.1; omega)⟩⟩
  have he := fun g hg => own_blk h.oe g hg
  have hst := fun g hg => own_blk h.os g hg
  have hf := fun g hg => own_blk h.of g hg
  exact { box := by rw [setCell_at w C.q 2 _ _ _ _ h.box]; simp
          toks := h.toks.keep fun k hk => hne k (by omega)
          lt := hl, len := h.len, tk := h.tk
          sLt := fun b hb => by rw [hsz]; exact h.sLt b hb
          oe := own_keep h.oe fun g hg => hne g (by have := he g hg; omega)
          os := own_keep h.os fun g hg => hne g (by have := hst g hg; omega)
          of := own_keep h.of fun g hg => hne g (by have := hf g hg; omega)
          re := h.re.mono (ExC.keep hk), rs := h.rs.mono (SmC.keep hk), rf := h.rf.mono (FuC.keep hk)
          de := h.de, ds := h.ds, df := h.df }

/-- An expression is put. -/
theorem PIn.putE {C : Cx} {S : Nat → Prop} {s : Sg} {w w2 : World} {ve vs vf : Value} {ce cs cf : List Value} (h : PIn C S s w ve vs vf ce cs cf) (x : Ex) (hx : List Value) (hc : ExC w (Lst S C.q ve vs vf) x hx)
    {g cap : Nat} (ho : w2.ownsRow (C.q + 1) 35 9 (.slice (some ⟨g, 0, none⟩) (s.ex.length + 1) cap) (s.ex.length + 1) (ce ++ hx)) (hg : w.grownBy w2 ve.ownBlock) (hat : ve.ownBlock = some g ∨ g = w.heap.size) (_hlt : g < w2.heap.size) :
    PIn C S { s with ex := s.ex ++ [x] } (w2.setCell ⟨C.q, 4, none⟩ (.slice (some ⟨g, 0, none⟩) (s.ex.length + 1) cap)) (.slice (some ⟨g, 0, none⟩) (s.ex.length + 1) cap) vs vf (ce ++ hx) cs cf := by
  have hq := h.qlt
  have hsz : (w2.setCell ⟨C.q, 4, none⟩ (.slice (some ⟨g, 0, none⟩) (s.ex.length + 1) cap)).heap.size = w2.heap.size := by simp [World.setCell]
  have hgs := hg.size
  have hbe := fun g hg => own_blk h.oe g hg
  have hbs := fun g hg => own_blk h.os g hg
  have hbf := fun g hg => own_blk h.of g hg
  have hgq : C.q < g := by rcases hat with e | e; have := hbe g e; omega; omega
  have hgS : ¬ S g := fun e => by rcases hat with e1 | e1; exact (h.de g e1).1 e; have := (h.sLt g e).2; omega
  have hne : ∀ k, k < w.heap.size → k ≠ C.q → ve.ownBlock ≠ some k → (w2.setCell ⟨C.q, 4, none⟩ (.slice (some ⟨g, 0, none⟩) (s.ex.length + 1) cap)).heap[k]? = w.heap[k]? := fun k hk h1 h2 => (setCell_ne w2 C.q 4 _ k h1).trans (hg.block k hk (Ne.symm h2))
  have hqv : ve.ownBlock ≠ some C.q := fun e => by have := hbe C.q e; omega
  have hk : KeptOn (Lst S C.q ve vs vf) (Lst S C.q (.slice (some ⟨g, 0, none⟩) (s.ex.length + 1) cap) vs vf) w (w2.setCell ⟨C.q, 4, none⟩ (.slice (some ⟨g, 0, none⟩) (s.ex.length + 1) cap)) := ⟨by omega, fun k hL hkl => by
    have hgk : (Value.slice (some ⟨g, 0, none⟩) (s.ex.length + 1) cap).ownBlock ≠ some k := fun e => by
      obtain rfl : g = k := by simpa [Value.ownBlock] using e
      rcases hat with e1 | e1
      · exact hL.2.2.1 e1
      · omega
    exact ⟨⟨hL.1, hL.2.1, hgk, hL.2.2.2.1, hL.2.2.2.2⟩, hne k hkl (by have := hL.1; omega) hL.2.2.1⟩⟩
  refine { box := by rw [setCell_at w2 C.q 4 _ _ _ _ ((hg.block C.q hq (Ne.symm hqv)).trans h.box)]; simp
           toks := h.toks.keep fun k hk => hne k (by omega) (by omega) (fun e => by have := hbe k e; omega)
           lt := h.lt, len := h.len, tk := h.tk
           sLt := fun b hb => ⟨(h.sLt b hb).1, by have := (h.sLt b hb).2; omega⟩
           oe := ?_, os := ?_, of := ?_, re := ?_, rs := ?_, rf := ?_, de := ?_, ds := ?_, df := ?_ }
  · refine own_keep (xs := ce ++ hx) ?_ (fun k hk => ?_) (w := w2)
    · rw [List.length_append]; exact ho
    · obtain rfl : g = k := by simpa [Value.ownBlock] using hk
      exact setCell_ne w2 C.q 4 _ g (by omega)
  · exact own_keep h.os fun k hk => hne k (hbs k hk).2 (by have := hbs k hk; omega) (fun e => (h.de k e).2.1 hk)
  · exact own_keep h.of fun k hk => hne k (hbf k hk).2 (by have := hbf k hk; omega) (fun e => (h.de k e).2.2 hk)
  · exact (h.re.snoc hc).mono (ExC.keep hk)
  · exact h.rs.mono (SmC.keep hk)
  · exact h.rf.mono (FuC.keep hk)
  · intro k hk
    obtain rfl : g = k := by simpa [Value.ownBlock] using hk
    refine ⟨hgS, fun e => ?_, fun e => ?_⟩
    · rcases hat with e1 | e1
      · exact (h.de g e1).2.1 e
      · have := hbs g e; omega
    · rcases hat with e1 | e1
      · exact (h.de g e1).2.2 e
      · have := hbf g e; omega
  · exact h.ds
  · exact h.df

/-- A statement is put. -/
theorem PIn.putS {C : Cx} {S : Nat → Prop} {s : Sg} {w w2 : World} {ve vs vf : Value} {ce cs cf : List Value} (h : PIn C S s w ve vs vf ce cs cf) (x : Sm) (hx : List Value) (hc : SmC w (Lst S C.q ve vs vf) x hx)
    {g cap : Nat} (ho : w2.ownsRow (C.q + 1) 39 9 (.slice (some ⟨g, 0, none⟩) (s.st.length + 1) cap) (s.st.length + 1) (cs ++ hx)) (hg : w.grownBy w2 vs.ownBlock) (hat : vs.ownBlock = some g ∨ g = w.heap.size) (_hlt : g < w2.heap.size) :
    PIn C S { s with st := s.st ++ [x] } (w2.setCell ⟨C.q, 5, none⟩ (.slice (some ⟨g, 0, none⟩) (s.st.length + 1) cap)) ve (.slice (some ⟨g, 0, none⟩) (s.st.length + 1) cap) vf ce (cs ++ hx) cf := by
  have hq := h.qlt
  have hsz : (w2.setCell ⟨C.q, 5, none⟩ (.slice (some ⟨g, 0, none⟩) (s.st.length + 1) cap)).heap.size = w2.heap.size := by simp [World.setCell]
  have hgs := hg.size
  have hbe := fun g hg => own_blk h.oe g hg
  have hbs := fun g hg => own_blk h.os g hg
  have hbf := fun g hg => own_blk h.of g hg
  have hgq : C.q < g := by rcases hat with e | e; have := hbs g e; omega; omega
  have hgS : ¬ S g := fun e => by rcases hat with e1 | e1; exact (h.ds g e1).1 e; have := (h.sLt g e).2; omega
  have hne : ∀ k, k < w.heap.size → k ≠ C.q → vs.ownBlock ≠ some k → (w2.setCell ⟨C.q, 5, none⟩ (.slice (some ⟨g, 0, none⟩) (s.st.length + 1) cap)).heap[k]? = w.heap[k]? := fun k hk h1 h2 => (setCell_ne w2 C.q 5 _ k h1).trans (hg.block k hk (Ne.symm h2))
  have hqv : vs.ownBlock ≠ some C.q := fun e => by have := hbs C.q e; omega
  have hk : KeptOn (Lst S C.q ve vs vf) (Lst S C.q ve (.slice (some ⟨g, 0, none⟩) (s.st.length + 1) cap) vf) w (w2.setCell ⟨C.q, 5, none⟩ (.slice (some ⟨g, 0, none⟩) (s.st.length + 1) cap)) := ⟨by omega, fun k hL hkl => by
    have hgk : (Value.slice (some ⟨g, 0, none⟩) (s.st.length + 1) cap).ownBlock ≠ some k := fun e => by
      obtain rfl : g = k := by simpa [Value.ownBlock] using e
      rcases hat with e1 | e1
      · exact hL.2.2.2.1 e1
      · omega
    exact ⟨⟨hL.1, hL.2.1, hL.2.2.1, hgk, hL.2.2.2.2⟩, hne k hkl (by have := hL.1; omega) hL.2.2.2.1⟩⟩
  refine { box := by rw [setCell_at w2 C.q 5 _ _ _ _ ((hg.block C.q hq (Ne.symm hqv)).trans h.box)]; simp
           toks := h.toks.keep fun k hk => hne k (by omega) (by omega) (fun e => by have := hbs k e; omega)
           lt := h.lt, len := h.len, tk := h.tk
           sLt := fun b hb => ⟨(h.sLt b hb).1, by have := (h.sLt b hb).2; omega⟩
           oe := ?_, os := ?_, of := ?_, re := ?_, rs := ?_, rf := ?_, de := ?_, ds := ?_, df := ?_ }
  · exact own_keep h.oe fun k hk => hne k (hbe k hk).2 (by have := hbe k hk; omega) (h.de k hk).2.1
  · refine own_keep (xs := cs ++ hx) ?_ (fun k hk => ?_) (w := w2)
    · rw [List.length_append]; exact ho
    · obtain rfl : g = k := by simpa [Value.ownBlock] using hk
      exact setCell_ne w2 C.q 5 _ g (by omega)
  · exact own_keep h.of fun k hk => hne k (hbf k hk).2 (by have := hbf k hk; omega) (fun e => (h.ds k e).2 hk)
  · exact h.re.mono (ExC.keep hk)
  · exact (h.rs.snoc hc).mono (SmC.keep hk)
  · exact h.rf.mono (FuC.keep hk)
  · intro k hk
    refine ⟨(h.de k hk).1, fun e => ?_, (h.de k hk).2.2⟩
    obtain rfl : g = k := by simpa [Value.ownBlock] using e
    rcases hat with e1 | e1
    · exact (h.de g hk).2.1 e1
    · have := hbe g hk; omega
  · intro k hk
    obtain rfl : g = k := by simpa [Value.ownBlock] using hk
    refine ⟨hgS, fun e => ?_⟩
    rcases hat with e1 | e1
    · exact (h.ds g e1).2 e
    · have := hbf g e; omega
  · exact h.df

/-- A function is put. -/
theorem PIn.putF {C : Cx} {S : Nat → Prop} {s : Sg} {w w2 : World} {ve vs vf : Value} {ce cs cf : List Value} (h : PIn C S s w ve vs vf ce cs cf) (x : Fu) (hx : List Value) (hc : FuC w (Lst S C.q ve vs vf) x hx)
    {g cap : Nat} (ho : w2.ownsRow (C.q + 1) 43 6 (.slice (some ⟨g, 0, none⟩) (s.fn.length + 1) cap) (s.fn.length + 1) (cf ++ hx)) (hg : w.grownBy w2 vf.ownBlock) (hat : vf.ownBlock = some g ∨ g = w.heap.size) (_hlt : g < w2.heap.size) :
    PIn C S { s with fn := s.fn ++ [x] } (w2.setCell ⟨C.q, 6, none⟩ (.slice (some ⟨g, 0, none⟩) (s.fn.length + 1) cap)) ve vs (.slice (some ⟨g, 0, none⟩) (s.fn.length + 1) cap) ce cs (cf ++ hx) := by
  have hq := h.qlt
  have hsz : (w2.setCell ⟨C.q, 6, none⟩ (.slice (some ⟨g, 0, none⟩) (s.fn.length + 1) cap)).heap.size = w2.heap.size := by simp [World.setCell]
  have hgs := hg.size
  have hbe := fun g hg => own_blk h.oe g hg
  have hbs := fun g hg => own_blk h.os g hg
  have hbf := fun g hg => own_blk h.of g hg
  have hgq : C.q < g := by rcases hat with e | e; have := hbf g e; omega; omega
  have hgS : ¬ S g := fun e => by rcases hat with e1 | e1; exact (h.df g e1) e; have := (h.sLt g e).2; omega
  have hne : ∀ k, k < w.heap.size → k ≠ C.q → vf.ownBlock ≠ some k → (w2.setCell ⟨C.q, 6, none⟩ (.slice (some ⟨g, 0, none⟩) (s.fn.length + 1) cap)).heap[k]? = w.heap[k]? := fun k hk h1 h2 => (setCell_ne w2 C.q 6 _ k h1).trans (hg.block k hk (Ne.symm h2))
  have hqv : vf.ownBlock ≠ some C.q := fun e => by have := hbf C.q e; omega
  have hk : KeptOn (Lst S C.q ve vs vf) (Lst S C.q ve vs (.slice (some ⟨g, 0, none⟩) (s.fn.length + 1) cap)) w (w2.setCell ⟨C.q, 6, none⟩ (.slice (some ⟨g, 0, none⟩) (s.fn.length + 1) cap)) := ⟨by omega, fun k hL hkl => by
    have hgk : (Value.slice (some ⟨g, 0, none⟩) (s.fn.length + 1) cap).ownBlock ≠ some k := fun e => by
      obtain rfl : g = k := by simpa [Value.ownBlock] using e
      rcases hat with e1 | e1
      · exact hL.2.2.2.2 e1
      · omega
    exact ⟨⟨hL.1, hL.2.1, hL.2.2.1, hL.2.2.2.1, hgk⟩, hne k hkl (by have := hL.1; omega) hL.2.2.2.2⟩⟩
  refine { box := by rw [setCell_at w2 C.q 6 _ _ _ _ ((hg.block C.q hq (Ne.symm hqv)).trans h.box)]; simp
           toks := h.toks.keep fun k hk => hne k (by omega) (by omega) (fun e => by have := hbf k e; omega)
           lt := h.lt, len := h.len, tk := h.tk
           sLt := fun b hb => ⟨(h.sLt b hb).1, by have := (h.sLt b hb).2; omega⟩
           oe := ?_, os := ?_, of := ?_, re := ?_, rs := ?_, rf := ?_, de := ?_, ds := ?_, df := ?_ }
  · exact own_keep h.oe fun k hk => hne k (hbe k hk).2 (by have := hbe k hk; omega) (h.de k hk).2.2
  · exact own_keep h.os fun k hk => hne k (hbs k hk).2 (by have := hbs k hk; omega) (h.ds k hk).2
  · refine own_keep (xs := cf ++ hx) ?_ (fun k hk => ?_) (w := w2)
    · rw [List.length_append]; exact ho
    · obtain rfl : g = k := by simpa [Value.ownBlock] using hk
      exact setCell_ne w2 C.q 6 _ g (by omega)
  · exact h.re.mono (ExC.keep hk)
  · exact h.rs.mono (SmC.keep hk)
  · exact (h.rf.snoc hc).mono (FuC.keep hk)
  · intro k hk
    refine ⟨(h.de k hk).1, (h.de k hk).2.1, fun e => ?_⟩
    obtain rfl : g = k := by simpa [Value.ownBlock] using e
    rcases hat with e1 | e1
    · exact (h.de g hk).2.2 e1
    · have := hbe g hk; omega
  · intro k hk
    refine ⟨(h.ds k hk).1, fun e => ?_⟩
    obtain rfl : g = k := by simpa [Value.ownBlock] using e
    rcases hat with e1 | e1
    · exact (h.ds g hk).2 e1
    · have := hbs g hk; omega
  · intro k hk
    obtain rfl : g = k := by simpa [Value.ownBlock] using hk
    exact hgS

/-- A parser, and that it has not put more than it has taken, by d at least. -/
def PAt (C : Cx) (S : Nat → Prop) (d : Nat) (s : Sg) (w : World) : Prop :=
  s.ex.length + s.st.length + s.fn.length + d ≤ s.at_ ∧ ∃ ve vs vf ce cs cf, PIn C S s w ve vs vf ce cs cf
theorem PAt.less {C : Cx} {S : Nat → Prop} {d d' : Nat} {s : Sg} {w : World} (h : PAt C S d s w) (hd : d' ≤ d) : PAt C S d' s w := ⟨by have := h.1; omega, h.2⟩
theorem PAt.lt {C : Cx} {S : Nat → Prop} {d : Nat} {s : Sg} {w : World} (h : PAt C S d s w) : s.at_ < C.T.length := by obtain ⟨_, _, _, _, _, _, _, h⟩ := h; exact h.lt
theorem PAt.tk {C : Cx} {S : Nat → Prop} {d : Nat} {s : Sg} {w : World} (h : PAt C S d s w) : TkOk C.T := by obtain ⟨_, _, _, _, _, _, _, h⟩ := h; exact h.tk
theorem PAt.len {C : Cx} {S : Nat → Prop} {d : Nat} {s : Sg} {w : World} (h : PAt C S d s w) : C.T.length ≤ 20001 := by obtain ⟨_, _, _, _, _, _, _, h⟩ := h; exact h.len
theorem PAt.qlt {C : Cx} {S : Nat → Prop} {d : Nat} {s : Sg} {w : World} (h : PAt C S d s w) : C.q < w.heap.size := by obtain ⟨_, _, _, _, _, _, _, h⟩ := h; exact h.qlt
theorem PAt.sLt {C : Cx} {S : Nat → Prop} {d : Nat} {s : Sg} {w : World} (h : PAt C S d s w) : ∀ b, S b → C.q < b ∧ b < w.heap.size := by obtain ⟨_, _, _, _, _, _, _, h⟩ := h; exact h.sLt
theorem PAt.move {C : Cx} {S S' : Nat → Prop} {d : Nat} {s : Sg} {w w' : World} (h : PAt C S d s w) (hs : w.heap.size ≤ w'.heap.size)
    (hb : ∀ k, k < w.heap.size → ¬ S k → w'.heap[k]? = w.heap[k]?) (hS : ∀ b, S' b → b < w'.heap.size ∧ (S b ∨ w.heap.size ≤ b)) : PAt C S' d s w' := by
  obtain ⟨h0, ve, vs, vf, ce, cs, cf, h⟩ := h
  exact ⟨h0, ve, vs, vf, ce, cs, cf, h.move hs hb hS⟩
/-- What is new beside it changes nothing. -/
theorem PAt.below {C : Cx} {S : Nat → Prop} {d : Nat} {s : Sg} {w w' : World} (h : PAt C S d s w) (hB : Below w.heap.size w w') : PAt C S d s w' :=
  h.move hB.size (fun k hk _ => hB.block k hk) fun b hb => ⟨Nat.lt_of_lt_of_le (h.sLt b hb).2 hB.size, .inl hb⟩
theorem PAt.alloc {C : Cx} {S : Nat → Prop} {d : Nat} {s : Sg} {w : World} (h : PAt C S d s w) (o : Obj) : PAt C S d s (w.alloc o) := h.below ((Below.refl _ w).alloc (Nat.le_refl _) o)
/-- A new block is one of S. -/
theorem PAt.allocS {C : Cx} {S : Nat → Prop} {d : Nat} {s : Sg} {w : World} (h : PAt C S d s w) (o : Obj) : PAt C (fun b => S b ∨ b = w.heap.size) d s (w.alloc o) :=
  h.move (by simp) (fun k hk _ => Below.heap_alloc w o k hk) fun b hb => by
    rcases hb with hb | rfl
    · exact ⟨by have := (h.sLt b hb).2; simp; omega, .inl hb⟩
    · exact ⟨by simp, .inr (Nat.le_refl _)⟩
theorem PAt.sub {C : Cx} {S S' : Nat → Prop} {d : Nat} {s : Sg} {w : World} (h : PAt C S d s w) (hS : ∀ b, S' b → S b) : PAt C S' d s w :=
  h.move (Nat.le_refl _) (fun _ _ _ => rfl) fun b hb => ⟨(h.sLt b (hS b hb)).2, .inl (hS b hb)⟩

/-- What a call leaves as it was. -/
structure Keep (C : Cx) (S : Nat → Prop) (w w' : World) : Prop where
  below : Below C.q w w'
  kept : ∀ b, S b → w'.heap[b]? = w.heap[b]?
theorem Keep.refl (C : Cx) (S : Nat → Prop) (w : World) : Keep C S w w := ⟨Below.refl _ _, fun _ _ => rfl⟩
theorem Keep.trans {C : Cx} {S : Nat → Prop} {a b c : World} (h : Keep C S a b) (k : Keep C S b c) : Keep C S a c := ⟨h.below.trans k.below, fun x hx => (k.kept x hx).trans (h.kept x hx)⟩
theorem Keep.sub {C : Cx} {S S' : Nat → Prop} {a b : World} (h : Keep C S a b) (hS : ∀ x, S' x → S x) : Keep C S' a b := ⟨h.below, fun x hx => h.kept x (hS x hx)⟩
theorem Keep.of {C : Cx} {S : Nat → Prop} {d : Nat} {s : Sg} {w w' : World} (h : PAt C S d s w) (hB : Below w.heap.size w w') : Keep C S w w' := ⟨hB.mono (Nat.le_of_lt h.qlt), fun b hb => hB.block b (h.sLt b hb).2⟩
theorem Keep.alloc {C : Cx} {S : Nat → Prop} {d : Nat} {s : Sg} {w : World} (h : PAt C S d s w) (o : Obj) : Keep C S w (w.alloc o) := Keep.of h ((Below.refl _ w).alloc (Nat.le_refl _) o)
theorem Keep.drewN {C : Cx} {S : Nat → Prop} {a b : World} (h : Keep C S a b) (n : Nat) : Keep C S a (b.drewN n) := ⟨⟨h.below.os, h.below.tape, h.below.output, h.below.size, h.below.block⟩, h.kept⟩
theorem Keep.setCell {C : Cx} {S : Nat → Prop} {a b : World} (h : Keep C S a b) {g o : Nat} (u : Value) (hg : C.q ≤ g) (hn : ¬ S g) : Keep C S a (b.setCell ⟨g, o, none⟩ u) :=
  ⟨h.below.setCell (p := ⟨g, o, none⟩) hg u, fun x hx => (setCell_ne b g o u x (fun e => hn (e ▸ hx))).trans (h.kept x hx)⟩

/-- It ended at a token. -/
def Gone (C : Cx) (c i : Nat) (w : World) : Prop := i < C.T.length ∧ TkR C w ∧ ∃ ve vs vf, w.heap[C.q]? = some (.cells #[C.tv, C.sv, .int .i64 (i : Int), .int .i64 (c : Int), ve, vs, vf] 69)
abbrev PanicE (c : Nat) : Ending := .panicked [{ v := .iface 28 (.int .i64 (c : Int)), recovered := false }]
/-- What comes of a call. -/
def OutP {α : Type} (C : Cx) (S : Nat → Prop) (d : Nat) (val : α → Value) (r : Rs α) (w : World) (e : Ending) (w' : World) : Prop :=
  match r with
  | .ok a s' => e = .returned (val a) ∧ PAt C S d s' w' ∧ Keep C S w w'
  | .no c i => e = PanicE c ∧ Gone C c i w' ∧ Keep C S w w'
theorem OutP.no {α β : Type} {C : Cx} {S S' : Nat → Prop} {d d' : Nat} {val : α → Value} {val' : β → Value} {c i : Nat} {w0 w w' : World} {e : Ending} (h : OutP C S d val (.no c i : Rs α) w e w') (hk : Keep C S' w0 w) (hS : ∀ b, S' b → S b) : OutP C S' d' val' (.no c i : Rs β) w0 e w' :=
  ⟨h.1, h.2.1, hk.trans (h.2.2.sub hS)⟩
theorem PAt.drewN {C : Cx} {S : Nat → Prop} {d : Nat} {s : Sg} {w : World} (h : PAt C S d s w) (n : Nat) : PAt C S d s (w.drewN n) :=
  h.below ⟨rfl, rfl, rfl, Nat.le_refl _, fun _ _ => rfl⟩
theorem OutP.okm {α : Type} {C : Cx} {S : Nat → Prop} {d : Nat} {val : α → Value} {a : α} {s' : Sg} {w w' : World} (hp : PAt C S d s' w') (hk : Keep C S w w') : OutP C S d val (.ok a s') w (.returned (val a)) w' := ⟨rfl, hp, hk⟩
def natV (n : Nat) : Value := .int .i64 (n : Int)
def strV (l : List UInt8) : Value := .string (bs l)
def unitV (_ : Unit) : Value := .tuple #[]

end Go.Proofs.YtccmodefjgjpeaaGreatDoor
