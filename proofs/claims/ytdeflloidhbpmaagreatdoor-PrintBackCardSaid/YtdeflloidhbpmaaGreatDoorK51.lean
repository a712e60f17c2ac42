/-
  rewindlaw05.bare: a program without spans.
-/
import Derived.Test.YtdeflloidhbpmaaGreatDoorK50
import Derived.Test.YtdeflloidhbpmaaGreatDoorK06
import Derived.Test.YtdeflloidhbpmaaGreatDoorK48
namespace Go.Proofs.YtdeflloidhbpmaaGreatDoor
open Go.RowKit

def bareSg (s : Sg) : Sg := { s with ex := s.ex.map bare, st := s.st.map bareS, fn := s.fn.map bareF, at_ := 0 }
/-- A row that grows, kept in a box's field: all else is as it was. -/
structure Gro (ob : Nat) (W wr : World) (cs : Value → Array Value) (e : TypeId) (sz n : Nat) (rows : List Value) (v : Value) : Prop where
  wide : W.heap.size ≤ wr.heap.size
  below : Below ob W wr
  keep : ∀ k, k < W.heap.size → k ≠ ob → wr.heap[k]? = W.heap[k]?
  box : wr.heap[ob]? = some (.cells (cs v) 27 (0, 0))
  own : wr.ownsRow W.heap.size e sz v n rows
theorem Gro.start {ob : Nat} {W : World} {cs : Value → Array Value} {e : TypeId} {sz : Nat} (hb : W.heap[ob]? = some (.cells (cs (.slice none 0 0)) 27 (0, 0))) : Gro ob W W cs e sz 0 [] (.slice none 0 0) :=
  ⟨Nat.le_refl _, Below.refl _ _, fun _ _ _ => rfl, hb, own_zero _ _ _ _⟩
theorem Gro.step {ob fld n : Nat} {W wr w2 w3 : World} {cs : Value → Array Value} {e : TypeId} {sz : Nat} {rows new : List Value} {v v' : Value} (h : Gro ob W wr cs e sz n rows v) (hob : ob < W.heap.size) (h2 : Below wr.heap.size wr w2) (hg : w2.grownBy w3 v.ownBlock)
    (ho : w3.ownsRow W.heap.size e sz v' (n + 1) (rows ++ new)) (hcs : (cs v).setIfInBounds fld v' = cs v') : Gro ob W (w3.setCell ⟨ob, fld, none⟩ v') cs e sz (n + 1) (rows ++ new) v' := by
  have hs := h.below.size
  have hs2 := h2.size
  have hv : ∀ g, v.ownBlock = some g → W.heap.size ≤ g ∧ g < wr.heap.size := fun g hg => own_blk h.own g hg
  have hw := h.wide
  have hw3 := hg.size
  refine ⟨by simp [World.setCell]; omega, ((h.below.trans (h2.mono (by omega))).grown hg (by omega) (fun k hk => by have := hv k hk; omega)).setCell (p := ⟨ob, fld, none⟩) (Nat.le_refl _) v', fun k hk hne => ?_, ?_, ?_⟩
  · exact (setCell_ne w3 ob fld v' k hne).trans ((hg.block k (by omega) (fun e => by have := hv k e.symm; omega)).trans ((h2.block k (by omega)).trans (h.keep k hk hne)))
  · rw [setCell_at w3 ob fld v' _ _ _ ((hg.block ob (by omega) (fun e => by have := hv ob e.symm; omega)).trans ((h2.block ob (by omega)).trans h.box)), hcs]
  · exact own_keep ho fun g hg => setCell_ne w3 ob fld v' g (by have := own_blk ho g hg; omega)
theorem take_snoc {α β : Type} (f : α → β) (l : List α) (i : Nat) (h : i < l.length) : (l.take (i + 1)).map f = (l.take i).map f ++ [f l[i]] := by
  rw [List.take_add_one, List.getElem?_eq_getElem h, List.map_append]; rfl
theorem cell_frz {w : World} {g : Nat} {a : Array Value} {t : TypeId} (h : w.heap[g]? = some (.cells a t (0, 0))) (o : Nat) : w.frozen? ⟨g, o, none⟩ = false := by simp [World.frozen?, h]
theorem cell_nw {w : World} {g o : Nat} {u : Value} (h : w.cell? ⟨g, o, none⟩ = some u) (b : Obj) : (w.alloc b).cell? ⟨g, o, none⟩ = some u :=
  (World.cell?_of_block (a := ⟨g, o, none⟩) (Below.heap_alloc w b g (World.block_lt_of_cell? w ⟨g, o, none⟩ h))).trans h
/-- What bare answers. -/
def BareP (s : Sg) (w : World) (e : Ending) (w' : World) : Prop := ∃ v, e = .returned v ∧ Below w.heap.size w w' ∧ TrIn (fun _ => True) w' v (bareSg s)
theorem bare_tr {L : Nat → Prop} {w W1 W2 W3 W4 w' : World} {s : Sg} {ve vs vf : Value} {ce cs cf : List Value} {ob rb : Nat} (_h1 : w.heap.size < rb) (h2 : rb < ob) (h3 : ob < W1.heap.size) (k0 : W1.heap.size ≤ W2.heap.size)
    (k1 : (∀ k, k < W2.heap.size → k ≠ ob → W3.heap[k]? = W2.heap[k]?) ∧ W2.heap.size ≤ W3.heap.size) (k2 : (∀ k, k < W3.heap.size → k ≠ ob → W4.heap[k]? = W3.heap[k]?) ∧ W3.heap.size ≤ W4.heap.size)
    (oe : W2.ownsRow W1.heap.size 63 9 ve s.ex.length ce) (os : W3.ownsRow W2.heap.size 42 9 vs s.st.length cs) (of : W4.ownsRow W3.heap.size 69 6 vf s.fn.length cf)
    (re : RowsOf (ExC w fun g => g < w.heap.size ∧ L g) (s.ex.map bare) ce) (rs : RowsOf (SmC w fun g => g < w.heap.size ∧ L g) (s.st.map bareS) cs) (rf : RowsOf (FuC w fun g => g < w.heap.size ∧ L g) (s.fn.map bareF) cf)
    (hB : Below w.heap.size w w') (hw : ∀ k, k ≠ rb → w'.heap[k]? = W4.heap[k]?) : TrIn (fun _ => True) w' (.agg #[ve, vs, vf]) (bareSg s) := by
  have hE := arr_of_own (by decide) (own_keep oe fun g hg => by
    have := own_blk oe g hg
    exact (hw g (by omega)).trans ((k2.1 g (by omega) (by omega)).trans (k1.1 g (by omega) (by omega))))
  have hS := arr_of_own (by decide) (own_keep os fun g hg => by
    have := own_blk os g hg
    exact (hw g (by omega)).trans (k2.1 g (by omega) (by omega)))
  have hF := arr_of_own (by decide) (own_keep of fun g hg => by
    have := own_blk of g hg
    exact hw g (by omega))
  have hk : KeptOn (fun g => g < w.heap.size ∧ L g) (fun g => g < w'.heap.size ∧ True) w w' := ⟨hB.size, fun g _ hl => ⟨⟨Nat.lt_of_lt_of_le hl hB.size, trivial⟩, hB.block g hl⟩⟩
  refine ⟨ve, vs, vf, ce, cs, cf, rfl, ⟨?_, fun _ _ => trivial⟩, ⟨?_, fun _ _ => trivial⟩, ⟨?_, fun _ _ => trivial⟩, re.mono (ExC.keep hk), rs.mono (SmC.keep hk), rf.mono (FuC.keep hk)⟩
  · simpa [bareSg] using hE
  · simpa [bareSg] using hS
  · simpa [bareSg] using hF
set_option maxRecDepth 100000 in
set_option maxHeartbeats 16000000 in
theorem bare_calls (L : Nat → Prop) (v : Value) (s : Sg) (hx : s.ex.length ≤ 20001) (hst : s.st.length ≤ 20001) (hfn : s.fn.length ≤ 20001) (w : World) (h : TrIn L w v s) :
    Calls Tryz.prog 15 #[v] w (BareP s w) := by
  obtain ⟨A1, c1, A2, c2, A3, c3, rfl⟩ := h.form
  have H := Lib.hid h
  clear h
  obtain ⟨iE, iE0, zE0, zE1, zE2⟩ := info_parts Tryz.infoEx
  obtain ⟨iS, iS0, zS0, zS1, zS2⟩ := info_parts Tryz.infoSm
  obtain ⟨iF, iF0, zF0, zF1, zF2⟩ := info_parts Tryz.infoFu
  go_enter Tryz.func15, Tryz.ntmps15
  go_wp2
  have h1 := heap_one w #[.slice A1 s.ex.length c1, .slice A2 s.st.length c2, .slice A3 s.fn.length c3] 27
  have h2 := heap_two w (.cells #[.slice A1 s.ex.length c1, .slice A2 s.st.length c2, .slice A3 s.fn.length c3] 27) #[.slice none 0 0, .slice none 0 0, .slice none 0 0] 27
  have b2 := below_two w (.cells #[.slice A1 s.ex.length c1, .slice A2 s.st.length c2, .slice A3 s.fn.length c3] 27) (.cells #[.slice none 0 0, .slice none 0 0, .slice none 0 0] 27)
  have h1' := (Below.heap_alloc (w.alloc (.cells #[.slice A1 s.ex.length c1, .slice A2 s.st.length c2, .slice A3 s.fn.length c3] 27)) (.cells #[.slice none 0 0, .slice none 0 0, .slice none 0 0] 27) w.heap.size (by simp)).trans h1
  clear h1
  have s2 : ((w.alloc (.cells #[.slice A1 s.ex.length c1, .slice A2 s.st.length c2, .slice A3 s.fn.length c3] 27)).alloc (.cells #[.slice none 0 0, .slice none 0 0, .slice none 0 0] 27)).heap.size = w.heap.size + 1 + 1 := by simp
  generalize ((w.alloc (.cells #[.slice A1 s.ex.length c1, .slice A2 s.st.length c2, .slice A3 s.fn.length c3] 27)).alloc (.cells #[.slice none 0 0, .slice none 0 0, .slice none 0 0] 27)) = V at h1' h2 b2 s2 ⊢
  have HB1 := Lib.hid (heap_one V #[.slice none 0 0, .slice none 0 0, .slice none 0 0] 27)
  have HT1 := Lib.hid ((Below.heap_alloc V (.cells #[.slice none 0 0, .slice none 0 0, .slice none 0 0] 27) w.heap.size (by omega)).trans h1')
  have HR1 := Lib.hid ((Below.heap_alloc V (.cells #[.slice none 0 0, .slice none 0 0, .slice none 0 0] 27) (w.heap.size + 1) (by omega)).trans h2)
  have HW1 := Lib.hid (b2.alloc (by omega) (.cells #[.slice none 0 0, .slice none 0 0, .slice none 0 0] 27))
  have HS1 : Hid ((V.alloc (.cells #[.slice none 0 0, .slice none 0 0, .slice none 0 0] 27)).heap.size = w.heap.size + 3) := Lib.hid (by simp; omega)
  rw [s2] at HB1
  clear h1' h2 b2 s2
  generalize (V.alloc (.cells #[.slice none 0 0, .slice none 0 0, .slice none 0 0] 27)) = W1 at HB1 HT1 HR1 HW1 HS1 ⊢
  clear V
  obtain ⟨rb, hrb⟩ : ∃ rb, rb = w.heap.size + 1 := ⟨_, rfl⟩
  obtain ⟨ob, hob⟩ : ∃ ob, ob = w.heap.size + 1 + 1 := ⟨_, rfl⟩
  rw [← hob] at HB1 ⊢
  rw [← hrb] at HR1 ⊢
  have HO := Lib.hid (show w.heap.size < rb ∧ rb < ob ∧ ob + 1 = W1.heap.size ∧ ob = w.heap.size + 2 by have := HS1.out; omega)
  have HL1 : Hid (ob < W1.heap.size) := Lib.hid (by have := HO.out; omega)
  have HSZ1 : Hid (w.heap.size + 2 < W1.heap.size) := Lib.hid (by have := HO.out; omega)
  clear hob hrb
  go_loopw [13] (fun a wr => ∃ i : Nat, i ≤ s.ex.length ∧ a = .int .i64 i ∧ ∃ v ce, Hid (Gro ob W1 wr (fun v => #[v, .slice none 0 0, .slice none 0 0]) 63 9 i ce v) ∧ Hid (RowsOf (ExC w fun g => g < w.heap.size ∧ L g) ((s.ex.take i).map bare) ce)) (fun a _ => s.ex.length - (intOf a).toNat)
  case atStart => exact ⟨0, Nat.zero_le _, rfl, .slice none 0 0, [], Lib.hid (Gro.start HB1.out), Lib.hid rfl⟩
  case round =>
    obtain ⟨i, hi, rfl, v, ce, HG, HR⟩ := hrel
    by_cases hlt : i < s.ex.length
    · obtain ⟨g, l, hA, hg, hl0, x0, x1, x2, x3, x4, x5, x6, x7, x8⟩ := H.out.exC i hlt
      subst hA
      have hps := take_snoc bare s.ex i hlt
      generalize s.ex[i] = x at x0 x1 x2 x3 x4 x5 x6 x7 x8 hl0 hps
      have hf0 := hl0
      obtain ⟨a0, r0, rfl, _⟩ := hf0
      have ho0 : (Value.slice a0 (intsV x.list).length ((intsV x.list).length + r0)).oneCell' = true := by rfl
      have HBw : Hid (Below w.heap.size w wr) := Lib.hid (HW1.out.trans (HG.out.below.mono (by have := HO.out; omega)))
      have k0 : wr.cell? ⟨g, i * 9, none⟩ = some (.int .i64 (x.kind : Int)) := (HBw.out.cell (p := ⟨g, _, none⟩) hg).trans x0
      have q0 : ∀ o, (wr.alloc o).cell? ⟨g, i * 9, none⟩ = some (.int .i64 (x.kind : Int)) := fun o => cell_nw k0 o
      have k1 : wr.cell? ⟨g, i * 9 + 1, none⟩ = some (.int .i64 (x.lo : Int)) := (HBw.out.cell (p := ⟨g, _, none⟩) hg).trans x1
      have q1 : ∀ o, (wr.alloc o).cell? ⟨g, i * 9 + 1, none⟩ = some (.int .i64 (x.lo : Int)) := fun o => cell_nw k1 o
      have k2 : wr.cell? ⟨g, i * 9 + 2, none⟩ = some (.int .i64 (x.hi : Int)) := (HBw.out.cell (p := ⟨g, _, none⟩) hg).trans x2
      have q2 : ∀ o, (wr.alloc o).cell? ⟨g, i * 9 + 2, none⟩ = some (.int .i64 (x.hi : Int)) := fun o => cell_nw k2 o
      have k3 : wr.cell? ⟨g, i * 9 + 3, none⟩ = some (.int .i64 (x.num : Int)) := (HBw.out.cell (p := ⟨g, _, none⟩) hg).trans x3
      have q3 : ∀ o, (wr.alloc o).cell? ⟨g, i * 9 + 3, none⟩ = some (.int .i64 (x.num : Int)) := fun o => cell_nw k3 o
      have k4 : wr.cell? ⟨g, i * 9 + 4, none⟩ = some (.string (bs x.name)) := (HBw.out.cell (p := ⟨g, _, none⟩) hg).trans x4
      have q4 : ∀ o, (wr.alloc o).cell? ⟨g, i * 9 + 4, none⟩ = some (.string (bs x.name)) := fun o => cell_nw k4 o
      have k5 : wr.cell? ⟨g, i * 9 + 5, none⟩ = some (.string (bs x.op)) := (HBw.out.cell (p := ⟨g, _, none⟩) hg).trans x5
      have q5 : ∀ o, (wr.alloc o).cell? ⟨g, i * 9 + 5, none⟩ = some (.string (bs x.op)) := fun o => cell_nw k5 o
      have k6 : wr.cell? ⟨g, i * 9 + 6, none⟩ = some (.int .i64 (x.a : Int)) := (HBw.out.cell (p := ⟨g, _, none⟩) hg).trans x6
      have q6 : ∀ o, (wr.alloc o).cell? ⟨g, i * 9 + 6, none⟩ = some (.int .i64 (x.a : Int)) := fun o => cell_nw k6 o
      have k7 : wr.cell? ⟨g, i * 9 + 7, none⟩ = some (.int .i64 (x.b : Int)) := (HBw.out.cell (p := ⟨g, _, none⟩) hg).trans x7
      have q7 : ∀ o, (wr.alloc o).cell? ⟨g, i * 9 + 7, none⟩ = some (.int .i64 (x.b : Int)) := fun o => cell_nw k7 o
      have k8 : wr.cell? ⟨g, i * 9 + 8, none⟩ = some (Value.slice a0 (intsV x.list).length ((intsV x.list).length + r0)) := (HBw.out.cell (p := ⟨g, _, none⟩) hg).trans x8
      have q8 : ∀ o, (wr.alloc o).cell? ⟨g, i * 9 + 8, none⟩ = some (Value.slice a0 (intsV x.list).length ((intsV x.list).length + r0)) := fun o => cell_nw k8 o
      have h3 : (i : Int) < (s.ex.length : Int) := by omega
      have h0 : 0 ≤ (i : Int) := by omega
      have HX : Hid (RowsOf (ExC w fun g => g < w.heap.size ∧ L g) ((s.ex.take (i + 1)).map bare) (ce ++ (#[.int .i64 (x.kind : Int), .int .i64 0, .int .i64 0, .int .i64 (x.num : Int), .string (bs x.name), .string (bs x.op), .int .i64 (x.a : Int), .int .i64 (x.b : Int), Value.slice a0 (intsV x.list).length ((intsV x.list).length + r0)] : Array Value).toList)) := Lib.hid (by rw [hps]; exact HR.out.snoc ⟨Value.slice a0 (intsV x.list).length ((intsV x.list).length + r0), rfl, hl0⟩)
      have H1 : Hid (∀ u ∈ (#[.int .i64 (x.kind : Int), .int .i64 0, .int .i64 0, .int .i64 (x.num : Int), .string (bs x.name), .string (bs x.op), .int .i64 (x.a : Int), .int .i64 (x.b : Int), Value.slice a0 (intsV x.list).length ((intsV x.list).length + r0)] : Array Value).toList, u.oneCell' = true) := Lib.hid (oneE (bare x) (Value.slice a0 (intsV x.list).length ((intsV x.list).length + r0)) ho0)
      clear x0 x1 x2 x3 x4 x5 x6 x7 x8 hps hl0
      have hob1 : ob < W1.heap.size := HL1.out
      have hwr := HG.out.below.size
      have hcb := HG.out.box
      have hc1 : ∀ o, (wr.alloc o).cell? ⟨ob, 0, none⟩ = some v := fun o => cell_nw (cell_blk hcb 0) o
      have hWS := HG.out.wide
      have HOB : Hid (∀ w3, ((wr.alloc (.cells #[.int .i64 (x.kind : Int), .int .i64 0, .int .i64 0, .int .i64 (x.num : Int), .string (bs x.name), .string (bs x.op), .int .i64 (x.a : Int), .int .i64 (x.b : Int), Value.slice a0 (intsV x.list).length ((intsV x.list).length + r0)] 63)).alloc (.cells #[.int .i64 (x.kind : Int), .int .i64 0, .int .i64 0, .int .i64 (x.num : Int), .string (bs x.name), .string (bs x.op), .int .i64 (x.a : Int), .int .i64 (x.b : Int), Value.slice a0 (intsV x.list).length ((intsV x.list).length + r0)] 63)).grownBy w3 v.ownBlock → w3.heap[ob]? = some (.cells #[v, .slice none 0 0, .slice none 0 0] 27 (0, 0))) := Lib.hid fun w3 hg => (hg.block ob (by simp; omega) (fun e => by have := own_blk HG.out.own ob e.symm; omega)).trans (((below_two wr _ _).block ob (by omega)).trans hcb)
      have HV := Lib.hid (own_below HG.out.own (below_two wr (.cells #[.int .i64 (x.kind : Int), .int .i64 0, .int .i64 0, .int .i64 (x.num : Int), .string (bs x.name), .string (bs x.op), .int .i64 (x.a : Int), .int .i64 (x.b : Int), Value.slice a0 (intsV x.list).length ((intsV x.list).length + r0)] 63) (.cells #[.int .i64 (x.kind : Int), .int .i64 0, .int .i64 0, .int .i64 (x.num : Int), .string (bs x.name), .string (bs x.op), .int .i64 (x.a : Int), .int .i64 (x.b : Int), Value.slice a0 (intsV x.list).length ((intsV x.list).length + r0)] 63)))
      have hin : i ≤ 20001 := by omega
      clear hcb
      go_wp2_with (at_builtin; refine wpList_append_lies _ rfl _ _ 23 rfl W1.heap.size 63 iE (.agg #[.int .i64 0, .int .i64 0, .int .i64 0, .int .i64 0, .string ⟨#[]⟩, .string ⟨#[]⟩, .int .i64 0, .int .i64 0, .slice none 0 0]) 9 104 Tryz.underlying23 iE0 zE0 zE1 zE2 rfl (by decide) v i ce rfl HV.out ⟨wr.heap.size + 1, 0, none⟩ 1 1 ((#[.int .i64 (x.kind : Int), .int .i64 0, .int .i64 0, .int .i64 (x.num : Int), .string (bs x.name), .string (bs x.op), .int .i64 (x.a : Int), .int .i64 (x.b : Int), Value.slice a0 (intsV x.list).length ((intsV x.list).length + r0)] : Array Value)).toList rfl rfl (World.news_of_block (heap_two wr _ _ _)) H1.out (by decide) (by unfold maxLen; omega) (by omega) (by simp <;> omega) (wr.heap.size + 2) (by simp) ?_; intro g' cap w3 hown hgrow hat hg3; have HG3 := Lib.hid hgrow; have HO3 := Lib.hid hown; have hb3 := HOB.out _ hgrow; have hc3 := cell_blk hb3 0; have hf3 := cell_frz hb3 0; clear hgrow hown hb3 hat hg3)
      go_roundw
      case rel => exact ⟨i + 1, by omega, by go_num, _, _, Lib.hid (HG.out.step (fld := 0) (by omega) (below_two wr _ _) HG3.out HO3.out rfl), HX⟩
      case measure => simp [intOf]; omega
    · obtain rfl : i = s.ex.length := by omega
      rw [List.take_length] at HR
      obtain ⟨ve, hvv⟩ : ∃ x, x = v := ⟨_, rfl⟩
      obtain ⟨W2, hWW⟩ : ∃ x, x = wr := ⟨_, rfl⟩
      obtain ⟨c0, hcc⟩ : ∃ x, x = ce := ⟨_, rfl⟩
      subst hvv hWW hcc
      have HOE := Lib.hid HG.out.own
      have HQE := HR
      have HW2 := Lib.hid (HW1.out.trans (HG.out.below.mono (by have := HO.out; omega)))
      have HT2 := Lib.hid ((HG.out.keep w.heap.size (by have := HO.out; have := HL1.out; omega) (by have := HO.out; omega)).trans HT1.out)
      have HR2 := Lib.hid ((HG.out.keep rb (by have := HO.out; have := HL1.out; omega) (by have := HO.out; omega)).trans HR1.out)
      have HB2 := Lib.hid HG.out.box
      have HL2 : Hid (ob < W2.heap.size) := Lib.hid (Nat.lt_of_lt_of_le HL1.out HG.out.wide)
      have HK2 : Hid ((∀ k, k < W1.heap.size → k ≠ ob → W2.heap[k]? = W1.heap[k]?) ∧ W1.heap.size ≤ W2.heap.size) := Lib.hid ⟨HG.out.keep, HG.out.wide⟩
      clear HG HR hi hlt
      have ct := cell_blk HT2.out 1
      go_wp2
      clear ct
      go_loopw [29] (fun a wr => ∃ i : Nat, i ≤ s.st.length ∧ a = .int .i64 i ∧ ∃ v ce, Hid (Gro ob W2 wr (fun v => #[ve, v, .slice none 0 0]) 42 9 i ce v) ∧ Hid (RowsOf (SmC w fun g => g < w.heap.size ∧ L g) ((s.st.take i).map bareS) ce)) (fun a _ => s.st.length - (intOf a).toNat)
      case atStart => exact ⟨0, Nat.zero_le _, rfl, .slice none 0 0, [], Lib.hid (Gro.start HB2.out), Lib.hid rfl⟩
      case round =>
        obtain ⟨i, hi, rfl, v, ce, HG, HR⟩ := hrel
        by_cases hlt : i < s.st.length
        · obtain ⟨g, l, m, hA, hg, hl0, hl1, x0, x1, x2, x3, x4, x5, x6, x7, x8⟩ := H.out.smC i hlt
          subst hA
          have hps := take_snoc bareS s.st i hlt
          generalize s.st[i] = x at x0 x1 x2 x3 x4 x5 x6 x7 x8 hl0 hl1 hps
          have hf0 := hl0
          obtain ⟨a0, r0, rfl, _⟩ := hf0
          have hf1 := hl1
          obtain ⟨a1, r1, rfl, _⟩ := hf1
          have ho0 : (Value.slice a0 (intsV x.thn).length ((intsV x.thn).length + r0)).oneCell' = true := by rfl
          have ho1 : (Value.slice a1 (intsV x.els).length ((intsV x.els).length + r1)).oneCell' = true := by rfl
          have HBw : Hid (Below w.heap.size w wr) := Lib.hid (HW2.out.trans (HG.out.below.mono (by have := HO.out; omega)))
          have k0 : wr.cell? ⟨g, i * 9, none⟩ = some (.int .i64 (x.kind : Int)) := (HBw.out.cell (p := ⟨g, _, none⟩) hg).trans x0
          have q0 : ∀ o, (wr.alloc o).cell? ⟨g, i * 9, none⟩ = some (.int .i64 (x.kind : Int)) := fun o => cell_nw k0 o
          have k1 : wr.cell? ⟨g, i * 9 + 1, none⟩ = some (.int .i64 (x.lo : Int)) := (HBw.out.cell (p := ⟨g, _, none⟩) hg).trans x1
          have q1 : ∀ o, (wr.alloc o).cell? ⟨g, i * 9 + 1, none⟩ = some (.int .i64 (x.lo : Int)) := fun o => cell_nw k1 o
          have k2 : wr.cell? ⟨g, i * 9 + 2, none⟩ = some (.int .i64 (x.hi : Int)) := (HBw.out.cell (p := ⟨g, _, none⟩) hg).trans x2
          have q2 : ∀ o, (wr.alloc o).cell? ⟨g, i * 9 + 2, none⟩ = some (.int .i64 (x.hi : Int)) := fun o => cell_nw k2 o
          have k3 : wr.cell? ⟨g, i * 9 + 3, none⟩ = some (.string (bs x.name)) := (HBw.out.cell (p := ⟨g, _, none⟩) hg).trans x3
          have q3 : ∀ o, (wr.alloc o).cell? ⟨g, i * 9 + 3, none⟩ = some (.string (bs x.name)) := fun o => cell_nw k3 o
          have k4 : wr.cell? ⟨g, i * 9 + 4, none⟩ = some (.int .i64 (x.num : Int)) := (HBw.out.cell (p := ⟨g, _, none⟩) hg).trans x4
          have q4 : ∀ o, (wr.alloc o).cell? ⟨g, i * 9 + 4, none⟩ = some (.int .i64 (x.num : Int)) := fun o => cell_nw k4 o
          have k5 : wr.cell? ⟨g, i * 9 + 5, none⟩ = some (.int .i64 x.a) := (HBw.out.cell (p := ⟨g, _, none⟩) hg).trans x5
          have q5 : ∀ o, (wr.alloc o).cell? ⟨g, i * 9 + 5, none⟩ = some (.int .i64 x.a) := fun o => cell_nw k5 o
          have k6 : wr.cell? ⟨g, i * 9 + 6, none⟩ = some (.int .i64 (x.b : Int)) := (HBw.out.cell (p := ⟨g, _, none⟩) hg).trans x6
          have q6 : ∀ o, (wr.alloc o).cell? ⟨g, i * 9 + 6, none⟩ = some (.int .i64 (x.b : Int)) := fun o => cell_nw k6 o
          have k7 : wr.cell? ⟨g, i * 9 + 7, none⟩ = some (Value.slice a0 (intsV x.thn).length ((intsV x.thn).length + r0)) := (HBw.out.cell (p := ⟨g, _, none⟩) hg).trans x7
          have q7 : ∀ o, (wr.alloc o).cell? ⟨g, i * 9 + 7, none⟩ = some (Value.slice a0 (intsV x.thn).length ((intsV x.thn).length + r0)) := fun o => cell_nw k7 o
          have k8 : wr.cell? ⟨g, i * 9 + 8, none⟩ = some (Value.slice a1 (intsV x.els).length ((intsV x.els).length + r1)) := (HBw.out.cell (p := ⟨g, _, none⟩) hg).trans x8
          have q8 : ∀ o, (wr.alloc o).cell? ⟨g, i * 9 + 8, none⟩ = some (Value.slice a1 (intsV x.els).length ((intsV x.els).length + r1)) := fun o => cell_nw k8 o
          have h3 : (i : Int) < (s.st.length : Int) := by omega
          have h0 : 0 ≤ (i : Int) := by omega
          have HX : Hid (RowsOf (SmC w fun g => g < w.heap.size ∧ L g) ((s.st.take (i + 1)).map bareS) (ce ++ (#[.int .i64 (x.kind : Int), .int .i64 0, .int .i64 0, .string (bs x.name), .int .i64 (x.num : Int), .int .i64 x.a, .int .i64 (x.b : Int), Value.slice a0 (intsV x.thn).length ((intsV x.thn).length + r0), Value.slice a1 (intsV x.els).length ((intsV x.els).length + r1)] : Array Value).toList)) := Lib.hid (by rw [hps]; exact HR.out.snoc ⟨Value.slice a0 (intsV x.thn).length ((intsV x.thn).length + r0), Value.slice a1 (intsV x.els).length ((intsV x.els).length + r1), rfl, hl0, hl1⟩)
          have H1 : Hid (∀ u ∈ (#[.int .i64 (x.kind : Int), .int .i64 0, .int .i64 0, .string (bs x.name), .int .i64 (x.num : Int), .int .i64 x.a, .int .i64 (x.b : Int), Value.slice a0 (intsV x.thn).length ((intsV x.thn).length + r0), Value.slice a1 (intsV x.els).length ((intsV x.els).length + r1)] : Array Value).toList, u.oneCell' = true) := Lib.hid (oneS (bareS x) (Value.slice a0 (intsV x.thn).length ((intsV x.thn).length + r0)) (Value.slice a1 (intsV x.els).length ((intsV x.els).length + r1)) ho0 ho1)
          clear x0 x1 x2 x3 x4 x5 x6 x7 x8 hps hl0 hl1
          have hob1 : ob < W2.heap.size := HL2.out
          have hwr := HG.out.below.size
          have hcb := HG.out.box
          have hc1 : ∀ o, (wr.alloc o).cell? ⟨ob, 1, none⟩ = some v := fun o => cell_nw (cell_blk hcb 1) o
          have hWS := HG.out.wide
          have HOB : Hid (∀ w3, ((wr.alloc (.cells #[.int .i64 (x.kind : Int), .int .i64 0, .int .i64 0, .string (bs x.name), .int .i64 (x.num : Int), .int .i64 x.a, .int .i64 (x.b : Int), Value.slice a0 (intsV x.thn).length ((intsV x.thn).length + r0), Value.slice a1 (intsV x.els).length ((intsV x.els).length + r1)] 42)).alloc (.cells #[.int .i64 (x.kind : Int), .int .i64 0, .int .i64 0, .string (bs x.name), .int .i64 (x.num : Int), .int .i64 x.a, .int .i64 (x.b : Int), Value.slice a0 (intsV x.thn).length ((intsV x.thn).length + r0), Value.slice a1 (intsV x.els).length ((intsV x.els).length + r1)] 42)).grownBy w3 v.ownBlock → w3.heap[ob]? = some (.cells #[ve, v, .slice none 0 0] 27 (0, 0))) := Lib.hid fun w3 hg => (hg.block ob (by simp; omega) (fun e => by have := own_blk HG.out.own ob e.symm; omega)).trans (((below_two wr _ _).block ob (by omega)).trans hcb)
          have HV := Lib.hid (own_below HG.out.own (below_two wr (.cells #[.int .i64 (x.kind : Int), .int .i64 0, .int .i64 0, .string (bs x.name), .int .i64 (x.num : Int), .int .i64 x.a, .int .i64 (x.b : Int), Value.slice a0 (intsV x.thn).length ((intsV x.thn).length + r0), Value.slice a1 (intsV x.els).length ((intsV x.els).length + r1)] 42) (.cells #[.int .i64 (x.kind : Int), .int .i64 0, .int .i64 0, .string (bs x.name), .int .i64 (x.num : Int), .int .i64 x.a, .int .i64 (x.b : Int), Value.slice a0 (intsV x.thn).length ((intsV x.thn).length + r0), Value.slice a1 (intsV x.els).length ((intsV x.els).length + r1)] 42)))
          have hin : i ≤ 20001 := by omega
          clear hcb
          go_wp2_with (at_builtin; refine wpList_append_lies _ rfl _ _ 24 rfl W2.heap.size 42 iS (.agg #[.int .i64 0, .int .i64 0, .int .i64 0, .string ⟨#[]⟩, .int .i64 0, .int .i64 0, .int .i64 0, .slice none 0 0, .slice none 0 0]) 9 112 Tryz.underlying24 iS0 zS0 zS1 zS2 rfl (by decide) v i ce rfl HV.out ⟨wr.heap.size + 1, 0, none⟩ 1 1 ((#[.int .i64 (x.kind : Int), .int .i64 0, .int .i64 0, .string (bs x.name), .int .i64 (x.num : Int), .int .i64 x.a, .int .i64 (x.b : Int), Value.slice a0 (intsV x.thn).length ((intsV x.thn).length + r0), Value.slice a1 (intsV x.els).length ((intsV x.els).length + r1)] : Array Value)).toList rfl rfl (World.news_of_block (heap_two wr _ _ _)) H1.out (by decide) (by unfold maxLen; omega) (by omega) (by simp <;> omega) (wr.heap.size + 2) (by simp) ?_; intro g' cap w3 hown hgrow hat hg3; have HG3 := Lib.hid hgrow; have HO3 := Lib.hid hown; have hb3 := HOB.out _ hgrow; have hc3 := cell_blk hb3 1; have hf3 := cell_frz hb3 1; clear hgrow hown hb3 hat hg3)
          go_roundw
          case rel => exact ⟨i + 1, by omega, by go_num, _, _, Lib.hid (HG.out.step (fld := 1) (by omega) (below_two wr _ _) HG3.out HO3.out rfl), HX⟩
          case measure => simp [intOf]; omega
        · obtain rfl : i = s.st.length := by omega
          rw [List.take_length] at HR
          obtain ⟨vs, hvv⟩ : ∃ x, x = v := ⟨_, rfl⟩
          obtain ⟨W3, hWW⟩ : ∃ x, x = wr := ⟨_, rfl⟩
          obtain ⟨cs, hcc⟩ : ∃ x, x = ce := ⟨_, rfl⟩
          subst hvv hWW hcc
          have HOS := Lib.hid HG.out.own
          have HQS := HR
          have HW3 := Lib.hid (HW2.out.trans (HG.out.below.mono (by have := HO.out; omega)))
          have HT3 := Lib.hid ((HG.out.keep w.heap.size (by have := HO.out; have := HL2.out; omega) (by have := HO.out; omega)).trans HT2.out)
          have HR3 := Lib.hid ((HG.out.keep rb (by have := HO.out; have := HL2.out; omega) (by have := HO.out; omega)).trans HR2.out)
          have HB3 := Lib.hid HG.out.box
          have HL3 : Hid (ob < W3.heap.size) := Lib.hid (Nat.lt_of_lt_of_le HL2.out HG.out.wide)
          have HK3 : Hid ((∀ k, k < W2.heap.size → k ≠ ob → W3.heap[k]? = W2.heap[k]?) ∧ W2.heap.size ≤ W3.heap.size) := Lib.hid ⟨HG.out.keep, HG.out.wide⟩
          clear HG HR hi hlt
          have ct := cell_blk HT3.out 2
          go_wp2
          clear ct
          go_loopw [45] (fun a wr => ∃ i : Nat, i ≤ s.fn.length ∧ a = .int .i64 i ∧ ∃ v ce, Hid (Gro ob W3 wr (fun v => #[ve, vs, v]) 69 6 i ce v) ∧ Hid (RowsOf (FuC w fun g => g < w.heap.size ∧ L g) ((s.fn.take i).map bareF) ce)) (fun a _ => s.fn.length - (intOf a).toNat)
          case atStart => exact ⟨0, Nat.zero_le _, rfl, .slice none 0 0, [], Lib.hid (Gro.start HB3.out), Lib.hid rfl⟩
          case round =>
            obtain ⟨i, hi, rfl, v, ce, HG, HR⟩ := hrel
            by_cases hlt : i < s.fn.length
            · obtain ⟨g, l, m, hA, hg, hl0, hl1, x0, x1, x2, x3, x4, x5⟩ := H.out.fuC i hlt
              subst hA
              have hps := take_snoc bareF s.fn i hlt
              generalize s.fn[i] = x at x0 x1 x2 x3 x4 x5 hl0 hl1 hps
              have hf0 := hl0
              obtain ⟨a0, r0, rfl, _⟩ := hf0
              have hf1 := hl1
              obtain ⟨a1, r1, rfl, _⟩ := hf1
              have ho0 : (Value.slice a0 (strsV x.params).length ((strsV x.params).length + r0)).oneCell' = true := by rfl
              have ho1 : (Value.slice a1 (intsV x.body).length ((intsV x.body).length + r1)).oneCell' = true := by rfl
              have HBw : Hid (Below w.heap.size w wr) := Lib.hid (HW3.out.trans (HG.out.below.mono (by have := HO.out; omega)))
              have k0 : wr.cell? ⟨g, i * 6, none⟩ = some (.string (bs x.name)) := (HBw.out.cell (p := ⟨g, _, none⟩) hg).trans x0
              have q0 : ∀ o, (wr.alloc o).cell? ⟨g, i * 6, none⟩ = some (.string (bs x.name)) := fun o => cell_nw k0 o
              have k1 : wr.cell? ⟨g, i * 6 + 1, none⟩ = some (.int .i64 (x.lo : Int)) := (HBw.out.cell (p := ⟨g, _, none⟩) hg).trans x1
              have q1 : ∀ o, (wr.alloc o).cell? ⟨g, i * 6 + 1, none⟩ = some (.int .i64 (x.lo : Int)) := fun o => cell_nw k1 o
              have k2 : wr.cell? ⟨g, i * 6 + 2, none⟩ = some (.int .i64 (x.hi : Int)) := (HBw.out.cell (p := ⟨g, _, none⟩) hg).trans x2
              have q2 : ∀ o, (wr.alloc o).cell? ⟨g, i * 6 + 2, none⟩ = some (.int .i64 (x.hi : Int)) := fun o => cell_nw k2 o
              have k3 : wr.cell? ⟨g, i * 6 + 3, none⟩ = some (Value.slice a0 (strsV x.params).length ((strsV x.params).length + r0)) := (HBw.out.cell (p := ⟨g, _, none⟩) hg).trans x3
              have q3 : ∀ o, (wr.alloc o).cell? ⟨g, i * 6 + 3, none⟩ = some (Value.slice a0 (strsV x.params).length ((strsV x.params).length + r0)) := fun o => cell_nw k3 o
              have k4 : wr.cell? ⟨g, i * 6 + 4, none⟩ = some (.int .i64 (x.ty : Int)) := (HBw.out.cell (p := ⟨g, _, none⟩) hg).trans x4
              have q4 : ∀ o, (wr.alloc o).cell? ⟨g, i * 6 + 4, none⟩ = some (.int .i64 (x.ty : Int)) := fun o => cell_nw k4 o
              have k5 : wr.cell? ⟨g, i * 6 + 5, none⟩ = some (Value.slice a1 (intsV x.body).length ((intsV x.body).length + r1)) := (HBw.out.cell (p := ⟨g, _, none⟩) hg).trans x5
              have q5 : ∀ o, (wr.alloc o).cell? ⟨g, i * 6 + 5, none⟩ = some (Value.slice a1 (intsV x.body).length ((intsV x.body).length + r1)) := fun o => cell_nw k5 o
              have h3 : (i : Int) < (s.fn.length : Int) := by omega
              have h0 : 0 ≤ (i : Int) := by omega
              have HX : Hid (RowsOf (FuC w fun g => g < w.heap.size ∧ L g) ((s.fn.take (i + 1)).map bareF) (ce ++ (#[.string (bs x.name), .int .i64 0, .int .i64 0, Value.slice a0 (strsV x.params).length ((strsV x.params).length + r0), .int .i64 (x.ty : Int), Value.slice a1 (intsV x.body).length ((intsV x.body).length + r1)] : Array Value).toList)) := Lib.hid (by rw [hps]; exact HR.out.snoc ⟨Value.slice a0 (strsV x.params).length ((strsV x.params).length + r0), Value.slice a1 (intsV x.body).length ((intsV x.body).length + r1), rfl, hl0, hl1⟩)
              have H1 : Hid (∀ u ∈ (#[.string (bs x.name), .int .i64 0, .int .i64 0, Value.slice a0 (strsV x.params).length ((strsV x.params).length + r0), .int .i64 (x.ty : Int), Value.slice a1 (intsV x.body).length ((intsV x.body).length + r1)] : Array Value).toList, u.oneCell' = true) := Lib.hid (oneF (bareF x) (Value.slice a0 (strsV x.params).length ((strsV x.params).length + r0)) (Value.slice a1 (intsV x.body).length ((intsV x.body).length + r1)) ho0 ho1)
              clear x0 x1 x2 x3 x4 x5 hps hl0 hl1
              have hob1 : ob < W3.heap.size := HL3.out
              have hwr := HG.out.below.size
              have hcb := HG.out.box
              have hc1 : ∀ o, (wr.alloc o).cell? ⟨ob, 2, none⟩ = some v := fun o => cell_nw (cell_blk hcb 2) o
              have hWS := HG.out.wide
              have HOB : Hid (∀ w3, ((wr.alloc (.cells #[.string (bs x.name), .int .i64 0, .int .i64 0, Value.slice a0 (strsV x.params).length ((strsV x.params).length + r0), .int .i64 (x.ty : Int), Value.slice a1 (intsV x.body).length ((intsV x.body).length + r1)] 69)).alloc (.cells #[.string (bs x.name), .int .i64 0, .int .i64 0, Value.slice a0 (strsV x.params).length ((strsV x.params).length + r0), .int .i64 (x.ty : Int), Value.slice a1 (intsV x.body).length ((intsV x.body).length + r1)] 69)).grownBy w3 v.ownBlock → w3.heap[ob]? = some (.cells #[ve, vs, v] 27 (0, 0))) := Lib.hid fun w3 hg => (hg.block ob (by simp; omega) (fun e => by have := own_blk HG.out.own ob e.symm; omega)).trans (((below_two wr _ _).block ob (by omega)).trans hcb)
              have HV := Lib.hid (own_below HG.out.own (below_two wr (.cells #[.string (bs x.name), .int .i64 0, .int .i64 0, Value.slice a0 (strsV x.params).length ((strsV x.params).length + r0), .int .i64 (x.ty : Int), Value.slice a1 (intsV x.body).length ((intsV x.body).length + r1)] 69) (.cells #[.string (bs x.name), .int .i64 0, .int .i64 0, Value.slice a0 (strsV x.params).length ((strsV x.params).length + r0), .int .i64 (x.ty : Int), Value.slice a1 (intsV x.body).length ((intsV x.body).length + r1)] 69)))
              have hin : i ≤ 20001 := by omega
              clear hcb
              go_wp2_with (at_builtin; refine wpList_append_lies _ rfl _ _ 25 rfl W3.heap.size 69 iF (.agg #[.string ⟨#[]⟩, .int .i64 0, .int .i64 0, .slice none 0 0, .int .i64 0, .slice none 0 0]) 6 88 Tryz.underlying25 iF0 zF0 zF1 zF2 rfl (by decide) v i ce rfl HV.out ⟨wr.heap.size + 1, 0, none⟩ 1 1 ((#[.string (bs x.name), .int .i64 0, .int .i64 0, Value.slice a0 (strsV x.params).length ((strsV x.params).length + r0), .int .i64 (x.ty : Int), Value.slice a1 (intsV x.body).length ((intsV x.body).length + r1)] : Array Value)).toList rfl rfl (World.news_of_block (heap_two wr _ _ _)) H1.out (by decide) (by unfold maxLen; omega) (by omega) (by simp <;> omega) (wr.heap.size + 2) (by simp) ?_; intro g' cap w3 hown hgrow hat hg3; have HG3 := Lib.hid hgrow; have HO3 := Lib.hid hown; have hb3 := HOB.out _ hgrow; have hc3 := cell_blk hb3 2; have hf3 := cell_frz hb3 2; clear hgrow hown hb3 hat hg3)
              go_roundw
              case rel => exact ⟨i + 1, by omega, by go_num, _, _, Lib.hid (HG.out.step (fld := 2) (by omega) (below_two wr _ _) HG3.out HO3.out rfl), HX⟩
              case measure => simp [intOf]; omega
            · obtain rfl : i = s.fn.length := by omega
              rw [List.take_length] at HR
              obtain ⟨vf, hvv⟩ : ∃ x, x = v := ⟨_, rfl⟩
              obtain ⟨W4, hWW⟩ : ∃ x, x = wr := ⟨_, rfl⟩
              obtain ⟨cf, hcc⟩ : ∃ x, x = ce := ⟨_, rfl⟩
              subst hvv hWW hcc
              have HOF := Lib.hid HG.out.own
              have HQF := HR
              have HW4 := Lib.hid (HW3.out.trans (HG.out.below.mono (by have := HO.out; omega)))
              have HT4 := Lib.hid ((HG.out.keep w.heap.size (by have := HO.out; have := HL3.out; omega) (by have := HO.out; omega)).trans HT3.out)
              have HR4 := Lib.hid ((HG.out.keep rb (by have := HO.out; have := HL3.out; omega) (by have := HO.out; omega)).trans HR3.out)
              have HB4 := Lib.hid HG.out.box
              have HL4 : Hid (ob < W4.heap.size) := Lib.hid (Nat.lt_of_lt_of_le HL3.out HG.out.wide)
              have HK4 : Hid ((∀ k, k < W3.heap.size → k ≠ ob → W4.heap[k]? = W3.heap[k]?) ∧ W3.heap.size ≤ W4.heap.size) := Lib.hid ⟨HG.out.keep, HG.out.wide⟩
              clear HG HR hi hlt
              obtain ⟨Ae, ae, rfl⟩ := own_form HOE.out
              obtain ⟨As, bs1, rfl⟩ := own_form HOS.out
              obtain ⟨Af, af, rfl⟩ := own_form HOF.out
              have cb0 := cell_blk HB4.out 0
              have cb1 := cell_blk HB4.out 1
              have cb2 := cell_blk HB4.out 2
              have cr0 := cell_blk HR4.out 0
              have fr0 := cell_frz HR4.out 0
              have cr1 := cell_blk HR4.out 1
              have fr1 := cell_frz HR4.out 1
              have cr2 := cell_blk HR4.out 2
              have fr2 := cell_frz HR4.out 2
              go_wp2
              have hfin : (((W4.setCell ⟨rb, 0, none⟩ (.slice Ae s.ex.length ae)).setCell ⟨rb, 1, none⟩ (.slice As s.st.length bs1)).setCell ⟨rb, 2, none⟩ (.slice Af s.fn.length af)).heap[rb]? = some (.cells #[(.slice Ae s.ex.length ae), (.slice As s.st.length bs1), (.slice Af s.fn.length af)] 27 (0, 0)) := by rw [setCell_at _ rb 2 _ _ _ _ (setCell_at _ rb 1 _ _ _ _ (setCell_at W4 rb 0 _ _ _ _ HR4.out))]; rfl
              have z0 := cell_blk hfin 0
              have z1 := cell_blk hfin 1
              have z2 := cell_blk hfin 2
              refine bodyPost_ret (v := .agg #[(.slice Ae s.ex.length ae), (.slice As s.st.length bs1), (.slice Af s.fn.length af)]) (by simp [results, Tryz.results15, go_sem, z0, z1, z2]) rfl ?_
              have hne : ∀ (k : Nat) (x y z : Value), k ≠ rb → (((W4.setCell ⟨rb, 0, none⟩ x).setCell ⟨rb, 1, none⟩ y).setCell ⟨rb, 2, none⟩ z).heap[k]? = W4.heap[k]? := fun k x y z hk => ((setCell_ne _ rb 2 z k hk).trans (setCell_ne _ rb 1 y k hk)).trans (setCell_ne _ rb 0 x k hk)
              have hBf : ∀ x y z : Value, Below w.heap.size w (((W4.setCell ⟨rb, 0, none⟩ x).setCell ⟨rb, 1, none⟩ y).setCell ⟨rb, 2, none⟩ z) := fun x y z => ((HW4.out.setCell (p := ⟨rb, 0, none⟩) (Nat.le_of_lt HO.out.1) x).setCell (p := ⟨rb, 1, none⟩) (Nat.le_of_lt HO.out.1) y).setCell (p := ⟨rb, 2, none⟩) (Nat.le_of_lt HO.out.1) z
              exact ⟨_, rfl, hBf _ _ _, bare_tr HO.out.1 HO.out.2.1 HL1.out HK2.out.2 HK3.out HK4.out HOE.out HOS.out HOF.out HQE.out HQS.out HQF.out (hBf _ _ _) (fun k hk => hne k _ _ _ hk)⟩
end Go.Proofs.YtdeflloidhbpmaaGreatDoor
