/-
  Statements without blocks; what a statement's parts come to.
-/
import Derived.Test.YtdeflloidhbpmaaGreatDoorK12
import Derived.Deep.MidRow
namespace Go.Proofs.YtdeflloidhbpmaaGreatDoor
open Go.RowKit

/-- With one block more. -/
def Also (S : Nat → Prop) (B : Nat) (b : Nat) : Prop := S b ∨ b = B
theorem PAt.allocA {C : Cx} {S : Nat → Prop} {d : Nat} {s : Sg} {w : World} (h : PAt C S d s w) (o : Obj) : PAt C (Also S w.heap.size) d s (w.alloc o) := h.allocS o
/-- It ended at a token. -/
def Bad (C : Cx) (S : Nat → Prop) (c i : Nat) (w : World) (e : Ending) (w' : World) : Prop := e = PanicE c ∧ Gone C c i w' ∧ Keep C S w w'
theorem bad_of {C : Cx} {S S' : Nat → Prop} {c i : Nat} {w0 w w' : World} {e : Ending} (h : Bad C S c i w e w') (hk : Keep C S' w0 w) (hS : ∀ b, S' b → S b) : Bad C S' c i w0 e w' := ⟨h.1, h.2.1, hk.trans (h.2.2.sub hS)⟩
/-- What comes of a call that answers a statement, whose lists are of its own. -/
def OutS (C : Cx) (S : Nat → Prop) (d : Nat) (r : Rs Sm) (w : World) (e : Ending) (w' : World) : Prop :=
  match r with
  | .ok x s' => ∃ l m, e = .returned (.agg #[.int .i64 (x.kind : Int), .int .i64 0, .int .i64 0, .string (bs x.name), .int .i64 (x.num : Int), .int .i64 x.a, .int .i64 (x.b : Int), l, m]) ∧ x.lo = 0 ∧ x.hi = 0 ∧ RwAt w' (Fresh C S) l (intsV x.thn) ∧ RwAt w' (Fresh C S) m (intsV x.els) ∧ PAt C (With (With S l) m) d s' w' ∧ Keep C S w w'
  | .no c i => Bad C S c i w e w'
/-- Nothing but a block has changed. -/
structure Only (B : Nat) (w w' : World) : Prop where
  os : w'.os = w.os
  tape : w'.tape = w.tape
  output : w'.output = w.output
  size : w'.heap.size = w.heap.size
  block : ∀ k, k ≠ B → w'.heap[k]? = w.heap[k]?
theorem Only.refl (B : Nat) (w : World) : Only B w w := ⟨rfl, rfl, rfl, rfl, fun _ _ => rfl⟩
theorem Only.set {B : Nat} {a w : World} (h : Only B a w) (o : Nat) (u : Value) : Only B a (w.setCell ⟨B, o, none⟩ u) :=
  ⟨h.os, h.tape, h.output, by simp [World.setCell, h.size], fun k hk => (setCell_ne w B o u k hk).trans (h.block k hk)⟩
theorem PAt.only {C : Cx} {S : Nat → Prop} {d : Nat} {s : Sg} {w w' : World} {B : Nat} (h : PAt C S d s w) (ho : Only B w w') (hB : S B) : PAt C S d s w' :=
  h.move (by rw [ho.size]; exact Nat.le_refl _) (fun k _ hn => ho.block k fun e => hn (e ▸ hB)) fun b hb => ⟨by rw [ho.size]; exact (h.sLt b hb).2, .inl hb⟩
theorem Keep.only {C : Cx} {S : Nat → Prop} {a w w' : World} {B : Nat} (h : Keep C S a w) (ho : Only B w w') (hq : C.q ≤ B) (hn : ¬ S B) : Keep C S a w' :=
  ⟨h.below.trans ⟨ho.os, ho.tape, ho.output, by rw [ho.size]; exact Nat.le_refl _, fun k hk => ho.block k (by omega)⟩, fun b hb => (ho.block b fun e => hn (e ▸ hb)).trans (h.kept b hb)⟩
theorem RwAt.only {w w' : World} {L L' : Nat → Prop} {v : Value} {vs : List Value} {B : Nat} (h : RwAt w L v vs) (ho : Only B w w') (hL : ∀ g, L g → L' g ∧ g ≠ B) : RwAt w' L' v vs :=
  h.keep (by rw [ho.size]; exact Nat.le_refl _) fun g _ hg _ => ⟨(hL g hg).1, ho.block g (hL g hg).2⟩
theorem setCells_only (B : Nat) : ∀ (vs : List Value) (o : Nat) (w : World), Only B w (w.setCells B o vs)
  | [], _, w => Only.refl B w
  | v :: r, o, w => by
    have h1 := (Only.refl B w).set o v
    have h2 := setCells_only B r (o + 1) (w.setCell ⟨B, o, none⟩ v)
    exact ⟨h2.os.trans h1.os, h2.tape.trans h1.tape, h2.output.trans h1.output, h2.size.trans h1.size, fun k hk => (h2.block k hk).trans (h1.block k hk)⟩
theorem setCells_block (B : Nat) (t : TypeId) : ∀ (vs pre : List Value) (old : Array Value) (w : World), w.heap[B]? = some (.cells old t (0, 0)) → old.toList.take pre.length = pre → old.size = pre.length + vs.length → (w.setCells B pre.length vs).heap[B]? = some (.cells (pre ++ vs).toArray t (0, 0))
  | [], pre, old, w, hb, hp, hs => by
    have e : old.toList = pre := by rw [← hp, List.take_of_length_le (by simp at hs ⊢; omega)]
    rw [List.append_nil, ← e]
    simpa [World.setCells] using hb
  | v :: r, pre, old, w, hb, hp, hs => by
    have h1 := setCell_at w B pre.length v old t (0, 0) hb
    have hlt : pre.length < old.size := by simp at hs; omega
    have h2 := setCells_block B t r (pre ++ [v]) (old.setIfInBounds pre.length v) (w.setCell ⟨B, pre.length, none⟩ v) h1 (by
      rw [List.length_append, List.length_singleton, Array.toList_setIfInBounds, List.take_set]
      have hl : (List.take (pre.length + 1) old.toList) = pre ++ [old[pre.length]] := by
        rw [List.take_succ_eq_append_getElem (by simpa using hlt), hp]; simp
      rw [hl]; simp) (by simp at hs ⊢; omega)
    simpa [World.setCells] using h2
theorem there_of {w : World} {B : Nat} {old : Array Value} {t : TypeId} (hb : w.heap[B]? = some (.cells old t (0, 0))) (n : Nat) (hn : n = old.size) : w.there B 0 n := fun j hj => by
  subst hn
  simp [World.cell?, World.frozen?, hb, hj]
theorem wpList_store_whole {P : Program} {ops : Array Oper} {rest : List Oper} {op : Oper} {a : Act} {w : World} {Q : Exit → Act → World → Prop} (hgd : op.guard = none) (ty : TypeId) (x y : Operand) (ho : op.op = .store ty x y)
    (B : Nat) (old cells : Array Value) (t : TypeId) (hb : w.heap[B]? = some (.cells old t (0, 0))) (hs : old.size = cells.size) (hx : a.eval x = .pointer (some ⟨B, 0, none⟩)) (hy : a.eval y = .agg cells) (hi : (P.info? ty).map (·.size) = some cells.size) (h1 : cells.all (·.oneCell') = true)
    (h : ∀ w', Only B w w' → w'.heap[B]? = some (.cells cells t (0, 0)) → wpList P ops Q rest (a.put op.dst undef) w') : wpList P ops Q (op :: rest) a w :=
  wpList_store_mid hgd ty x y ho B 0 cells hx hy (there_of hb _ hs.symm) hi h1 (h _ (setCells_only B _ 0 w) (by
    have := setCells_block B t cells.toList [] old w hb rfl (by simp [hs])
    simpa using this))
theorem Tryz.sizeSm : (Tryz.prog.info? 42).map (·.size) = some 9 := by kernel_rfl
/-- A statement is answered, out of a variable at block B. -/
theorem outS_fin {C : Cx} {S S' : Nat → Prop} {d d0 : Nat} {s s0 : Sg} {w wn w' : World} {B : Nat} {x : Sm} {l m : Value} (h0 : PAt C S d0 s0 w) (hP : PAt C (With (With S' l) m) d s wn) (hS : ∀ b, S b → S' b) (hB : S' B) (hBw : w.heap.size ≤ B) (ho : Only B wn w')
    (hx : x.lo = 0 ∧ x.hi = 0) (hl : RwAt wn (Fresh C S') l (intsV x.thn)) (hm : RwAt wn (Fresh C S') m (intsV x.els)) (hK : Keep C S w wn) : OutS C S d (.ok x s) w (.returned (.agg #[.int .i64 (x.kind : Int), .int .i64 0, .int .i64 0, .string (bs x.name), .int .i64 (x.num : Int), .int .i64 x.a, .int .i64 (x.b : Int), l, m])) w' := by
  have hn : ∀ g, Fresh C S' g → Fresh C S g ∧ g ≠ B := fun g hg => ⟨⟨hg.1, fun e => hg.2 (hS g e)⟩, fun e => hg.2 (e ▸ hB)⟩
  have hq := h0.qlt
  exact ⟨l, m, rfl, hx.1, hx.2, hl.only ho hn, hm.only ho hn, (hP.only ho (.inl (.inl hB))).sub fun b hb => hb.imp (fun h => h.imp (hS b) id) id, hK.only ho (by omega) (fun e => by have := (h0.sLt B e).2; omega)⟩
theorem PAt.with2 {C : Cx} {S : Nat → Prop} {d : Nat} {s : Sg} {w : World} (h : PAt C S d s w) : PAt C (With (With S (.slice none 0 0)) (.slice none 0 0)) d s w :=
  h.sub fun _ hb => with_nil (with_nil hb)
/-- The block of a new variable, behind what a call keeps. -/
theorem blk_lt {w : World} {B : Nat} {o : Obj} (h : w.heap[B]? = some o) : B < w.heap.size := (Array.getElem?_eq_some_iff.1 h).1
theorem hq_also {C : Cx} {S : Nat → Prop} {d : Nat} {s : Sg} {w : World} (h : PAt C S d s w) (o : Obj) : Keep C S w (w.alloc o) := Keep.alloc h o
/-- The contract of a statement, of a block. -/
def StmtC (C : Cx) (dep : Int) (stm : Ps Nat) : Prop := ∀ S d s w, PAt C S d s w → Calls Tryz.prog 131 #[.pointer (some ⟨C.q, 0, none⟩), .int .i64 dep] w (OutP C S d natV (stm s) w)
def BlockC (C : Cx) (dep : Int) (blk : Ps (List Nat)) : Prop := ∀ S d s w, PAt C S d s w → Calls Tryz.prog 108 #[.pointer (some ⟨C.q, 0, none⟩), .int .i64 dep] w (OutL C S (d + 1) intsV (blk s) w)

set_option maxRecDepth 100000 in
set_option maxHeartbeats 1000000 in
theorem answer_calls (C : Cx) (S : Nat → Prop) (d : Nat) (s : Sg) (dep : Int) (ex : Ps Nat) (hp : PartC C 156 dep ex) (w : World) (h : PAt C S d s w) : Calls Tryz.prog 160 #[.pointer (some ⟨C.q, 0, none⟩), .int .i64 dep] w (OutS C S (d + 1) (answerM C.T ex s) w) := by
  obtain ⟨R, hR⟩ : ∃ R, answerM C.T ex s = R := ⟨_, rfl⟩
  rw [hR]
  have HR := Lib.hid hR
  unfold answerM at HR
  have H := Lib.hid h
  clear h hR
  have HP := Lib.hid hp
  clear hp
  have hwq := H.out.qlt
  have P0 := Lib.hid (H.out.allocA (.cells #[.int .i64 0, .int .i64 0, .int .i64 0, .string ⟨#[]⟩, .int .i64 0, .int .i64 0, .int .i64 0, .slice none 0 0, .slice none 0 0] 42))
  have K0 := Lib.hid (Keep.alloc H.out (.cells #[.int .i64 0, .int .i64 0, .int .i64 0, .string ⟨#[]⟩, .int .i64 0, .int .i64 0, .int .i64 0, .slice none 0 0, .slice none 0 0] 42))
  have bA0 := Lib.hid (heap_one w #[.int .i64 0, .int .i64 0, .int .i64 0, .string ⟨#[]⟩, .int .i64 0, .int .i64 0, .int .i64 0, .slice none 0 0, .slice none 0 0] 42)
  go_enter Tryz.func160, Tryz.ntmps160
  go_wp2_with fail
  refine (takeL_calls C (Also S w.heap.size) d s [kReturn] _ rfl 1 rfl (by decide) (by decide) _ P0.out (w.heap.size + 1) (by simp)).mono ?_
  intro e w1 h1
  generalize hr : takeP C.T [kReturn] s = r at h1
  cases r with
  | no c i =>
    obtain rfl : R = .no c i := HR.out.symm.trans (bd_no hr)
    clear hr
    obtain rfl := h1.1
    go_wp2
    exact ⟨rfl, bad_of h1 K0.out (fun _ h => .inl (h))⟩
  | ok o s1 =>
    have HR1 := Lib.hid ((bd_ok hr).symm.trans HR.out)
    clear hr HR
    obtain ⟨rfl, hp, hk⟩ := h1
    have P1 := Lib.hid hp
    have K1 := Lib.hid (K0.out.trans (hk.sub (fun _ h => .inl (h))))
    have bA1 := Lib.hid ((hk.kept _ (.inr rfl)).trans bA0.out)
    clear hp hk
    unfold strV
    have his := Lib.hid (isL_calls C (Also S w.heap.size) (d + 1) s1 [[59]] _ rfl 1 rfl (by decide) w1 P1.out _ rfl)
    cases hb : isP C.T [[59]] s1
    · rw [hb] at his
      have HRt2 := Lib.hid ((ifF hb).symm.trans HR1.out)
      clear hb HR1
      go_wp2_with fail
      refine (his.out).mono ?_
      rintro e w2 ⟨rfl, hB⟩
      have P2 := Lib.hid (P1.out.below hB)
      have K2 := Lib.hid (K1.out.trans ((P1.out.belowK hB).sub (fun _ h => .inl (h))))
      have bA2 := Lib.hid ((hB.block _ (blk_lt bA1.out)).trans bA1.out)
      clear hB
      go_wp2_with fail
      refine (HP.out.run (Also S w.heap.size) (d + 1) s1 _ P2.out).mono ?_
      intro e w3 h3
      generalize hr : ex s1 = r at h3
      cases r with
      | no c i =>
        obtain rfl : R = .no c i := HRt2.out.symm.trans (bd_no hr)
        clear hr
        obtain rfl := h3.1
        go_wp2
        exact ⟨rfl, bad_of h3 K2.out (fun _ h => .inl (h))⟩
      | ok a s3 =>
        have HR3 := Lib.hid ((bd_ok hr).symm.trans HRt2.out)
        clear hr HRt2
        obtain ⟨rfl, hp, hk⟩ := h3
        have P3 := Lib.hid hp
        have K3 := Lib.hid (K2.out.trans (hk.sub (fun _ h => .inl (h))))
        have bA3 := Lib.hid ((hk.kept _ (.inr rfl)).trans bA2.out)
        clear hp hk
        unfold natV
        obtain rfl : R = .ok ({ kind := 9, a := (a : Int) } : Sm) s3 := HR3.out.symm
        go_wp2_with (refine wpList_store_whole rfl 42 (.tmp 4) (.tmp 15) rfl w.heap.size _ (smV ({ kind := 9, a := (a : Int) } : Sm) (.slice none 0 0) (.slice none 0 0)).toArray 42 bA3.out rfl rfl rfl Tryz.sizeSm (all_oneCell_toArray (oneS ({ kind := 9, a := (a : Int) } : Sm) (.slice none 0 0) (.slice none 0 0) rfl rfl)) ?_; intro w99 ho99 hb99; have HO99 := Lib.hid ho99; have HB99 := Lib.hid hb99; clear ho99 hb99)
        have rc0 : w99.cell? ⟨w.heap.size, 0, none⟩ = some (.int .i64 9) := by simp [World.cell?, HB99.out, smV, bs]
        have rc1 : w99.cell? ⟨w.heap.size, 1, none⟩ = some (.int .i64 0) := by simp [World.cell?, HB99.out, smV, bs]
        have rc2 : w99.cell? ⟨w.heap.size, 2, none⟩ = some (.int .i64 0) := by simp [World.cell?, HB99.out, smV, bs]
        have rc3 : w99.cell? ⟨w.heap.size, 3, none⟩ = some (.string ⟨#[]⟩) := by simp [World.cell?, HB99.out, smV, bs]
        have rc4 : w99.cell? ⟨w.heap.size, 4, none⟩ = some (.int .i64 0) := by simp [World.cell?, HB99.out, smV, bs]
        have rc5 : w99.cell? ⟨w.heap.size, 5, none⟩ = some (.int .i64 (a : Int)) := by simp [World.cell?, HB99.out, smV, bs]
        have rc6 : w99.cell? ⟨w.heap.size, 6, none⟩ = some (.int .i64 0) := by simp [World.cell?, HB99.out, smV, bs]
        have rc7 : w99.cell? ⟨w.heap.size, 7, none⟩ = some (.slice none 0 0) := by simp [World.cell?, HB99.out, smV, bs]
        have rc8 : w99.cell? ⟨w.heap.size, 8, none⟩ = some (.slice none 0 0) := by simp [World.cell?, HB99.out, smV, bs]
        refine bodyPost_ret (v := .agg #[.int .i64 9, .int .i64 0, .int .i64 0, .string ⟨#[]⟩, .int .i64 0, .int .i64 (a : Int), .int .i64 0, .slice none 0 0, .slice none 0 0]) (by simp [results, Tryz.results160, go_sem, rc0, rc1, rc2, rc3, rc4, rc5, rc6, rc7, rc8]) rfl ?_
        exact outS_fin (x := ({ kind := 9, a := (a : Int) } : Sm)) H.out ((P3.out.less (by omega)).with2) (fun _ h => .inl (h)) (.inr rfl) (Nat.le_refl _) HO99.out ⟨rfl, rfl⟩ (rwAt_nil _ _) (rwAt_nil _ _) K3.out
    · rw [hb] at his
      have HRt2 := Lib.hid ((ifT hb).symm.trans HR1.out)
      have hbT := Lib.hid hb
      clear hb HR1
      go_wp2_with fail
      refine (his.out).mono ?_
      rintro e w2 ⟨rfl, hB⟩
      have P2 := Lib.hid (P1.out.below hB)
      have K2 := Lib.hid (K1.out.trans ((P1.out.belowK hB).sub (fun _ h => .inl (h))))
      have bA2 := Lib.hid ((hB.block _ (blk_lt bA1.out)).trans bA1.out)
      clear hB
      obtain rfl : R = .ok ({ kind := 9, a := -1 } : Sm) s1 := HRt2.out.symm
      go_wp2_with (refine wpList_store_whole rfl 42 (.tmp 4) (.tmp 11) rfl w.heap.size _ (smV ({ kind := 9, a := -1 } : Sm) (.slice none 0 0) (.slice none 0 0)).toArray 42 bA2.out rfl rfl rfl Tryz.sizeSm (all_oneCell_toArray (oneS ({ kind := 9, a := -1 } : Sm) (.slice none 0 0) (.slice none 0 0) rfl rfl)) ?_; intro w99 ho99 hb99; have HO99 := Lib.hid ho99; have HB99 := Lib.hid hb99; clear ho99 hb99)
      have rc0 : w99.cell? ⟨w.heap.size, 0, none⟩ = some (.int .i64 9) := by simp [World.cell?, HB99.out, smV, bs]
      have rc1 : w99.cell? ⟨w.heap.size, 1, none⟩ = some (.int .i64 0) := by simp [World.cell?, HB99.out, smV, bs]
      have rc2 : w99.cell? ⟨w.heap.size, 2, none⟩ = some (.int .i64 0) := by simp [World.cell?, HB99.out, smV, bs]
      have rc3 : w99.cell? ⟨w.heap.size, 3, none⟩ = some (.string ⟨#[]⟩) := by simp [World.cell?, HB99.out, smV, bs]
      have rc4 : w99.cell? ⟨w.heap.size, 4, none⟩ = some (.int .i64 0) := by simp [World.cell?, HB99.out, smV, bs]
      have rc5 : w99.cell? ⟨w.heap.size, 5, none⟩ = some (.int .i64 (-1)) := by simp [World.cell?, HB99.out, smV, bs]
      have rc6 : w99.cell? ⟨w.heap.size, 6, none⟩ = some (.int .i64 0) := by simp [World.cell?, HB99.out, smV, bs]
      have rc7 : w99.cell? ⟨w.heap.size, 7, none⟩ = some (.slice none 0 0) := by simp [World.cell?, HB99.out, smV, bs]
      have rc8 : w99.cell? ⟨w.heap.size, 8, none⟩ = some (.slice none 0 0) := by simp [World.cell?, HB99.out, smV, bs]
      refine bodyPost_ret (v := .agg #[.int .i64 9, .int .i64 0, .int .i64 0, .string ⟨#[]⟩, .int .i64 0, .int .i64 (-1), .int .i64 0, .slice none 0 0, .slice none 0 0]) (by simp [results, Tryz.results160, go_sem, rc0, rc1, rc2, rc3, rc4, rc5, rc6, rc7, rc8]) rfl ?_
      exact outS_fin (x := ({ kind := 9, a := -1 } : Sm)) H.out ((P2.out.less (by omega)).with2) (fun _ h => .inl (h)) (.inr rfl) (Nat.le_refl _) HO99.out ⟨rfl, rfl⟩ (rwAt_nil _ _) (rwAt_nil _ _) K2.out

set_option maxRecDepth 100000 in
set_option maxHeartbeats 1000000 in
theorem variable_calls (C : Cx) (S : Nat → Prop) (d : Nat) (s : Sg) (dep : Int) (ex : Ps Nat) (hp : PartC C 156 dep ex) (w : World) (h : PAt C S d s w) : Calls Tryz.prog 159 #[.pointer (some ⟨C.q, 0, none⟩), .int .i64 dep] w (OutS C S (d + 1) (variableM C.T ex s) w) := by
  obtain ⟨R, hR⟩ : ∃ R, variableM C.T ex s = R := ⟨_, rfl⟩
  rw [hR]
  have HR := Lib.hid hR
  unfold variableM at HR
  have H := Lib.hid h
  clear h hR
  have HP := Lib.hid hp
  clear hp
  have hwq := H.out.qlt
  have P0 := Lib.hid (H.out.allocA (.cells #[.int .i64 0, .int .i64 0, .int .i64 0, .string ⟨#[]⟩, .int .i64 0, .int .i64 0, .int .i64 0, .slice none 0 0, .slice none 0 0] 42))
  have K0 := Lib.hid (Keep.alloc H.out (.cells #[.int .i64 0, .int .i64 0, .int .i64 0, .string ⟨#[]⟩, .int .i64 0, .int .i64 0, .int .i64 0, .slice none 0 0, .slice none 0 0] 42))
  have bA0 := Lib.hid (heap_one w #[.int .i64 0, .int .i64 0, .int .i64 0, .string ⟨#[]⟩, .int .i64 0, .int .i64 0, .int .i64 0, .slice none 0 0, .slice none 0 0] 42)
  go_enter Tryz.func159, Tryz.ntmps159
  go_wp2_with fail
  refine (takeL_calls C (Also S w.heap.size) d s [kVar] _ rfl 1 rfl (by decide) (by decide) _ P0.out (w.heap.size + 1) (by simp)).mono ?_
  intro e w1 h1
  generalize hr : takeP C.T [kVar] s = r at h1
  cases r with
  | no c i =>
    obtain rfl : R = .no c i := HR.out.symm.trans (bd_no hr)
    clear hr
    obtain rfl := h1.1
    go_wp2
    exact ⟨rfl, bad_of h1 K0.out (fun _ h => .inl (h))⟩
  | ok o s1 =>
    have HR1 := Lib.hid ((bd_ok hr).symm.trans HR.out)
    clear hr HR
    obtain ⟨rfl, hp, hk⟩ := h1
    have P1 := Lib.hid hp
    have K1 := Lib.hid (K0.out.trans (hk.sub (fun _ h => .inl (h))))
    have bA1 := Lib.hid ((hk.kept _ (.inr rfl)).trans bA0.out)
    clear hp hk
    unfold strV
    go_wp2_with fail
    refine (takeA_calls C (Also S w.heap.size) (d + 1) s1 1 (by decide) w1 P1.out).mono ?_
    intro e w2 h2
    generalize hr : takeK C.T 1 s1 = r at h2
    cases r with
    | no c i =>
      obtain rfl : R = .no c i := HR1.out.symm.trans (bd_no hr)
      clear hr
      obtain rfl := h2.1
      go_wp2
      exact ⟨rfl, bad_of h2 K1.out (fun _ h => .inl (h))⟩
    | ok name s2 =>
      have HR2 := Lib.hid ((bd_ok hr).symm.trans HR1.out)
      clear hr HR1
      obtain ⟨rfl, hp, hk⟩ := h2
      have P2 := Lib.hid hp
      have K2 := Lib.hid (K1.out.trans (hk.sub (fun _ h => .inl (h))))
      have bA2 := Lib.hid ((hk.kept _ (.inr rfl)).trans bA1.out)
      clear hp hk
      unfold strV
      go_wp2_with fail
      refine (takeL_calls C (Also S w.heap.size) (d + 1 + 1) s2 [[61], [91]] _ rfl 2 rfl (by decide) (by decide) w2 P2.out _ rfl).mono ?_
      intro e w3 h3
      generalize hr : takeP C.T [[61], [91]] s2 = r at h3
      cases r with
      | no c i =>
        obtain rfl : R = .no c i := HR2.out.symm.trans (bd_no hr)
        clear hr
        obtain rfl := h3.1
        go_wp2
        exact ⟨rfl, bad_of h3 K2.out (fun _ h => .inl (h))⟩
      | ok x s3 =>
        have HR3 := Lib.hid ((bd_ok hr).symm.trans HR2.out)
        clear hr HR2
        obtain ⟨rfl, hp, hk⟩ := h3
        have P3 := Lib.hid hp
        have K3 := Lib.hid (K2.out.trans (hk.sub (fun _ h => .inl (h))))
        have bA3 := Lib.hid ((hk.kept _ (.inr rfl)).trans bA2.out)
        clear hp hk
        unfold strV
        by_cases e1 : x = [61]
        · have q1 : ((bs x).toList == [61]) = true := tx_eq e1
          have HR9 := Lib.hid HR3.out
          rw [if_pos e1] at HR9
          clear e1 HR3
          go_wp2_with fail
          refine (HP.out.run (Also S w.heap.size) (d + 1 + 1 + 1) s3 _ P3.out).mono ?_
          intro e w4 h4
          generalize hr : ex s3 = r at h4
          cases r with
          | no c i =>
            obtain rfl : R = .no c i := HR9.out.symm.trans (bd_no hr)
            clear hr
            obtain rfl := h4.1
            go_wp2
            exact ⟨rfl, bad_of h4 K3.out (fun _ h => .inl (h))⟩
          | ok a s4 =>
            have HR4 := Lib.hid ((bd_ok hr).symm.trans HR9.out)
            clear hr HR9
            obtain ⟨rfl, hp, hk⟩ := h4
            have P4 := Lib.hid hp
            have K4 := Lib.hid (K3.out.trans (hk.sub (fun _ h => .inl (h))))
            have bA4 := Lib.hid ((hk.kept _ (.inr rfl)).trans bA3.out)
            clear hp hk
            unfold natV
            obtain rfl : R = .ok ({ kind := 1, name := name, a := (a : Int) } : Sm) s4 := HR4.out.symm
            go_wp2_with (refine wpList_store_whole rfl 42 (.tmp 4) (.tmp 20) rfl w.heap.size _ (smV ({ kind := 1, name := name, a := (a : Int) } : Sm) (.slice none 0 0) (.slice none 0 0)).toArray 42 bA4.out rfl rfl rfl Tryz.sizeSm (all_oneCell_toArray (oneS ({ kind := 1, name := name, a := (a : Int) } : Sm) (.slice none 0 0) (.slice none 0 0) rfl rfl)) ?_; intro w99 ho99 hb99; have HO99 := Lib.hid ho99; have HB99 := Lib.hid hb99; clear ho99 hb99)
            have rc0 : w99.cell? ⟨w.heap.size, 0, none⟩ = some (.int .i64 1) := by simp [World.cell?, HB99.out, smV, bs]
            have rc1 : w99.cell? ⟨w.heap.size, 1, none⟩ = some (.int .i64 0) := by simp [World.cell?, HB99.out, smV, bs]
            have rc2 : w99.cell? ⟨w.heap.size, 2, none⟩ = some (.int .i64 0) := by simp [World.cell?, HB99.out, smV, bs]
            have rc3 : w99.cell? ⟨w.heap.size, 3, none⟩ = some (.string (bs name)) := by simp [World.cell?, HB99.out, smV, bs]
            have rc4 : w99.cell? ⟨w.heap.size, 4, none⟩ = some (.int .i64 0) := by simp [World.cell?, HB99.out, smV, bs]
            have rc5 : w99.cell? ⟨w.heap.size, 5, none⟩ = some (.int .i64 (a : Int)) := by simp [World.cell?, HB99.out, smV, bs]
            have rc6 : w99.cell? ⟨w.heap.size, 6, none⟩ = some (.int .i64 0) := by simp [World.cell?, HB99.out, smV, bs]
            have rc7 : w99.cell? ⟨w.heap.size, 7, none⟩ = some (.slice none 0 0) := by simp [World.cell?, HB99.out, smV, bs]
            have rc8 : w99.cell? ⟨w.heap.size, 8, none⟩ = some (.slice none 0 0) := by simp [World.cell?, HB99.out, smV, bs]
            refine bodyPost_ret (v := .agg #[.int .i64 1, .int .i64 0, .int .i64 0, .string (bs name), .int .i64 0, .int .i64 (a : Int), .int .i64 0, .slice none 0 0, .slice none 0 0]) (by simp [results, Tryz.results159, go_sem, rc0, rc1, rc2, rc3, rc4, rc5, rc6, rc7, rc8]) rfl ?_
            exact outS_fin (x := ({ kind := 1, name := name, a := (a : Int) } : Sm)) H.out ((P4.out.less (by omega)).with2) (fun _ h => .inl (h)) (.inr rfl) (Nat.le_refl _) HO99.out ⟨rfl, rfl⟩ (rwAt_nil _ _) (rwAt_nil _ _) K4.out
        · have q1 : ((bs x).toList == [61]) = false := tx_ne e1
          have HR9 := Lib.hid HR3.out
          rw [if_neg e1] at HR9
          clear e1 HR3
          go_wp2_with fail
          refine (number_calls C (Also S w.heap.size) (d + 1 + 1 + 1) s3 _ P3.out).mono ?_
          intro e w4 h4
          generalize hr : numberM C.T s3 = r at h4
          cases r with
          | no c i =>
            obtain rfl : R = .no c i := HR9.out.symm.trans (bd_no hr)
            clear hr
            obtain rfl := h4.1
            go_wp2
            exact ⟨rfl, bad_of h4 K3.out (fun _ h => .inl (h))⟩
          | ok n s4 =>
            have HR4 := Lib.hid ((bd_ok hr).symm.trans HR9.out)
            clear hr HR9
            obtain ⟨rfl, hp, hk⟩ := h4
            have P4 := Lib.hid hp
            have K4 := Lib.hid (K3.out.trans (hk.sub (fun _ h => .inl (h))))
            have bA4 := Lib.hid ((hk.kept _ (.inr rfl)).trans bA3.out)
            clear hp hk
            unfold natV
            have hlbw : Hid (w.heap.size < w4.heap.size) := Lib.hid (blk_lt bA4.out)
            go_wp2_with (refine wpList_store_whole rfl 42 (.tmp 6) (.tmp 24) rfl w4.heap.size #[.int .i64 0, .int .i64 0, .int .i64 0, .string ⟨#[]⟩, .int .i64 0, .int .i64 0, .int .i64 0, .slice none 0 0, .slice none 0 0] (smV ({ kind := 2, name := name, num := n } : Sm) (.slice none 0 0) (.slice none 0 0)).toArray 42 (heap_one w4 _ _) rfl rfl rfl Tryz.sizeSm (all_oneCell_toArray (oneS ({ kind := 2, name := name, num := n } : Sm) (.slice none 0 0) (.slice none 0 0) rfl rfl)) ?_; intro w5 ho5 hb5; have HO5 := Lib.hid ho5; have bL5 := Lib.hid hb5; clear ho5 hb5)
            have P5 := Lib.hid ((P4.out.allocA (.cells #[.int .i64 0, .int .i64 0, .int .i64 0, .string ⟨#[]⟩, .int .i64 0, .int .i64 0, .int .i64 0, .slice none 0 0, .slice none 0 0] 42)).only HO5.out (.inr rfl))
            have K5 := Lib.hid ((K4.out.trans ((Keep.alloc P4.out (.cells #[.int .i64 0, .int .i64 0, .int .i64 0, .string ⟨#[]⟩, .int .i64 0, .int .i64 0, .int .i64 0, .slice none 0 0, .slice none 0 0] 42)).sub (fun _ h => .inl (h)))).only HO5.out (by have := P4.out.qlt; omega) (fun e => by have h1 := (H.out.sLt _ e).2; have h2 := K4.out.below.size; omega))
            have bA5 := Lib.hid ((HO5.out.block _ (by have := blk_lt bA4.out; omega)).trans ((Below.heap_alloc _ _ _ (blk_lt bA4.out)).trans bA4.out))
            go_wp2_with fail
            refine (takeL_calls C (Also (Also S w.heap.size) w4.heap.size) (d + 1 + 1 + 1 + 1) s4 [[93]] _ rfl 1 rfl (by decide) (by decide) w5 P5.out _ rfl).mono ?_
            intro e w6 h6
            generalize hr : takeP C.T [[93]] s4 = r at h6
            cases r with
            | no c i =>
              obtain rfl : R = .no c i := HR4.out.symm.trans (bd_no hr)
              clear hr
              obtain rfl := h6.1
              go_wp2
              exact ⟨rfl, bad_of h6 K5.out (fun _ h => .inl (.inl (h)))⟩
            | ok o2 s6 =>
              have HR6 := Lib.hid ((bd_ok hr).symm.trans HR4.out)
              clear hr HR4
              obtain ⟨rfl, hp, hk⟩ := h6
              have P6 := Lib.hid hp
              have K6 := Lib.hid (K5.out.trans (hk.sub (fun _ h => .inl (.inl (h)))))
              have bA6 := Lib.hid ((hk.kept _ (.inl (.inr rfl))).trans bA5.out)
              have bL6 := Lib.hid ((hk.kept _ (.inr rfl)).trans bL5.out)
              clear hp hk
              unfold strV
              obtain rfl : R = .ok ({ kind := 2, name := name, num := n } : Sm) s6 := HR6.out.symm
              have lf0 : w6.frozen? ⟨w4.heap.size, 0, none⟩ = false := by simp [World.frozen?, bL6.out]
              have lc0 : w6.cell? ⟨w4.heap.size, 0, none⟩ = some (.int .i64 2) := by simp [World.cell?, bL6.out, smV, bs]
              have lf1 : w6.frozen? ⟨w4.heap.size, 1, none⟩ = false := by simp [World.frozen?, bL6.out]
              have lc1 : w6.cell? ⟨w4.heap.size, 1, none⟩ = some (.int .i64 0) := by simp [World.cell?, bL6.out, smV, bs]
              have lf2 : w6.frozen? ⟨w4.heap.size, 2, none⟩ = false := by simp [World.frozen?, bL6.out]
              have lc2 : w6.cell? ⟨w4.heap.size, 2, none⟩ = some (.int .i64 0) := by simp [World.cell?, bL6.out, smV, bs]
              have lf3 : w6.frozen? ⟨w4.heap.size, 3, none⟩ = false := by simp [World.frozen?, bL6.out]
              have lc3 : w6.cell? ⟨w4.heap.size, 3, none⟩ = some (.string (bs name)) := by simp [World.cell?, bL6.out, smV, bs]
              have lf4 : w6.frozen? ⟨w4.heap.size, 4, none⟩ = false := by simp [World.frozen?, bL6.out]
              have lc4 : w6.cell? ⟨w4.heap.size, 4, none⟩ = some (.int .i64 (n : Int)) := by simp [World.cell?, bL6.out, smV, bs]
              have lf5 : w6.frozen? ⟨w4.heap.size, 5, none⟩ = false := by simp [World.frozen?, bL6.out]
              have lc5 : w6.cell? ⟨w4.heap.size, 5, none⟩ = some (.int .i64 0) := by simp [World.cell?, bL6.out, smV, bs]
              have lf6 : w6.frozen? ⟨w4.heap.size, 6, none⟩ = false := by simp [World.frozen?, bL6.out]
              have lc6 : w6.cell? ⟨w4.heap.size, 6, none⟩ = some (.int .i64 0) := by simp [World.cell?, bL6.out, smV, bs]
              have lf7 : w6.frozen? ⟨w4.heap.size, 7, none⟩ = false := by simp [World.frozen?, bL6.out]
              have lc7 : w6.cell? ⟨w4.heap.size, 7, none⟩ = some (.slice none 0 0) := by simp [World.cell?, bL6.out, smV, bs]
              have lf8 : w6.frozen? ⟨w4.heap.size, 8, none⟩ = false := by simp [World.frozen?, bL6.out]
              have lc8 : w6.cell? ⟨w4.heap.size, 8, none⟩ = some (.slice none 0 0) := by simp [World.cell?, bL6.out, smV, bs]
              go_wp2_with (refine wpList_store_whole rfl 42 (.tmp 4) (.tmp 28) rfl w.heap.size _ (smV ({ kind := 2, name := name, num := n } : Sm) (.slice none 0 0) (.slice none 0 0)).toArray 42 bA6.out rfl rfl rfl Tryz.sizeSm (all_oneCell_toArray (oneS ({ kind := 2, name := name, num := n } : Sm) (.slice none 0 0) (.slice none 0 0) rfl rfl)) ?_; intro w99 ho99 hb99; have HO99 := Lib.hid ho99; have HB99 := Lib.hid hb99; clear ho99 hb99)
              have rc0 : w99.cell? ⟨w.heap.size, 0, none⟩ = some (.int .i64 2) := by simp [World.cell?, HB99.out, smV, bs]
              have rc1 : w99.cell? ⟨w.heap.size, 1, none⟩ = some (.int .i64 0) := by simp [World.cell?, HB99.out, smV, bs]
              have rc2 : w99.cell? ⟨w.heap.size, 2, none⟩ = some (.int .i64 0) := by simp [World.cell?, HB99.out, smV, bs]
              have rc3 : w99.cell? ⟨w.heap.size, 3, none⟩ = some (.string (bs name)) := by simp [World.cell?, HB99.out, smV, bs]
              have rc4 : w99.cell? ⟨w.heap.size, 4, none⟩ = some (.int .i64 (n : Int)) := by simp [World.cell?, HB99.out, smV, bs]
              have rc5 : w99.cell? ⟨w.heap.size, 5, none⟩ = some (.int .i64 0) := by simp [World.cell?, HB99.out, smV, bs]
              have rc6 : w99.cell? ⟨w.heap.size, 6, none⟩ = some (.int .i64 0) := by simp [World.cell?, HB99.out, smV, bs]
              have rc7 : w99.cell? ⟨w.heap.size, 7, none⟩ = some (.slice none 0 0) := by simp [World.cell?, HB99.out, smV, bs]
              have rc8 : w99.cell? ⟨w.heap.size, 8, none⟩ = some (.slice none 0 0) := by simp [World.cell?, HB99.out, smV, bs]
              refine bodyPost_ret (v := .agg #[.int .i64 2, .int .i64 0, .int .i64 0, .string (bs name), .int .i64 (n : Int), .int .i64 0, .int .i64 0, .slice none 0 0, .slice none 0 0]) (by simp [results, Tryz.results159, go_sem, rc0, rc1, rc2, rc3, rc4, rc5, rc6, rc7, rc8]) rfl ?_
              exact outS_fin (x := ({ kind := 2, name := name, num := n } : Sm)) H.out ((P6.out.less (by omega)).with2) (fun _ h => .inl (.inl (h))) (.inl (.inr rfl)) (Nat.le_refl _) HO99.out ⟨rfl, rfl⟩ (rwAt_nil _ _) (rwAt_nil _ _) K6.out

set_option maxRecDepth 100000 in
set_option maxHeartbeats 1000000 in
theorem named_calls (C : Cx) (S : Nat → Prop) (d : Nat) (s : Sg) (dep : Int) (h0 : 0 ≤ dep) (h1 : dep ≤ 64) (ex sub : Ps Nat) (hp : PartC C 156 dep ex) (hps : PartC C 156 (dep + 1) (expressionM C.T sub)) (hsub : Fine C.T 1 sub) (w : World) (h : PAt C S d s w) : Calls Tryz.prog 158 #[.pointer (some ⟨C.q, 0, none⟩), .int .i64 dep] w (OutS C S (d + 1) (namedM C.T ex sub s) w) := by
  obtain ⟨R, hR⟩ : ∃ R, namedM C.T ex sub s = R := ⟨_, rfl⟩
  rw [hR]
  have HR := Lib.hid hR
  unfold namedM at HR
  have H := Lib.hid h
  clear h hR
  have HP := Lib.hid hp
  have HE := Lib.hid hps
  have HSB := Lib.hid hsub
  clear hp hps hsub
  have hfr := Lib.hid (from_calls C (Also S w.heap.size) d s _ (H.out.allocA (.cells #[.int .i64 0, .int .i64 0, .int .i64 0, .string ⟨#[]⟩, .int .i64 0, .int .i64 0, .int .i64 0, .slice none 0 0, .slice none 0 0] 42)))
  generalize hlo : (cur C.T s).lo = lo at HR
  rw [hlo] at hfr
  clear hlo
  have hwq := H.out.qlt
  have P0 := Lib.hid (H.out.allocA (.cells #[.int .i64 0, .int .i64 0, .int .i64 0, .string ⟨#[]⟩, .int .i64 0, .int .i64 0, .int .i64 0, .slice none 0 0, .slice none 0 0] 42))
  have K0 := Lib.hid (Keep.alloc H.out (.cells #[.int .i64 0, .int .i64 0, .int .i64 0, .string ⟨#[]⟩, .int .i64 0, .int .i64 0, .int .i64 0, .slice none 0 0, .slice none 0 0] 42))
  have bA0 := Lib.hid (heap_one w #[.int .i64 0, .int .i64 0, .int .i64 0, .string ⟨#[]⟩, .int .i64 0, .int .i64 0, .int .i64 0, .slice none 0 0, .slice none 0 0] 42)
  go_enter Tryz.func158, Tryz.ntmps158
  go_wp2_with fail
  refine (hfr.out).mono ?_
  rintro e w1 ⟨rfl, hB⟩
  have P1 := Lib.hid (P0.out.below hB)
  have K1 := Lib.hid (K0.out.trans ((P0.out.belowK hB).sub (fun _ h => .inl (h))))
  have bA1 := Lib.hid ((hB.block _ (blk_lt bA0.out)).trans bA0.out)
  clear hB
  go_wp2_with fail
  refine (takeA_calls C (Also S w.heap.size) d s 1 (by decide) w1 P1.out).mono ?_
  intro e w2 h2
  generalize hr : takeK C.T 1 s = r at h2
  cases r with
  | no c i =>
    obtain rfl : R = .no c i := HR.out.symm.trans (bd_no hr)
    clear hr
    obtain rfl := h2.1
    go_wp2
    exact ⟨rfl, bad_of h2 K1.out (fun _ h => .inl (h))⟩
  | ok name s2 =>
    have HR2 := Lib.hid ((bd_ok hr).symm.trans HR.out)
    clear hr HR
    obtain ⟨rfl, hp, hk⟩ := h2
    have P2 := Lib.hid hp
    have K2 := Lib.hid (K1.out.trans (hk.sub (fun _ h => .inl (h))))
    have bA2 := Lib.hid ((hk.kept _ (.inr rfl)).trans bA1.out)
    clear hp hk
    unfold strV
    have his := Lib.hid (isL_calls C (Also S w.heap.size) (d + 1) s2 [[40]] _ rfl 1 rfl (by decide) w2 P2.out _ rfl)
    cases hb : isP C.T [[40]] s2
    · rw [hb] at his
      have HRt3 := Lib.hid ((ifF hb).symm.trans HR2.out)
      clear hb HR2
      go_wp2_with fail
      refine (his.out).mono ?_
      rintro e w3 ⟨rfl, hB⟩
      have P3 := Lib.hid (P2.out.below hB)
      have K3 := Lib.hid (K2.out.trans ((P2.out.belowK hB).sub (fun _ h => .inl (h))))
      have bA3 := Lib.hid ((hB.block _ (blk_lt bA2.out)).trans bA2.out)
      clear hB
      have his := Lib.hid (isL_calls C (Also S w.heap.size) (d + 1) s2 [[91]] _ rfl 1 rfl (by decide) w3 P3.out _ rfl)
      cases hb : isP C.T [[91]] s2
      · rw [hb] at his
        have HRt4 := Lib.hid ((ifF hb).symm.trans HRt3.out)
        clear hb HRt3
        go_wp2_with fail
        refine (his.out).mono ?_
        rintro e w4 ⟨rfl, hB⟩
        have P4 := Lib.hid (P3.out.below hB)
        have K4 := Lib.hid (K3.out.trans ((P3.out.belowK hB).sub (fun _ h => .inl (h))))
        have bA4 := Lib.hid ((hB.block _ (blk_lt bA3.out)).trans bA3.out)
        clear hB
        go_wp2_with fail
        refine (takeL_calls C (Also S w.heap.size) (d + 1) s2 [[61]] _ rfl 1 rfl (by decide) (by decide) w4 P4.out _ rfl).mono ?_
        intro e w5 h5
        generalize hr : takeP C.T [[61]] s2 = r at h5
        cases r with
        | no c i =>
          obtain rfl : R = .no c i := HRt4.out.symm.trans (bd_no hr)
          clear hr
          obtain rfl := h5.1
          go_wp2
          exact ⟨rfl, bad_of h5 K4.out (fun _ h => .inl (h))⟩
        | ok o s5 =>
          have HR5 := Lib.hid ((bd_ok hr).symm.trans HRt4.out)
          clear hr HRt4
          obtain ⟨rfl, hp, hk⟩ := h5
          have P5 := Lib.hid hp
          have K5 := Lib.hid (K4.out.trans (hk.sub (fun _ h => .inl (h))))
          have bA5 := Lib.hid ((hk.kept _ (.inr rfl)).trans bA4.out)
          clear hp hk
          unfold strV
          go_wp2_with fail
          refine (HP.out.run (Also S w.heap.size) (d + 1 + 1) s5 _ P5.out).mono ?_
          intro e w6 h6
          generalize hr : ex s5 = r at h6
          cases r with
          | no c i =>
            obtain rfl : R = .no c i := HR5.out.symm.trans (bd_no hr)
            clear hr
            obtain rfl := h6.1
            go_wp2
            exact ⟨rfl, bad_of h6 K5.out (fun _ h => .inl (h))⟩
          | ok a s6 =>
            have HR6 := Lib.hid ((bd_ok hr).symm.trans HR5.out)
            clear hr HR5
            obtain ⟨rfl, hp, hk⟩ := h6
            have P6 := Lib.hid hp
            have K6 := Lib.hid (K5.out.trans (hk.sub (fun _ h => .inl (h))))
            have bA6 := Lib.hid ((hk.kept _ (.inr rfl)).trans bA5.out)
            clear hp hk
            unfold natV
            obtain rfl : R = .ok ({ kind := 3, name := name, a := (a : Int) } : Sm) s6 := HR6.out.symm
            go_wp2_with (refine wpList_store_whole rfl 42 (.tmp 4) (.tmp 46) rfl w.heap.size _ (smV ({ kind := 3, name := name, a := (a : Int) } : Sm) (.slice none 0 0) (.slice none 0 0)).toArray 42 bA6.out rfl rfl rfl Tryz.sizeSm (all_oneCell_toArray (oneS ({ kind := 3, name := name, a := (a : Int) } : Sm) (.slice none 0 0) (.slice none 0 0) rfl rfl)) ?_; intro w99 ho99 hb99; have HO99 := Lib.hid ho99; have HB99 := Lib.hid hb99; clear ho99 hb99)
            have rc0 : w99.cell? ⟨w.heap.size, 0, none⟩ = some (.int .i64 3) := by simp [World.cell?, HB99.out, smV, bs]
            have rc1 : w99.cell? ⟨w.heap.size, 1, none⟩ = some (.int .i64 0) := by simp [World.cell?, HB99.out, smV, bs]
            have rc2 : w99.cell? ⟨w.heap.size, 2, none⟩ = some (.int .i64 0) := by simp [World.cell?, HB99.out, smV, bs]
            have rc3 : w99.cell? ⟨w.heap.size, 3, none⟩ = some (.string (bs name)) := by simp [World.cell?, HB99.out, smV, bs]
            have rc4 : w99.cell? ⟨w.heap.size, 4, none⟩ = some (.int .i64 0) := by simp [World.cell?, HB99.out, smV, bs]
            have rc5 : w99.cell? ⟨w.heap.size, 5, none⟩ = some (.int .i64 (a : Int)) := by simp [World.cell?, HB99.out, smV, bs]
            have rc6 : w99.cell? ⟨w.heap.size, 6, none⟩ = some (.int .i64 0) := by simp [World.cell?, HB99.out, smV, bs]
            have rc7 : w99.cell? ⟨w.heap.size, 7, none⟩ = some (.slice none 0 0) := by simp [World.cell?, HB99.out, smV, bs]
            have rc8 : w99.cell? ⟨w.heap.size, 8, none⟩ = some (.slice none 0 0) := by simp [World.cell?, HB99.out, smV, bs]
            refine bodyPost_ret (v := .agg #[.int .i64 3, .int .i64 0, .int .i64 0, .string (bs name), .int .i64 0, .int .i64 (a : Int), .int .i64 0, .slice none 0 0, .slice none 0 0]) (by simp [results, Tryz.results158, go_sem, rc0, rc1, rc2, rc3, rc4, rc5, rc6, rc7, rc8]) rfl ?_
            exact outS_fin (x := ({ kind := 3, name := name, a := (a : Int) } : Sm)) H.out ((P6.out.less (by omega)).with2) (fun _ h => .inl (h)) (.inr rfl) (Nat.le_refl _) HO99.out ⟨rfl, rfl⟩ (rwAt_nil _ _) (rwAt_nil _ _) K6.out
      · rw [hb] at his
        have HRt4 := Lib.hid ((ifT hb).symm.trans HRt3.out)
        have hbT := Lib.hid hb
        clear hb HRt3
        go_wp2_with fail
        refine (his.out).mono ?_
        rintro e w4 ⟨rfl, hB⟩
        have P4 := Lib.hid (P3.out.below hB)
        have K4 := Lib.hid (K3.out.trans ((P3.out.belowK hB).sub (fun _ h => .inl (h))))
        have bA4 := Lib.hid ((hB.block _ (blk_lt bA3.out)).trans bA3.out)
        clear hB
        go_wp2_with fail
        refine (index_calls' C (Also S w.heap.size) (d + 1) s2 dep ex HP.out w4 P4.out).mono ?_
        intro e w5 h5
        generalize hr : indexM C.T ex s2 = r at h5
        cases r with
        | no c i =>
          obtain rfl : R = .no c i := HRt4.out.symm.trans (bd_no hr)
          clear hr
          obtain rfl := h5.1
          go_wp2
          exact ⟨rfl, bad_of h5 K4.out (fun _ h => .inl (h))⟩
        | ok a s5 =>
          have HR5 := Lib.hid ((bd_ok hr).symm.trans HRt4.out)
          clear hr HRt4
          obtain ⟨rfl, hp, hk⟩ := h5
          have P5 := Lib.hid hp
          have K5 := Lib.hid (K4.out.trans (hk.sub (fun _ h => .inl (h))))
          have bA5 := Lib.hid ((hk.kept _ (.inr rfl)).trans bA4.out)
          clear hp hk
          unfold natV
          have hlbw : Hid (w.heap.size < w5.heap.size) := Lib.hid (blk_lt bA5.out)
          go_wp2_with (refine wpList_store_whole rfl 42 (.tmp 7) (.tmp 30) rfl w5.heap.size #[.int .i64 0, .int .i64 0, .int .i64 0, .string ⟨#[]⟩, .int .i64 0, .int .i64 0, .int .i64 0, .slice none 0 0, .slice none 0 0] (smV ({ kind := 4, name := name, a := (a : Int) } : Sm) (.slice none 0 0) (.slice none 0 0)).toArray 42 (heap_one w5 _ _) rfl rfl rfl Tryz.sizeSm (all_oneCell_toArray (oneS ({ kind := 4, name := name, a := (a : Int) } : Sm) (.slice none 0 0) (.slice none 0 0) rfl rfl)) ?_; intro w6 ho6 hb6; have HO6 := Lib.hid ho6; have bL6 := Lib.hid hb6; clear ho6 hb6)
          have P6 := Lib.hid ((P5.out.allocA (.cells #[.int .i64 0, .int .i64 0, .int .i64 0, .string ⟨#[]⟩, .int .i64 0, .int .i64 0, .int .i64 0, .slice none 0 0, .slice none 0 0] 42)).only HO6.out (.inr rfl))
          have K6 := Lib.hid ((K5.out.trans ((Keep.alloc P5.out (.cells #[.int .i64 0, .int .i64 0, .int .i64 0, .string ⟨#[]⟩, .int .i64 0, .int .i64 0, .int .i64 0, .slice none 0 0, .slice none 0 0] 42)).sub (fun _ h => .inl (h)))).only HO6.out (by have := P5.out.qlt; omega) (fun e => by have h1 := (H.out.sLt _ e).2; have h2 := K5.out.below.size; omega))
          have bA6 := Lib.hid ((HO6.out.block _ (by have := blk_lt bA5.out; omega)).trans ((Below.heap_alloc _ _ _ (blk_lt bA5.out)).trans bA5.out))
          go_wp2_with fail
          refine (takeL_calls C (Also (Also S w.heap.size) w5.heap.size) (d + 1 + 1 + 1) s5 [[61]] _ rfl 1 rfl (by decide) (by decide) w6 P6.out _ rfl).mono ?_
          intro e w7 h7
          generalize hr : takeP C.T [[61]] s5 = r at h7
          cases r with
          | no c i =>
            obtain rfl : R = .no c i := HR5.out.symm.trans (bd_no hr)
            clear hr
            obtain rfl := h7.1
            go_wp2
            exact ⟨rfl, bad_of h7 K6.out (fun _ h => .inl (.inl (h)))⟩
          | ok o s7 =>
            have HR7 := Lib.hid ((bd_ok hr).symm.trans HR5.out)
            clear hr HR5
            obtain ⟨rfl, hp, hk⟩ := h7
            have P7 := Lib.hid hp
            have K7 := Lib.hid (K6.out.trans (hk.sub (fun _ h => .inl (.inl (h)))))
            have bA7 := Lib.hid ((hk.kept _ (.inl (.inr rfl))).trans bA6.out)
            have bL7 := Lib.hid ((hk.kept _ (.inr rfl)).trans bL6.out)
            clear hp hk
            unfold strV
            go_wp2_with fail
            refine (HP.out.run (Also (Also S w.heap.size) w5.heap.size) (d + 1 + 1 + 1 + 1) s7 _ P7.out).mono ?_
            intro e w8 h8
            generalize hr : ex s7 = r at h8
            cases r with
            | no c i =>
              obtain rfl : R = .no c i := HR7.out.symm.trans (bd_no hr)
              clear hr
              obtain rfl := h8.1
              go_wp2
              exact ⟨rfl, bad_of h8 K7.out (fun _ h => .inl (.inl (h)))⟩
            | ok b s8 =>
              have HR8 := Lib.hid ((bd_ok hr).symm.trans HR7.out)
              clear hr HR7
              obtain ⟨rfl, hp, hk⟩ := h8
              have P8 := Lib.hid hp
              have K8 := Lib.hid (K7.out.trans (hk.sub (fun _ h => .inl (.inl (h)))))
              have bA8 := Lib.hid ((hk.kept _ (.inl (.inr rfl))).trans bA7.out)
              have bL8 := Lib.hid ((hk.kept _ (.inr rfl)).trans bL7.out)
              clear hp hk
              unfold natV
              obtain rfl : R = .ok ({ kind := 4, name := name, a := (a : Int), b := b } : Sm) s8 := HR8.out.symm
              have lf0 : w8.frozen? ⟨w5.heap.size, 0, none⟩ = false := by simp [World.frozen?, bL8.out]
              have lc0 : w8.cell? ⟨w5.heap.size, 0, none⟩ = some (.int .i64 4) := by simp [World.cell?, bL8.out, smV, bs]
              have lf1 : w8.frozen? ⟨w5.heap.size, 1, none⟩ = false := by simp [World.frozen?, bL8.out]
              have lc1 : w8.cell? ⟨w5.heap.size, 1, none⟩ = some (.int .i64 0) := by simp [World.cell?, bL8.out, smV, bs]
              have lf2 : w8.frozen? ⟨w5.heap.size, 2, none⟩ = false := by simp [World.frozen?, bL8.out]
              have lc2 : w8.cell? ⟨w5.heap.size, 2, none⟩ = some (.int .i64 0) := by simp [World.cell?, bL8.out, smV, bs]
              have lf3 : w8.frozen? ⟨w5.heap.size, 3, none⟩ = false := by simp [World.frozen?, bL8.out]
              have lc3 : w8.cell? ⟨w5.heap.size, 3, none⟩ = some (.string (bs name)) := by simp [World.cell?, bL8.out, smV, bs]
              have lf4 : w8.frozen? ⟨w5.heap.size, 4, none⟩ = false := by simp [World.frozen?, bL8.out]
              have lc4 : w8.cell? ⟨w5.heap.size, 4, none⟩ = some (.int .i64 0) := by simp [World.cell?, bL8.out, smV, bs]
              have lf5 : w8.frozen? ⟨w5.heap.size, 5, none⟩ = false := by simp [World.frozen?, bL8.out]
              have lc5 : w8.cell? ⟨w5.heap.size, 5, none⟩ = some (.int .i64 (a : Int)) := by simp [World.cell?, bL8.out, smV, bs]
              have lf6 : w8.frozen? ⟨w5.heap.size, 6, none⟩ = false := by simp [World.frozen?, bL8.out]
              have lc6 : w8.cell? ⟨w5.heap.size, 6, none⟩ = some (.int .i64 0) := by simp [World.cell?, bL8.out, smV, bs]
              have lf7 : w8.frozen? ⟨w5.heap.size, 7, none⟩ = false := by simp [World.frozen?, bL8.out]
              have lc7 : w8.cell? ⟨w5.heap.size, 7, none⟩ = some (.slice none 0 0) := by simp [World.cell?, bL8.out, smV, bs]
              have lf8 : w8.frozen? ⟨w5.heap.size, 8, none⟩ = false := by simp [World.frozen?, bL8.out]
              have lc8 : w8.cell? ⟨w5.heap.size, 8, none⟩ = some (.slice none 0 0) := by simp [World.cell?, bL8.out, smV, bs]
              have HO9 := Lib.hid ((Only.refl w5.heap.size w8).set 6 (.int .i64 (b : Int)))
              have P9 := Lib.hid (P8.out.only HO9.out (.inr rfl))
              have K9 := Lib.hid (K8.out.only HO9.out (by have := (P8.out.sLt _ (.inr rfl)).1; omega) (fun e => by have h1 := (H.out.sLt _ e).2; have h2 := hlbw.out; omega))
              have ff9 : w8.frozen? ⟨w5.heap.size, 6, none⟩ = false := by simp [World.frozen?, bL8.out]
              have fc9 : w8.cell? ⟨w5.heap.size, 6, none⟩ = some (.int .i64 0) := by simp [World.cell?, bL8.out, smV, bs]
              have bA9 := Lib.hid ((HO9.out.block _ (by have h1 := hlbw.out; omega)).trans bA8.out)
              have bL9 := Lib.hid (setCell_at w8 w5.heap.size 6 (.int .i64 (b : Int)) _ _ _ bL8.out)
              go_wp2_with (refine wpList_store_whole rfl 42 (.tmp 4) (.tmp 38) rfl w.heap.size _ (smV ({ kind := 4, name := name, a := (a : Int), b := b } : Sm) (.slice none 0 0) (.slice none 0 0)).toArray 42 bA9.out rfl rfl rfl Tryz.sizeSm (all_oneCell_toArray (oneS ({ kind := 4, name := name, a := (a : Int), b := b } : Sm) (.slice none 0 0) (.slice none 0 0) rfl rfl)) ?_; intro w99 ho99 hb99; have HO99 := Lib.hid ho99; have HB99 := Lib.hid hb99; clear ho99 hb99)
              have rc0 : w99.cell? ⟨w.heap.size, 0, none⟩ = some (.int .i64 4) := by simp [World.cell?, HB99.out, smV, bs]
              have rc1 : w99.cell? ⟨w.heap.size, 1, none⟩ = some (.int .i64 0) := by simp [World.cell?, HB99.out, smV, bs]
              have rc2 : w99.cell? ⟨w.heap.size, 2, none⟩ = some (.int .i64 0) := by simp [World.cell?, HB99.out, smV, bs]
              have rc3 : w99.cell? ⟨w.heap.size, 3, none⟩ = some (.string (bs name)) := by simp [World.cell?, HB99.out, smV, bs]
              have rc4 : w99.cell? ⟨w.heap.size, 4, none⟩ = some (.int .i64 0) := by simp [World.cell?, HB99.out, smV, bs]
              have rc5 : w99.cell? ⟨w.heap.size, 5, none⟩ = some (.int .i64 (a : Int)) := by simp [World.cell?, HB99.out, smV, bs]
              have rc6 : w99.cell? ⟨w.heap.size, 6, none⟩ = some (.int .i64 (b : Int)) := by simp [World.cell?, HB99.out, smV, bs]
              have rc7 : w99.cell? ⟨w.heap.size, 7, none⟩ = some (.slice none 0 0) := by simp [World.cell?, HB99.out, smV, bs]
              have rc8 : w99.cell? ⟨w.heap.size, 8, none⟩ = some (.slice none 0 0) := by simp [World.cell?, HB99.out, smV, bs]
              refine bodyPost_ret (v := .agg #[.int .i64 4, .int .i64 0, .int .i64 0, .string (bs name), .int .i64 0, .int .i64 (a : Int), .int .i64 (b : Int), .slice none 0 0, .slice none 0 0]) (by simp [results, Tryz.results158, go_sem, rc0, rc1, rc2, rc3, rc4, rc5, rc6, rc7, rc8]) rfl ?_
              exact outS_fin (x := ({ kind := 4, name := name, a := (a : Int), b := b } : Sm)) H.out ((P9.out.less (by omega)).with2) (fun _ h => .inl (.inl (h))) (.inl (.inr rfl)) (Nat.le_refl _) HO99.out ⟨rfl, rfl⟩ (rwAt_nil _ _) (rwAt_nil _ _) K9.out
    · rw [hb] at his
      have HRt3 := Lib.hid ((ifT hb).symm.trans HR2.out)
      have hbT := Lib.hid hb
      clear hb HR2
      go_wp2_with fail
      refine (his.out).mono ?_
      rintro e w3 ⟨rfl, hB⟩
      have P3 := Lib.hid (P2.out.below hB)
      have K3 := Lib.hid (K2.out.trans ((P2.out.belowK hB).sub (fun _ h => .inl (h))))
      have bA3 := Lib.hid ((hB.block _ (blk_lt bA2.out)).trans bA2.out)
      clear hB
      go_wp2_with fail
      refine (call_calls C (Also S w.heap.size) (d + 1) s2 lo name dep h0 h1 sub HSB.out HE.out w3 P3.out).mono ?_
      intro e w4 h4
      generalize hr : callM C.T sub lo name s2 = r at h4
      cases r with
      | no c i =>
        obtain rfl : R = .no c i := HRt3.out.symm.trans (bd_no hr)
        clear hr
        obtain rfl := h4.1
        go_wp2
        exact ⟨rfl, bad_of h4 K3.out (fun _ h => .inl (h))⟩
      | ok a s4 =>
        have HR4 := Lib.hid ((bd_ok hr).symm.trans HRt3.out)
        clear hr HRt3
        obtain ⟨rfl, hp, hk⟩ := h4
        have P4 := Lib.hid hp
        have K4 := Lib.hid (K3.out.trans (hk.sub (fun _ h => .inl (h))))
        have bA4 := Lib.hid ((hk.kept _ (.inr rfl)).trans bA3.out)
        clear hp hk
        unfold natV
        obtain rfl : R = .ok ({ kind := 11, a := (a : Int) } : Sm) s4 := HR4.out.symm
        go_wp2_with (refine wpList_store_whole rfl 42 (.tmp 4) (.tmp 21) rfl w.heap.size _ (smV ({ kind := 11, a := (a : Int) } : Sm) (.slice none 0 0) (.slice none 0 0)).toArray 42 bA4.out rfl rfl rfl Tryz.sizeSm (all_oneCell_toArray (oneS ({ kind := 11, a := (a : Int) } : Sm) (.slice none 0 0) (.slice none 0 0) rfl rfl)) ?_; intro w99 ho99 hb99; have HO99 := Lib.hid ho99; have HB99 := Lib.hid hb99; clear ho99 hb99)
        have rc0 : w99.cell? ⟨w.heap.size, 0, none⟩ = some (.int .i64 11) := by simp [World.cell?, HB99.out, smV, bs]
        have rc1 : w99.cell? ⟨w.heap.size, 1, none⟩ = some (.int .i64 0) := by simp [World.cell?, HB99.out, smV, bs]
        have rc2 : w99.cell? ⟨w.heap.size, 2, none⟩ = some (.int .i64 0) := by simp [World.cell?, HB99.out, smV, bs]
        have rc3 : w99.cell? ⟨w.heap.size, 3, none⟩ = some (.string ⟨#[]⟩) := by simp [World.cell?, HB99.out, smV, bs]
        have rc4 : w99.cell? ⟨w.heap.size, 4, none⟩ = some (.int .i64 0) := by simp [World.cell?, HB99.out, smV, bs]
        have rc5 : w99.cell? ⟨w.heap.size, 5, none⟩ = some (.int .i64 (a : Int)) := by simp [World.cell?, HB99.out, smV, bs]
        have rc6 : w99.cell? ⟨w.heap.size, 6, none⟩ = some (.int .i64 0) := by simp [World.cell?, HB99.out, smV, bs]
        have rc7 : w99.cell? ⟨w.heap.size, 7, none⟩ = some (.slice none 0 0) := by simp [World.cell?, HB99.out, smV, bs]
        have rc8 : w99.cell? ⟨w.heap.size, 8, none⟩ = some (.slice none 0 0) := by simp [World.cell?, HB99.out, smV, bs]
        refine bodyPost_ret (v := .agg #[.int .i64 11, .int .i64 0, .int .i64 0, .string ⟨#[]⟩, .int .i64 0, .int .i64 (a : Int), .int .i64 0, .slice none 0 0, .slice none 0 0]) (by simp [results, Tryz.results158, go_sem, rc0, rc1, rc2, rc3, rc4, rc5, rc6, rc7, rc8]) rfl ?_
        exact outS_fin (x := ({ kind := 11, a := (a : Int) } : Sm)) H.out ((P4.out.less (by omega)).with2) (fun _ h => .inl (h)) (.inr rfl) (Nat.le_refl _) HO99.out ⟨rfl, rfl⟩ (rwAt_nil _ _) (rwAt_nil _ _) K4.out

set_option maxRecDepth 100000 in
set_option maxHeartbeats 4000000 in
theorem simple_calls (C : Cx) (S : Nat → Prop) (d : Nat) (s : Sg) (dep : Int) (h0 : 0 ≤ dep) (h1 : dep ≤ 64) (ex sub : Ps Nat) (hp : PartC C 156 dep ex) (hps : PartC C 156 (dep + 1) (expressionM C.T sub)) (hsub : Fine C.T 1 sub) (w : World) (h : PAt C S d s w) : Calls Tryz.prog 150 #[.pointer (some ⟨C.q, 0, none⟩), .int .i64 dep] w (OutS C S (d + 1) (simpleM C.T ex sub s) w) := by
  obtain ⟨R, hR⟩ : ∃ R, simpleM C.T ex sub s = R := ⟨_, rfl⟩
  rw [hR]
  have HR := Lib.hid hR
  unfold simpleM at HR
  have H := Lib.hid h
  clear h hR
  have HP := Lib.hid hp
  have HE := Lib.hid hps
  have HSB := Lib.hid hsub
  clear hp hps hsub
  have hwq := H.out.qlt
  have P0 := Lib.hid (H.out.allocA (.cells #[.int .i64 0, .int .i64 0, .int .i64 0, .string ⟨#[]⟩, .int .i64 0, .int .i64 0, .int .i64 0, .slice none 0 0, .slice none 0 0] 42))
  have K0 := Lib.hid (Keep.alloc H.out (.cells #[.int .i64 0, .int .i64 0, .int .i64 0, .string ⟨#[]⟩, .int .i64 0, .int .i64 0, .int .i64 0, .slice none 0 0, .slice none 0 0] 42))
  have bA0 := Lib.hid (heap_one w #[.int .i64 0, .int .i64 0, .int .i64 0, .string ⟨#[]⟩, .int .i64 0, .int .i64 0, .int .i64 0, .slice none 0 0, .slice none 0 0] 42)
  go_enter Tryz.func150, Tryz.ntmps150
  have his := Lib.hid (isA_calls C (Also S w.heap.size) d s 1 _ P0.out)
  cases hb : isK C.T 1 s
  · rw [hb] at his
    have HRt1 := Lib.hid ((ifF hb).symm.trans HR.out)
    clear hb HR
    go_wp2_with fail
    refine (his.out).mono ?_
    rintro e w1 ⟨rfl, hB⟩
    have P1 := Lib.hid (P0.out.below hB)
    have K1 := Lib.hid (K0.out.trans ((P0.out.belowK hB).sub (fun _ h => .inl (h))))
    have bA1 := Lib.hid ((hB.block _ (blk_lt bA0.out)).trans bA0.out)
    clear hB
    have his := Lib.hid (isL_calls C (Also S w.heap.size) d s [kVar] _ rfl 1 rfl (by decide) w1 P1.out _ rfl)
    cases hb : isP C.T [kVar] s
    · rw [hb] at his
      have HRt2 := Lib.hid ((ifF hb).symm.trans HRt1.out)
      clear hb HRt1
      go_wp2_with fail
      refine (his.out).mono ?_
      rintro e w2 ⟨rfl, hB⟩
      have P2 := Lib.hid (P1.out.below hB)
      have K2 := Lib.hid (K1.out.trans ((P1.out.belowK hB).sub (fun _ h => .inl (h))))
      have bA2 := Lib.hid ((hB.block _ (blk_lt bA1.out)).trans bA1.out)
      clear hB
      have his := Lib.hid (isL_calls C (Also S w.heap.size) d s [kReturn] _ rfl 1 rfl (by decide) w2 P2.out _ rfl)
      cases hb : isP C.T [kReturn] s
      · rw [hb] at his
        have HRt3 := Lib.hid ((ifF hb).symm.trans HRt2.out)
        clear hb HRt2
        go_wp2_with fail
        refine (his.out).mono ?_
        rintro e w3 ⟨rfl, hB⟩
        have P3 := Lib.hid (P2.out.below hB)
        have K3 := Lib.hid (K2.out.trans ((P2.out.belowK hB).sub (fun _ h => .inl (h))))
        have bA3 := Lib.hid ((hB.block _ (blk_lt bA2.out)).trans bA2.out)
        clear hB
        have his := Lib.hid (isL_calls C (Also S w.heap.size) d s [kPrint] _ rfl 1 rfl (by decide) w3 P3.out _ rfl)
        cases hb : isP C.T [kPrint] s
        · rw [hb] at his
          have HRt4 := Lib.hid ((ifF hb).symm.trans HRt3.out)
          clear hb HRt3
          go_wp2_with fail
          refine (his.out).mono ?_
          rintro e w4 ⟨rfl, hB⟩
          have P4 := Lib.hid (P3.out.below hB)
          have K4 := Lib.hid (K3.out.trans ((P3.out.belowK hB).sub (fun _ h => .inl (h))))
          have bA4 := Lib.hid ((hB.block _ (blk_lt bA3.out)).trans bA3.out)
          clear hB
          go_wp2_with fail
          refine (takeL_calls C (Also S w.heap.size) d s [kBreak, kContinue] _ rfl 2 rfl (by decide) (by decide) w4 P4.out _ rfl).mono ?_
          intro e w5 h5
          generalize hr : takeP C.T [kBreak, kContinue] s = r at h5
          cases r with
          | no c i =>
            obtain rfl : R = .no c i := HRt4.out.symm.trans (bd_no hr)
            clear hr
            obtain rfl := h5.1
            go_wp2
            exact ⟨rfl, bad_of h5 K4.out (fun _ h => .inl (h))⟩
          | ok x s5 =>
            have HR5 := Lib.hid ((bd_ok hr).symm.trans HRt4.out)
            clear hr HRt4
            obtain ⟨rfl, hp, hk⟩ := h5
            have P5 := Lib.hid hp
            have K5 := Lib.hid (K4.out.trans (hk.sub (fun _ h => .inl (h))))
            have bA5 := Lib.hid ((hk.kept _ (.inr rfl)).trans bA4.out)
            clear hp hk
            unfold strV
            by_cases e1 : x = kBreak
            · have q1 : ((bs x).toList == [98, 114, 101, 97, 107]) = true := tx_eq e1
              have HR9 := Lib.hid HR5.out
              rw [if_pos e1] at HR9
              clear e1 HR5
              obtain rfl : R = .ok ({ kind := 7 } : Sm) s5 := HR9.out.symm
              go_wp2_with (refine wpList_store_whole rfl 42 (.tmp 4) (.tmp 40) rfl w.heap.size _ (smV ({ kind := 7 } : Sm) (.slice none 0 0) (.slice none 0 0)).toArray 42 bA5.out rfl rfl rfl Tryz.sizeSm (all_oneCell_toArray (oneS ({ kind := 7 } : Sm) (.slice none 0 0) (.slice none 0 0) rfl rfl)) ?_; intro w99 ho99 hb99; have HO99 := Lib.hid ho99; have HB99 := Lib.hid hb99; clear ho99 hb99)
              have rc0 : w99.cell? ⟨w.heap.size, 0, none⟩ = some (.int .i64 7) := by simp [World.cell?, HB99.out, smV, bs]
              have rc1 : w99.cell? ⟨w.heap.size, 1, none⟩ = some (.int .i64 0) := by simp [World.cell?, HB99.out, smV, bs]
              have rc2 : w99.cell? ⟨w.heap.size, 2, none⟩ = some (.int .i64 0) := by simp [World.cell?, HB99.out, smV, bs]
              have rc3 : w99.cell? ⟨w.heap.size, 3, none⟩ = some (.string ⟨#[]⟩) := by simp [World.cell?, HB99.out, smV, bs]
              have rc4 : w99.cell? ⟨w.heap.size, 4, none⟩ = some (.int .i64 0) := by simp [World.cell?, HB99.out, smV, bs]
              have rc5 : w99.cell? ⟨w.heap.size, 5, none⟩ = some (.int .i64 0) := by simp [World.cell?, HB99.out, smV, bs]
              have rc6 : w99.cell? ⟨w.heap.size, 6, none⟩ = some (.int .i64 0) := by simp [World.cell?, HB99.out, smV, bs]
              have rc7 : w99.cell? ⟨w.heap.size, 7, none⟩ = some (.slice none 0 0) := by simp [World.cell?, HB99.out, smV, bs]
              have rc8 : w99.cell? ⟨w.heap.size, 8, none⟩ = some (.slice none 0 0) := by simp [World.cell?, HB99.out, smV, bs]
              refine bodyPost_ret (v := .agg #[.int .i64 7, .int .i64 0, .int .i64 0, .string ⟨#[]⟩, .int .i64 0, .int .i64 0, .int .i64 0, .slice none 0 0, .slice none 0 0]) (by simp [results, Tryz.results150, go_sem, rc0, rc1, rc2, rc3, rc4, rc5, rc6, rc7, rc8]) rfl ?_
              exact outS_fin (x := ({ kind := 7 } : Sm)) H.out ((P5.out.less (by omega)).with2) (fun _ h => .inl (h)) (.inr rfl) (Nat.le_refl _) HO99.out ⟨rfl, rfl⟩ (rwAt_nil _ _) (rwAt_nil _ _) K5.out
            · have q1 : ((bs x).toList == [98, 114, 101, 97, 107]) = false := tx_ne e1
              have HR9 := Lib.hid HR5.out
              rw [if_neg e1] at HR9
              clear e1 HR5
              obtain rfl : R = .ok ({ kind := 8 } : Sm) s5 := HR9.out.symm
              go_wp2_with (refine wpList_store_whole rfl 42 (.tmp 4) (.tmp 41) rfl w.heap.size _ (smV ({ kind := 8 } : Sm) (.slice none 0 0) (.slice none 0 0)).toArray 42 bA5.out rfl rfl rfl Tryz.sizeSm (all_oneCell_toArray (oneS ({ kind := 8 } : Sm) (.slice none 0 0) (.slice none 0 0) rfl rfl)) ?_; intro w99 ho99 hb99; have HO99 := Lib.hid ho99; have HB99 := Lib.hid hb99; clear ho99 hb99)
              have rc0 : w99.cell? ⟨w.heap.size, 0, none⟩ = some (.int .i64 8) := by simp [World.cell?, HB99.out, smV, bs]
              have rc1 : w99.cell? ⟨w.heap.size, 1, none⟩ = some (.int .i64 0) := by simp [World.cell?, HB99.out, smV, bs]
              have rc2 : w99.cell? ⟨w.heap.size, 2, none⟩ = some (.int .i64 0) := by simp [World.cell?, HB99.out, smV, bs]
              have rc3 : w99.cell? ⟨w.heap.size, 3, none⟩ = some (.string ⟨#[]⟩) := by simp [World.cell?, HB99.out, smV, bs]
              have rc4 : w99.cell? ⟨w.heap.size, 4, none⟩ = some (.int .i64 0) := by simp [World.cell?, HB99.out, smV, bs]
              have rc5 : w99.cell? ⟨w.heap.size, 5, none⟩ = some (.int .i64 0) := by simp [World.cell?, HB99.out, smV, bs]
              have rc6 : w99.cell? ⟨w.heap.size, 6, none⟩ = some (.int .i64 0) := by simp [World.cell?, HB99.out, smV, bs]
              have rc7 : w99.cell? ⟨w.heap.size, 7, none⟩ = some (.slice none 0 0) := by simp [World.cell?, HB99.out, smV, bs]
              have rc8 : w99.cell? ⟨w.heap.size, 8, none⟩ = some (.slice none 0 0) := by simp [World.cell?, HB99.out, smV, bs]
              refine bodyPost_ret (v := .agg #[.int .i64 8, .int .i64 0, .int .i64 0, .string ⟨#[]⟩, .int .i64 0, .int .i64 0, .int .i64 0, .slice none 0 0, .slice none 0 0]) (by simp [results, Tryz.results150, go_sem, rc0, rc1, rc2, rc3, rc4, rc5, rc6, rc7, rc8]) rfl ?_
              exact outS_fin (x := ({ kind := 8 } : Sm)) H.out ((P5.out.less (by omega)).with2) (fun _ h => .inl (h)) (.inr rfl) (Nat.le_refl _) HO99.out ⟨rfl, rfl⟩ (rwAt_nil _ _) (rwAt_nil _ _) K5.out
        · rw [hb] at his
          have HRt4 := Lib.hid ((ifT hb).symm.trans HRt3.out)
          have hbT := Lib.hid hb
          clear hb HRt3
          go_wp2_with fail
          refine (his.out).mono ?_
          rintro e w4 ⟨rfl, hB⟩
          have P4 := Lib.hid (P3.out.below hB)
          have K4 := Lib.hid (K3.out.trans ((P3.out.belowK hB).sub (fun _ h => .inl (h))))
          have bA4 := Lib.hid ((hB.block _ (blk_lt bA3.out)).trans bA3.out)
          clear hB
          go_wp2_with fail
          refine (takeL_calls C (Also S w.heap.size) d s [kPrint] _ rfl 1 rfl (by decide) (by decide) w4 P4.out _ rfl).mono ?_
          intro e w5 h5
          generalize hr : takeP C.T [kPrint] s = r at h5
          cases r with
          | no c i =>
            obtain rfl : R = .no c i := HRt4.out.symm.trans (bd_no hr)
            clear hr
            obtain rfl := h5.1
            go_wp2
            exact ⟨rfl, bad_of h5 K4.out (fun _ h => .inl (h))⟩
          | ok o s5 =>
            have HR5 := Lib.hid ((bd_ok hr).symm.trans HRt4.out)
            clear hr HRt4
            obtain ⟨rfl, hp, hk⟩ := h5
            have P5 := Lib.hid hp
            have K5 := Lib.hid (K4.out.trans (hk.sub (fun _ h => .inl (h))))
            have bA5 := Lib.hid ((hk.kept _ (.inr rfl)).trans bA4.out)
            clear hp hk
            unfold strV
            go_wp2_with fail
            refine (HP.out.run (Also S w.heap.size) (d + 1) s5 _ P5.out).mono ?_
            intro e w6 h6
            generalize hr : ex s5 = r at h6
            cases r with
            | no c i =>
              obtain rfl : R = .no c i := HR5.out.symm.trans (bd_no hr)
              clear hr
              obtain rfl := h6.1
              go_wp2
              exact ⟨rfl, bad_of h6 K5.out (fun _ h => .inl (h))⟩
            | ok a s6 =>
              have HR6 := Lib.hid ((bd_ok hr).symm.trans HR5.out)
              clear hr HR5
              obtain ⟨rfl, hp, hk⟩ := h6
              have P6 := Lib.hid hp
              have K6 := Lib.hid (K5.out.trans (hk.sub (fun _ h => .inl (h))))
              have bA6 := Lib.hid ((hk.kept _ (.inr rfl)).trans bA5.out)
              clear hp hk
              unfold natV
              obtain rfl : R = .ok ({ kind := 10, a := (a : Int) } : Sm) s6 := HR6.out.symm
              go_wp2_with (refine wpList_store_whole rfl 42 (.tmp 4) (.tmp 35) rfl w.heap.size _ (smV ({ kind := 10, a := (a : Int) } : Sm) (.slice none 0 0) (.slice none 0 0)).toArray 42 bA6.out rfl rfl rfl Tryz.sizeSm (all_oneCell_toArray (oneS ({ kind := 10, a := (a : Int) } : Sm) (.slice none 0 0) (.slice none 0 0) rfl rfl)) ?_; intro w99 ho99 hb99; have HO99 := Lib.hid ho99; have HB99 := Lib.hid hb99; clear ho99 hb99)
              have rc0 : w99.cell? ⟨w.heap.size, 0, none⟩ = some (.int .i64 10) := by simp [World.cell?, HB99.out, smV, bs]
              have rc1 : w99.cell? ⟨w.heap.size, 1, none⟩ = some (.int .i64 0) := by simp [World.cell?, HB99.out, smV, bs]
              have rc2 : w99.cell? ⟨w.heap.size, 2, none⟩ = some (.int .i64 0) := by simp [World.cell?, HB99.out, smV, bs]
              have rc3 : w99.cell? ⟨w.heap.size, 3, none⟩ = some (.string ⟨#[]⟩) := by simp [World.cell?, HB99.out, smV, bs]
              have rc4 : w99.cell? ⟨w.heap.size, 4, none⟩ = some (.int .i64 0) := by simp [World.cell?, HB99.out, smV, bs]
              have rc5 : w99.cell? ⟨w.heap.size, 5, none⟩ = some (.int .i64 (a : Int)) := by simp [World.cell?, HB99.out, smV, bs]
              have rc6 : w99.cell? ⟨w.heap.size, 6, none⟩ = some (.int .i64 0) := by simp [World.cell?, HB99.out, smV, bs]
              have rc7 : w99.cell? ⟨w.heap.size, 7, none⟩ = some (.slice none 0 0) := by simp [World.cell?, HB99.out, smV, bs]
              have rc8 : w99.cell? ⟨w.heap.size, 8, none⟩ = some (.slice none 0 0) := by simp [World.cell?, HB99.out, smV, bs]
              refine bodyPost_ret (v := .agg #[.int .i64 10, .int .i64 0, .int .i64 0, .string ⟨#[]⟩, .int .i64 0, .int .i64 (a : Int), .int .i64 0, .slice none 0 0, .slice none 0 0]) (by simp [results, Tryz.results150, go_sem, rc0, rc1, rc2, rc3, rc4, rc5, rc6, rc7, rc8]) rfl ?_
              exact outS_fin (x := ({ kind := 10, a := (a : Int) } : Sm)) H.out ((P6.out.less (by omega)).with2) (fun _ h => .inl (h)) (.inr rfl) (Nat.le_refl _) HO99.out ⟨rfl, rfl⟩ (rwAt_nil _ _) (rwAt_nil _ _) K6.out
      · rw [hb] at his
        have HRt3 := Lib.hid ((ifT hb).symm.trans HRt2.out)
        have hbT := Lib.hid hb
        clear hb HRt2
        go_wp2_with fail
        refine (his.out).mono ?_
        rintro e w3 ⟨rfl, hB⟩
        have P3 := Lib.hid (P2.out.below hB)
        have K3 := Lib.hid (K2.out.trans ((P2.out.belowK hB).sub (fun _ h => .inl (h))))
        have bA3 := Lib.hid ((hB.block _ (blk_lt bA2.out)).trans bA2.out)
        clear hB
        go_wp2_with fail
        refine (answer_calls C (Also S w.heap.size) d s dep ex HP.out _ P3.out).mono ?_
        intro e w4 h4
        generalize hr : answerM C.T ex s = r at h4
        cases r with
        | no c i =>
          obtain rfl : R = .no c i := HRt3.out.symm.trans (hr)
          clear hr
          obtain rfl := h4.1
          go_wp2
          exact ⟨rfl, bad_of h4 K3.out (fun _ h => .inl (h))⟩
        | ok x s4 =>
          obtain rfl : R = .ok x s4 := HRt3.out.symm.trans hr
          clear hr HRt3
          obtain ⟨kd4, lo4, hi4, nm4, nu4, a4, b4, th4, el4⟩ := x
          obtain ⟨v4, u4, rfl, hlo, hhi, hl, hm, hp, hk⟩ := h4
          dsimp only at hlo hhi hl hm
          subst hlo hhi
          obtain ⟨A4, c4, rfl⟩ : ∃ A c, v4 = .slice A (intsV th4).length c := by obtain ⟨A, c, e, _⟩ := hl; exact ⟨A, _, e⟩
          obtain ⟨E4, f4, rfl⟩ : ∃ A c, u4 = .slice A (intsV el4).length c := by obtain ⟨A, c, e, _⟩ := hm; exact ⟨A, _, e⟩
          have P4 := Lib.hid hp
          have K4 := Lib.hid (K3.out.trans (hk.sub (fun _ h => .inl (h))))
          have bA4 := Lib.hid ((hk.kept _ (.inr rfl)).trans bA3.out)
          have L4x4 := Lib.hid hl
          have M4x4 := Lib.hid hm
          clear hl hm hp hk
          go_wp2_with (refine wpList_store_whole rfl 42 (.tmp 4) (.tmp 24) rfl w.heap.size _ (smV (⟨kd4, 0, 0, nm4, nu4, a4, b4, th4, el4⟩ : Sm) ((.slice A4 (intsV th4).length c4)) ((.slice E4 (intsV el4).length f4))).toArray 42 bA4.out rfl rfl rfl Tryz.sizeSm (all_oneCell_toArray (oneS (⟨kd4, 0, 0, nm4, nu4, a4, b4, th4, el4⟩ : Sm) ((.slice A4 (intsV th4).length c4)) ((.slice E4 (intsV el4).length f4)) rfl rfl)) ?_; intro w99 ho99 hb99; have HO99 := Lib.hid ho99; have HB99 := Lib.hid hb99; clear ho99 hb99)
          have rc0 : w99.cell? ⟨w.heap.size, 0, none⟩ = some (.int .i64 (kd4 : Int)) := by simp [World.cell?, HB99.out, smV, bs]
          have rc1 : w99.cell? ⟨w.heap.size, 1, none⟩ = some (.int .i64 0) := by simp [World.cell?, HB99.out, smV, bs]
          have rc2 : w99.cell? ⟨w.heap.size, 2, none⟩ = some (.int .i64 0) := by simp [World.cell?, HB99.out, smV, bs]
          have rc3 : w99.cell? ⟨w.heap.size, 3, none⟩ = some (.string (bs nm4)) := by simp [World.cell?, HB99.out, smV, bs]
          have rc4 : w99.cell? ⟨w.heap.size, 4, none⟩ = some (.int .i64 (nu4 : Int)) := by simp [World.cell?, HB99.out, smV, bs]
          have rc5 : w99.cell? ⟨w.heap.size, 5, none⟩ = some (.int .i64 a4) := by simp [World.cell?, HB99.out, smV, bs]
          have rc6 : w99.cell? ⟨w.heap.size, 6, none⟩ = some (.int .i64 (b4 : Int)) := by simp [World.cell?, HB99.out, smV, bs]
          have rc7 : w99.cell? ⟨w.heap.size, 7, none⟩ = some ((.slice A4 (intsV th4).length c4)) := by simp [World.cell?, HB99.out, smV, bs]
          have rc8 : w99.cell? ⟨w.heap.size, 8, none⟩ = some ((.slice E4 (intsV el4).length f4)) := by simp [World.cell?, HB99.out, smV, bs]
          refine bodyPost_ret (v := .agg #[.int .i64 (kd4 : Int), .int .i64 0, .int .i64 0, .string (bs nm4), .int .i64 (nu4 : Int), .int .i64 a4, .int .i64 (b4 : Int), (.slice A4 (intsV th4).length c4), (.slice E4 (intsV el4).length f4)]) (by simp [results, Tryz.results150, go_sem, rc0, rc1, rc2, rc3, rc4, rc5, rc6, rc7, rc8]) rfl ?_
          exact outS_fin (x := (⟨kd4, 0, 0, nm4, nu4, a4, b4, th4, el4⟩ : Sm)) H.out (P4.out.less (by omega)) (fun _ h => .inl (h)) (.inr rfl) (Nat.le_refl _) HO99.out ⟨rfl, rfl⟩ L4x4.out M4x4.out K4.out
    · rw [hb] at his
      have HRt2 := Lib.hid ((ifT hb).symm.trans HRt1.out)
      have hbT := Lib.hid hb
      clear hb HRt1
      go_wp2_with fail
      refine (his.out).mono ?_
      rintro e w2 ⟨rfl, hB⟩
      have P2 := Lib.hid (P1.out.below hB)
      have K2 := Lib.hid (K1.out.trans ((P1.out.belowK hB).sub (fun _ h => .inl (h))))
      have bA2 := Lib.hid ((hB.block _ (blk_lt bA1.out)).trans bA1.out)
      clear hB
      go_wp2_with fail
      refine (variable_calls C (Also S w.heap.size) d s dep ex HP.out _ P2.out).mono ?_
      intro e w3 h3
      generalize hr : variableM C.T ex s = r at h3
      cases r with
      | no c i =>
        obtain rfl : R = .no c i := HRt2.out.symm.trans (hr)
        clear hr
        obtain rfl := h3.1
        go_wp2
        exact ⟨rfl, bad_of h3 K2.out (fun _ h => .inl (h))⟩
      | ok x s3 =>
        obtain rfl : R = .ok x s3 := HRt2.out.symm.trans hr
        clear hr HRt2
        obtain ⟨kd3, lo3, hi3, nm3, nu3, a3, b3, th3, el3⟩ := x
        obtain ⟨v3, u3, rfl, hlo, hhi, hl, hm, hp, hk⟩ := h3
        dsimp only at hlo hhi hl hm
        subst hlo hhi
        obtain ⟨A3, c3, rfl⟩ : ∃ A c, v3 = .slice A (intsV th3).length c := by obtain ⟨A, c, e, _⟩ := hl; exact ⟨A, _, e⟩
        obtain ⟨E3, f3, rfl⟩ : ∃ A c, u3 = .slice A (intsV el3).length c := by obtain ⟨A, c, e, _⟩ := hm; exact ⟨A, _, e⟩
        have P3 := Lib.hid hp
        have K3 := Lib.hid (K2.out.trans (hk.sub (fun _ h => .inl (h))))
        have bA3 := Lib.hid ((hk.kept _ (.inr rfl)).trans bA2.out)
        have L3x3 := Lib.hid hl
        have M3x3 := Lib.hid hm
        clear hl hm hp hk
        go_wp2_with (refine wpList_store_whole rfl 42 (.tmp 4) (.tmp 17) rfl w.heap.size _ (smV (⟨kd3, 0, 0, nm3, nu3, a3, b3, th3, el3⟩ : Sm) ((.slice A3 (intsV th3).length c3)) ((.slice E3 (intsV el3).length f3))).toArray 42 bA3.out rfl rfl rfl Tryz.sizeSm (all_oneCell_toArray (oneS (⟨kd3, 0, 0, nm3, nu3, a3, b3, th3, el3⟩ : Sm) ((.slice A3 (intsV th3).length c3)) ((.slice E3 (intsV el3).length f3)) rfl rfl)) ?_; intro w99 ho99 hb99; have HO99 := Lib.hid ho99; have HB99 := Lib.hid hb99; clear ho99 hb99)
        have rc0 : w99.cell? ⟨w.heap.size, 0, none⟩ = some (.int .i64 (kd3 : Int)) := by simp [World.cell?, HB99.out, smV, bs]
        have rc1 : w99.cell? ⟨w.heap.size, 1, none⟩ = some (.int .i64 0) := by simp [World.cell?, HB99.out, smV, bs]
        have rc2 : w99.cell? ⟨w.heap.size, 2, none⟩ = some (.int .i64 0) := by simp [World.cell?, HB99.out, smV, bs]
        have rc3 : w99.cell? ⟨w.heap.size, 3, none⟩ = some (.string (bs nm3)) := by simp [World.cell?, HB99.out, smV, bs]
        have rc4 : w99.cell? ⟨w.heap.size, 4, none⟩ = some (.int .i64 (nu3 : Int)) := by simp [World.cell?, HB99.out, smV, bs]
        have rc5 : w99.cell? ⟨w.heap.size, 5, none⟩ = some (.int .i64 a3) := by simp [World.cell?, HB99.out, smV, bs]
        have rc6 : w99.cell? ⟨w.heap.size, 6, none⟩ = some (.int .i64 (b3 : Int)) := by simp [World.cell?, HB99.out, smV, bs]
        have rc7 : w99.cell? ⟨w.heap.size, 7, none⟩ = some ((.slice A3 (intsV th3).length c3)) := by simp [World.cell?, HB99.out, smV, bs]
        have rc8 : w99.cell? ⟨w.heap.size, 8, none⟩ = some ((.slice E3 (intsV el3).length f3)) := by simp [World.cell?, HB99.out, smV, bs]
        refine bodyPost_ret (v := .agg #[.int .i64 (kd3 : Int), .int .i64 0, .int .i64 0, .string (bs nm3), .int .i64 (nu3 : Int), .int .i64 a3, .int .i64 (b3 : Int), (.slice A3 (intsV th3).length c3), (.slice E3 (intsV el3).length f3)]) (by simp [results, Tryz.results150, go_sem, rc0, rc1, rc2, rc3, rc4, rc5, rc6, rc7, rc8]) rfl ?_
        exact outS_fin (x := (⟨kd3, 0, 0, nm3, nu3, a3, b3, th3, el3⟩ : Sm)) H.out (P3.out.less (by omega)) (fun _ h => .inl (h)) (.inr rfl) (Nat.le_refl _) HO99.out ⟨rfl, rfl⟩ L3x3.out M3x3.out K3.out
  · rw [hb] at his
    have HRt1 := Lib.hid ((ifT hb).symm.trans HR.out)
    have hbT := Lib.hid hb
    clear hb HR
    go_wp2_with fail
    refine (his.out).mono ?_
    rintro e w1 ⟨rfl, hB⟩
    have P1 := Lib.hid (P0.out.below hB)
    have K1 := Lib.hid (K0.out.trans ((P0.out.belowK hB).sub (fun _ h => .inl (h))))
    have bA1 := Lib.hid ((hB.block _ (blk_lt bA0.out)).trans bA0.out)
    clear hB
    go_wp2_with fail
    refine (named_calls C (Also S w.heap.size) d s dep h0 h1 ex sub HP.out HE.out HSB.out _ P1.out).mono ?_
    intro e w2 h2
    generalize hr : namedM C.T ex sub s = r at h2
    cases r with
    | no c i =>
      obtain rfl : R = .no c i := HRt1.out.symm.trans (hr)
      clear hr
      obtain rfl := h2.1
      go_wp2
      exact ⟨rfl, bad_of h2 K1.out (fun _ h => .inl (h))⟩
    | ok x s2 =>
      obtain rfl : R = .ok x s2 := HRt1.out.symm.trans hr
      clear hr HRt1
      obtain ⟨kd2, lo2, hi2, nm2, nu2, a2, b2, th2, el2⟩ := x
      obtain ⟨v2, u2, rfl, hlo, hhi, hl, hm, hp, hk⟩ := h2
      dsimp only at hlo hhi hl hm
      subst hlo hhi
      obtain ⟨A2, c2, rfl⟩ : ∃ A c, v2 = .slice A (intsV th2).length c := by obtain ⟨A, c, e, _⟩ := hl; exact ⟨A, _, e⟩
      obtain ⟨E2, f2, rfl⟩ : ∃ A c, u2 = .slice A (intsV el2).length c := by obtain ⟨A, c, e, _⟩ := hm; exact ⟨A, _, e⟩
      have P2 := Lib.hid hp
      have K2 := Lib.hid (K1.out.trans (hk.sub (fun _ h => .inl (h))))
      have bA2 := Lib.hid ((hk.kept _ (.inr rfl)).trans bA1.out)
      have L2x2 := Lib.hid hl
      have M2x2 := Lib.hid hm
      clear hl hm hp hk
      go_wp2_with (refine wpList_store_whole rfl 42 (.tmp 4) (.tmp 10) rfl w.heap.size _ (smV (⟨kd2, 0, 0, nm2, nu2, a2, b2, th2, el2⟩ : Sm) ((.slice A2 (intsV th2).length c2)) ((.slice E2 (intsV el2).length f2))).toArray 42 bA2.out rfl rfl rfl Tryz.sizeSm (all_oneCell_toArray (oneS (⟨kd2, 0, 0, nm2, nu2, a2, b2, th2, el2⟩ : Sm) ((.slice A2 (intsV th2).length c2)) ((.slice E2 (intsV el2).length f2)) rfl rfl)) ?_; intro w99 ho99 hb99; have HO99 := Lib.hid ho99; have HB99 := Lib.hid hb99; clear ho99 hb99)
      have rc0 : w99.cell? ⟨w.heap.size, 0, none⟩ = some (.int .i64 (kd2 : Int)) := by simp [World.cell?, HB99.out, smV, bs]
      have rc1 : w99.cell? ⟨w.heap.size, 1, none⟩ = some (.int .i64 0) := by simp [World.cell?, HB99.out, smV, bs]
      have rc2 : w99.cell? ⟨w.heap.size, 2, none⟩ = some (.int .i64 0) := by simp [World.cell?, HB99.out, smV, bs]
      have rc3 : w99.cell? ⟨w.heap.size, 3, none⟩ = some (.string (bs nm2)) := by simp [World.cell?, HB99.out, smV, bs]
      have rc4 : w99.cell? ⟨w.heap.size, 4, none⟩ = some (.int .i64 (nu2 : Int)) := by simp [World.cell?, HB99.out, smV, bs]
      have rc5 : w99.cell? ⟨w.heap.size, 5, none⟩ = some (.int .i64 a2) := by simp [World.cell?, HB99.out, smV, bs]
      have rc6 : w99.cell? ⟨w.heap.size, 6, none⟩ = some (.int .i64 (b2 : Int)) := by simp [World.cell?, HB99.out, smV, bs]
      have rc7 : w99.cell? ⟨w.heap.size, 7, none⟩ = some ((.slice A2 (intsV th2).length c2)) := by simp [World.cell?, HB99.out, smV, bs]
      have rc8 : w99.cell? ⟨w.heap.size, 8, none⟩ = some ((.slice E2 (intsV el2).length f2)) := by simp [World.cell?, HB99.out, smV, bs]
      refine bodyPost_ret (v := .agg #[.int .i64 (kd2 : Int), .int .i64 0, .int .i64 0, .string (bs nm2), .int .i64 (nu2 : Int), .int .i64 a2, .int .i64 (b2 : Int), (.slice A2 (intsV th2).length c2), (.slice E2 (intsV el2).length f2)]) (by simp [results, Tryz.results150, go_sem, rc0, rc1, rc2, rc3, rc4, rc5, rc6, rc7, rc8]) rfl ?_
      exact outS_fin (x := (⟨kd2, 0, 0, nm2, nu2, a2, b2, th2, el2⟩ : Sm)) H.out (P2.out.less (by omega)) (fun _ h => .inl (h)) (.inr rfl) (Nat.le_refl _) HO99.out ⟨rfl, rfl⟩ L2x2.out M2x2.out K2.out

end Go.Proofs.YtdeflloidhbpmaaGreatDoor
