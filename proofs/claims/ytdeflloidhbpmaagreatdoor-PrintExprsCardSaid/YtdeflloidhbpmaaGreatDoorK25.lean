/-
  print's small functions: pieces; the level of a sign.
  What calls leave as it was: all blocks but listed ones.
  slices.Reverse of a row of pieces; fromBehind.
-/
import Derived.Test.YtdeflloidhbpmaaGreatDoorK24
import Derived.Shelf.SlicesQ.Reverse
namespace Go.Proofs.YtdeflloidhbpmaaGreatDoor
open Go.RowKit

/-- A piece: a text, or the text of the expression of a place. -/
inductive Pc where
  | tx : List UInt8 → Pc
  | pt : Int → Pc
def Pc.vs : Pc → List Value
  | .tx b => [.bool false, .string (bs b), .int .i64 0]
  | .pt a => [.bool true, .string (bs []), .int .i64 a]
def Pc.v (p : Pc) : Value := .agg p.vs.toArray

set_option maxHeartbeats 1000000 in
theorem ptext_calls (b : List UInt8) (w : World) : Calls Tryz.prog 40 #[.string (bs b)] w fun e w' => e = .returned (Pc.tx b).v ∧ Below w.heap.size w w' := by
  go_enter Tryz.func40, Tryz.ntmps40
  go_wp2
  refine bodyPost_ret (v := (Pc.tx b).v) (by simp [results, Tryz.results40, go_sem, Pc.v, Pc.vs]) rfl ⟨rfl, ?_⟩
  exact (Below.refl _ w).alloc (Nat.le_refl _) _
set_option maxHeartbeats 1000000 in
theorem ppart_calls (a : Int) (w : World) : Calls Tryz.prog 19 #[.int .i64 a] w fun e w' => e = .returned (Pc.pt a).v ∧ Below w.heap.size w w' := by
  go_enter Tryz.func19, Tryz.ntmps19
  go_wp2
  refine bodyPost_ret (v := (Pc.pt a).v) (by simp [results, Tryz.results19, go_sem, Pc.v, Pc.vs, bs]) rfl ⟨rfl, ?_⟩
  exact (Below.refl _ w).alloc (Nat.le_refl _) _

/-! ### rows of pieces -/
theorem Tryz.infoPc : (Tryz.prog.info? 59).map (fun i => (i.zero, i.size, i.bytes)) = some (some (.agg #[.bool false, .string ⟨#[]⟩, .int .i64 0]), 3, 32) := by kernel_rfl
def pcsV (l : List Pc) : List Value := l.flatMap Pc.vs
theorem pcs_len (l : List Pc) : (pcsV l).length = l.length * 3 := by
  induction l with
  | nil => rfl
  | cons p r ih =>
    have hp : p.vs.length = 3 := by cases p <;> rfl
    show (p.vs ++ pcsV r).length = _
    rw [List.length_append, ih, hp, List.length_cons]; omega
theorem pcs_one (l : List Pc) : ∀ u ∈ pcsV l, u.oneCell' = true := by
  intro u hu
  obtain ⟨p, _, h⟩ := List.mem_flatMap.1 hu
  cases p <;> simp [Pc.vs] at h <;> rcases h with rfl | rfl | rfl <;> rfl
/-- What answers a new row of pieces. -/
def PcsPost (l : List Pc) (w : World) (e : Ending) (w' : World) : Prop := ∃ v, e = .returned v ∧ w'.ownsRow w.heap.size 59 3 v l.length (pcsV l) ∧ Below w.heap.size w w'
set_option maxRecDepth 100000 in
set_option maxHeartbeats 1000000 in
theorem pclone_calls (v : Value) (l : List Pc) (w : World) (hn : l.length ≤ 100000) (h : ArrAt w 3 v l.length (pcsV l)) :
    Calls Tryz.prog 58 #[v] w (PcsPost l w) := by
  obtain ⟨i0, hi0, hz0, hz1, hz2⟩ := info_parts Tryz.infoPc
  obtain ⟨A, c, rfl, hl, hc⟩ := h
  cases A with
  | none =>
    have h0 : l = [] := by
      cases l with
      | nil => rfl
      | cons p r => obtain ⟨g, e, _⟩ := hc (by simp); cases e
    subst h0
    have H : Hid (PcsPost [] w (.returned (.slice none 0 0)) w) := Lib.hid ⟨_, rfl, ⟨rfl, .inl ⟨rfl, rfl⟩⟩, Below.refl _ _⟩
    clear hc hl
    have hq : ∀ w : World, (binOp BinOp.eql 97 (.slice none 0 c) (.slice none 0 0)).run Tryz.prog w = .ok (.bool true) w := fun _ => rfl
    go_enter Tryz.func58, Tryz.ntmps58
    go_wp2
    go_ret
    exact H.out
  | some a =>
    have HC : Hid (∀ (j : Nat) (u : Value), (pcsV l)[j]? = some u → (w.alloc (.cells #[] 59)).cell? (a.add j) = some u) := Lib.hid fun j u hu => by
      have hj : j < (pcsV l).length := (List.getElem?_eq_some_iff.1 hu).1
      obtain ⟨g, e, hg, h2⟩ := hc (by rw [pcs_len] at hj; omega)
      injection e with e
      subst e
      rw [Addr.add_lit, Nat.zero_add]
      have := h2 j u hu
      simp only [World.cell?] at this ⊢
      rw [Below.heap_alloc w _ g hg]
      exact this
    have HO := Lib.hid (pcs_one l)
    have HL := Lib.hid (pcs_len l)
    clear hc hl
    have hq : ∀ w : World, (binOp BinOp.eql 97 (.slice (some a) l.length c) (.slice none 0 0)).run Tryz.prog w = .ok (.bool false) w := fun _ => rfl
    go_enter Tryz.func58, Tryz.ntmps58
    go_wp2_with (at_builtin; refine wpList_append_own _ rfl _ _ 97 rfl w.heap.size 59 i0 (.agg #[.bool false, .string ⟨#[]⟩, .int .i64 0]) 3 32 Tryz.underlying97 hi0 hz0 hz1 hz2 rfl (by decide) (.slice (some ⟨w.heap.size, 0, none⟩) 0 0) 0 [] rfl (World.ownsRow_made w #[] 0 (Nat.le_refl _) (by decide) rfl) a l.length c (pcsV l) rfl HL.out HC.out HO.out (by unfold maxLen; omega) (by omega) (by simp <;> omega) ?_; intro v' w3 hown hgrow hsn; have HG := Lib.hid hgrow; clear hgrow)
    go_ret
    exact ⟨v', rfl, by simpa using hown, below_of_grown ((Below.refl _ w).alloc (Nat.le_refl _) _) HG.out (by simp)⟩
end Go.Proofs.YtdeflloidhbpmaaGreatDoor

namespace Go.Proofs.YtdeflloidhbpmaaGreatDoor
open Go.RowKit

/-- What calls leave as it was: all blocks but the listed ones. -/
structure Sav (S : List Nat) (w w' : World) : Prop where
  os : w'.os = w.os
  tape : w'.tape = w.tape
  output : w'.output = w.output
  size : w.heap.size ≤ w'.heap.size
  block : ∀ k, k < w.heap.size → k ∉ S → w'.heap[k]? = w.heap[k]?
theorem Sav.refl (S : List Nat) (w : World) : Sav S w w := ⟨rfl, rfl, rfl, Nat.le_refl _, fun _ _ _ => rfl⟩
theorem Sav.trans {S : List Nat} {a b c : World} (h : Sav S a b) (k : Sav S b c) : Sav S a c :=
  ⟨k.os.trans h.os, k.tape.trans h.tape, k.output.trans h.output, Nat.le_trans h.size k.size, fun i hi hn => (k.block i (Nat.lt_of_lt_of_le hi h.size) hn).trans (h.block i hi hn)⟩
/-- Behind a second call what it may change counts only where it was there at first. -/
theorem Sav.trans' {S T : List Nat} {a b c : World} (h : Sav S a b) (k : Sav T b c) (hT : ∀ x ∈ T, x ∈ S ∨ a.heap.size ≤ x) : Sav S a c :=
  ⟨k.os.trans h.os, k.tape.trans h.tape, k.output.trans h.output, Nat.le_trans h.size k.size, fun i hi hn => (k.block i (Nat.lt_of_lt_of_le hi h.size) (fun hm => by rcases hT i hm with h1 | h1; exact hn h1; omega)).trans (h.block i hi hn)⟩
theorem Sav.mono {S T : List Nat} {a b : World} (h : Sav S a b) (hs : ∀ x ∈ S, x ∈ T) : Sav T a b :=
  ⟨h.os, h.tape, h.output, h.size, fun i hi hn => h.block i hi fun hm => hn (hs i hm)⟩
theorem Sav.below {S : List Nat} {w w' : World} {B : Nat} (h : Sav S w w') (hB : ∀ x ∈ S, B ≤ x) (hw : B ≤ w.heap.size) : Below B w w' :=
  ⟨h.os, h.tape, h.output, h.size, fun k hk => h.block k (by omega) fun hm => by have := hB k hm; omega⟩
theorem sav_of_below {w w' : World} {B : Nat} (S : List Nat) (h : Below B w w') (hB : w.heap.size ≤ B) : Sav S w w' :=
  ⟨h.os, h.tape, h.output, h.size, fun k hk _ => h.block k (by omega)⟩
theorem Sav.alloc {S : List Nat} {a b : World} (h : Sav S a b) (o : Obj) : Sav S a (b.alloc o) :=
  h.trans (sav_of_below S ((Below.refl b.heap.size b).alloc (Nat.le_refl _) o) (Nat.le_refl _))
theorem Sav.drewN {S : List Nat} {a b : World} (h : Sav S a b) (n : Nat) : Sav S a (b.drewN n) := ⟨h.os, h.tape, h.output, h.size, h.block⟩
theorem Sav.cell {S : List Nat} {a b : World} (h : Sav S a b) {p : Addr} {v : Value} (hc : a.cell? p = some v) (hn : p.block ∉ S) : b.cell? p = some v :=
  (World.cell?_of_block (h.block p.block (World.block_lt_of_cell? a p hc) hn)).trans hc

end Go.Proofs.YtdeflloidhbpmaaGreatDoor

namespace Go.Proofs
open Go.Shelf
def Tryz.revP_ren : Go.Shelf.Ren := ⟨fun | 35 => 59 | n => n, fun | 0 => 0 | 3 => 3 | 4 => 4 | 22 => 97 | 23 => 59 | n => n, fun | n => n⟩
theorem Tryz.revP : SlLaysE0.n35 Tryz.prog Tryz.revP_ren := {
  mixed := by kernel_rfl
  f35 := ⟨((Tryz.prog.funcs[59]?).map (·.name)).getD "", by kernel_rfl, Tryz.func59.trans (congrArg some (by kernel_rfl))⟩
  t0 := Tryz.underlying0
  a0 := Tryz.isAgg0
  z0 := Tryz.sizeOf0
  v0 := Tryz.zeroValue0
  t3 := Tryz.underlying3
  a3 := Tryz.isAgg3
  z3 := Tryz.sizeOf3
  v3 := Tryz.zeroValue3
  t4 := Tryz.underlying4
  a4 := Tryz.isAgg4
  z4 := Tryz.sizeOf4
  v4 := Tryz.zeroValue4
  t22 := Tryz.underlying97
  a22 := Tryz.isAgg97
  z22 := Tryz.sizeOf97
  v22 := Tryz.zeroValue97 }
end Go.Proofs
namespace Go.Proofs.YtdeflloidhbpmaaGreatDoor
open Go.RowKit

instance : Inhabited Pc := ⟨.pt 0⟩
theorem pc_len (p : Pc) : p.vs.length = 3 := by cases p <;> rfl
theorem pcs_get : ∀ (l : List Pc) (t : Nat), t < l.length * 3 → (pcsV l)[t]? = (l[t / 3]!.vs)[t % 3]?
  | [], t, h => by simp at h
  | p :: r, t, h => by
    show (p.vs ++ pcsV r)[t]? = _
    rcases Nat.lt_or_ge t 3 with h3 | h3
    · rw [List.getElem?_append_left (by rw [pc_len]; exact h3), Nat.div_eq_of_lt h3, Nat.mod_eq_of_lt h3]; rfl
    · rw [List.getElem?_append_right (by rw [pc_len]; exact h3), pc_len, pcs_get r (t - 3) (by simp at h; omega)]
      have e1 : t / 3 = (t - 3) / 3 + 1 := by omega
      have e2 : t % 3 = (t - 3) % 3 := by omega
      rw [e1, e2]
      simp
theorem flat_get (l : List Pc) (t : Nat) (h : t < l.length * 3) : (pcsV l)[t]? = some ((Sort.flatK Pc.vs 3 l.toArray)[t]!) := by
  rw [Sort.get_flatK Pc.vs 3 l.toArray t (by simpa using h), pcs_get l t h]
  have h3 : t % 3 < (l[t / 3]!.vs).length := by rw [pc_len]; omega
  rw [List.getElem?_eq_getElem h3]
  have e : l.toArray[t / 3]! = l[t / 3]! := by simp
  rw [e, getElem!_pos (l[t / 3]!.vs) (t % 3) h3]
/-- What Reverse leaves. -/
def RevPost (base : Nat) (v : Value) (l : List Pc) (w : World) (e : Ending) (w' : World) : Prop :=
  e = .returned (.tuple #[]) ∧ w'.ownsRow base 59 3 v l.length (pcsV l.reverse) ∧ Sav v.ownBlock.toList w w'
theorem preverse_calls (base : Nat) (v : Value) (l : List Pc) (w : World) (hn : l.length ≤ 100000) (h : w.ownsRow base 59 3 v l.length (pcsV l)) :
    Calls Tryz.prog 59 #[v] w (RevPost base v l w) := by
  rcases h.2 with ⟨rfl, h0⟩ | ⟨g, cap, cur, rfl, hb, hg, hnc, hcm, hcs, ht⟩
  · obtain rfl : l = [] := List.eq_nil_of_length_eq_zero (h0 : l.length = 0)
    refine Calls.mono (AnyQ.slices_Reverse_empty Tryz.revP none 0 w) ?_
    rintro e w' ⟨rfl, rfl⟩
    exact ⟨rfl, h, Sav.refl _ _⟩
  · have hcur : ∀ j, j < l.length * 3 → cur[j]? = some ((Sort.flatK Pc.vs 3 l.toArray)[j]!) := fun j hj => by
      rw [← flat_get l j hj, ← ht, List.getElem?_take, if_pos hj, Array.getElem?_toList]
    have hH : Sort.HoldsK Pc.vs 3 w g 0 l.toArray := by
      intro j hj
      rw [Sort.size_flatK] at hj
      have hj' : j < l.length * 3 := by simpa using hj
      have hc := hcur j hj'
      refine ⟨?_, ?_⟩
      · simp [World.cell?, hg, hc]
      · simp [World.frozen?, hg]
    have hC := AnyQ.slices_Reverse Tryz.revP 3 Tryz.isAgg59 Tryz.sizeOf59 Pc.vs pc_len (fun x v hv => pcs_one [x] v (by simpa [pcsV] using hv)) g 0 cap l.toArray w hH (by simp; omega)
    have e0 : l.toArray.size = l.length := by simp
    rw [e0] at hC
    refine Calls.mono hC ?_
    rintro e w' ⟨rfl, n, rfl⟩
    refine ⟨rfl, ⟨by rw [pcs_len, List.length_reverse], .inr ⟨g, cap, Sort.putCells id 0 (Sort.flatK Pc.vs 3 l.toArray.reverse) cur, rfl, hb, ?_, hnc, hcm, ?_, ?_⟩⟩, ?_⟩
    · simp [Sort.putRowK, Sort.putRow, Sort.mapBlock, Sort.ahead, Array.getElem?_modify, hg, Sort.onCells]
    · simp [Sort.putCells, hcs]
    · have hrl : (pcsV l.reverse).length = l.length * 3 := by rw [pcs_len, List.length_reverse]
      refine List.ext_getElem? fun t => ?_
      rcases Nat.lt_or_ge t (l.length * 3) with hlt | hge
      · rw [List.getElem?_take, if_pos hlt, flat_get l.reverse t (by simpa using hlt)]
        have hct : t < cur.size := by have := Nat.mul_le_mul_right 3 hnc; omega
        simp [Sort.putCells, hct, hlt]
      · rw [List.getElem?_take, if_neg (by omega), List.getElem?_eq_none (by omega)]
    · refine ⟨rfl, rfl, rfl, ?_, ?_⟩
      · simp [Sort.putRowK, Sort.putRow, Sort.mapBlock, Sort.ahead]
      · intro k hk hkn
        have hne : ¬ g = k := fun e => hkn (by simp [Value.ownBlock, e])
        simp [Sort.putRowK, Sort.putRow, Sort.mapBlock, Sort.ahead, Array.getElem?_modify, hne]
end Go.Proofs.YtdeflloidhbpmaaGreatDoor
