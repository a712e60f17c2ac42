/-
  put: pieces are written one by one; a part's own pieces wait.
  What is written so far; put, told by it.
-/
import Derived.Test.YtdeflloidhbpmaaGreatDoorK37
import Derived.Deep.LoopGhost
import Derived.Deep.Cut
namespace Go.Proofs.YtdeflloidhbpmaaGreatDoor
open Go.RowKit

section
variable {nm : List UInt8 → Prop} {nu : Nat → Prop} {dec : Nat → List UInt8} {E : List Ex}
/-- What put keeps and may change. -/
abbrev PutS (wb : Nat) (v0 : Value) : List Nat := wb :: v0.ownBlock.toList
/-- The contract of expression, in what follows a world. -/
def ExprC (nm : List UInt8 → Prop) (nu : Nat → Prop) (dec : Nat → List UInt8) (E : List Ex) (wb : Nat) (e s f v0 : Value) (w0 : World) : Prop :=
  ∀ w, Sav (PutS wb v0) w0 w → ∀ v p out, WrAt wb e s f v p out w → ∀ (a k fi : Nat) x, Sh nm nu E k fi a → E[a]? = some x → Calls Tryz.prog 38 #[.pointer (some ⟨wb, 0, none⟩), .int .i64 (a : Int)] w (PcsPost (exP dec E x) w)
/-- Where the loop stands. -/
structure PutI (nm : List UInt8 → Prop) (nu : Nat → Prop) (dec : Nat → List UInt8) (E : List Ex) (wb : Nat) (e s f v0 : Value) (w0 : World) (target : List UInt8) (W : List Pc) (v : Value) (p : Option Addr) (out : List UInt8) (u : Value) (w : World) : Prop where
  ok : ∀ q ∈ W, PcOk nm nu E E.length q
  row : w.ownsRow w0.heap.size 59 3 u W.length (pcsV W.reverse)
  wr : WrAt wb e s f v p out w
  same : SameOrNew v0 v w0
  apart : ∀ g, v.ownBlock = some g → u.ownBlock ≠ some g
  sav : Sav (PutS wb v0) w0 w
  txt : target = out ++ pcsB dec E W
/-- What put leaves. -/
def PutPost (wb : Nat) (e s f v0 : Value) (w0 : World) (target : List UInt8) (e0 : Ending) (w' : World) : Prop :=
  e0 = .returned (.tuple #[]) ∧ ∃ v p, WrAt wb e s f v p target w' ∧ SameOrNew v0 v w0 ∧ Sav (PutS wb v0) w0 w'
theorem arr_below {w w' : World} {S : List Nat} {v : Value} {base n sz : Nat} {t : TypeId} {xs : List Value} (h : w.ownsRow base t sz v n xs) (hS : Sav S w w') (hn : ∀ g, v.ownBlock = some g → g ∉ S) : w'.ownsRow base t sz v n xs := by
  refine ⟨h.1, ?_⟩
  rcases h.2 with h0 | ⟨g, cap, cur, rfl, hb, hg, hr⟩
  · exact .inl h0
  · exact .inr ⟨g, cap, cur, rfl, hb, (hS.block g (Array.getElem?_eq_some_iff.1 hg).1 (hn g rfl)).trans hg, hr⟩
theorem WrAt.sav {wb : Nat} {e s f v : Value} {p : Option Addr} {out : List UInt8} {w w' : World} {S : List Nat} (h : WrAt wb e s f v p out w) (hS : Sav S w w') (hb : wb ∉ S) (hn : ∀ g, v.ownBlock = some g → g ∉ S) : WrAt wb e s f v p out w' :=
  ⟨(hS.block wb (Array.getElem?_eq_some_iff.1 h.blk).1 hb).trans h.blk, h.ptr, arr_below h.row hS hn⟩
theorem pcs_last (W : List Pc) (q : Pc) : pcsV (q :: W).reverse = pcsV W.reverse ++ q.vs := by
  rw [List.reverse_cons]; simp [pcsV]
/-- The row without its last. -/
theorem row_cut {w : World} {base n cap : Nat} {t : TypeId} {A : Option Addr} {xs ys : List Value} (h : w.ownsRow base t 3 (.slice A (n + 1) cap) (n + 1) (xs ++ ys)) (hx : xs.length = n * 3) : ∃ g cur, A = some ⟨g, 0, none⟩ ∧ base ≤ g ∧ n + 1 ≤ cap ∧ w.heap[g]? = some (.cells cur t) ∧ (∀ j u, ys[j]? = some u → w.cell? ⟨g, n * 3 + j, none⟩ = some u) ∧ w.ownsRow base t 3 (.slice (some ⟨g, 0, none⟩) n cap) n xs := by
  have hl := h.1
  rcases h.2 with ⟨h0, h1⟩ | ⟨g, cap', cur, hv, hb, hg, hnc, hcm, hcs, ht⟩
  · omega
  · injection hv with h1 h2 h3
    subst h1 h3
    refine ⟨g, cur, rfl, hb, hnc, hg, fun j u hu => ?_, ⟨hx, .inr ⟨g, cap, cur, rfl, hb, hg, by omega, hcm, hcs, ?_⟩⟩⟩
    · have h1 : (xs ++ ys)[n * 3 + j]? = some u := by rw [List.getElem?_append_right (by omega), hx, Nat.add_sub_cancel_left]; exact hu
      rw [← ht, List.getElem?_take] at h1
      split at h1
      · simp [World.cell?, hg]; simpa using h1
      · cases h1
    · have := congrArg (List.take (n * 3)) ht
      rw [List.take_take, Nat.min_eq_left (by omega)] at this
      rw [this, ← hx, List.take_left]
theorem SameOrNew.trans {a b c : Value} {w0 w1 : World} (h : SameOrNew a b w0) (k : SameOrNew b c w1) (hs : w0.heap.size ≤ w1.heap.size) : SameOrNew a c w0 := by
  rcases k with k | ⟨g, k1, k2⟩
  · rcases h with h | ⟨g, h1, h2⟩
    · exact .inl (k.trans h)
    · exact .inr ⟨g, k.trans h1, h2⟩
  · exact .inr ⟨g, k1, Nat.le_trans hs k2⟩
/-- What the text's own block may be. -/
theorem SameOrNew.inPut {a b : Value} {w0 : World} (h : SameOrNew a b w0) (wb : Nat) : ∀ x ∈ wb :: b.ownBlock.toList, x ∈ PutS wb a ∨ w0.heap.size ≤ x := by
  intro x hx
  rcases List.mem_cons.1 hx with rfl | hx
  · exact .inl (by simp)
  · have hb : b.ownBlock = some x := by simpa using hx
    rcases h with h | ⟨g, h1, h2⟩
    · exact .inl (by simp [← h, hb])
    · rw [hb] at h1
      injection h1 with h1
      exact .inr (by omega)
theorem len_pws (g : Nat → Nat) (l : List Pc) : l.length ≤ pws g l := by
  induction l with
  | nil => exact Nat.zero_le _
  | cons q r ih =>
    rw [pws_cons, List.length_cons]
    have : 1 ≤ pwt g q := by cases q <;> simp [pwt]
    omega
theorem exP_pos (x : Ex) : 0 < (exP dec E x).length := by
  unfold exP
  split
  · simp only [List.length_append, List.length_cons, List.length_nil]; omega
  · split
    · simp
    · split
      · simp
      · split <;> simp
/-- A text was written. -/
theorem PutI.step {wb : Nat} {e s f v0 : Value} {w0 : World} {target : List UInt8} {b : List UInt8} {W : List Pc} {v : Value} {p : Option Addr} {out : List UInt8} {u u' : Value} {w w1 w2 : World} {e0 : Ending}
    (H : PutI nm nu dec E wb e s f v0 w0 target (.tx b :: W) v p out u w) (hwb : wb < w0.heap.size) (hu : u'.ownBlock = u.ownBlock) (hcut : w.ownsRow w0.heap.size 59 3 u' W.length (pcsV W.reverse)) (hB : Below w.heap.size w w1)
    (h : WsPost wb e s f v (out ++ b) w1 e0 w2) : ∃ v', PutI nm nu dec E wb e s f v0 w0 target W v' (some ⟨wb, 3, none⟩) (out ++ b) u' w2 := by
  obtain ⟨_, v', hw, hsn, hs⟩ := h
  have hsz := H.sav.size
  have hsz1 := hB.size
  have hsame : SameOrNew v0 v' w0 := H.same.trans hsn (by omega)
  refine ⟨v', ⟨fun q hq => H.ok q (List.mem_cons_of_mem _ hq), ?_, hw, hsame, ?_, ?_, ?_⟩⟩
  · refine arr_below (own_below hcut hB) hs fun g hg hm => ?_
    rcases List.mem_cons.1 hm with rfl | hm
    · have := (hcut.lt g hg).1; omega
    · exact H.apart g (by simpa using hm) (hu ▸ hg)
  · intro g hg hc
    rcases hsn with h | ⟨g', h1, h2⟩
    · exact H.apart g (h ▸ hg) (hu ▸ hc)
    · rw [hg] at h1
      injection h1 with h1
      have := (hcut.lt g hc).2
      omega
  · exact (H.sav.trans (sav_of_below _ hB (Nat.le_refl _))).trans' hs (H.same.inPut wb)
  · rw [H.txt, pcsB, List.flatMap_cons, ← List.append_assoc]; rfl
/-- A part's pieces wait. -/
theorem PutI.part {wb : Nat} {e s f v0 : Value} {w0 : World} {target : List UInt8} {a k fi : Nat} {x : Ex} {W : List Pc} {v : Value} {p : Option Addr} {out : List UInt8} {u u' u2 : Value} {w w1 w2 : World} {n : Nat}
    (H : PutI nm nu dec E wb e s f v0 w0 target (.pt (a : Int) :: W) v p out u w) (hsh : Sh nm nu E k fi a) (hx : E[a]? = some x) (hwb : wb < w0.heap.size) (hu : u'.ownBlock = u.ownBlock) (hB : Below w.heap.size w w1)
    (hcut : w1.ownsRow w0.heap.size 59 3 u' W.length (pcsV W.reverse)) (hn : n = (exP dec E x).length) (hrow : w2.ownsRow w0.heap.size 59 3 u2 (W.length + n) (pcsV W.reverse ++ pcsV (exP dec E x).reverse)) (hg : w1.grownBy w2 u'.ownBlock) (hsn : SameOrNew u' u2 w1) :
    PutI nm nu dec E wb e s f v0 w0 target (exP dec E x ++ W) v p out u2 w2 := by
  have hsz := H.sav.size
  have hsz1 := hB.size
  have hap : ∀ g, v.ownBlock = some g → u'.ownBlock ≠ some g := fun g hg hc => H.apart g hg (hu ▸ hc)
  have hS : Sav u'.ownBlock.toList w1 w2 := ⟨hg.os, hg.tape, hg.output, hg.size, fun q hq hn => hg.block q hq fun e => hn (by simp [← e])⟩
  refine ⟨?_, ?_, ?_, H.same, ?_, ?_, ?_⟩
  · intro q hq
    rcases List.mem_append.1 hq with hq | hq
    · rcases exP_ok hsh hx q hq with h | ⟨a', k', f', h1, h2, h3⟩
      · exact .inl h
      · exact .inr ⟨a', k', f', h1, h2, h2.lt.1⟩
    · exact H.ok q (List.mem_cons_of_mem _ hq)
  · rw [List.length_append, List.reverse_append, pcsV_app, ← hn, Nat.add_comm n]
    exact hrow
  · have hw1 : WrAt wb e s f v p out w1 := H.wr.sav (sav_of_below [] hB (Nat.le_refl _)) (by simp) (fun _ _ => by simp)
    refine hw1.sav hS (fun hm => ?_) fun g hg hm => ?_
    · have := (hcut.lt wb (by simpa using hm)).1; omega
    · exact hap g hg (by simpa using hm)
  · intro g hg hc
    rcases hsn with h | ⟨g', h1, h2⟩
    · exact hap g hg (h ▸ hc)
    · rw [hc] at h1
      injection h1 with h1
      have := (H.wr.row.lt g hg).2
      omega
  · refine (H.sav.trans (sav_of_below _ hB (Nat.le_refl _))).trans' hS fun y hy => .inr (hcut.lt y (by simpa using hy)).1
  · rw [H.txt, pcsB_app, ← exT_exp hsh hx, pcsB, List.flatMap_cons]
    rfl
set_option maxRecDepth 100000 in
set_option maxHeartbeats 4000000 in
theorem wput_calls (wb : Nat) (e s f v0 : Value) (p0 : Option Addr) (out0 : List UInt8) (v : Value) (l : List Pc) (w0 : World) (hE : ExprC nm nu dec E wb e s f v0 w0) (h : WrAt wb e s f v0 p0 out0 w0) (hl : ArrAt w0 3 v l.length (pcsV l)) (hok : ∀ q ∈ l, PcOk nm nu E E.length q)
    (hw : pws (wt dec E) l ≤ 100000) (hlen : out0.length + (pcsB dec E l).length ≤ 1000000000) :
    Calls Tryz.prog 18 #[.pointer (some ⟨wb, 0, none⟩), v] w0 (PutPost wb e s f v0 w0 (out0 ++ pcsB dec E l)) := by
  obtain ⟨i0, hi0, hz0, hz1, hz2⟩ := info_parts Tryz.infoPc
  have hll : l.length ≤ 100000 := Nat.le_trans (len_pws _ l) hw
  have hF := Lib.hid (from_behind_calls v l w0 hll hl)
  have HE := Lib.hid hE
  have HT : Hid (∃ target, target = out0 ++ pcsB dec E l ∧ target.length ≤ 1000000000) := Lib.hid ⟨_, rfl, by rw [List.length_append]; exact hlen⟩
  have HW := Lib.hid h
  have HOK := Lib.hid hok
  obtain ⟨A, c, rfl, _⟩ := hl
  clear hE h hok hlen
  go_enter Tryz.func18, Tryz.ntmps18
  go_wp2_with (go_at_call 37; refine hF.out.mono ?_)
  rintro e1 w1 ⟨u, rfl, hu, hB⟩
  have hwb : wb < w0.heap.size := (Array.getElem?_eq_some_iff.1 HW.out.blk).1
  have H0 : Hid (PutI nm nu dec E wb e s f v0 w0 (out0 ++ pcsB dec E l) l v0 p0 out0 u w1) := Lib.hid
    ⟨HOK.out, by rw [List.length_reverse] at hu; exact hu, HW.out.sav (S := []) ⟨hB.os, hB.tape, hB.output, hB.size, fun k hk _ => hB.block k hk⟩ (by simp) (fun _ _ => by simp), .inl rfl,
      fun g hg hc => by have h1 := HW.out.row.lt g hg; have h2 := hu.lt g hc; omega, sav_of_below _ hB (Nat.le_refl _), rfl⟩
  clear hu hB
  go_wp2
  go_loopg [4] (pws (wt dec E) l) (fun kk u wr => ∃ (W : List Pc) (v : Value) (p : Option Addr) (out : List UInt8), pws (wt dec E) W ≤ kk ∧ kk ≤ 100000 ∧ Hid (PutI nm nu dec E wb e s f v0 w0 (out0 ++ pcsB dec E l) W v p out u wr))
  case atStart => exact ⟨l, v0, p0, out0, Nat.le_refl _, hw, H0⟩
  case round =>
    obtain ⟨W, v1, p1, out1, hkk, hk6, HI⟩ := hrel
    cases W with
    | nil =>
      have hrow := HI.out.row
      obtain ⟨A4, c4, rfl⟩ := own_sl hrow
      have HR : Hid (PutPost wb e s f v0 w0 (out0 ++ pcsB dec E l) (.returned (.tuple #[])) wr) := Lib.hid ⟨rfl, v1, p1, by
        have := HI.out.txt
        rw [show pcsB dec E [] = [] from rfl, List.append_nil] at this
        rw [this]; exact HI.out.wr, HI.out.same, HI.out.sav⟩
      clear hrow
      go_wp2
      go_end0
      exact HR.out
    | cons q W =>
      have hWl : W.length ≤ 100000 := by
        have := len_pws (wt dec E) (q :: W)
        rw [List.length_cons] at this
        omega
      have hrow := HI.out.row
      obtain ⟨A4, c4, rfl⟩ := own_sl hrow
      rw [pcs_last] at hrow
      obtain ⟨g4, cur4, rfl, hg4, hc4, hb4, hcell, hcut⟩ := row_cut hrow (by rw [pcs_len, List.length_reverse])
      have HCUT := Lib.hid hcut
      have hmax : c4 ≤ 9223372036854775807 := by
        rcases hrow.2 with ⟨h0, _⟩ | ⟨g', cap', cur', hv, _, _, _, hcm, _⟩
        · cases h0
        · injection hv with h1 h2 h3
          subst h3
          simpa [maxLen] using hcm
      have hgl : g4 < wr.heap.size := (Array.getElem?_eq_some_iff.1 hb4).1
      have HLT := Lib.hid hgl
      clear hrow hcut hb4
      have hwz : wrap64 (W.length : Int) = (W.length : Int) := (by unfold wrap64; omega)
      cases q with
      | tx b =>
        have k0 : ∀ o, (wr.alloc o).cell? ⟨g4, W.length * 3, none⟩ = some (.bool false) := fun o => cell_new (hcell 0 _ rfl) o
        have k1 : ∀ o, (wr.alloc o).cell? ⟨g4, W.length * 3 + 1, none⟩ = some (.string (bs b)) := fun o => cell_new (hcell 1 _ rfl) o
        have k2 : ∀ o, (wr.alloc o).cell? ⟨g4, W.length * 3 + 2, none⟩ = some (.int .i64 0) := fun o => cell_new (hcell 2 _ rfl) o
        have j0 := hcell 0 _ rfl
        have j1 := hcell 1 _ rfl
        have j2 := hcell 2 _ rfl
        rw [Nat.add_zero] at j0
        have HKK := Lib.hid hkk
        have HK6 := Lib.hid hk6
        clear hkk hk6 hwb hll hw
        have HWL := Lib.hid hWl
        clear hWl
        clear hcell
        go_upto_region 7 with fail
        have hBa := ((Below.refl wr.heap.size wr).alloc (Nat.le_refl _) (.cells #[.bool false, .string (bs b), .int .i64 0] 59)).drew
        have hWA : WrAt wb e s f v1 p1 out1 (wr.alloc (.cells #[.bool false, .string (bs b), .int .i64 0] 59)).drew := HI.out.wr.sav (sav_of_below [] hBa (Nat.le_refl _)) (by simp) (fun _ _ => by simp)
        have hbl : out1.length + b.length ≤ 1000000000 := by
          obtain ⟨t, ht, hl⟩ := HT.out
          rw [← ht] at HI
          have := HI.out.txt
          have h2 := congrArg List.length this
          rw [pcsB, List.flatMap_cons, List.length_append, List.length_append] at h2
          have h3 : (pcB dec E (.tx b)).length = b.length := rfl
          omega
        have hWS := Lib.hid (wstr_calls wb e s f v1 p1 out1 b _ hbl hWA)
        have m1 : (wr.alloc (.cells #[.bool false, .string (bs b), .int .i64 0] 59)).drew.cell? ⟨wr.heap.size, 1, none⟩ = some (.string (bs b)) := cellK (heap_one wr _ _) 1
        have HBA := Lib.hid hBa
        have HWB : Hid (wb < w0.heap.size) := Lib.hid (Array.getElem?_eq_some_iff.1 HW.out.blk).1
        clear hBa hWA hbl k0 k1 k2 j0 j1 j2 hwz hmax hc4 hgl hg4
        go_region_with (go_at_call 39; refine hWS.out.mono ?_; intro e2 w2 h2; have H2 := Lib.hid h2; obtain ⟨⟨nn, rfl⟩, _⟩ := h2)
        obtain ⟨v', hI'⟩ := HI.out.step (u' := .slice (some ⟨g4, 0, none⟩) W.length c4) HWB.out rfl HCUT.out HBA.out H2.out
        have HI' := Lib.hid hI'
        clear hI'
        go_wp2
        go_roundg (gk - 1)
        case measure =>
          have h1 := HKK.out
          have h2 : pws (wt dec E) (.tx b :: W) = 1 + pws (wt dec E) W := by rw [pws_cons]; rfl
          omega
        case rel =>
          have h1 := HKK.out
          have h2 : pws (wt dec E) (.tx b :: W) = 1 + pws (wt dec E) W := by rw [pws_cons]; rfl
          exact ⟨W, v', _, _, by omega, by have := HK6.out; omega, HI'.out⟩
      | pt a0 =>
        obtain ⟨a, k, fi, ha, hsh, hal⟩ : ∃ (a k fi : Nat), a0 = (a : Int) ∧ Sh nm nu E k fi a ∧ a < E.length := by
          rcases HI.out.ok (.pt a0) (by simp) with ⟨b, hb⟩ | ⟨a, k, fi, h1, h2, h3⟩
          · cases hb
          · injection h1 with h1
            exact ⟨a, k, fi, h1, h2, h3⟩
        subst ha
        have hx : E[a]? = some E[a] := List.getElem?_eq_getElem hal
        generalize E[a] = x at hx
        have k0 : ∀ o, (wr.alloc o).cell? ⟨g4, W.length * 3, none⟩ = some (.bool true) := fun o => cell_new (hcell 0 _ rfl) o
        have k1 : ∀ o, (wr.alloc o).cell? ⟨g4, W.length * 3 + 1, none⟩ = some (.string (bs [])) := fun o => cell_new (hcell 1 _ rfl) o
        have k2 : ∀ o, (wr.alloc o).cell? ⟨g4, W.length * 3 + 2, none⟩ = some (.int .i64 (a : Int)) := fun o => cell_new (hcell 2 _ rfl) o
        have j0 := hcell 0 _ rfl
        have j1 := hcell 1 _ rfl
        have j2 := hcell 2 _ rfl
        rw [Nat.add_zero] at j0
        have HKK := Lib.hid hkk
        have HK6 := Lib.hid hk6
        clear hkk hk6 hwb hll hw
        have HWL := Lib.hid hWl
        clear hWl
        clear hcell
        have hwt : pws (wt dec E) (.pt (a : Int) :: W) = 1 + wt dec E a + pws (wt dec E) W := by rw [pws_cons]; rfl
        have hxl : (exP dec E x).length ≤ wt dec E a := by rw [wt_exp hsh hx]; exact len_pws _ _
        have HXL : Hid ((exP dec E x).length + W.length ≤ 100000) := Lib.hid (by have := HKK.out; have := HK6.out; have := len_pws (wt dec E) W; omega)
        have HWT := Lib.hid hwt
        have HWE := Lib.hid (wt_exp (dec := dec) hsh hx)
        have HSH := Lib.hid hsh
        have HX := Lib.hid hx
        have HWB : Hid (wb < w0.heap.size) := Lib.hid (Array.getElem?_eq_some_iff.1 HW.out.blk).1
        have hBa := (Below.refl wr.heap.size wr).alloc (Nat.le_refl _) (.cells #[.bool true, .string (bs []), .int .i64 (a : Int)] 59)
        have hEX := Lib.hid (HE.out _ (HI.out.sav.trans (sav_of_below _ hBa (Nat.le_refl _))) v1 p1 out1 (HI.out.wr.sav (sav_of_below [] hBa (Nat.le_refl _)) (by simp) (fun _ _ => by simp)) a k fi x hsh hx)
        have HBA := Lib.hid hBa
        clear hBa hwt hxl hsh hx hal
        go_upto_region 6 with fail
        clear k0 k1 k2 j0 j1 hwz hmax hc4 hgl hg4
        go_wp2_with (go_at_call 38; refine hEX.out.mono ?_)
        intro e5 w5 h5
        obtain ⟨A5, n5, c5, rfl⟩ := h5.form
        have HB5 := Lib.hid (HBA.out.trans (h5.below.mono HBA.out.size))
        have hF5 := Lib.hid (from_behind_calls _ _ w5 (by have := HXL.out; omega) h5.arr)
        clear h5
        go_wp2_with (go_at_call 37; refine hF5.out.mono ?_)
        intro e6 w6 h6
        obtain ⟨g6, n6, c6, hn6, rfl, hc6⟩ := h6.cells (by rw [List.length_reverse]; exact exP_pos x)
        have HB6 := Lib.hid (HB5.out.trans (h6.below.mono HB5.out.size))
        have HN6 : Hid (n6 = (exP dec E x).length) := Lib.hid (by rw [hn6, List.length_reverse])
        have HC6 := Lib.hid (add_cells hc6)
        have HL6 : Hid ((pcsV (exP dec E x).reverse).length = n6 * 3) := Lib.hid (by rw [pcs_len, hn6])
        have HO6 := Lib.hid (own_below HCUT.out HB6.out)
        have hb6 : n6 + W.length ≤ 100000 := by rw [HN6.out]; exact HXL.out
        have hs6 : w0.heap.size ≤ w6.heap.size := by have := HI.out.sav.size; have := HB6.out.size; omega
        clear h6 hc6 hn6
        go_wp2_with (at_builtin; refine wpList_append_where _ rfl _ _ 97 rfl w0.heap.size 59 i0 (.agg #[.bool false, .string ⟨#[]⟩, .int .i64 0]) 3 32 Tryz.underlying97 hi0 hz0 hz1 hz2 rfl (by decide) _ _ _ rfl HO6.out ⟨g6, 0, none⟩ n6 c6 (pcsV (exP dec E x).reverse) rfl HL6.out HC6.out (pcs_one _) (by unfold maxLen; omega) (by omega) hs6 ?_; intro v7 w7 hown hgrow hsn; have HP := Lib.hid (HI.out.part (u' := .slice (some ⟨g4, 0, none⟩) W.length c4) HSH.out HX.out HWB.out rfl HB6.out HO6.out HN6.out hown hgrow hsn); clear hown hgrow hsn)
        go_roundg (gk - 1)
        case measure =>
          have h1 := HKK.out
          have h2 := HWT.out
          omega
        case rel =>
          have h1 := HKK.out
          have h2 := HWT.out
          exact ⟨exP dec E x ++ W, v1, p1, out1, by rw [pws_app, ← HWE.out]; omega, by have := HK6.out; omega, HP.out⟩
end
end Go.Proofs.YtdeflloidhbpmaaGreatDoor

namespace Go.Proofs.YtdeflloidhbpmaaGreatDoor
open Go.RowKit

section
variable {nm : List UInt8 → Prop} {nu : Nat → Prop} {dec : Nat → List UInt8} {g cl : Nat → Nat} {wb : Nat} {e s f : Value} {sg : Sg}
/-- Where a writer begins. -/
structure Base (nm : List UInt8 → Prop) (nu : Nat → Prop) (dec : Nat → List UInt8) (g cl : Nat → Nat) (wb : Nat) (e s f : Value) (sg : Sg) (v0 : Value) (w0 : World) : Prop where
  tree : TreeB nu dec g cl wb e s f sg w0
  wr : ∃ p out, WrAt wb e s f v0 p out w0
  nms : ∀ b, nm b → b.length ≤ 1000000
  few : sg.ex.length ≤ 2000
/-- What is written so far. -/
def At (wb : Nat) (e s f v0 : Value) (w0 : World) (out : List UInt8) (w : World) : Prop := ∃ v p, WrAt wb e s f v p out w ∧ SameOrNew v0 v w0 ∧ Sav (PutS wb v0) w0 w
/-- What a call that writes leaves. -/
def AtP (wb : Nat) (e s f v0 : Value) (w0 : World) (out : List UInt8) (e0 : Ending) (w : World) : Prop := e0 = .returned (.tuple #[]) ∧ At wb e s f v0 w0 out w
theorem At.below {v0 : Value} {w0 w w' : World} {out : List UInt8} (h : At wb e s f v0 w0 out w) (hB : Below w.heap.size w w') : At wb e s f v0 w0 out w' := by
  obtain ⟨v, p, h1, h2, h3⟩ := h
  exact ⟨v, p, h1.sav (sav_of_below [] hB (Nat.le_refl _)) (by simp) (fun _ _ => by simp), h2, h3.trans (sav_of_below _ hB (Nat.le_refl _))⟩
theorem Base.lo {v0 : Value} {w0 : World} (h : Base nm nu dec g cl wb e s f sg v0 w0) : wb < w0.heap.size ∧ ∀ x ∈ PutS wb v0, wb ≤ x := by
  obtain ⟨p, out, hw⟩ := h.wr
  refine ⟨(Array.getElem?_eq_some_iff.1 hw.blk).1, fun x hx => ?_⟩
  rcases List.mem_cons.1 hx with rfl | hx
  · exact Nat.le_refl _
  · have := (hw.row.lt x (by simpa using hx)).1; omega
theorem Base.at {v0 : Value} {w0 w : World} (h : Base nm nu dec g cl wb e s f sg v0 w0) {v : Value} {p : Option Addr} {out : List UInt8} (hw : WrAt wb e s f v p out w) (hS : Sav (PutS wb v0) w0 w) : Base nm nu dec g cl wb e s f sg v w :=
  ⟨h.tree.below (hS.below h.lo.2 (Nat.le_of_lt h.lo.1)), ⟨p, out, hw⟩, h.nms, h.few⟩
theorem At.refl {v0 : Value} {w0 : World} {p : Option Addr} {out : List UInt8} (h : WrAt wb e s f v0 p out w0) : At wb e s f v0 w0 out w0 := ⟨v0, p, h, .inl rfl, Sav.refl _ _⟩
theorem sav_put {v0 v : Value} {w0 w w' : World} (h1 : SameOrNew v0 v w0) (h2 : Sav (PutS wb v0) w0 w) (h3 : Sav (PutS wb v) w w') : Sav (PutS wb v0) w0 w' := h2.trans' h3 (h1.inPut wb)
/-- From a later beginning back to the first one. -/
theorem At.back {v0 v : Value} {w0 w w' : World} {out : List UInt8} (h1 : SameOrNew v0 v w0) (h2 : Sav (PutS wb v0) w0 w) (h : At wb e s f v w out w') : At wb e s f v0 w0 out w' := by
  obtain ⟨v', p, a1, a2, a3⟩ := h
  exact ⟨v', p, a1, h1.trans a2 h2.size, sav_put h1 h2 a3⟩
/-- Some pieces are written. -/
theorem At.put {v0 : Value} {w0 w : World} {out : List UInt8} (h0 : Base nm nu dec g cl wb e s f sg v0 w0) (h : At wb e s f v0 w0 out w) (vl : Value) (l : List Pc) (hl : ArrAt w 3 vl l.length (pcsV l)) (hok : ∀ q ∈ l, PcOk nm nu sg.ex sg.ex.length q)
    (hw : pws (wt dec sg.ex) l ≤ 100000) (hlen : out.length + (pcsB dec sg.ex l).length ≤ 1000000000) :
    Calls Tryz.prog 18 #[.pointer (some ⟨wb, 0, none⟩), vl] w (AtP wb e s f v0 w0 (out ++ pcsB dec sg.ex l)) := by
  obtain ⟨v, p, a1, a2, a3⟩ := h
  have hE : ExprC nm nu dec sg.ex wb e s f v w := by
    intro W hS v' p' out' hW a k fi x hsh hx
    have hS0 := sav_put a2 a3 hS
    have hB := hS0.below h0.lo.2 (Nat.le_of_lt h0.lo.1)
    exact wexpression_calls (h0.tree.below hB) hW (by have := h0.lo.1; have := hB.size; omega) h0.nms hsh hx
  refine (wput_calls wb e s f v p out vl l w hE a1 hl hok hw hlen).mono ?_
  rintro e0 w' ⟨rfl, v', p', b1, b2, b3⟩
  exact ⟨rfl, v', p', b1, a2.trans b2 a3.size, sav_put a2 a3 b3⟩
end
end Go.Proofs.YtdeflloidhbpmaaGreatDoor
