/-
  An arena of texts in memory: Put, Get, Len, All.
-/
import Derived.Test.YthbhdmkbojjjkaaArPut
namespace Go.Proofs.Ythbhdmkbojjjkaa
open Go.RowKit

theorem Try.infoStr : (Try.prog.info? 9).map (fun i => (i.zero, i.size, i.bytes)) = some (some (.string ⟨#[]⟩), 1, 16) := by kernel_rfl
/-- The cells of texts. -/
def strV (l : List ByteArray) : List Value := l.map .string
theorem strV_len (l : List ByteArray) : (strV l).length = l.length := by simp [strV]
theorem strV_get (l : List ByteArray) (i : Nat) (h : i < l.length) : (strV l)[i]? = some (.string l[i]) := by simp [strV, h]
theorem own_cell1 {w : World} {base n c g : Nat} {e : TypeId} {o : Nat} {xs : List Value} (h : w.ownsRow base e 1 (.slice (some ⟨g, o, none⟩) n c) n xs) (i : Nat) (hi : i < n) : o = 0 ∧ w.cell? ⟨g, i, none⟩ = xs[i]? ∧ w.frozen? ⟨g, i, none⟩ = false := by
  rcases h.2 with ⟨h0, _⟩ | ⟨g', cap, cur, hv, hb, hg, hnc, hcm, hcs, ht⟩
  · cases h0
  · injection hv with h1 h2 h3
    injection h1 with h1
    injection h1 with h1 h4
    subst h1 h4
    refine ⟨rfl, ?_, by simp [World.frozen?, hg]⟩
    rw [← ht, List.getElem?_take, if_pos (by omega)]
    simp [World.cell?, hg]
theorem news1 (W : World) (a : Value) (t : TypeId) (n : Nat) (hn : W.heap.size = n) : ∀ j u, [a][j]? = some u → (W.alloc (.cells #[a] t)).cell? ((⟨n, 0, none⟩ : Addr).add j) = some u := by
  subst hn
  intro j u hu
  match j with
  | 0 => simpa [Addr.add] using hu
  | j + 1 => simp at hu

/-- An arena lies at block b. -/
def ArAt (b : Nat) (v : Value) (l : List ByteArray) (w : World) : Prop :=
  w.heap[b]? = some (.cells #[v] 25) ∧ w.ownsRow (b + 1) 9 1 v l.length (strV l)
theorem ArAt.lt {b : Nat} {v : Value} {l : List ByteArray} {w : World} (h : ArAt b v l w) : b < w.heap.size := (Array.getElem?_eq_some_iff.1 h.1).1
theorem ArAt.cell {b : Nat} {v : Value} {l : List ByteArray} {w : World} (h : ArAt b v l w) : w.cell? ⟨b, 0, none⟩ = some v := by simp [World.cell?, h.1]
theorem ArAt.frozen {b : Nat} {v : Value} {l : List ByteArray} {w : World} (h : ArAt b v l w) (o : Nat) : w.frozen? ⟨b, o, none⟩ = false := by simp [World.frozen?, h.1]
theorem ArAt.below {b : Nat} {v : Value} {l : List ByteArray} {w w' : World} (h : ArAt b v l w) (hB : Below w.heap.size w w') : ArAt b v l w' :=
  ⟨(hB.block b h.lt).trans h.1, own_below h.2 hB⟩
theorem ArAt.save {b : Nat} {v : Value} {l : List ByteArray} {w w' : World} {S : List Nat} (h : ArAt b v l w) (hS : Save S w w') (hb : b ∉ S) (hv : ∀ g ∈ S, v.ownBlock ≠ some g) : ArAt b v l w' :=
  ⟨(hS.block b h.lt hb).trans h.1, own_save h.2 hS hv⟩
theorem ArAt.row {b : Nat} {v : Value} {l : List ByteArray} {w : World} (h : ArAt b v l w) : ∀ g, v.ownBlock = some g → b < g ∧ g < w.heap.size := fun g hg => h.2.lt g hg

/-- What Put answers. -/
def PutArPost (b : Nat) (v : Value) (l : List ByteArray) (s : ByteArray) (w : World) (e : Ending) (w' : World) : Prop :=
  e = .returned (.int .i64 (l.length : Int)) ∧ ∃ v', ArAt b v' (l ++ [s]) w' ∧ Save (b :: v.ownBlock.toList) w w'

set_option maxRecDepth 100000 in
set_option maxHeartbeats 1000000 in
theorem aput_calls (b : Nat) (v : Value) (l : List ByteArray) (s : ByteArray) (w : World) (hn : l.length ≤ 100000) (h : ArAt b v l w) :
    Calls Try.prog 7 #[.pointer (some ⟨b, 0, none⟩), .string s] w (PutArPost b v l s w) := by
  obtain ⟨i0, hi0, hz0, hz1, hz2⟩ := info_parts Try.infoStr
  obtain ⟨A, c, rfl⟩ := own_slice h.2
  have hc := h.cell
  have hf := h.frozen 0
  have hbl := h.lt
  have hrow := Lib.hid h.row
  have H := Lib.hid h
  clear h
  go_enter Try.func7, Try.ntmps7
  go_wp2_with (at_builtin; refine wpList_append_where _ rfl _ _ 22 rfl (b + 1) 9 i0 (.string ⟨#[]⟩) 1 16 Try.underlying22 hi0 hz0 hz1 hz2 rfl (by decide) (.slice A l.length c) _ _ rfl (H.out.2.alloc _) ⟨w.heap.size, 0, none⟩ 1 1 [.string s] rfl rfl (news1 _ _ _ _ rfl) (fun x hx => by simp at hx; subst hx; rfl) (by unfold maxLen; omega) (by omega) (by simp <;> omega) ?_; intro v' w3 hown hgrow hsn; obtain ⟨A', c', rfl⟩ := own_slice hown; have hb3 := Lib.hid ((hgrow.block b (by simp <;> omega) (fun e => by have := hrow.out b e.symm; omega)).trans ((heap_alloc_old w _ hbl).trans H.out.1)); have hf3 : w3.frozen? ⟨b, 0, none⟩ = false := (by simp [World.frozen?, hb3.out]); have hc3 : w3.cell? ⟨b, 0, none⟩ = some (.slice A l.length c) := (by simp [World.cell?, hb3.out]); have HG := Lib.hid hgrow; clear hgrow)
  go_ret
  refine ⟨rfl, .slice A' (l.length + 1) c', ⟨by rw [heap_setCell_at w3 b 0 _ _ _ _ hb3.out]; simp, ?_, ?_⟩, (((Save.refl _ w).alloc _).trans (save_grown HG.out ?_)).trans (save_setCell b 0 _ (by simp))⟩
  · simp [strV]
  · rcases hown.2 with h0 | ⟨g, cap, cur, hv, hb, hg, hr⟩
    · simp at h0
    · refine .inr ⟨g, cap, cur, by simpa using hv, hb, (heap_setCell_ne w3 b 0 _ g (by omega)).trans hg, ?_⟩
      simpa [strV] using hr
  · intro g hg; rw [hg]; simp

theorem alen_calls (b : Nat) (v : Value) (l : List ByteArray) (w : World) (h : ArAt b v l w) :
    Calls Try.prog 8 #[.pointer (some ⟨b, 0, none⟩)] w fun e w' => e = .returned (.int .i64 (l.length : Int)) ∧ w = w' := by
  obtain ⟨A, c, rfl⟩ := own_slice h.2
  have hc := h.cell
  clear h
  go_enter Try.func8, Try.ntmps8
  go_wp2
  go_ret
  exact ⟨rfl, rfl⟩

set_option maxHeartbeats 1000000 in
theorem aget_yes (b : Nat) (v : Value) (l : List ByteArray) (i : Nat) (w : World) (hn : l.length ≤ 100000) (h : ArAt b v l w) (hi : i < l.length) :
    Calls Try.prog 9 #[.pointer (some ⟨b, 0, none⟩), .int .i64 (i : Int)] w fun e w' => e = .returned (.tuple #[.string l[i], .bool true]) ∧ w = w' := by
  obtain ⟨g, cap, rfl, hbg, hgl, hnc, hcm⟩ := own_pos h.2 (by omega)
  have hc := h.cell
  have hx := (own_cell1 h.2 i hi).2.1
  rw [strV_get l i hi] at hx
  generalize l[i] = s at hx
  unfold maxLen at hcm
  have hd1 : decide ((i : Int) < 0) = false := by simp
  have hd2 : decide ((l.length : Int) ≤ (i : Int)) = false := decide_eq_false (by omega)
  have hd2' : decide (l.length ≤ i) = false := decide_eq_false (by omega)
  have hlt : (i : Int) < (l.length : Int) := by omega
  clear h
  go_enter Try.func9, Try.ntmps9
  go_wp2
  go_ret2
  exact ⟨rfl, rfl⟩

set_option maxHeartbeats 1000000 in
theorem aget_no (b : Nat) (v : Value) (l : List ByteArray) (k : Int) (w : World) (h : ArAt b v l w) (hk : k < 0 ∨ (l.length : Int) ≤ k) :
    Calls Try.prog 9 #[.pointer (some ⟨b, 0, none⟩), .int .i64 k] w fun e w' => e = .returned (.tuple #[.string ⟨#[]⟩, .bool false]) ∧ w = w' := by
  obtain ⟨A, c, rfl⟩ := own_slice h.2
  have hc := h.cell
  clear h
  rcases Classical.em (k < 0) with hneg | hneg
  · have hd1 : decide (k < 0) = true := decide_eq_true hneg
    clear hk hneg
    go_enter Try.func9, Try.ntmps9
    go_wp2
    go_ret2
    exact ⟨rfl, rfl⟩
  · have hd1 : decide (k < 0) = false := decide_eq_false hneg
    have hd2 : decide ((l.length : Int) ≤ k) = true := decide_eq_true (by omega)
    clear hk hneg
    go_enter Try.func9, Try.ntmps9
    go_wp2
    go_ret2
    exact ⟨rfl, rfl⟩

/-- What All answers: a row of its own. -/
def AllArPost (l : List ByteArray) (w : World) (e : Ending) (w' : World) : Prop :=
  ∃ v, e = .returned v ∧ w'.ownsRow w.heap.size 9 1 v l.length (strV l) ∧ Below w.heap.size w w'

set_option maxHeartbeats 1000000 in
theorem clone_calls (base : Nat) (v : Value) (l : List ByteArray) (w : World) (hn : l.length ≤ 100000) (h : w.ownsRow base 9 1 v l.length (strV l)) :
    Calls Try.prog 20 #[v] w (AllArPost l w) := by
  obtain ⟨i0, hi0, hz0, hz1, hz2⟩ := info_parts Try.infoStr
  rcases h.2 with ⟨rfl, h0⟩ | ⟨g, cap, cur, rfl, hb, hg, hnc, hcm, hcs, ht⟩
  · have H : Hid (AllArPost l w (.returned (.slice none 0 0)) w) := Lib.hid ⟨_, rfl, ⟨h.1, .inl ⟨rfl, h0⟩⟩, Below.refl _ _⟩
    clear h h0
    have hq : ∀ w : World, (binOp BinOp.eql 22 (.slice none 0 0) (.slice none 0 0)).run Try.prog w = .ok (.bool true) w := fun _ => rfl
    go_enter Try.func20, Try.ntmps20
    go_wp2
    go_ret
    exact H.out
  · have hgl := (Array.getElem?_eq_some_iff.1 hg).1
    have HC : Hid (∀ (j : Nat) (u : Value), (strV l)[j]? = some u → (w.alloc (.cells #[] 9)).cell? ((⟨g, 0, none⟩ : Addr).add j) = some u) := Lib.hid fun j u hu => by
      have hj : j < l.length := by have := (List.getElem?_eq_some_iff.1 hu).1; rwa [strV_len] at this
      have h1 := (own_cell1 h j hj).2.1
      rw [Addr.add_lit, Nat.zero_add]
      rw [hu] at h1
      simp only [World.cell?] at h1 ⊢
      rw [heap_alloc_old w _ hgl]
      exact h1
    have HO : Hid (∀ u ∈ strV l, u.oneCell' = true) := Lib.hid fun u hu => by
      simp [strV] at hu
      obtain ⟨a, _, rfl⟩ := hu
      rfl
    have HL : Hid ((strV l).length = l.length * 1) := Lib.hid (by rw [strV_len, Nat.mul_one])
    clear h hg ht hcs hb
    have hq : ∀ w : World, (binOp BinOp.eql 22 (.slice (some ⟨g, 0, none⟩) l.length cap) (.slice none 0 0)).run Try.prog w = .ok (.bool false) w := fun _ => rfl
    go_enter Try.func20, Try.ntmps20
    go_wp2_with (at_builtin; refine wpList_append_own _ rfl _ _ 22 rfl w.heap.size 9 i0 (.string ⟨#[]⟩) 1 16 Try.underlying22 hi0 hz0 hz1 hz2 rfl (by decide) (.slice (some ⟨w.heap.size, 0, none⟩) 0 0) 0 [] rfl (World.ownsRow_made w #[] 0 (Nat.le_refl _) (by decide) rfl) ⟨g, 0, none⟩ l.length cap (strV l) rfl HL.out HC.out HO.out (by unfold maxLen; omega) (by omega) (by simp <;> omega) ?_; intro v' w3 hown hgrow hsn; have HG := Lib.hid hgrow; clear hgrow)
    go_ret
    refine ⟨v', rfl, by simpa using hown, ((Below.refl _ w).alloc (Nat.le_refl _) _).trans ((save_grown (S := [w.heap.size]) HG.out ?_).below ?_ ?_)⟩
    · intro y hy; simp [Value.ownBlock] at hy; simp [hy]
    · simp
    · simp

theorem all_calls (b : Nat) (v : Value) (l : List ByteArray) (w : World) (hn : l.length ≤ 100000) (h : ArAt b v l w) :
    Calls Try.prog 10 #[.pointer (some ⟨b, 0, none⟩)] w (AllArPost l w) := by
  have hc := h.cell
  have hcl := Lib.hid (clone_calls (b + 1) v l w hn h.2)
  obtain ⟨A, c, rfl⟩ := own_slice h.2
  clear h
  go_enter Try.func10, Try.ntmps10
  go_wp2_with fail
  refine hcl.out.mono ?_
  rintro e w1 ⟨v1, rfl, ho, hB⟩
  obtain ⟨A1, c1, rfl⟩ := own_slice ho
  have H := Lib.hid (show AllArPost l w (.returned (.slice A1 l.length c1)) w1 from ⟨_, rfl, ho, hB⟩)
  clear ho hB
  go_wp2
  go_ret
  exact H.out

end Go.Proofs.Ythbhdmkbojjjkaa
