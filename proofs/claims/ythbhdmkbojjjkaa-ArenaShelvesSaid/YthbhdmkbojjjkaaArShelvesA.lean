/-
  Ask with a fetch that counts its calls; what the statement ArenaShelves knows at the head of a round.
-/
import Derived.Test.YthbhdmkbojjjkaaArMath
import Derived.Test.YthbhdmkbojjjkaaArgs
namespace Go.Proofs.Ythbhdmkbojjjkaa
open Go.RowKit

theorem enter_count (args : Array Value) (w : World) : (callFunc 13 args).run Try.prog w = .ok (.enter 13 args) w := by
  simp [go_sem]
theorem count_calls (k : Int) (h0 : 0 ≤ k) (h1 : k ≤ 15) (cb : Nat) (w : World) (hc : w.cell? ⟨cb, 0, none⟩ = some (.int .i64 0)) (hf : w.frozen? ⟨cb, 0, none⟩ = false) :
    Calls Try.prog 13 #[.int .i64 k, .pointer (some ⟨cb, 0, none⟩)] w fun e w' => e = .returned (.int .i64 (10 * k)) ∧ w.setCell ⟨cb, 0, none⟩ (.int .i64 1) = w' := by
  go_enter Try.func13, Try.ntmps13
  go_wp2
  go_ret
  exact ⟨rfl, rfl⟩

/-- What Ask answers, and what the count says. -/
def AskedCount (b : Nat) (room f : Int) (v : Value) (xs : List It) (k : Int) (cb : Nat) (w : World) (e : Ending) (w' : World) : Prop :=
  e = .returned (.int .i64 (10 * k)) ∧ ∃ v', ShAt b room (askF f xs k) v' (askS room xs k (10 * k)) w' ∧ w'.cell? ⟨cb, 0, none⟩ = some (.int .i64 (if k ∈ keys xs then 0 else 1)) ∧ Save (cb :: b :: v.ownBlock.toList) w w' ∧ SameOrNew v v' w

theorem ask_count (b : Nat) (room f : Int) (v : Value) (xs : List It) (k : Int) (cb : Nat) (w : World) (hn : xs.length ≤ 10000) (hf0 : 0 ≤ f) (hf1 : f ≤ 100000) (h : ShAt b room f v xs w)
    (hx : ∀ p ∈ xs, p.2 = 10 * p.1) (h0 : 0 ≤ k) (h1 : k ≤ 15) (hc : w.cell? ⟨cb, 0, none⟩ = some (.int .i64 0)) (hf : w.frozen? ⟨cb, 0, none⟩ = false) (hcb : cb ≠ b) (hcv : v.ownBlock ≠ some cb) :
    Calls Try.prog 12 #[.pointer (some ⟨b, 0, none⟩), .int .i64 k, .func (.func 13) #[] #[.pointer (some ⟨cb, 0, none⟩)]] w (AskedCount b room f v xs k cb w) := by
  have hcl : cb < w.heap.size := World.block_lt_of_cell? w ⟨cb, 0, none⟩ hc
  rcases plc_cases k xs with hk | ⟨i, hi, hk, hki⟩
  · refine (ask_fetched b room f v xs k (10 * k) 13 #[.pointer (some ⟨cb, 0, none⟩)] [cb] (fun w1 w2 => w1.cell? ⟨cb, 0, none⟩ = some (.int .i64 0) ∧ w1.setCell ⟨cb, 0, none⟩ (.int .i64 1) = w2) w hn hf0 hf1 h hk enter_count
      (fun w1 hB => (count_calls k h0 h1 cb w1 ((hB.cell (p := ⟨cb, 0, none⟩) hcl).trans hc) ((hB.frozen (p := ⟨cb, 0, none⟩) hcl).trans hf)).mono fun e w2 h2 => ⟨h2.1, (hB.cell (p := ⟨cb, 0, none⟩) hcl).trans hc, h2.2⟩)
      (fun w1 w2 e => e.2 ▸ save_setCell cb 0 _ (by simp)) (by simp; exact fun e => hcb e.symm) (by simpa using hcv)).mono ?_
    rintro e w' ⟨rfl, v', w1, w2, g1, hB, ⟨hc1, rfl⟩, hs, ho⟩
    refine ⟨rfl, v', ?_, ?_, (save_of_below _ hB (Nat.le_refl _)).trans ((save_setCell cb 0 _ (by simp)).trans (hs.mono (fun y hy => by simp at hy ⊢; exact .inr hy))), ho⟩
    · unfold askF askS
      rw [if_pos hk, if_pos hk]
      exact g1
    · rw [if_neg ((plc_mem k xs).1 hk)]
      exact hs.cell (World.cell?_setCell_same (h := hc1) ..) (by
        simp
        exact ⟨hcb, fun e => hcv e⟩)
  · have hx' : (xs[i]).2 = 10 * k := by rw [hx _ (List.getElem_mem hi), hki]
    have hin : k ∈ keys xs := Classical.byContradiction fun e => by have := (plc_mem k xs).2 e; omega
    refine (ask_there b room f v xs k _ i w hn h hi hk).mono ?_
    rintro e w' ⟨rfl, v', g1, hs, ho⟩
    rw [hx'] at g1
    refine ⟨by rw [hx'], v', ?_, ?_, hs.mono (fun y hy => List.mem_cons_of_mem _ hy), ho⟩
    · unfold askF askS
      rw [if_neg (by omega), if_neg (by omega), hk]
      exact g1
    · rw [if_pos hin]
      exact hs.cell hc (by
        simp
        exact ⟨hcb, fun e => hcv e⟩)

/-- A slice value reads as the numbers ks, in a block above lo. -/
def InAt (w : World) (lo : Nat) (A : Option Addr) (n : Nat) (ks : List Int) : Prop :=
  ks.length = n ∧ (0 < n → ∃ b off, A = some ⟨b, off, none⟩ ∧ lo < b ∧ b < w.heap.size ∧ ∀ i (h : i < ks.length), w.cell? ⟨b, off + i, none⟩ = some (.int .i64 ks[i]))
theorem InAt.save {w w' : World} {lo : Nat} {A : Option Addr} {n : Nat} {ks : List Int} {S : List Nat} (h : InAt w lo A n ks) (hS : Save S w w') (hA : ∀ b off, A = some ⟨b, off, none⟩ → lo < b → b < w.heap.size → b ∉ S) : InAt w' lo A n ks :=
  ⟨h.1, fun hn => by
    obtain ⟨b, off, rfl, hlo, hlt, hc⟩ := h.2 hn
    exact ⟨b, off, rfl, hlo, Nat.lt_of_lt_of_le hlt hS.size, fun i hi => hS.cell (hc i hi) (hA b off rfl hlo hlt)⟩⟩
theorem InAt.get {w : World} {lo : Nat} {A : Option Addr} {n : Nat} {ks : List Int} (h : InAt w lo A n ks) (i : Nat) (hi : i < n) : ∃ b off, A = some ⟨b, off, none⟩ ∧ lo < b ∧ b < w.heap.size ∧ ∃ h : i < ks.length, w.cell? ⟨b, off + i, none⟩ = some (.int .i64 ks[i]) := by
  obtain ⟨b, off, e, hlo, hlt, hc⟩ := h.2 (by omega)
  have hx : i < ks.length := by rw [h.1]; exact hi
  exact ⟨b, off, e, hlo, hlt, hx, hc i hx⟩

/-- The numbers but one, of those gone through. -/
def Lq (ks : List Int) (q : Int) (j : Nat) : List Int := (ks.take j).filter (· ≠ q)
theorem Lq_succ (ks : List Int) (q : Int) (j : Nat) (h : j < ks.length) : Lq ks q (j + 1) = if ks[j] = q then Lq ks q j else Lq ks q j ++ [ks[j]] := by
  unfold Lq
  rw [List.take_succ_eq_append_getElem h, List.filter_append]
  by_cases e : ks[j] = q
  · rw [if_pos e, List.filter_cons, if_neg (by simpa using e)]; simp
  · rw [if_neg e, List.filter_cons, if_pos (by simpa using e)]; simp
theorem Lq_len (ks : List Int) (q : Int) (j : Nat) : (Lq ks q j).length ≤ ks.length := by
  unfold Lq
  have := List.length_filter_le (fun x => decide (x ≠ q)) (ks.take j)
  rw [List.length_take] at this
  omega
theorem mem_take_succ (ks : List Int) (q : Int) (j : Nat) (h : j < ks.length) : decide (q ∈ ks.take (j + 1)) = (decide (q ∈ ks.take j) || decide (ks[j] = q)) := by
  have hm : q ∈ ks.take (j + 1) ↔ (q ∈ ks.take j ∨ ks[j] = q) := by
    rw [List.take_succ_eq_append_getElem h, List.mem_append, List.mem_singleton]
    exact ⟨fun h => h.imp id Eq.symm, fun h => h.imp id Eq.symm⟩
  rw [Bool.eq_iff_iff, decide_eq_true_iff, Bool.or_eq_true, decide_eq_true_iff, decide_eq_true_iff]
  exact hm

/-- What holds at the head of a round. -/
structure ShelvesI (w1 : World) (b1 : Nat) (room f : Int) (va : Value) (xa : List It) (A : Option Addr) (k : Nat) (wr : World) : Prop where
  low : Below w1.heap.size w1 wr
  a : ShAt b1 (roomS room) f va xa wr
  m : InAt wr b1 A xa.length (keys xa)
  sep : ∀ g off, A = some ⟨g, off, none⟩ → va.ownBlock ≠ some g
  val : ∀ p ∈ xa, p.2 = 10 * p.1
  nod : (keys xa).Nodup
  len : (xa.length : Int) ≤ roomS room
  fet : 0 ≤ f ∧ f ≤ k

/-- A round. -/
theorem shelves_step {w1 wq w5 w7 : World} {b1 : Nat} {room f q : Int} {va va' : Value} {xa : List It} {A A' : Option Addr} {k : Nat} (h : ShelvesI w1 b1 room f va xa A k wq) (hb1 : w1.heap.size ≤ b1)
    (a5 : ShAt b1 (roomS room) (askF f xa q) va' (askS (roomS room) xa q (10 * q)) w5) (s5 : Save (b1 :: va.ownBlock.toList) wq w5) (h7 : Below w5.heap.size w5 w7)
    (m7 : InAt w7 b1 A' (askS (roomS room) xa q (10 * q)).length (keys (askS (roomS room) xa q (10 * q)))) (hA7 : ∀ g o, A' = some ⟨g, o, none⟩ → w5.heap.size ≤ g) :
    ShelvesI w1 b1 room (askF f xa q) va' (askS (roomS room) xa q (10 * q)) A' (k + 1) w7 := by
  have hal := h.a.lt
  have ks := keys_askS (roomS room) xa q (10 * q) h.nod
  have zl := h.low.size
  have z5 := s5.size
  refine ⟨?_, a5.below h7, m7, fun g o hA e => ?_, askS_vals (roomS room) xa q (fun k => 10 * k) h.val, ?_, ?_, ?_⟩
  · exact (below_asked h.low s5 hb1 (fun g hg => (h.a.row g hg).1) zl).trans (h7.mono (by omega))
  · have := hA7 g o hA
    have := (a5.row g e).2
    omega
  · rw [ks]; exact keyS_nodup _ _ _ h.nod
  · rw [← keys_len, ks]
    exact keyS_len _ _ _ (roomS_le room).1 (by rw [keys_len]; exact h.len)
  · rw [askF_key]
    have := h.fet
    split <;> omega

end Go.Proofs.Ythbhdmkbojjjkaa
