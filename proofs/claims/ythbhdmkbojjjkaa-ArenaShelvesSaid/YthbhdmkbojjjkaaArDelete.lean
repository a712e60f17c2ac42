/-
  slices.Delete of one numbered thing, in the shelf's own row.
-/
import Derived.Test.YthbhdmkbojjjkaaArPlace
import Derived.Deep.RegionLaw
import Derived.Deep.Upon
import Derived.Lib.SliceRun
namespace Go.Proofs.Ythbhdmkbojjjkaa
open Go.RowKit

theorem Try.infoNb : (Try.prog.info? 51).map (fun i => (i.zero, i.size, i.bytes)) = some (some (.agg #[.int .i64 0, .int .i64 0]), 2, 16) := by kernel_rfl
theorem Try.zeroNb (w : World) : (zeroValue 51).run Try.prog w = .ok (.agg #[.int .i64 0, .int .i64 0]) w := by rfl

theorem heap_setCell_at (w : World) (g o : Nat) (v : Value) (cur : Array Value) (t : TypeId) (fr : Nat × Nat) (hg : w.heap[g]? = some (.cells cur t fr)) : (w.setCell ⟨g, o, none⟩ v).heap[g]? = some (.cells (cur.setIfInBounds o v) t fr) := by
  simp [World.setCell, Array.getElem?_modify, hg]
theorem heap_setCell_ne (w : World) (g o : Nat) (v : Value) (k : Nat) (h : k ≠ g) : (w.setCell ⟨g, o, none⟩ v).heap[k]? = w.heap[k]? := by
  simp [World.setCell, Array.getElem?_modify, Ne.symm h]
/-- A row known whole, some of its cells set. -/
theorem setCells_row (g : Nat) (t : TypeId) (fr : Nat × Nat) : ∀ (vs : List Value) (o : Nat) (w : World) (cur : Array Value), w.heap[g]? = some (.cells cur t fr) → o + vs.length ≤ cur.size →
    ∃ cur', (w.setCells g o vs).heap[g]? = some (.cells cur' t fr) ∧ cur'.toList = cur.toList.take o ++ vs ++ cur.toList.drop (o + vs.length)
  | [], o, w, cur, hg, h => ⟨cur, hg, by simp⟩
  | v :: r, o, w, cur, hg, h => by
    simp at h
    obtain ⟨cur', h1, h2⟩ := setCells_row g t fr r (o + 1) (w.setCell ⟨g, o, none⟩ v) (cur.setIfInBounds o v) (heap_setCell_at w g o v cur t fr hg) (by simp; omega)
    refine ⟨cur', h1, ?_⟩
    have hlt : o < cur.toList.length := by simp; omega
    rw [h2, Array.toList_setIfInBounds, List.take_set, List.drop_set, if_pos (by omega)]
    have e1 : (List.take (o + 1) cur.toList).set o v = List.take o cur.toList ++ [v] := by
      have hml : (List.take o cur.toList).length = o := by rw [List.length_take]; omega
      rw [List.take_succ_eq_append_getElem hlt, List.set_append, if_neg (by rw [hml]; omega), hml, Nat.sub_self]
      rfl
    rw [e1, List.append_assoc, List.append_assoc, List.append_assoc, show o + (v :: r).length = o + 1 + r.length by simp; omega]
    rfl
theorem save_setCells (g : Nat) (o : Nat) (vs : List Value) (w : World) (hg : g < w.heap.size) : Save [g] w (w.setCells g o vs) := by
  have hb := Below.refl 0 w
  induction vs generalizing o w with
  | nil => exact Save.refl _ _
  | cons v r ih =>
    have h1 : Save [g] w (w.setCell ⟨g, o, none⟩ v) := ⟨rfl, rfl, rfl, by simp [World.setCell], fun k hk hn => heap_setCell_ne w g o v k (by simpa using hn)⟩
    exact h1.trans (ih (o + 1) _ (by simpa [World.setCell] using hg) (Below.refl _ _))
theorem zeroCells2 (n : Nat) : (Builtin.zeroCells #[Value.int .i64 0, .int .i64 0] n).toList = List.replicate (n * 2) (.int .i64 0) := by
  simp [Builtin.zeroCells]
  apply List.ext_getElem
  · simp
  · intro i h1 h2
    simp
    rcases Nat.mod_two_eq_zero_or_one i with h | h <;> simp [h]
theorem run_clear_two (w : World) (t ty : TypeId) (ht : Try.prog.underlying t = some (.slice 51)) (b o n c : Nat) (hn : 0 < n)
    (hc : ∀ j, j < n * 2 → (w.cell? ⟨b, o + j, none⟩).isSome = true) (hf : ∀ j, j < n * 2 → w.frozen? ⟨b, o + j, none⟩ = false) :
    (Builtin.clear_ #[t] ty #[.slice (some ⟨b, o, none⟩) n c]).run Try.prog w = .ok (.tuple #[]) (w.setCells b o (List.replicate (n * 2) (.int .i64 0))) := by
  have hst := run_storeCells_cells (P := Try.prog) b o (List.replicate (n * 2) (.int .i64 0)) 0 w (by simpa using hc) (by simpa using hf) (by intro v hv'; rw [List.eq_of_mem_replicate hv']; rfl)
  simp only [Nat.add_zero] at hst
  obtain ⟨m, rfl⟩ : ∃ m, n = m + 1 := ⟨n - 1, by omega⟩
  have hz : (Builtin.zeroCells (Value.agg #[.int .i64 0, .int .i64 0]).cells (m + 1)).toList = List.replicate ((m + 1) * 2) (.int .i64 0) := zeroCells2 _
  simp [Builtin.clear_, run_underlying ht, hz, hst]

set_option maxRecDepth 100000 in
set_option maxHeartbeats 1000000 in
theorem delete_walk (g n cap i : Nat) (xs : List It) (cur : Array Value) (w : World) (hx : xs.length = n) (hi : i < n) (hn : n ≤ 100000) (hg : w.heap[g]? = some (.cells cur 51 (0, 0))) (hnc : n ≤ cap) (_hcm : cap ≤ maxLen) (hcs : cur.size = cap * 2) (ht : cur.toList.take (n * 2) = flatN xs) :
    Calls Try.prog 25 #[.slice (some ⟨g, 0, none⟩) n cap, .int .i64 (i : Int), .int .i64 ((i : Int) + 1)] w fun e w' => e = .returned (.slice (some ⟨g, 0, none⟩) (n - 1) cap) ∧ w' = (w.drew.setCells g (i * 2) (flatN (xs.drop (i + 1)))).setCells g ((n - 1) * 2) (List.replicate 2 (.int .i64 0)) := by
  obtain ⟨i0, hi0, hz0, hz1, hz2⟩ := info_parts Try.infoNb
  obtain ⟨news, hnews⟩ : ∃ news, news = flatN (xs.drop (i + 1)) := ⟨_, rfl⟩
  have hlen : news.length = (n - (i + 1)) * 2 := by rw [hnews, flatN_length]; simp; omega
  have hcell : ∀ j, j < cap * 2 → (w.cell? ⟨g, j, none⟩).isSome = true ∧ w.frozen? ⟨g, j, none⟩ = false := fun j hj => by
    simp [World.cell?, World.frozen?, hg, hcs, hj]
  obtain ⟨A, hA, hsrc⟩ : ∃ A : Addr, (if cap = i + 1 then some (⟨g, 0, none⟩ : Addr) else some ⟨g, (i + 1) * 2, none⟩) = some A ∧ Hid (∀ t u, news[t]? = some u → w.drew.cell? (A.add t) = some u) := by
    by_cases h : cap = i + 1
    · refine ⟨⟨g, 0, none⟩, by simp [h], fun t u hu => ?_⟩
      have h0 : news.length = 0 := by rw [hlen]; omega
      rw [List.length_eq_zero_iff.1 h0] at hu
      simp at hu
    · refine ⟨⟨g, (i + 1) * 2, none⟩, by simp [h], fun t u hu => ?_⟩
      have htl : t < news.length := (List.getElem?_eq_some_iff.1 hu).1
      have ha : (⟨g, (i + 1) * 2, none⟩ : Addr).add t = ⟨g, (i + 1) * 2 + t, none⟩ := by unfold Addr.add; split <;> simp_all
      rw [ha]
      rw [hnews, flatN_drop, ← ht, List.getElem?_drop, List.getElem?_take] at hu
      split at hu
      · show w.cell? _ = _
        simp [World.cell?, hg]
        simpa using hu
      · cases hu
  have s1 : Hid (news.length = (n - (i + 1)) * 2) := Lib.hid hlen
  have s2 : Hid (∀ u ∈ news, u.oneCell' = true) := by
    intro u hu
    rw [hnews] at hu
    simp [flatN] at hu
    obtain ⟨a, b, _, rfl | rfl⟩ := hu <;> rfl
  have s3 : Hid (∀ t, t < news.length → (w.drew.cell? ⟨g, 0 + i * 2 + t, none⟩).isSome = true ∧ w.drew.frozen? ⟨g, 0 + i * 2 + t, none⟩ = false) := by
    intro t h
    rw [hlen] at h
    exact hcell _ (by omega)
  obtain ⟨W1, hW1⟩ : ∃ W1, W1 = w.drew.setCells g (0 + i * 2) news := ⟨_, rfl⟩
  have hcell1 : ∀ j, j < cap * 2 → (W1.cell? ⟨g, j, none⟩).isSome = true ∧ W1.frozen? ⟨g, j, none⟩ = false := fun j hj => by
    rw [hW1, World.frozen?_setCells]
    obtain ⟨cur', h1, h2⟩ := setCells_row g 51 (0, 0) news (0 + i * 2) w.drew cur hg (by rw [hlen, hcs]; omega)
    refine ⟨?_, (hcell j hj).2⟩
    have : cur'.size = cap * 2 := by rw [← Array.length_toList, h2]; simp; omega
    rw [Nat.zero_add] at h1 ⊢
    simp [World.cell?, h1, this, hj]
  have hcl : ∀ ty, (Builtin.clear_ #[43] ty #[.slice (some ⟨g, (i + (n - (i + 1))) * 2, none⟩) (n - (i + (n - (i + 1)))) (cap - (i + (n - (i + 1))))]).run Try.prog W1 = .ok (.tuple #[]) (W1.setCells g ((i + (n - (i + 1))) * 2) (List.replicate ((n - (i + (n - (i + 1)))) * 2) (.int .i64 0))) :=
    fun ty => run_clear_two W1 _ ty Try.underlying43 g _ _ _ (by omega) (fun j hj => (hcell1 _ (by omega)).1) (fun j hj => (hcell1 _ (by omega)).2)
  have hW : Hid (W1 = w.drew.setCells g (0 + i * 2) news) := Lib.hid hW1
  have HN := Lib.hid hnews
  have hic : i ≤ cap := by omega
  have hjc : i + 1 ≤ cap := by omega
  have hne : ¬ cap = i + (n - (i + 1)) := by omega
  have hq : ((i : Int) == (i : Int) + 1) = false := by simp; omega
  have k1 : (0 : Int) ≤ (i : Int) + 1 := by omega
  have k2 : (i : Int) + 1 ≤ (n : Int) := by omega
  clear hcell hcell1 hnews hlen hW1 hx ht hcs hg
  go_enter Try.func25, Try.ntmps25
  go_wp2_with fail
  go_region_law (refine step_append_room rfl (.tmp 22) (.tmp 25) 43 rfl 51 i0 2 Try.underlying43 hi0 hz1 g 0 i cap (by simp [Act.eval, Act.put]) A (n - (i + 1)) (cap - (i + 1)) news (by simp [Act.eval, Act.put]) s1.out hsrc.out s2.out (by omega) s3.out ?_; rw [← hW.out])
  go_wp2
  go_ret
  have e1 : i + (n - (i + 1)) = n - 1 := by omega
  refine ⟨by rw [e1]; rfl, ?_⟩
  rw [hW.out, HN.out, e1, Nat.zero_add, show (n - (n - 1)) * 2 = 2 by omega]

theorem save_drew (S : List Nat) (w : World) : Save S w w.drew := ⟨rfl, rfl, rfl, Nat.le_refl _, fun _ _ _ => rfl⟩

/-- Of a row that the call owns one thing is taken out. -/
theorem delete_calls (base g n cap i : Nat) (xs : List It) (w : World) (h : w.ownsRow base 51 2 (.slice (some ⟨g, 0, none⟩) n cap) n (flatN xs)) (hi : i < n) (hn : n ≤ 100000) :
    Calls Try.prog 25 #[.slice (some ⟨g, 0, none⟩) n cap, .int .i64 (i : Int), .int .i64 ((i : Int) + 1)] w fun e w' => e = .returned (.slice (some ⟨g, 0, none⟩) (n - 1) cap) ∧ w'.ownsRow base 51 2 (.slice (some ⟨g, 0, none⟩) (n - 1) cap) (n - 1) (flatN (xs.eraseIdx i)) ∧ Save [g] w w' := by
  have hl := h.1
  rw [flatN_length] at hl
  obtain ⟨cur, hb, hg, hnc, hcm, hcs, ht⟩ : ∃ cur : Array Value, base ≤ g ∧ w.heap[g]? = some (.cells cur 51) ∧ n ≤ cap ∧ cap ≤ maxLen ∧ cur.size = cap * 2 ∧ cur.toList.take (n * 2) = flatN xs := by
    rcases h.2 with ⟨h0, _⟩ | ⟨g', cap', cur, hv, hb, hg, hnc, hcm, hcs, ht⟩
    · cases h0
    · injection hv with h1 h2 h3
      injection h1 with h1
      injection h1 with h1
      subst h1 h3
      exact ⟨cur, hb, hg, hnc, hcm, hcs, ht⟩
  have hglt := (Array.getElem?_eq_some_iff.1 hg).1
  refine (delete_walk g n cap i xs cur w (by omega) hi hn hg hnc hcm hcs ht).mono ?_
  rintro e w' ⟨rfl, rfl⟩
  have hdl : (flatN (xs.drop (i + 1))).length = (n - (i + 1)) * 2 := by rw [flatN_length]; simp; omega
  obtain ⟨c1, h1, l1⟩ := setCells_row g 51 (0, 0) (flatN (xs.drop (i + 1))) (i * 2) w.drew cur hg (by rw [hdl, hcs]; omega)
  have s1 : c1.size = cap * 2 := by
    rw [← Array.length_toList, l1]; simp [hdl]; omega
  obtain ⟨c2, h2, l2⟩ := setCells_row g 51 (0, 0) (List.replicate 2 (Value.int .i64 0)) ((n - 1) * 2) _ c1 h1 (by simp; omega)
  have s2 : c2.size = cap * 2 := by
    rw [← Array.length_toList, l2]; simp; omega
  refine ⟨rfl, ⟨by rw [flatN_length, List.length_eraseIdx]; split <;> omega, .inr ⟨g, cap, c2, rfl, hb, h2, by omega, hcm, s2, ?_⟩⟩, ?_⟩
  · have e1 : (cur.toList.take (i * 2)) = flatN (xs.take i) := by
      rw [flatN_take, ← ht, List.take_take, Nat.min_eq_left (by omega)]
    have e2 : (flatN (xs.take i)).length = i * 2 := by rw [flatN_length]; simp; omega
    rw [l2, List.append_assoc, List.take_append_of_le_length (by simp; omega), List.take_take, Nat.min_eq_left (Nat.le_refl _), l1, e1, List.eraseIdx_eq_take_drop_succ, flatN_append]
    exact List.take_left' (by rw [List.length_append, e2, hdl]; omega)
  · refine (save_drew _ w).trans ((save_setCells g _ _ _ ?_).trans (save_setCells g _ _ _ ?_))
    · exact hglt
    · exact (Array.getElem?_eq_some_iff.1 h1).1

end Go.Proofs.Ythbhdmkbojjjkaa
