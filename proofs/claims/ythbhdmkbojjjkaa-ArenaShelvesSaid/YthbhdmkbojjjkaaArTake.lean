/-
  A shelf in memory; take: a thing is taken off it, if it is there.
-/
import Derived.Test.YthbhdmkbojjjkaaArDelete
namespace Go.Proofs.Ythbhdmkbojjjkaa
open Go.RowKit

theorem own_below {w w' : World} {base n : Nat} {e : TypeId} {size : Nat} {v : Value} {xs : List Value} (h : w.ownsRow base e size v n xs) (hB : Below w.heap.size w w') : w'.ownsRow base e size v n xs := by
  refine ⟨h.1, ?_⟩
  rcases h.2 with h0 | ⟨g, cap, cur, hv, hb, hg, hnc, hcm, hcs, ht⟩
  · exact .inl h0
  · exact .inr ⟨g, cap, cur, hv, hb, (hB.block g (Array.getElem?_eq_some_iff.1 hg).1).trans hg, hnc, hcm, hcs, ht⟩
theorem own_save {w w' : World} {base n : Nat} {e : TypeId} {size : Nat} {v : Value} {xs : List Value} {S : List Nat} (h : w.ownsRow base e size v n xs) (hS : Save S w w') (hn : ∀ g ∈ S, v.ownBlock ≠ some g) : w'.ownsRow base e size v n xs := by
  refine ⟨h.1, ?_⟩
  rcases h.2 with h0 | ⟨g, cap, cur, hv, hb, hg, hnc, hcm, hcs, ht⟩
  · exact .inl h0
  · subst hv
    exact .inr ⟨g, cap, cur, rfl, hb, (hS.block g (Array.getElem?_eq_some_iff.1 hg).1 (fun hm => hn g hm rfl)).trans hg, hnc, hcm, hcs, ht⟩
theorem own_slice {w : World} {base n : Nat} {e : TypeId} {size : Nat} {v : Value} {xs : List Value} (h : w.ownsRow base e size v n xs) : ∃ A c, v = .slice A n c := by
  rcases h.2 with ⟨rfl, rfl⟩ | ⟨g, cap, cur, rfl, _⟩
  · exact ⟨_, _, rfl⟩
  · exact ⟨_, _, rfl⟩
theorem own_pos {w : World} {base n : Nat} {e : TypeId} {size : Nat} {v : Value} {xs : List Value} (h : w.ownsRow base e size v n xs) (hn : 0 < n) : ∃ g cap, v = .slice (some ⟨g, 0, none⟩) n cap ∧ base ≤ g ∧ g < w.heap.size ∧ n ≤ cap ∧ cap ≤ maxLen := by
  rcases h.2 with ⟨_, h0⟩ | ⟨g, cap, cur, hv, h1, h2, h3, h4, _⟩
  · omega
  · exact ⟨g, cap, hv, h1, (Array.getElem?_eq_some_iff.1 h2).1, h3, h4⟩

/-- A shelf lies at block b: its room, how many were fetched, the slice of what it keeps, the one asked the longest time ago first. -/
def ShAt (b : Nat) (room f : Int) (v : Value) (xs : List It) (w : World) : Prop :=
  w.heap[b]? = some (.cells #[.int .i64 room, .int .i64 f, v] 45) ∧ w.ownsRow (b + 1) 51 2 v xs.length (flatN xs)
theorem ShAt.lt {b : Nat} {room f : Int} {v : Value} {xs : List It} {w : World} (h : ShAt b room f v xs w) : b < w.heap.size := (Array.getElem?_eq_some_iff.1 h.1).1
theorem ShAt.cell {b : Nat} {room f : Int} {v : Value} {xs : List It} {w : World} (h : ShAt b room f v xs w) : w.cell? ⟨b, 0, none⟩ = some (.int .i64 room) ∧ w.cell? ⟨b, 1, none⟩ = some (.int .i64 f) ∧ w.cell? ⟨b, 2, none⟩ = some v := by
  refine ⟨?_, ?_, ?_⟩ <;> simp [World.cell?, h.1]
theorem ShAt.frozen {b : Nat} {room f : Int} {v : Value} {xs : List It} {w : World} (h : ShAt b room f v xs w) (o : Nat) : w.frozen? ⟨b, o, none⟩ = false := by
  simp [World.frozen?, h.1]
theorem ShAt.below {b : Nat} {room f : Int} {v : Value} {xs : List It} {w w' : World} (h : ShAt b room f v xs w) (hB : Below w.heap.size w w') : ShAt b room f v xs w' :=
  ⟨(hB.block b h.lt).trans h.1, own_below h.2 hB⟩
theorem ShAt.save {b : Nat} {room f : Int} {v : Value} {xs : List It} {w w' : World} {S : List Nat} (h : ShAt b room f v xs w) (hS : Save S w w') (hb : b ∉ S) (hv : ∀ g ∈ S, v.ownBlock ≠ some g) : ShAt b room f v xs w' :=
  ⟨(hS.block b h.lt hb).trans h.1, own_save h.2 hS hv⟩
theorem ShAt.row {b : Nat} {room f : Int} {v : Value} {xs : List It} {w : World} (h : ShAt b room f v xs w) : ∀ g, v.ownBlock = some g → b < g ∧ g < w.heap.size := fun g hg => by
  obtain ⟨A, c, rfl⟩ := own_slice h.2
  rcases h.2.2 with ⟨h0, _⟩ | ⟨g', cap, cur, hv, h1, h2, _⟩
  · injection h0 with h0; subst h0; cases hg
  · injection hv with hv; subst hv; injection hg with hg; subst hg
    exact ⟨h1, (Array.getElem?_eq_some_iff.1 h2).1⟩
/-- Another slice is stored into the shelf. -/
theorem ShAt.put {b : Nat} {room f : Int} {v v' : Value} {ys : List It} {w : World} (h : w.heap[b]? = some (.cells #[.int .i64 room, .int .i64 f, v] 45)) (ho : w.ownsRow (b + 1) 51 2 v' ys.length (flatN ys)) : ShAt b room f v' ys (w.setCell ⟨b, 2, none⟩ v') := by
  refine ⟨by rw [heap_setCell_at w b 2 v' _ _ _ h]; simp, ⟨ho.1, ?_⟩⟩
  rcases ho.2 with h0 | ⟨g, cap, cur, hv, hb, hg, hr⟩
  · exact .inl h0
  · exact .inr ⟨g, cap, cur, hv, hb, (heap_setCell_ne w b 2 v' g (by omega)).trans hg, hr⟩
theorem save_setCell {S : List Nat} {w : World} (b o : Nat) (v : Value) (hb : b ∈ S) : Save S w (w.setCell ⟨b, o, none⟩ v) :=
  ⟨rfl, rfl, rfl, by simp [World.setCell], fun k _ hn => heap_setCell_ne w b o v k (fun e => hn (e ▸ hb))⟩

set_option maxHeartbeats 1000000 in
/-- It isn't there. -/
theorem take_no (b : Nat) (room f : Int) (v : Value) (xs : List It) (k : Int) (w : World) (hn : xs.length ≤ 100000) (h : ShAt b room f v xs w) (hk : plc k xs = -1) :
    Calls Try.prog 21 #[.pointer (some ⟨b, 0, none⟩), .int .i64 k] w fun e w' => e = .returned (.tuple #[.int .i64 0, .bool false]) ∧ Below w.heap.size w w' := by
  obtain ⟨A, c, rfl⟩ := own_slice h.2
  have hp := Lib.hid (place_calls b A xs.length c xs k w hn h.lt h.cell.2.2 (nbAt_of_own h.2))
  rw [hk] at hp
  clear hk
  go_enter Try.func21, Try.ntmps21
  go_wp2_with ((with_reducible refine hp.out.mono ?_); rintro e w' ⟨rfl, hB⟩)
  go_ret2
  exact ⟨rfl, hB⟩

/-- What take answers, if the thing is there. -/
def Took (b : Nat) (room f : Int) (v : Value) (xs : List It) (i : Nat) (x : Int) (w : World) (e : Ending) (w' : World) : Prop :=
  e = .returned (.tuple #[.int .i64 x, .bool true]) ∧ ∃ v', ShAt b room f v' (xs.eraseIdx i) w' ∧ Save (b :: v.ownBlock.toList) w w' ∧ v'.ownBlock = v.ownBlock

set_option maxHeartbeats 1000000 in
/-- It is there. -/
theorem take_yes (b : Nat) (room f : Int) (v : Value) (xs : List It) (k : Int) (i : Nat) (w : World) (hn : xs.length ≤ 100000) (h : ShAt b room f v xs w) (hi : i < xs.length) (hk : plc k xs = i) :
    Calls Try.prog 21 #[.pointer (some ⟨b, 0, none⟩), .int .i64 k] w (Took b room f v xs i (xs[i]).2 w) := by
  obtain ⟨g, cap, rfl, hbg, hg, hnc, hcm⟩ := own_pos h.2 (by omega)
  have hp := Lib.hid (place_calls b (some ⟨g, 0, none⟩) xs.length cap xs k w hn h.lt h.cell.2.2 (nbAt_of_own h.2))
  rw [hk] at hp
  have HX : Hid (∀ w1 : World, Below w.heap.size w w1 → w1.cell? ⟨g, i * 2 + 1, none⟩ = some (.int .i64 (xs[i]).2)) := Lib.hid fun w1 hB => by
    obtain ⟨g', hg', _, hc⟩ := (nbAt_of_own h.2).2 (by omega)
    injection hg' with hg'
    injection hg' with hg'
    subst hg'
    exact (hB.cell (p := ⟨g, i * 2 + 1, none⟩) hg).trans (hc i hi).2
  have H := Lib.hid h
  unfold maxLen at hcm
  generalize (xs[i]).2 = x at HX
  have hneg : decide ((i : Int) < 0) = false := by simp
  have hlt : (i : Int) < xs.length := by omega
  have hi0 : (0 : Int) ≤ (i : Int) := by omega
  have hbl := h.lt
  have hgb : ¬ g = b := by omega
  clear hk h
  go_enter Try.func21, Try.ntmps21
  go_wp2_with fail
  refine hp.out.mono ?_
  rintro e w1 ⟨rfl, hB⟩
  have hx := HX.out w1 hB
  have H1 := Lib.hid (H.out.below hB)
  have hc2 := H1.out.cell.2.2
  have hd := Lib.hid (delete_calls (b + 1) g xs.length cap i xs w1 H1.out.2 hi hn)
  go_wp2_with fail
  refine hd.out.mono ?_
  rintro e w2 ⟨rfl, ho, hs⟩
  have hb2 := Lib.hid ((hs.block b H1.out.lt (by simp; omega)).trans H1.out.1)
  have hf2 : w2.frozen? ⟨b, 2, none⟩ = false := by simp [World.frozen?, hb2.out]
  have hc2' : (w2.cell? ⟨b, 2, none⟩) = some (.slice (some ⟨g, 0, none⟩) xs.length cap) := by simp [World.cell?, hb2.out]
  go_wp2
  go_ret2
  refine ⟨rfl, _, ShAt.put hb2.out ?_, ?_, rfl⟩
  · rw [List.length_eraseIdx, if_pos hi]; exact ho
  · refine ((save_of_below _ hB (Nat.le_refl _)).trans (hs.mono ?_)).trans (save_setCell b 2 _ (by simp))
    intro y hy; simp at hy; subst hy; simp [Value.ownBlock]

end Go.Proofs.Ythbhdmkbojjjkaa
