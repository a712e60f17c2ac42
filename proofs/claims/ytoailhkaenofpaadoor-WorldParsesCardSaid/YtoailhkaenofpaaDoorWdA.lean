/-
  Layer 12's memory: rows, boxes, what calls leave as it was; what the library's variables hold; Itoa and Atoi.
-/
import Derived.Test.YtoailhkaenofpaaDoorWdM
import Derived.Test.YtoailhkaenofpaaDoorCoX
import Derived.WalkSpells
import Derived.WalkSmall
import Derived.Below
import Derived.Lib.Hide
import Derived.Laws.AppendOwn
import Derived.OwnWalk
import Derived.LoopTactic
import Derived.RegionTactic
namespace Go.Proofs.YtoailhkaenofpaaDoor
open Go.RowKit

theorem bcell {W w1 : World} {B : Nat} (hb : Below B W w1) : (∀ b o, b < B → w1.cell? ⟨b, o, none⟩ = W.cell? ⟨b, o, none⟩) ∧ (∀ b o, b < B → w1.frozen? ⟨b, o, none⟩ = W.frozen? ⟨b, o, none⟩) :=
  ⟨fun b o h => hb.cell (p := ⟨b, o, none⟩) h, fun b o h => hb.frozen (p := ⟨b, o, none⟩) h⟩
theorem heapOne (W : World) (cs : Array Value) (t : TypeId) : (W.alloc (.cells cs t)).heap[W.heap.size]? = some (.cells cs t (0, 0)) := by
  show (W.heap.push _)[W.heap.size]? = _
  simp
theorem cellC {w : World} {g : Nat} {a : Array Value} {t : TypeId} {fr : Nat × Nat} (h : w.heap[g]? = some (.cells a t fr)) (o : Nat) : w.cell? ⟨g, o, none⟩ = a[o]? := by simp [World.cell?, h]
theorem newC {w : World} {g o : Nat} {u : Value} (h : w.cell? ⟨g, o, none⟩ = some u) (b : Obj) : (w.alloc b).cell? ⟨g, o, none⟩ = some u := by
  have hg : g < w.heap.size := World.block_lt_of_cell? w ⟨g, o, none⟩ h
  simp only [World.cell?] at h ⊢
  rw [Below.heap_alloc w _ g hg]
  exact h
theorem keepC {w w' : World} {g o B : Nat} {u : Value} (hb : Below B w w') (h : w.cell? ⟨g, o, none⟩ = some u) (hg : g < B) : w'.cell? ⟨g, o, none⟩ = some u := (hb.cell (p := ⟨g, o, none⟩) hg).trans h
theorem ltC {w : World} {g o : Nat} {u : Value} (h : w.cell? ⟨g, o, none⟩ = some u) : g < w.heap.size := World.block_lt_of_cell? w ⟨g, o, none⟩ h
theorem below_drewC {B : Nat} {a w : World} (h : Below B a w) (n : Nat) : Below B a (w.drewN n) := ⟨h.os, h.tape, h.output, h.size, h.block⟩
def intsL (hs : List Int) : List Value := hs.map fun x => Value.int .i64 x
theorem Tryd.infoInt : (Tryd.prog.info? 3).map (fun i => (i.zero, i.size, i.bytes)) = some (some (.int .i64 0), 1, 8) := by kernel_rfl
theorem own_keepC {w w' : World} {base n : Nat} {e : TypeId} {size : Nat} {v : Value} {xs : List Value} (h : w.ownsRow base e size v n xs) (hk : ∀ g, v.ownBlock = some g → w'.heap[g]? = w.heap[g]?) : w'.ownsRow base e size v n xs := by
  refine ⟨h.1, ?_⟩
  rcases h.2 with h0 | ⟨g, cap, cur, rfl, hb, hg, h1, h2, h3, h4⟩
  · exact .inl h0
  · exact .inr ⟨g, cap, cur, rfl, hb, by rw [hk g rfl]; exact hg, h1, h2, h3, h4⟩
theorem own_ltC {w : World} {base n : Nat} {e : TypeId} {size : Nat} {v : Value} {xs : List Value} (h : w.ownsRow base e size v n xs) (g : Nat) (hg : v.ownBlock = some g) : base ≤ g ∧ g < w.heap.size := h.lt g hg
theorem blkLt {w : World} {B : Nat} {o : Obj} (h : w.heap[B]? = some o) : B < w.heap.size := (Array.getElem?_eq_some_iff.1 h).1
theorem setAt (w : World) (g o : Nat) (v : Value) (cur : Array Value) (t : TypeId) (fr : Nat × Nat) (hg : w.heap[g]? = some (.cells cur t fr)) : (w.setCell ⟨g, o, none⟩ v).heap[g]? = some (.cells (cur.setIfInBounds o v) t fr) := by
  simp [World.setCell, Array.getElem?_modify, hg]
theorem setNe (w : World) (g o : Nat) (v : Value) (k : Nat) (h : k ≠ g) : (w.setCell ⟨g, o, none⟩ v).heap[k]? = w.heap[k]? := by
  simp [World.setCell, Array.getElem?_modify, Ne.symm h]
theorem own_sliceC {w : World} {base n : Nat} {e : TypeId} {size : Nat} {v : Value} {xs : List Value} (h : w.ownsRow base e size v n xs) : ∃ A c, v = .slice A n c := by
  rcases h.2 with ⟨rfl, rfl⟩ | ⟨g, cap, cur, rfl, _⟩
  · exact ⟨_, _, rfl⟩
  · exact ⟨_, _, rfl⟩
theorem newsI (W : World) (a : Value) (t : TypeId) (n : Nat) (hn : W.heap.size = n) : ∀ j u, [a][j]? = some u → (W.alloc (.cells #[a] t)).cell? ((⟨n, 0, none⟩ : Addr).add j) = some u := by
  subst hn
  intro j u hu
  match j with
  | 0 => simpa [Addr.add] using hu
  | j + 1 => simp at hu
theorem oneI (x : Int) : ∀ u ∈ [Value.int .i64 x], u.oneCell' = true := by
  intro u hu; simp at hu; subst hu; rfl
theorem Tryd.gPow : Tryd.prog.globalNamed "internal/strconv.uint64pow10" = some 0 := by kernel_rfl
theorem tabIs_keep {w w' : World} {B : Nat} (h : Lib.TabIs Tryd.prog w "internal/strconv.uint64pow10" .u64 Lib.pow10Tab) (hb : Below B w w') (hB : w.heap.size ≤ B) : Lib.TabIs Tryd.prog w' "internal/strconv.uint64pow10" .u64 Lib.pow10Tab := by
  unfold Lib.TabIs World.var? at h ⊢
  rw [Tryd.gPow] at h ⊢
  simp only [Option.bind_some] at h ⊢
  have hlt : 0 < w.heap.size := by
    rcases Nat.lt_or_ge 0 w.heap.size with h' | h'
    · exact h'
    · rw [Array.getElem?_eq_none h'] at h; simp at h
  rw [hb.block _ (by omega)]
  exact h
/-- What the library's own variables hold. -/
structure TX (w : World) : Prop where
  pow : Lib.TabIs Tryd.prog w "internal/strconv.uint64pow10" .u64 Lib.pow10Tab
  syn : ∃ te pe, w.cell? ⟨4, 0, none⟩ = some (.iface te pe)
  rng : ∃ te pe, w.cell? ⟨5, 0, none⟩ = some (.iface te pe)
theorem TX.below {w w' : World} {B : Nat} (h : TX w) (hb : Below B w w') (hB : w.heap.size ≤ B) : TX w' :=
  ⟨tabIs_keep h.pow hb hB, h.syn.imp fun _ => Exists.imp fun _ hc => keepC hb hc (by have := ltC hc; omega), h.rng.imp fun _ => Exists.imp fun _ hc => keepC hb hc (by have := ltC hc; omega)⟩
theorem itoa_calls (n : Int) (hn : i64 n) (w : World) (hT : TX w) : Calls Tryd.prog 21 #[.int .i64 n] w fun e w' => e = .returned (.string (bs (Lib.itoa n))) ∧ Below w.heap.size w w' := by
  refine (Tryd.itoaW n hn.1 hn.2 w hT.pow).mono ?_
  rintro e w' ⟨rfl, k, os, rfl⟩
  exact ⟨rfl, rfl, rfl, rfl, by show w.heap.size ≤ (w.heap ++ os).size; rw [Array.size_append]; omega, fun j hj => by show (w.heap ++ os)[j]? = _; rw [Array.getElem?_append_left hj]⟩
theorem ret_nat {a b : Nat} (h : a = b) : Ending.returned (.int .i64 (a : Int)) = .returned (.int .i64 (b : Int)) := by rw [h]
/-- What Atoi answers. -/
def AtoP (t : List UInt8) (w : World) (e : Ending) (w' : World) : Prop :=
  Below w.heap.size w w' ∧ ((∃ v, Lib.atoiAll t = .ok v ∧ e = .returned (.tuple #[.int .i64 v, .nilIface])) ∨ ((∀ v, Lib.atoiAll t ≠ .ok v) ∧ ∃ v N, e = .returned (.tuple #[.int .i64 v, .iface 102 (.pointer (some ⟨N, 0, none⟩))])))
theorem below_bytes (w : World) (e : TypeId) (t : ByteArray) : Below w.heap.size w (Lib.bytesWorld w e t) := by
  unfold Lib.bytesWorld
  refine ⟨rfl, rfl, rfl, ?_, fun k hk => ?_⟩
  · simp [World.freeze]
  · simp only [World.freeze]
    rw [if_neg (by decide)]
    dsimp only
    rw [Array.getElem?_modify, if_neg (by omega)]
    exact Below.heap_alloc w.drew _ k hk
theorem atoi_calls (t : List UInt8) (ht : t.length ≤ 1000000) (w : World) (hT : TX w) : Calls Tryd.prog 41 #[.string (bs t)] w (AtoP t w) := by
  have hs : (bs t).size = t.length := bs_size t
  rcases h : Lib.atoiAll t with v | _ | _
  · refine (Tryd.atoiOk (bs t) (by omega) v (by rw [bs_toList]; exact h) w).mono ?_
    rintro e w' ⟨rfl, hw⟩
    refine ⟨?_, .inl ⟨v, h, rfl⟩⟩
    rcases hw with rfl | ⟨u, rfl⟩
    · exact Below.refl _ _
    · exact below_bytes _ _ _
  · obtain ⟨te, pe, hv⟩ := hT.syn
    refine (Tryd.atoiSyn (bs t) (by omega) (by rw [bs_toList]; exact ⟨fun v hv => (by rw [h] at hv; cases hv), fun hv => (by rw [h] at hv; cases hv)⟩) _ w hv (.inr ⟨te, pe, rfl⟩)).mono ?_
    rintro e w' ⟨N, rfl, _, _, hb⟩
    exact ⟨hb, .inr ⟨fun v hv => (by rw [h] at hv; cases hv), 0, N, rfl⟩⟩
  · obtain ⟨te, pe, hv⟩ := hT.rng
    refine (Tryd.atoiRng (bs t) (by omega) (by rw [bs_toList]; exact h) _ w hv (.inr ⟨te, pe, rfl⟩)).mono ?_
    rintro e w' ⟨N, rfl, _, _, hb⟩
    exact ⟨hb, .inr ⟨fun v hv => (by rw [h] at hv; cases hv), _, N, rfl⟩⟩
theorem str_eqC {a b : List UInt8} : ((bs a).toList == (bs b).toList) = decide (a = b) := by
  rw [ByteArray.toList_eq, ByteArray.toList_eq, bs_toList, bs_toList]
  rw [Bool.eq_iff_iff]; simp
theorem below_appC {B : Nat} {w W w1 : World} {v : Value} {e : TypeId} {sz n : Nat} {xs : List Value} (hB : Below B w W) (hs : B ≤ w.heap.size) (hown : W.ownsRow B e sz v n xs) (hg : W.grownBy w1 v.ownBlock) : Below B w w1 :=
  ⟨hg.os.trans hB.os, hg.tape.trans hB.tape, hg.output.trans hB.output, Nat.le_trans hB.size hg.size, fun k hk => (hg.block k (Nat.lt_of_lt_of_le hk (Nat.le_trans hs hB.size)) (fun e => by have := (own_ltC hown k e.symm).1; omega)).trans (hB.block k hk)⟩
theorem intsL_snoc (l : List Int) (x : Int) : intsL (l ++ [x]) = intsL l ++ [.int .i64 x] := by simp [intsL]
theorem Tryd.infoStr : (Tryd.prog.info? 9).map (fun i => (i.zero, i.size, i.bytes)) = some (some (.string ⟨#[]⟩), 1, 16) := by kernel_rfl
def strsP (ps : List (List UInt8)) : List Value := ps.map fun p => Value.string (bs p)
theorem strsP_snoc (ps : List (List UInt8)) (p : List UInt8) : strsP (ps ++ [p]) = strsP ps ++ [.string (bs p)] := by simp [strsP]
theorem oneStr (p : ByteArray) : ∀ u ∈ [Value.string p], u.oneCell' = true := by
  intro u hu; simp at hu; subst hu; rfl
/-- A row that isn't empty, and its cells. -/
theorem own_cellC {w : World} {base n : Nat} {e : TypeId} {v : Value} {xs : List Value} (h : w.ownsRow base e 1 v n xs) (hn : 0 < n) :
    ∃ g cap, v = .slice (some ⟨g, 0, none⟩) n cap ∧ base ≤ g ∧ g < w.heap.size ∧ n ≤ cap ∧ cap ≤ maxLen ∧ ∀ j, j < n → w.cell? ⟨g, j, none⟩ = xs[j]? := by
  rcases h.2 with ⟨_, h0⟩ | ⟨g, cap, cur, rfl, hb, hg, h1, h2, h3, h4⟩
  · omega
  · refine ⟨g, cap, rfl, hb, blkLt hg, h1, h2, fun j hj => ?_⟩
    rw [cellC hg j, ← h4, List.getElem?_take, if_pos (by omega), Array.getElem?_toList]
theorem ret_str {a b : ByteArray} (h : a = b) : Ending.returned (.string a) = .returned (.string b) := by rw [h]
theorem own_block {W : World} {base g n m : Nat} {e : TypeId} {cur : Array Value} (h : W.heap[g]? = some (.cells cur e (0, 0))) (hb : base ≤ g) (hn : cur.size = n) (hm : m ≤ n) (hx : n ≤ maxLen) : W.ownsRow base e 1 (.slice (some ⟨g, 0, none⟩) m n) m (cur.toList.take m) :=
  ⟨by rw [List.length_take, Array.length_toList]; omega, .inr ⟨g, n, cur, rfl, hb, h, hm, hx, by omega, by rw [Nat.mul_one]⟩⟩
end Go.Proofs.YtoailhkaenofpaaDoor
