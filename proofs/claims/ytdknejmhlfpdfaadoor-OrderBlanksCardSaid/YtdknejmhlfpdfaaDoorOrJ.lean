/-
  Package order: the closure that takes a line's words, one each time.
-/
import Derived.Test.YtdknejmhlfpdfaaDoorOrY
import Derived.Deep.Cut
import Derived.Deep.RegionWith
namespace Go.Proofs.YtdknejmhlfpdfaaDoor
open Go.RowKit

/-- What a call leaves that writes block N alone of what was there. -/
structure BoxM (N : Nat) (w w' : World) : Prop where
  os : w'.os = w.os
  tape : w'.tape = w.tape
  output : w'.output = w.output
  size : w.heap.size ≤ w'.heap.size
  block : ∀ k, k < w.heap.size → k ≠ N → w'.heap[k]? = w.heap[k]?
theorem BoxM.below {N B : Nat} {w w' : World} (h : BoxM N w w') (hB : B ≤ N) (hs : B ≤ w.heap.size) : Below B w w' := ⟨h.os, h.tape, h.output, h.size, fun k hk => h.block k (by omega) (by omega)⟩
theorem BoxM.of_below {N : Nat} {w w' : World} (h : Below w.heap.size w w') : BoxM N w w' := ⟨h.os, h.tape, h.output, h.size, fun k hk _ => h.block k hk⟩
theorem BoxM.trans {N : Nat} {a b c : World} (h : BoxM N a b) (k : BoxM N b c) : BoxM N a c :=
  ⟨k.os.trans h.os, k.tape.trans h.tape, k.output.trans h.output, Nat.le_trans h.size k.size, fun i hi hn => (k.block i (Nat.lt_of_lt_of_le hi h.size) hn).trans (h.block i hi hn)⟩
theorem BoxM.set {N : Nat} {a b : World} (h : BoxM N a b) (v : Value) : BoxM N a (b.setCell ⟨N, 0, none⟩ v) :=
  ⟨h.os, h.tape, h.output, by show a.heap.size ≤ (b.setCell ⟨N, 0, none⟩ v).heap.size; simp [World.setCell]; exact h.size, fun k hk hn => (setNe b N 0 v k hn).trans (h.block k hk hn)⟩
/-- A box that holds one text. -/
abbrev BxT (w : World) (N : Nat) (t : List UInt8) : Prop := w.heap[N]? = some (.cells #[.string (bs t)] 9 (0, 0))
theorem BxT.set {w : World} {N : Nat} {t : List UInt8} (h : BxT w N t) (r : List UInt8) : BxT (w.setCell ⟨N, 0, none⟩ (.string (bs r))) N r := by
  have := setAt w N 0 (.string (bs r)) _ _ _ h
  exact this
theorem BxT.cell {w : World} {N : Nat} {t : List UInt8} (h : BxT w N t) : w.cell? ⟨N, 0, none⟩ = some (.string (bs t)) := cellC h 0
theorem BxT.frz {w : World} {N : Nat} {t : List UInt8} (h : BxT w N t) : w.frozen? ⟨N, 0, none⟩ = false := by simp [World.frozen?, h]
theorem any_len (l : List UInt8) : Lib.indexAny l [32, 9] = if (l.takeWhile fun c => !isBk c).length = l.length then -1 else ((l.takeWhile fun c => !isBk c).length : Int) := by
  have hb : ∀ c : UInt8, [(32 : UInt8), 9].contains c = isBk c := by
    intro c
    cases h : isBk c with
    | true => rcases isBk_iff.1 h with rfl | rfl <;> rfl
    | false =>
      have h1 : ¬ (c = 32 ∨ c = 9) := fun h2 => by rw [isBk_iff.2 h2] at h; cases h
      simp only [not_or] at h1
      simp [h1.1, h1.2]
  have hlt : ∀ (j : Nat) (b : UInt8), j < (l.takeWhile fun c => !isBk c).length → l[j]? = some b → isBk b = false := by
    intro j b hj hb2
    have h1 : (l.takeWhile fun c => !isBk c)[j]? = some b := by
      obtain ⟨r, hr⟩ := List.takeWhile_prefix (p := fun c => !isBk c) (l := l)
      rw [← hr, List.getElem?_append_left hj] at hb2
      exact hb2
    have := tw_mem b (List.mem_of_getElem? h1)
    simpa using this
  by_cases h : (l.takeWhile fun c => !isBk c).length = l.length
  · rw [if_pos h]
    exact Lib.indexAny_none (fun j b hj hb2 => by rw [hb]; exact hlt j b (by omega) hb2)
  · rw [if_neg h]
    obtain ⟨d, r, hd, he⟩ := takeW_drop l h
    refine Lib.indexAny_hit (x := d) (fun j b hj hb2 => by rw [hb]; exact hlt j b hj hb2) ?_ (by rw [hb]; simpa using hd)
    have : l[(l.takeWhile fun c => !isBk c).length]? = ((l.takeWhile fun c => !isBk c) ++ d :: r)[(l.takeWhile fun c => !isBk c).length]? := by rw [← he]
    rw [this]
    simp
theorem parter_calls (s : ByteArray) (w : World) : Calls Tryd.prog 12 #[.string s] w fun e w' => e = .returned (.func (.func 16) #[] #[.pointer (some ⟨w.heap.size, 0, none⟩)]) ∧ w.alloc (.cells #[.string s] 9) = w' := by
  go_enter Tryd.func12, Tryd.ntmps12
  go_wp2
  go_ret
  exact ⟨rfl, rfl⟩
set_option maxRecDepth 100000 in
set_option maxHeartbeats 1000000 in
theorem next_calls (N : Nat) (t : List UInt8) (ht : t.length ≤ 100000) (w : World) (hN : BxT w N t) : Calls Tryd.prog 16 #[.pointer (some ⟨N, 0, none⟩)] w fun e w' => e = .returned (.string (bs (hdW t))) ∧ BxT w' N (tlW t) ∧ BoxM N w w' := by
  have HT := Lib.hid (Tryd.trimW (bs t) w)
  rw [bs_toList, show (⟨(Lib.trimLeftS t [32, 9]).toArray⟩ : ByteArray) = bs (skB t) from by unfold Lib.trimLeftS; rw [trimLeft_skB]; rfl] at HT
  have hsl := skB_len t
  have HAN := Lib.hid (fun W => any_calls (bs (skB t)) (by rw [bs_size]; omega) W)
  rw [bs_toList, any_len] at HAN
  have hNlt : N < w.heap.size := blkLt hN
  have HN := Lib.hid hN
  have c0 := hN.cell
  clear hN
  have hhl : (hdW t).length ≤ (skB t).length := (List.takeWhile_sublist _).length_le
  have hH : ((skB t).takeWhile fun c => !isBk c) = hdW t := rfl
  rw [hH] at HAN
  have HE1 : Hid ((bs (skB t)).extract 0 (hdW t).length = bs (hdW t)) := Lib.hid (by
    rw [extC]
    congr 1
    obtain ⟨r, hr⟩ := List.takeWhile_prefix (p := fun c => !isBk c) (l := skB t)
    rw [hH] at hr
    conv => lhs; arg 2; rw [← hr]
    simp)
  have HE2 : Hid ((bs (skB t)).extract (hdW t).length (skB t).length = bs (tlW t)) := Lib.hid (by
    rw [extC]
    congr 1
    unfold tlW
    rw [List.take_of_length_le (by rw [List.length_drop]; omega)])
  have hsz : (bs (skB t)).size = (skB t).length := bs_size _
  generalize hK : skB t = K at *
  clear hK hH
  generalize hdW t = h at *
  generalize tlW t = r at *
  go_enter Tryd.func16, Tryd.ntmps16
  go_wp2_with fail
  refine HT.out.mono ?_
  rintro e w1 ⟨rfl, hB⟩
  have H1 : Hid (BxT w1 N t) := Lib.hid ((hB.block N hNlt).trans HN.out)
  have HM1 : Hid (BoxM N w w1) := Lib.hid (BoxM.of_below hB)
  have f1 := H1.out.frz
  have c1 := H1.out.cell
  clear hB c0
  go_wp2_with fail
  have H2 := Lib.hid (H1.out.set K)
  have HM2 := Lib.hid (HM1.out.set (.string (bs K)))
  clear f1 c1
  generalize w1.setCell ⟨N, 0, none⟩ (.string (bs K)) = w2 at *
  have c2 := H2.out.cell
  refine (HAN.out w2).mono ?_
  rintro e w3 ⟨he, hB⟩
  have H3 : Hid (BxT w3 N K) := Lib.hid ((hB.block N (blkLt H2.out)).trans H2.out)
  have HM3 : Hid (BoxM N w w3) := Lib.hid (HM2.out.trans (BoxM.of_below hB))
  have c3 := H3.out.cell
  have f3 := H3.out.frz
  clear hB c2
  by_cases hl : h.length = K.length
  · rw [if_pos hl] at he
    subst he
    go_wp2_with fail
    go_ret
    have e1 := HE1.out
    have e2 := HE2.out
    rw [hl] at e1 e2
    have e3 : ByteArray.empty = bs r := by
      rw [← e2, extC]
      simp
      rfl
    rw [e3]
    exact ⟨ret_str e1, H3.out.set r, HM3.out.set _⟩
  · rw [if_neg hl] at he
    subst he
    have d0 : decide ((h.length : Int) < 0) = false := decide_eq_false (by omega)
    go_wp2_with fail
    go_ret
    rw [HE2.out]
    exact ⟨ret_str HE1.out, H3.out.set r, HM3.out.set _⟩

/-- The order of a kind with the words behind its own, if they are just those that it must have. -/
def orP (k : Nat) (t : List UInt8) : Option OrdM :=
  if k < 9 ∨ 15 < k then (if hdW t = [] then some ⟨k, [], 0⟩ else none)
  else if k < 12 then (match numO (hdW t) with | some n => if hdW (tlW t) = [] then some ⟨k, [], n⟩ else none | none => none)
  else (match plM (hdW t) with | some p => if hdW (tlW t) = [] then some ⟨k, p.1, p.2⟩ else none | none => none)
theorem ordM_or (t : List UInt8) : ordM t = if 200 < t.length then (zO, 1) else if kindM (hdW t) = 0 then (zO, 16) else match orP (kindM (hdW t)) (tlW t) with | some o => (o, 0) | none => (zO, 3) := by
  rw [ordM_step]
  unfold orP
  split
  · rfl
  · split
    · rfl
    · split
      · split <;> rfl
      · split
        · cases numO (hdW (tlW t)) with
          | none => rfl
          | some n => dsimp only; split <;> rfl
        · cases plM (hdW (tlW t)) with
          | none => rfl
          | some p => dsimp only; split <;> rfl
abbrev orV (o : OrdM) : Value := .agg #[.int .i64 o.kind, .string (bs o.name), .int .i64 o.num]
/-- What orderOf answers. -/
def OoP (k : Nat) (t : List UInt8) (W0 : World) (e : Ending) (w' : World) : Prop :=
  Below W0.heap.size W0 w' ∧ ((∃ o, orP k t = some o ∧ e = .returned (.tuple #[orV o, .bool true])) ∨ (orP k t = none ∧ ∃ (a : Int) (b : ByteArray) (c : Int), e = .returned (.tuple #[.agg #[.int .i64 a, .string b, .int .i64 c], .bool false])))
theorem szA (w : World) (o : Obj) : (w.alloc o).heap.size = w.heap.size + 1 := by
  show (w.heap.push o).size = _
  rw [Array.size_push]
theorem two_alloc {w W0 : World} {N : Nat} {tt : List UInt8} (a b : Array Value) (t : TypeId) (hN : BxT w N tt) (hB : Below W0.heap.size W0 w) : ((w.alloc (.cells a t)).alloc (.cells b t)).heap[w.heap.size]? = some (.cells a t (0, 0)) ∧ ((w.alloc (.cells a t)).alloc (.cells b t)).heap[w.heap.size + 1]? = some (.cells b t (0, 0)) ∧ BxT ((w.alloc (.cells a t)).alloc (.cells b t)) N tt ∧ Below W0.heap.size W0 ((w.alloc (.cells a t)).alloc (.cells b t)) := by
  have hl := blkLt hN
  refine ⟨?_, ?_, ?_, ?_⟩
  · rw [Below.heap_alloc _ _ _ (by rw [szA]; omega)]
    exact heapOne w _ _
  · have := heapOne (w.alloc (.cells a t)) b t
    rw [szA] at this
    exact this
  · unfold BxT
    rw [Below.heap_alloc _ _ _ (by rw [szA]; omega), Below.heap_alloc _ _ _ hl]
    exact hN
  · have := hB.size
    exact (hB.alloc this _).alloc (by rw [szA]; omega) _
theorem frz43 {w : World} {g : Nat} {a : Array Value} {t : TypeId} (h : w.heap[g]? = some (.cells a t (0, 0))) (o : Nat) : w.frozen? ⟨g, o, none⟩ = false := by simp [World.frozen?, h]
theorem emptyB {x : List UInt8} (h : x ≠ []) : (bs x).toList.isEmpty = false := by
  rw [ByteArray.toList_eq, bs_toList]
  cases x with
  | nil => exact absurd rfl h
  | cons _ _ => rfl
set_option maxRecDepth 100000 in
set_option maxHeartbeats 2000000 in
theorem orderOf0 (j : Nat) (hj : j < 20) (hb : bhK (j + 1) = 0) (k : Int) (hk : k = ((j + 1 : Nat) : Int)) (N : Nat) (t : List UInt8) (ht : t.length ≤ 100000) (W0 : World) (hX : XO W0) (hNW : W0.heap.size ≤ N) (w : World) (hB : Below W0.heap.size W0 w) (hN : BxT w N t) :
    Calls Tryd.prog 14 #[.int .i64 k, .func (.func 16) #[] #[.pointer (some ⟨N, 0, none⟩)]] w (OoP (j + 1) t W0) := by
  have hNlt := blkLt hN
  have hbs := hB.size
  have HX := Lib.hid hX
  have hbq := hb
  have HO : Hid (orP (j + 1) t = if hdW t = [] then some ⟨k, [], 0⟩ else none) := Lib.hid (by
    subst hk
    unfold bhK at hb
    unfold orP
    split at hb
    · rename_i h; rw [if_pos h]
    · rename_i h
      split at hb
      · omega
      · omega)
  have hw1 : IntKind.i64.wrap (k - 1) = (j : Int) := by rw [hk, show ((j + 1 : Nat) : Int) - 1 = (j : Int) by omega]; exact wrap_small _ (by omega) (by omega)
  obtain ⟨t1, t2, t3, t4⟩ := two_alloc #[.int .i64 0, .string ⟨#[]⟩, .int .i64 0] #[.int .i64 k, .string ⟨#[]⟩, .int .i64 0] 26 hN hB
  have H4 := Lib.hid t1
  have H6 := Lib.hid t2
  have HNb := Lib.hid t3
  have HB := Lib.hid t4
  clear t1 t2 t3 t4
  have HKE := Lib.hid hk
  clear hB hN hb hX hk
  go_enter Tryd.func14, Tryd.ntmps14
  go_upto_region 2 with (fail)
  generalize (w.alloc (.cells #[.int .i64 0, .string ⟨#[]⟩, .int .i64 0] 26)).alloc (.cells #[.int .i64 k, .string ⟨#[]⟩, .int .i64 0] 26) = W2 at *
  have c1 : W2.cell? ⟨0, j * 2 + 1, none⟩ = some (.int .i64 0) := by
    have := ((HX.out.below HB.out (Nat.le_refl _)).sh j hj).2
    rw [hbq] at this
    exact this
  obtain ⟨N4, hN4e⟩ : ∃ N4, N4 = w.heap.size := ⟨_, rfl⟩
  obtain ⟨N6, hN6e⟩ : ∃ N6, N6 = w.heap.size + 1 := ⟨_, rfl⟩
  rw [← hN4e] at H4
  rw [← hN6e] at H6
  rw [← hN4e]
  have hs1 : N4 + 1 = N6 := by omega
  have hN4 : W0.heap.size ≤ N4 := by omega
  have hn4 : N4 ≠ N := by omega
  have hn6 : N6 ≠ N := by omega
  have hbw : W0.heap.size ≤ W2.heap.size := HB.out.size
  clear hNlt hbs hN4e hN6e hbq
  go_upto_region 7 with (fail)
  have x0 : W2.drew.cell? ⟨N6, 0, none⟩ = some (.int .i64 k) := cellC H6.out 0
  have x1 : W2.drew.cell? ⟨N6, 1, none⟩ = some (.string ⟨#[]⟩) := cellC H6.out 1
  have x2 : W2.drew.cell? ⟨N6, 2, none⟩ = some (.int .i64 0) := cellC H6.out 2
  have HBd : Hid (Below W0.heap.size W0 W2.drew) := Lib.hid (below_drewC HB.out 1)
  have hL4 : N4 < W2.drew.heap.size := blkLt H4.out
  have hL6 : N6 < W2.drew.heap.size := blkLt H6.out
  have hWs : W0.heap.size ≤ W2.drew.heap.size := by omega
  have HNX := Lib.hid (next_calls N (t) (by have := tlW_len t; omega) W2.drew HNb.out)
  by_cases hx : hdW (t) = []
  · rw [hx] at HNX
    have hr := HO.out
    rw [if_pos hx] at hr
    have HR := Lib.hid hr
    clear hr hx
    rw [show bs [] = ByteArray.empty from rfl] at HNX
    go_region_with (go_at_call 16; refine HNX.out.mono ?_; rintro e w3 ⟨rfl, _, hm3⟩; have HB3 := Lib.hid (HBd.out.trans (hm3.below hNW hWs)); have h43 := (hm3.block N4 hL4 hn4).trans H4.out; have h63 := (hm3.block N6 hL6 hn6).trans H6.out; have hz : N4 < w3.heap.size := blkLt h43; have y0 : w3.cell? ⟨N6, 0, none⟩ = some (.int .i64 k) := cellC h63 0; have y1 : w3.cell? ⟨N6, 1, none⟩ = some (.string ⟨#[]⟩) := cellC h63 1; have y2 : w3.cell? ⟨N6, 2, none⟩ = some (.int .i64 0) := cellC h63 2; have z40 : w3.cell? ⟨N4, 0, none⟩ = some (.int .i64 0) := cellC h43 0; have z41 : w3.cell? ⟨N4, 1, none⟩ = some (.string ⟨#[]⟩) := cellC h43 1; have z42 : w3.cell? ⟨N4, 2, none⟩ = some (.int .i64 0) := cellC h43 2; have f40 : w3.frozen? ⟨N4, 0, none⟩ = false := frz43 h43 0; have f41 : w3.frozen? ⟨N4, 1, none⟩ = false := frz43 h43 1; have f42 : w3.frozen? ⟨N4, 2, none⟩ = false := frz43 h43 2; clear h43 h63 hm3)
    all_goals
      go_wp2_with fail
      refine bodyPost_ret (v := .tuple #[.agg #[.int .i64 k, .string ⟨#[]⟩, .int .i64 0], .bool true]) (by simp [results, Tryd.results14, go_sem, z40, z41, z42]) rfl ⟨?_, .inl ⟨_, HR.out, rfl⟩⟩
      exact ((HB3.out.setCell (p := ⟨N4, 0, none⟩) hN4 _).setCell (p := ⟨N4, 1, none⟩) hN4 _).setCell (p := ⟨N4, 2, none⟩) hN4 _
  · have hr := HO.out
    rw [if_neg hx] at hr
    have HR := Lib.hid hr
    have hem : (bs (hdW (t))).toList.isEmpty = false := emptyB hx
    clear hr hx
    generalize bs (hdW (t)) = xw at *
    go_region_with (go_at_call 16; refine HNX.out.mono ?_; rintro e w3 ⟨rfl, _, hm3⟩; have HB3 := Lib.hid (HBd.out.trans (hm3.below hNW hWs)); have h43 := (hm3.block N4 hL4 hn4).trans H4.out; have h63 := (hm3.block N6 hL6 hn6).trans H6.out; have hz : N4 < w3.heap.size := blkLt h43; have y0 : w3.cell? ⟨N6, 0, none⟩ = some (.int .i64 k) := cellC h63 0; have y1 : w3.cell? ⟨N6, 1, none⟩ = some (.string ⟨#[]⟩) := cellC h63 1; have y2 : w3.cell? ⟨N6, 2, none⟩ = some (.int .i64 0) := cellC h63 2; have z40 : w3.cell? ⟨N4, 0, none⟩ = some (.int .i64 0) := cellC h43 0; have z41 : w3.cell? ⟨N4, 1, none⟩ = some (.string ⟨#[]⟩) := cellC h43 1; have z42 : w3.cell? ⟨N4, 2, none⟩ = some (.int .i64 0) := cellC h43 2; have f40 : w3.frozen? ⟨N4, 0, none⟩ = false := frz43 h43 0; have f41 : w3.frozen? ⟨N4, 1, none⟩ = false := frz43 h43 1; have f42 : w3.frozen? ⟨N4, 2, none⟩ = false := frz43 h43 2; clear h43 h63 hm3)
    all_goals
      go_wp2_with fail
      refine bodyPost_ret (v := .tuple #[.agg #[.int .i64 k, .string ⟨#[]⟩, .int .i64 0], .bool false]) (by simp [results, Tryd.results14, go_sem, z40, z41, z42]) rfl ⟨?_, .inr ⟨HR.out, _, _, _, rfl⟩⟩
      exact ((HB3.out.setCell (p := ⟨N4, 0, none⟩) hN4 _).setCell (p := ⟨N4, 1, none⟩) hN4 _).setCell (p := ⟨N4, 2, none⟩) hN4 _
set_option maxRecDepth 100000 in
set_option maxHeartbeats 2000000 in
theorem orderOf1 (j : Nat) (hj : j < 20) (hb : bhK (j + 1) = 1) (k : Int) (hk : k = ((j + 1 : Nat) : Int)) (N : Nat) (t : List UInt8) (ht : t.length ≤ 100000) (W0 : World) (hX : XO W0) (hNW : W0.heap.size ≤ N) (w : World) (hB : Below W0.heap.size W0 w) (hN : BxT w N t) :
    Calls Tryd.prog 14 #[.int .i64 k, .func (.func 16) #[] #[.pointer (some ⟨N, 0, none⟩)]] w (OoP (j + 1) t W0) := by
  have hNlt := blkLt hN
  have hbs := hB.size
  have HX := Lib.hid hX
  have hbq := hb
  have HO : Hid (orP (j + 1) t = match numO (hdW t) with | some n => if hdW (tlW t) = [] then some ⟨k, [], n⟩ else none | none => none) := Lib.hid (by
    subst hk
    unfold bhK at hb
    unfold orP
    split at hb
    · omega
    · rename_i h
      split at hb
      · rw [if_neg h, if_pos (by assumption)]
      · omega)
  have hw1 : IntKind.i64.wrap (k - 1) = (j : Int) := by rw [hk, show ((j + 1 : Nat) : Int) - 1 = (j : Int) by omega]; exact wrap_small _ (by omega) (by omega)
  obtain ⟨t1, t2, t3, t4⟩ := two_alloc #[.int .i64 0, .string ⟨#[]⟩, .int .i64 0] #[.int .i64 k, .string ⟨#[]⟩, .int .i64 0] 26 hN hB
  have H4 := Lib.hid t1
  have H6 := Lib.hid t2
  have HNb := Lib.hid t3
  have HB := Lib.hid t4
  clear t1 t2 t3 t4
  have HKE := Lib.hid hk
  clear hB hN hb hX hk
  go_enter Tryd.func14, Tryd.ntmps14
  go_upto_region 2 with (fail)
  generalize (w.alloc (.cells #[.int .i64 0, .string ⟨#[]⟩, .int .i64 0] 26)).alloc (.cells #[.int .i64 k, .string ⟨#[]⟩, .int .i64 0] 26) = W2 at *
  have c1 : W2.cell? ⟨0, j * 2 + 1, none⟩ = some (.int .i64 1) := by
    have := ((HX.out.below HB.out (Nat.le_refl _)).sh j hj).2
    rw [hbq] at this
    exact this
  obtain ⟨N4, hN4e⟩ : ∃ N4, N4 = w.heap.size := ⟨_, rfl⟩
  obtain ⟨N6, hN6e⟩ : ∃ N6, N6 = w.heap.size + 1 := ⟨_, rfl⟩
  rw [← hN4e] at H4
  rw [← hN6e] at H6
  rw [← hN4e]
  have hs1 : N4 + 1 = N6 := by omega
  have hN4 : W0.heap.size ≤ N4 := by omega
  have hn4 : N4 ≠ N := by omega
  have hn6 : N6 ≠ N := by omega
  have hbw : W0.heap.size ≤ W2.heap.size := HB.out.size
  clear hNlt hbs hN4e hN6e hbq
  have HNX0 := Lib.hid (next_calls N t ht W2 HNb.out)
  go_wp2_with fail
  refine HNX0.out.mono ?_
  rintro e w3 ⟨rfl, hbx, hm3⟩
  have H43 := Lib.hid ((hm3.block N4 (blkLt H4.out) hn4).trans H4.out)
  have H63 := Lib.hid ((hm3.block N6 (blkLt H6.out) hn6).trans H6.out)
  have HNb3 := Lib.hid hbx
  have HB3 := Lib.hid (HB.out.trans (hm3.below hNW hbw))
  have HNO := Lib.hid (numberOf_calls (hdW t) (by have := hdW_len t; omega) w3 (HX.out.below HB3.out (Nat.le_refl _)))
  clear hbx hm3 c1
  clear H4 H6 HNb HB HNX0 hbw
  generalize bs (hdW t) = xw0 at *
  go_wp2_with fail
  refine HNO.out.mono ?_
  rintro e w4 ⟨hb4, h⟩
  have H4 := Lib.hid ((hb4.block N4 (blkLt H43.out)).trans H43.out)
  have H6 := Lib.hid ((hb4.block N6 (blkLt H63.out)).trans H63.out)
  have HNb : Hid (BxT w4 N (tlW t)) := Lib.hid ((hb4.block N (blkLt HNb3.out)).trans HNb3.out)
  have HB := Lib.hid (HB3.out.trans (hb4.mono HB3.out.size))
  clear hb4 H43 H63 HNb3 HB3 HNO
  have hbw : W0.heap.size ≤ w4.heap.size := HB.out.size
  have ho := HO.out
  rcases h with ⟨n, hn, rfl⟩ | ⟨hn, n, rfl⟩
  · rw [hn] at ho
    simp only at ho
    clear HO
    have HO := Lib.hid ho
    clear ho hn
    have y2 : w4.cell? ⟨N6, 2, none⟩ = some (.int .i64 0) := cellC H6.out 2
    have g2 : w4.frozen? ⟨N6, 2, none⟩ = false := frz43 H6.out 2
    go_upto_region 7 with (fail)
    have H4b : Hid ((w4.setCell ⟨N6, 2, none⟩ (.int .i64 n)).heap[N4]? = some (.cells #[.int .i64 0, .string ⟨#[]⟩, .int .i64 0] 26 (0, 0))) := Lib.hid ((setNe w4 N6 2 _ N4 (by omega)).trans H4.out)
    have H6b : Hid ((w4.setCell ⟨N6, 2, none⟩ (.int .i64 n)).heap[N6]? = some (.cells #[.int .i64 k, .string ⟨#[]⟩, .int .i64 n] 26 (0, 0))) := Lib.hid (setAt w4 N6 2 (.int .i64 n) _ _ _ H6.out)
    have HNc : Hid (BxT (w4.setCell ⟨N6, 2, none⟩ (.int .i64 n)) N (tlW t)) := Lib.hid ((setNe w4 N6 2 _ N (Ne.symm hn6)).trans HNb.out)
    have HBb := Lib.hid (HB.out.setCell (p := ⟨N6, 2, none⟩) (by show W0.heap.size ≤ N6; omega) (.int .i64 n))
    clear y2 g2 H4 H6 HNb HB hbw
    have H4 := H4b
    have H6 := H6b
    have HNb := HNc
    have HB := HBb
    clear H4b H6b HNc HBb
    generalize w4.setCell ⟨N6, 2, none⟩ (.int .i64 n) = w5 at *
    have hbw : W0.heap.size ≤ w5.heap.size := HB.out.size
    have x0 : w5.drew.cell? ⟨N6, 0, none⟩ = some (.int .i64 k) := cellC H6.out 0
    have x1 : w5.drew.cell? ⟨N6, 1, none⟩ = some (.string ⟨#[]⟩) := cellC H6.out 1
    have x2 : w5.drew.cell? ⟨N6, 2, none⟩ = some (.int .i64 n) := cellC H6.out 2
    have HBd : Hid (Below W0.heap.size W0 w5.drew) := Lib.hid (below_drewC HB.out 1)
    have hL4 : N4 < w5.drew.heap.size := blkLt H4.out
    have hL6 : N6 < w5.drew.heap.size := blkLt H6.out
    have hWs : W0.heap.size ≤ w5.drew.heap.size := by omega
    have HNX := Lib.hid (next_calls N (tlW t) (by have := tlW_len t; omega) w5.drew HNb.out)
    by_cases hx : hdW (tlW t) = []
    · rw [hx] at HNX
      have hr := HO.out
      rw [if_pos hx] at hr
      have HR := Lib.hid hr
      clear hr hx
      rw [show bs [] = ByteArray.empty from rfl] at HNX
      go_region_with (go_at_call 16; refine HNX.out.mono ?_; rintro e w3 ⟨rfl, _, hm3⟩; have HB3 := Lib.hid (HBd.out.trans (hm3.below hNW hWs)); have h43 := (hm3.block N4 hL4 hn4).trans H4.out; have h63 := (hm3.block N6 hL6 hn6).trans H6.out; have hz : N4 < w3.heap.size := blkLt h43; have y0 : w3.cell? ⟨N6, 0, none⟩ = some (.int .i64 k) := cellC h63 0; have y1 : w3.cell? ⟨N6, 1, none⟩ = some (.string ⟨#[]⟩) := cellC h63 1; have y2 : w3.cell? ⟨N6, 2, none⟩ = some (.int .i64 n) := cellC h63 2; have z40 : w3.cell? ⟨N4, 0, none⟩ = some (.int .i64 0) := cellC h43 0; have z41 : w3.cell? ⟨N4, 1, none⟩ = some (.string ⟨#[]⟩) := cellC h43 1; have z42 : w3.cell? ⟨N4, 2, none⟩ = some (.int .i64 0) := cellC h43 2; have f40 : w3.frozen? ⟨N4, 0, none⟩ = false := frz43 h43 0; have f41 : w3.frozen? ⟨N4, 1, none⟩ = false := frz43 h43 1; have f42 : w3.frozen? ⟨N4, 2, none⟩ = false := frz43 h43 2; clear h43 h63 hm3)
      all_goals
        go_wp2_with fail
        refine bodyPost_ret (v := .tuple #[.agg #[.int .i64 k, .string ⟨#[]⟩, .int .i64 n], .bool true]) (by simp [results, Tryd.results14, go_sem, z40, z41, z42]) rfl ⟨?_, .inl ⟨_, HR.out, rfl⟩⟩
        exact ((HB3.out.setCell (p := ⟨N4, 0, none⟩) hN4 _).setCell (p := ⟨N4, 1, none⟩) hN4 _).setCell (p := ⟨N4, 2, none⟩) hN4 _
    · have hr := HO.out
      rw [if_neg hx] at hr
      have HR := Lib.hid hr
      have hem : (bs (hdW (tlW t))).toList.isEmpty = false := emptyB hx
      clear hr hx
      generalize bs (hdW (tlW t)) = xw at *
      go_region_with (go_at_call 16; refine HNX.out.mono ?_; rintro e w3 ⟨rfl, _, hm3⟩; have HB3 := Lib.hid (HBd.out.trans (hm3.below hNW hWs)); have h43 := (hm3.block N4 hL4 hn4).trans H4.out; have h63 := (hm3.block N6 hL6 hn6).trans H6.out; have hz : N4 < w3.heap.size := blkLt h43; have y0 : w3.cell? ⟨N6, 0, none⟩ = some (.int .i64 k) := cellC h63 0; have y1 : w3.cell? ⟨N6, 1, none⟩ = some (.string ⟨#[]⟩) := cellC h63 1; have y2 : w3.cell? ⟨N6, 2, none⟩ = some (.int .i64 n) := cellC h63 2; have z40 : w3.cell? ⟨N4, 0, none⟩ = some (.int .i64 0) := cellC h43 0; have z41 : w3.cell? ⟨N4, 1, none⟩ = some (.string ⟨#[]⟩) := cellC h43 1; have z42 : w3.cell? ⟨N4, 2, none⟩ = some (.int .i64 0) := cellC h43 2; have f40 : w3.frozen? ⟨N4, 0, none⟩ = false := frz43 h43 0; have f41 : w3.frozen? ⟨N4, 1, none⟩ = false := frz43 h43 1; have f42 : w3.frozen? ⟨N4, 2, none⟩ = false := frz43 h43 2; clear h43 h63 hm3)
      all_goals
        go_wp2_with fail
        refine bodyPost_ret (v := .tuple #[.agg #[.int .i64 k, .string ⟨#[]⟩, .int .i64 n], .bool false]) (by simp [results, Tryd.results14, go_sem, z40, z41, z42]) rfl ⟨?_, .inr ⟨HR.out, _, _, _, rfl⟩⟩
        exact ((HB3.out.setCell (p := ⟨N4, 0, none⟩) hN4 _).setCell (p := ⟨N4, 1, none⟩) hN4 _).setCell (p := ⟨N4, 2, none⟩) hN4 _
  · rw [hn] at ho
    simp only at ho
    clear HO
    have HR := Lib.hid ho
    clear ho hn
    have y2 : w4.cell? ⟨N6, 2, none⟩ = some (.int .i64 0) := cellC H6.out 2
    have g2 : w4.frozen? ⟨N6, 2, none⟩ = false := frz43 H6.out 2
    go_upto_region 7 with (fail)
    have H4b : Hid ((w4.setCell ⟨N6, 2, none⟩ (.int .i64 n)).heap[N4]? = some (.cells #[.int .i64 0, .string ⟨#[]⟩, .int .i64 0] 26 (0, 0))) := Lib.hid ((setNe w4 N6 2 _ N4 (by omega)).trans H4.out)
    have H6b : Hid ((w4.setCell ⟨N6, 2, none⟩ (.int .i64 n)).heap[N6]? = some (.cells #[.int .i64 k, .string ⟨#[]⟩, .int .i64 n] 26 (0, 0))) := Lib.hid (setAt w4 N6 2 (.int .i64 n) _ _ _ H6.out)
    have HNc : Hid (BxT (w4.setCell ⟨N6, 2, none⟩ (.int .i64 n)) N (tlW t)) := Lib.hid ((setNe w4 N6 2 _ N (Ne.symm hn6)).trans HNb.out)
    have HBb := Lib.hid (HB.out.setCell (p := ⟨N6, 2, none⟩) (by show W0.heap.size ≤ N6; omega) (.int .i64 n))
    clear y2 g2 H4 H6 HNb HB hbw
    have H4 := H4b
    have H6 := H6b
    have HNb := HNc
    have HB := HBb
    clear H4b H6b HNc HBb
    generalize w4.setCell ⟨N6, 2, none⟩ (.int .i64 n) = w5 at *
    have hbw : W0.heap.size ≤ w5.heap.size := HB.out.size
    have x0 : w5.drew.cell? ⟨N6, 0, none⟩ = some (.int .i64 k) := cellC H6.out 0
    have x1 : w5.drew.cell? ⟨N6, 1, none⟩ = some (.string ⟨#[]⟩) := cellC H6.out 1
    have x2 : w5.drew.cell? ⟨N6, 2, none⟩ = some (.int .i64 n) := cellC H6.out 2
    have HB3 : Hid (Below W0.heap.size W0 w5.drew) := Lib.hid (below_drewC HB.out 1)
    have z40 : w5.drew.cell? ⟨N4, 0, none⟩ = some (.int .i64 0) := cellC H4.out 0
    have f40 : w5.drew.frozen? ⟨N4, 0, none⟩ = false := frz43 (w := w5.drew) H4.out 0
    have z41 : w5.drew.cell? ⟨N4, 1, none⟩ = some (.string ⟨#[]⟩) := cellC H4.out 1
    have f41 : w5.drew.frozen? ⟨N4, 1, none⟩ = false := frz43 (w := w5.drew) H4.out 1
    have z42 : w5.drew.cell? ⟨N4, 2, none⟩ = some (.int .i64 0) := cellC H4.out 2
    have f42 : w5.drew.frozen? ⟨N4, 2, none⟩ = false := frz43 (w := w5.drew) H4.out 2
    have hz : N4 < w5.drew.heap.size := blkLt H4.out
    have hz5 : N4 < w5.heap.size := blkLt H4.out
    have z50 : w5.cell? ⟨N4, 0, none⟩ = some (.int .i64 0) := cellC H4.out 0
    have f50 : w5.frozen? ⟨N4, 0, none⟩ = false := frz43 H4.out 0
    have z51 : w5.cell? ⟨N4, 1, none⟩ = some (.string ⟨#[]⟩) := cellC H4.out 1
    have f51 : w5.frozen? ⟨N4, 1, none⟩ = false := frz43 H4.out 1
    have z52 : w5.cell? ⟨N4, 2, none⟩ = some (.int .i64 0) := cellC H4.out 2
    have f52 : w5.frozen? ⟨N4, 2, none⟩ = false := frz43 H4.out 2
    go_region
    all_goals
      go_wp2_with fail
      refine bodyPost_ret (v := .tuple #[.agg #[.int .i64 k, .string ⟨#[]⟩, .int .i64 n], .bool false]) (by simp [results, Tryd.results14, go_sem, z50, z51, z52]) rfl ⟨?_, .inr ⟨HR.out, _, _, _, rfl⟩⟩
      exact ((HB3.out.setCell (p := ⟨N4, 0, none⟩) hN4 _).setCell (p := ⟨N4, 1, none⟩) hN4 _).setCell (p := ⟨N4, 2, none⟩) hN4 _
set_option maxRecDepth 100000 in
set_option maxHeartbeats 2000000 in
theorem orderOf2 (j : Nat) (hj : j < 20) (hb : bhK (j + 1) = 2) (k : Int) (hk : k = ((j + 1 : Nat) : Int)) (N : Nat) (t : List UInt8) (ht : t.length ≤ 100000) (W0 : World) (hX : XO W0) (hNW : W0.heap.size ≤ N) (w : World) (hB : Below W0.heap.size W0 w) (hN : BxT w N t) :
    Calls Tryd.prog 14 #[.int .i64 k, .func (.func 16) #[] #[.pointer (some ⟨N, 0, none⟩)]] w (OoP (j + 1) t W0) := by
  have hNlt := blkLt hN
  have hbs := hB.size
  have HX := Lib.hid hX
  have hbq := hb
  have HO : Hid (orP (j + 1) t = match plM (hdW t) with | some p => if hdW (tlW t) = [] then some ⟨k, p.1, p.2⟩ else none | none => none) := Lib.hid (by
    subst hk
    unfold bhK at hb
    unfold orP
    split at hb
    · omega
    · rename_i h
      split at hb
      · omega
      · rw [if_neg h, if_neg (by assumption)])
  have hw1 : IntKind.i64.wrap (k - 1) = (j : Int) := by rw [hk, show ((j + 1 : Nat) : Int) - 1 = (j : Int) by omega]; exact wrap_small _ (by omega) (by omega)
  obtain ⟨t1, t2, t3, t4⟩ := two_alloc #[.int .i64 0, .string ⟨#[]⟩, .int .i64 0] #[.int .i64 k, .string ⟨#[]⟩, .int .i64 0] 26 hN hB
  have H4 := Lib.hid t1
  have H6 := Lib.hid t2
  have HNb := Lib.hid t3
  have HB := Lib.hid t4
  clear t1 t2 t3 t4
  have HKE := Lib.hid hk
  clear hB hN hb hX hk
  go_enter Tryd.func14, Tryd.ntmps14
  go_upto_region 2 with (fail)
  generalize (w.alloc (.cells #[.int .i64 0, .string ⟨#[]⟩, .int .i64 0] 26)).alloc (.cells #[.int .i64 k, .string ⟨#[]⟩, .int .i64 0] 26) = W2 at *
  have c1 : W2.cell? ⟨0, j * 2 + 1, none⟩ = some (.int .i64 2) := by
    have := ((HX.out.below HB.out (Nat.le_refl _)).sh j hj).2
    rw [hbq] at this
    exact this
  obtain ⟨N4, hN4e⟩ : ∃ N4, N4 = w.heap.size := ⟨_, rfl⟩
  obtain ⟨N6, hN6e⟩ : ∃ N6, N6 = w.heap.size + 1 := ⟨_, rfl⟩
  rw [← hN4e] at H4
  rw [← hN6e] at H6
  rw [← hN4e]
  have hs1 : N4 + 1 = N6 := by omega
  have hN4 : W0.heap.size ≤ N4 := by omega
  have hn4 : N4 ≠ N := by omega
  have hn6 : N6 ≠ N := by omega
  have hbw : W0.heap.size ≤ W2.heap.size := HB.out.size
  clear hNlt hbs hN4e hN6e hbq
  have HNX0 := Lib.hid (next_calls N t ht W2 HNb.out)
  go_wp2_with fail
  refine HNX0.out.mono ?_
  rintro e w3 ⟨rfl, hbx, hm3⟩
  have H43 := Lib.hid ((hm3.block N4 (blkLt H4.out) hn4).trans H4.out)
  have H63 := Lib.hid ((hm3.block N6 (blkLt H6.out) hn6).trans H6.out)
  have HNb3 := Lib.hid hbx
  have HB3 := Lib.hid (HB.out.trans (hm3.below hNW hbw))
  have HNO := Lib.hid (placeOf_calls (hdW t) (by have := hdW_len t; omega) w3 (HX.out.below HB3.out (Nat.le_refl _)))
  clear hbx hm3 c1
  clear H4 H6 HNb HB HNX0 hbw
  generalize bs (hdW t) = xw0 at *
  go_wp2_with fail
  refine HNO.out.mono ?_
  rintro e w4 ⟨hb4, h⟩
  have H4 := Lib.hid ((hb4.block N4 (blkLt H43.out)).trans H43.out)
  have H6 := Lib.hid ((hb4.block N6 (blkLt H63.out)).trans H63.out)
  have HNb : Hid (BxT w4 N (tlW t)) := Lib.hid ((hb4.block N (blkLt HNb3.out)).trans HNb3.out)
  have HB := Lib.hid (HB3.out.trans (hb4.mono HB3.out.size))
  clear hb4 H43 H63 HNb3 HB3 HNO
  have hbw : W0.heap.size ≤ w4.heap.size := HB.out.size
  have ho := HO.out
  rcases h with ⟨⟨nm, n⟩, hn, rfl⟩ | ⟨hn, nm, n, rfl⟩
  · rw [hn] at ho
    simp only at ho
    clear HO
    have HO := Lib.hid ho
    clear ho hn
    dsimp only
    have y1 : w4.cell? ⟨N6, 1, none⟩ = some (.string ⟨#[]⟩) := cellC H6.out 1
    have g1 : w4.frozen? ⟨N6, 1, none⟩ = false := frz43 H6.out 1
    have y2 : w4.cell? ⟨N6, 2, none⟩ = some (.int .i64 0) := cellC H6.out 2
    have g2 : w4.frozen? ⟨N6, 2, none⟩ = false := frz43 H6.out 2
    go_upto_region 7 with (fail)
    have H6a : (w4.setCell ⟨N6, 1, none⟩ (.string (bs nm))).heap[N6]? = some (.cells #[.int .i64 k, .string (bs nm), .int .i64 0] 26 (0, 0)) := setAt w4 N6 1 (.string (bs nm)) _ _ _ H6.out
    have H4b : Hid (((w4.setCell ⟨N6, 1, none⟩ (.string (bs nm))).setCell ⟨N6, 2, none⟩ (.int .i64 n)).heap[N4]? = some (.cells #[.int .i64 0, .string ⟨#[]⟩, .int .i64 0] 26 (0, 0))) := Lib.hid ((setNe _ N6 2 _ N4 (by omega)).trans ((setNe w4 N6 1 _ N4 (by omega)).trans H4.out))
    have H6b : Hid (((w4.setCell ⟨N6, 1, none⟩ (.string (bs nm))).setCell ⟨N6, 2, none⟩ (.int .i64 n)).heap[N6]? = some (.cells #[.int .i64 k, .string (bs nm), .int .i64 n] 26 (0, 0))) := Lib.hid (setAt _ N6 2 (.int .i64 n) _ _ _ H6a)
    have HNc : Hid (BxT ((w4.setCell ⟨N6, 1, none⟩ (.string (bs nm))).setCell ⟨N6, 2, none⟩ (.int .i64 n)) N (tlW t)) := Lib.hid ((setNe _ N6 2 _ N (Ne.symm hn6)).trans ((setNe w4 N6 1 _ N (Ne.symm hn6)).trans HNb.out))
    have HBb := Lib.hid ((HB.out.setCell (p := ⟨N6, 1, none⟩) (by show W0.heap.size ≤ N6; omega) (.string (bs nm))).setCell (p := ⟨N6, 2, none⟩) (by show W0.heap.size ≤ N6; omega) (.int .i64 n))
    clear y1 g1 y2 g2 H6a H4 H6 HNb HB hbw
    have H4 := H4b
    have H6 := H6b
    have HNb := HNc
    have HB := HBb
    clear H4b H6b HNc HBb
    generalize ((w4.setCell ⟨N6, 1, none⟩ (.string (bs nm))).setCell ⟨N6, 2, none⟩ (.int .i64 n)) = w5 at *
    have hbw : W0.heap.size ≤ w5.heap.size := HB.out.size
    have x0 : w5.drew.cell? ⟨N6, 0, none⟩ = some (.int .i64 k) := cellC H6.out 0
    have x1 : w5.drew.cell? ⟨N6, 1, none⟩ = some (.string (bs nm)) := cellC H6.out 1
    have x2 : w5.drew.cell? ⟨N6, 2, none⟩ = some (.int .i64 n) := cellC H6.out 2
    have HBd : Hid (Below W0.heap.size W0 w5.drew) := Lib.hid (below_drewC HB.out 1)
    have hL4 : N4 < w5.drew.heap.size := blkLt H4.out
    have hL6 : N6 < w5.drew.heap.size := blkLt H6.out
    have hWs : W0.heap.size ≤ w5.drew.heap.size := by omega
    have HNX := Lib.hid (next_calls N (tlW t) (by have := tlW_len t; omega) w5.drew HNb.out)
    by_cases hx : hdW (tlW t) = []
    · rw [hx] at HNX
      have hr := HO.out
      rw [if_pos hx] at hr
      have HR := Lib.hid hr
      clear hr hx
      rw [show bs [] = ByteArray.empty from rfl] at HNX
      go_region_with (go_at_call 16; refine HNX.out.mono ?_; rintro e w3 ⟨rfl, _, hm3⟩; have HB3 := Lib.hid (HBd.out.trans (hm3.below hNW hWs)); have h43 := (hm3.block N4 hL4 hn4).trans H4.out; have h63 := (hm3.block N6 hL6 hn6).trans H6.out; have hz : N4 < w3.heap.size := blkLt h43; have y0 : w3.cell? ⟨N6, 0, none⟩ = some (.int .i64 k) := cellC h63 0; have y1 : w3.cell? ⟨N6, 1, none⟩ = some (.string (bs nm)) := cellC h63 1; have y2 : w3.cell? ⟨N6, 2, none⟩ = some (.int .i64 n) := cellC h63 2; have z40 : w3.cell? ⟨N4, 0, none⟩ = some (.int .i64 0) := cellC h43 0; have z41 : w3.cell? ⟨N4, 1, none⟩ = some (.string ⟨#[]⟩) := cellC h43 1; have z42 : w3.cell? ⟨N4, 2, none⟩ = some (.int .i64 0) := cellC h43 2; have f40 : w3.frozen? ⟨N4, 0, none⟩ = false := frz43 h43 0; have f41 : w3.frozen? ⟨N4, 1, none⟩ = false := frz43 h43 1; have f42 : w3.frozen? ⟨N4, 2, none⟩ = false := frz43 h43 2; clear h43 h63 hm3)
      all_goals
        go_wp2_with fail
        refine bodyPost_ret (v := .tuple #[.agg #[.int .i64 k, .string (bs nm), .int .i64 n], .bool true]) (by simp [results, Tryd.results14, go_sem, z40, z41, z42]) rfl ⟨?_, .inl ⟨_, HR.out, rfl⟩⟩
        exact ((HB3.out.setCell (p := ⟨N4, 0, none⟩) hN4 _).setCell (p := ⟨N4, 1, none⟩) hN4 _).setCell (p := ⟨N4, 2, none⟩) hN4 _
    · have hr := HO.out
      rw [if_neg hx] at hr
      have HR := Lib.hid hr
      have hem : (bs (hdW (tlW t))).toList.isEmpty = false := emptyB hx
      clear hr hx
      generalize bs (hdW (tlW t)) = xw at *
      go_region_with (go_at_call 16; refine HNX.out.mono ?_; rintro e w3 ⟨rfl, _, hm3⟩; have HB3 := Lib.hid (HBd.out.trans (hm3.below hNW hWs)); have h43 := (hm3.block N4 hL4 hn4).trans H4.out; have h63 := (hm3.block N6 hL6 hn6).trans H6.out; have hz : N4 < w3.heap.size := blkLt h43; have y0 : w3.cell? ⟨N6, 0, none⟩ = some (.int .i64 k) := cellC h63 0; have y1 : w3.cell? ⟨N6, 1, none⟩ = some (.string (bs nm)) := cellC h63 1; have y2 : w3.cell? ⟨N6, 2, none⟩ = some (.int .i64 n) := cellC h63 2; have z40 : w3.cell? ⟨N4, 0, none⟩ = some (.int .i64 0) := cellC h43 0; have z41 : w3.cell? ⟨N4, 1, none⟩ = some (.string ⟨#[]⟩) := cellC h43 1; have z42 : w3.cell? ⟨N4, 2, none⟩ = some (.int .i64 0) := cellC h43 2; have f40 : w3.frozen? ⟨N4, 0, none⟩ = false := frz43 h43 0; have f41 : w3.frozen? ⟨N4, 1, none⟩ = false := frz43 h43 1; have f42 : w3.frozen? ⟨N4, 2, none⟩ = false := frz43 h43 2; clear h43 h63 hm3)
      all_goals
        go_wp2_with fail
        refine bodyPost_ret (v := .tuple #[.agg #[.int .i64 k, .string (bs nm), .int .i64 n], .bool false]) (by simp [results, Tryd.results14, go_sem, z40, z41, z42]) rfl ⟨?_, .inr ⟨HR.out, _, _, _, rfl⟩⟩
        exact ((HB3.out.setCell (p := ⟨N4, 0, none⟩) hN4 _).setCell (p := ⟨N4, 1, none⟩) hN4 _).setCell (p := ⟨N4, 2, none⟩) hN4 _
  · rw [hn] at ho
    simp only at ho
    clear HO
    have HR := Lib.hid ho
    clear ho hn
    have y1 : w4.cell? ⟨N6, 1, none⟩ = some (.string ⟨#[]⟩) := cellC H6.out 1
    have g1 : w4.frozen? ⟨N6, 1, none⟩ = false := frz43 H6.out 1
    have y2 : w4.cell? ⟨N6, 2, none⟩ = some (.int .i64 0) := cellC H6.out 2
    have g2 : w4.frozen? ⟨N6, 2, none⟩ = false := frz43 H6.out 2
    go_upto_region 7 with (fail)
    have H6a : (w4.setCell ⟨N6, 1, none⟩ (.string nm)).heap[N6]? = some (.cells #[.int .i64 k, .string nm, .int .i64 0] 26 (0, 0)) := setAt w4 N6 1 (.string nm) _ _ _ H6.out
    have H4b : Hid (((w4.setCell ⟨N6, 1, none⟩ (.string nm)).setCell ⟨N6, 2, none⟩ (.int .i64 n)).heap[N4]? = some (.cells #[.int .i64 0, .string ⟨#[]⟩, .int .i64 0] 26 (0, 0))) := Lib.hid ((setNe _ N6 2 _ N4 (by omega)).trans ((setNe w4 N6 1 _ N4 (by omega)).trans H4.out))
    have H6b : Hid (((w4.setCell ⟨N6, 1, none⟩ (.string nm)).setCell ⟨N6, 2, none⟩ (.int .i64 n)).heap[N6]? = some (.cells #[.int .i64 k, .string nm, .int .i64 n] 26 (0, 0))) := Lib.hid (setAt _ N6 2 (.int .i64 n) _ _ _ H6a)
    have HNc : Hid (BxT ((w4.setCell ⟨N6, 1, none⟩ (.string nm)).setCell ⟨N6, 2, none⟩ (.int .i64 n)) N (tlW t)) := Lib.hid ((setNe _ N6 2 _ N (Ne.symm hn6)).trans ((setNe w4 N6 1 _ N (Ne.symm hn6)).trans HNb.out))
    have HBb := Lib.hid ((HB.out.setCell (p := ⟨N6, 1, none⟩) (by show W0.heap.size ≤ N6; omega) (.string nm)).setCell (p := ⟨N6, 2, none⟩) (by show W0.heap.size ≤ N6; omega) (.int .i64 n))
    clear y1 g1 y2 g2 H6a H4 H6 HNb HB hbw
    have H4 := H4b
    have H6 := H6b
    have HNb := HNc
    have HB := HBb
    clear H4b H6b HNc HBb
    generalize ((w4.setCell ⟨N6, 1, none⟩ (.string nm)).setCell ⟨N6, 2, none⟩ (.int .i64 n)) = w5 at *
    have hbw : W0.heap.size ≤ w5.heap.size := HB.out.size
    have x0 : w5.drew.cell? ⟨N6, 0, none⟩ = some (.int .i64 k) := cellC H6.out 0
    have x1 : w5.drew.cell? ⟨N6, 1, none⟩ = some (.string nm) := cellC H6.out 1
    have x2 : w5.drew.cell? ⟨N6, 2, none⟩ = some (.int .i64 n) := cellC H6.out 2
    have HB3 : Hid (Below W0.heap.size W0 w5.drew) := Lib.hid (below_drewC HB.out 1)
    have z40 : w5.drew.cell? ⟨N4, 0, none⟩ = some (.int .i64 0) := cellC H4.out 0
    have f40 : w5.drew.frozen? ⟨N4, 0, none⟩ = false := frz43 (w := w5.drew) H4.out 0
    have z41 : w5.drew.cell? ⟨N4, 1, none⟩ = some (.string ⟨#[]⟩) := cellC H4.out 1
    have f41 : w5.drew.frozen? ⟨N4, 1, none⟩ = false := frz43 (w := w5.drew) H4.out 1
    have z42 : w5.drew.cell? ⟨N4, 2, none⟩ = some (.int .i64 0) := cellC H4.out 2
    have f42 : w5.drew.frozen? ⟨N4, 2, none⟩ = false := frz43 (w := w5.drew) H4.out 2
    have hz : N4 < w5.drew.heap.size := blkLt H4.out
    have hz5 : N4 < w5.heap.size := blkLt H4.out
    have z50 : w5.cell? ⟨N4, 0, none⟩ = some (.int .i64 0) := cellC H4.out 0
    have f50 : w5.frozen? ⟨N4, 0, none⟩ = false := frz43 H4.out 0
    have z51 : w5.cell? ⟨N4, 1, none⟩ = some (.string ⟨#[]⟩) := cellC H4.out 1
    have f51 : w5.frozen? ⟨N4, 1, none⟩ = false := frz43 H4.out 1
    have z52 : w5.cell? ⟨N4, 2, none⟩ = some (.int .i64 0) := cellC H4.out 2
    have f52 : w5.frozen? ⟨N4, 2, none⟩ = false := frz43 H4.out 2
    go_region
    all_goals
      go_wp2_with fail
      refine bodyPost_ret (v := .tuple #[.agg #[.int .i64 k, .string nm, .int .i64 n], .bool false]) (by simp [results, Tryd.results14, go_sem, z50, z51, z52]) rfl ⟨?_, .inr ⟨HR.out, _, _, _, rfl⟩⟩
      exact ((HB3.out.setCell (p := ⟨N4, 0, none⟩) hN4 _).setCell (p := ⟨N4, 1, none⟩) hN4 _).setCell (p := ⟨N4, 2, none⟩) hN4 _

end Go.Proofs.YtdknejmhlfpdfaaDoor
