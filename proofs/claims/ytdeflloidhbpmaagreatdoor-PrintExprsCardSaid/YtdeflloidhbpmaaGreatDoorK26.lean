/-
  'append' upon a row that the call owns: what it answers lies in the same block, or in a new one.
  A writer in memory; what WriteString writes to its text.
  fromBehind: pieces in new memory, the last one first.
-/
import Derived.WalkKit
import Derived.Laws.AppendOwn
import Derived.OwnWalk
import Derived.Test.YtdeflloidhbpmaaGreatDoorRows
import Derived.Test.YtdeflloidhbpmaaGreatDoorK25
import Derived.Lib.AppendStr
import Derived.Lib.Builder
import Derived.Laws.Externs
namespace Go.Proofs.YtdeflloidhbpmaaGreatDoor
open Go.RowKit

/-- The same block, or a new one. -/
def SameOrNew (v v' : Value) (w : World) : Prop := v'.ownBlock = v.ownBlock ∨ ∃ g, v'.ownBlock = some g ∧ w.heap.size ≤ g

theorem run_append_where {P : Program} (w : World) (base : Nat) (t ty e : TypeId) (i : TypeInfo) (z : Value) (size bytes : Nat) (ht : P.underlying t = some (.slice e)) (hi : P.info? e = some i) (hz : i.zero = some z)
    (hsize : i.size = size) (hby : i.bytes = bytes) (hzs : z.cells.size = size) (hsz : 0 < size)
    (v : Value) (n : Nat) (xs : List Value) (hown : w.ownsRow base e size v n xs)
    (a : Addr) (m c : Nat) (news : List Value) (hl : news.length = m * size) (hnews : ∀ j u, news[j]? = some u → w.cell? (a.add j) = some u) (h1 : ∀ u ∈ news, u.oneCell' = true)
    (h63 : n + m ≤ maxLen) (hbytes : (n + m) * bytes ≤ 140737488355328) (hbase : base ≤ w.heap.size) :
    ∃ v' w', (Builtin.append_ #[t, t] ty #[v, .slice (some a) m c]).run P w = .ok v' w' ∧ w'.ownsRow base e size v' (n + m) (xs ++ news) ∧ w.grownBy w' v.ownBlock ∧ SameOrNew v v' w := by
  obtain ⟨v', w', hr, ho, hg, hnil⟩ := run_append_own (P := P) w base t ty e i z size bytes ht hi hz hsize hby hzs hsz v n xs hown a m c news hl hnews h1 h63 hbytes hbase
  refine ⟨v', w', hr, ho, hg, ?_⟩
  rcases hown.2 with ⟨rfl, rfl⟩ | ⟨g, cap, cur, rfl, hbg, hgg, hnc, hcm, hcs, htake⟩
  · obtain ⟨v2, w2, hr2, ho2, _, _⟩ := run_append_own (P := P) w w.heap.size t ty e i z size bytes ht hi hz hsize hby hzs hsz (.slice none 0 0) 0 xs ⟨hown.1, .inl ⟨rfl, rfl⟩⟩ a m c news hl hnews h1 h63 hbytes (Nat.le_refl _)
    rw [hr] at hr2
    injection hr2 with e1 e2
    subst e1 e2
    rcases ho2.2 with ⟨rfl, _⟩ | ⟨g, cap, cur, rfl, hbg, _⟩
    · exact .inl rfl
    · exact .inr ⟨g, rfl, hbg⟩
  · subst hsize hby
    by_cases hroom : n + m ≤ cap
    · have hfit : n * i.size + news.length ≤ cur.size := by rw [hl, hcs, ← Nat.add_mul]; exact Nat.mul_le_mul_right _ hroom
      have hr2 := run_append_room (P := P) w t ty e i ht hi g n cap cur hgg a m c news hl hnews h1 hroom hfit
      rw [hr] at hr2
      injection hr2 with e1 e2
      subst e1
      exact .inl rfl
    · have holds : ∀ j u, xs[j]? = some u → w.cell? ((⟨g, 0, none⟩ : Addr).add j) = some u := hown.cells (g := g) rfl
      have hsmall : n + m ≤ 9223372036854775807 := by simp only [maxLen] at h63; omega
      have hr2 := run_append_grow (P := P) w t ty e i z ht hi hz ⟨g, 0, none⟩ n cap xs hown.1 holds a m c news hl hnews (by omega) (by omega) (growslice_fits (by omega) hbytes)
      rw [hr] at hr2
      injection hr2 with e1 e2
      subst e1
      exact .inr ⟨_, rfl, Nat.le_refl _⟩

theorem wpList_append_where {P : Program} (w : World) {ops : Array Oper} {rest : List Oper} {o : Oper} {a : Act} {Q : Exit → Act → World → Prop} (hgd : o.guard = none) (s x : Operand) (t : TypeId)
    (ho : o.op = .call { callee := .builtin .append, args := #[s, x], argTypes := #[t, t] })
    (base : Nat) (e : TypeId) (i : TypeInfo) (z : Value) (size bytes : Nat) (ht : P.underlying t = some (.slice e)) (hi : P.info? e = some i) (hz : i.zero = some z)
    (hsize : i.size = size) (hby : i.bytes = bytes) (hzs : z.cells.size = size) (hsz : 0 < size)
    (v : Value) (n : Nat) (xs : List Value) (hs : a.eval s = v) (hown : w.ownsRow base e size v n xs)
    (ad : Addr) (m c : Nat) (news : List Value) (hx : a.eval x = .slice (some ad) m c) (hl : news.length = m * size) (hnews : ∀ j u, news[j]? = some u → w.cell? (ad.add j) = some u) (h1 : ∀ u ∈ news, u.oneCell' = true)
    (h63 : n + m ≤ maxLen) (hbytes : (n + m) * bytes ≤ 140737488355328) (hbase : base ≤ w.heap.size)
    (h : ∀ v' w', w'.ownsRow base e size v' (n + m) (xs ++ news) → w.grownBy w' v.ownBlock → SameOrNew v v' w → wpList P ops Q rest (a.put o.dst v') w') : wpList P ops Q (o :: rest) a w := by
  refine wpList_plain hgd fun _ hK => ?_
  obtain ⟨v', w', hr, h2, h3, h4⟩ := run_append_where (P := P) w base t o.type e i z size bytes ht hi hz hsize hby hzs hsz v n xs hown ad m c news hl hnews h1 h63 hbytes hbase
  have hp := hK _ _ (h v' w' h2 h3 h4)
  unfold Oper.wp execOp
  simp only [ho, resolve, invoke, builtin, Sem.run_bind, Sem.run_pure, Result.andThen_ok, List.map_toArray, List.map_cons, List.map_nil, hs, hx, hr]
  exact hp

end Go.Proofs.YtdeflloidhbpmaaGreatDoor

namespace Go.Proofs.YtdeflloidhbpmaaGreatDoor
open Go.RowKit

def byV (b : List UInt8) : List Value := b.map fun c => .int .u8 (c.toNat : Int)
/-- A writer: a tree's three lists, the builder's own address (or none yet), its bytes. -/
structure WrAt (wb : Nat) (e s f v : Value) (p : Option Addr) (out : List UInt8) (w : World) : Prop where
  blk : w.heap[wb]? = some (.cells #[e, s, f, .pointer p, v] 56)
  ptr : p = none ∨ p = some ⟨wb, 3, none⟩
  row : w.ownsRow (wb + 1) 5 1 v out.length (byV out)
theorem Tryz.liesW : liesAt Tryz.prog Tryz.prog.depth 56 (5 / Tryz.prog.cellsOf 56) 3 54 1 = true := by kernel_rfl
theorem Tryz.sizeBu : (Tryz.prog.info? 54).map (·.size) = some 2 := by kernel_rfl
theorem Tryz.infoBy : (Tryz.prog.info? 5).map (fun i => (i.zero, i.size, i.bytes)) = some (some (.int .u8 0), 1, 1) := by kernel_rfl

set_option maxRecDepth 100000 in
set_option maxHeartbeats 1000000 in
theorem ccheck_used (wb : Nat) (e s f v : Value) (w : World) (h : w.heap[wb]? = some (.cells #[e, s, f, .pointer (some ⟨wb, 3, none⟩), v] 56)) :
    Calls Tryz.prog 65 #[.pointer (some ⟨wb, 3, none⟩)] w fun e w' => e = .returned (.tuple #[]) ∧ w' = w := by
  obtain ⟨j, hj, _⟩ := Option.map_eq_some_iff.1 Tryz.sizeBu
  have h0 : w.cell? ⟨wb, 3, none⟩ = some (.pointer (some ⟨wb, 3, none⟩)) := by simp [World.cell?, h]
  clear h
  go_enter Tryz.func65, Tryz.ntmps65
  go_wp2
  rw [Lib.run_neq_ptr_same w _ Tryz.underlying51 hj]
  go_wp2
  go_end0
  exact ⟨rfl, rfl⟩
set_option maxRecDepth 100000 in
set_option maxHeartbeats 1000000 in
theorem ccheck_fresh (wb : Nat) (e s f v : Value) (w : World) (h : w.heap[wb]? = some (.cells #[e, s, f, .pointer none, v] 56)) :
    Calls Tryz.prog 65 #[.pointer (some ⟨wb, 3, none⟩)] w fun e w' => e = .returned (.tuple #[]) ∧ w' = w.setCell ⟨wb, 3, none⟩ (.pointer (some ⟨wb, 3, none⟩)) := by
  obtain ⟨j, hj, hjs⟩ := Option.map_eq_some_iff.1 Tryz.sizeBu
  have h0 : w.cell? ⟨wb, 3, none⟩ = some (.pointer none) := by simp [World.cell?, h]
  have hsh : w.shape? wb = some (56, 5) := by simp [World.shape?, h]
  have hfz : w.frozen? ⟨wb, 3, none⟩ = false := by simp [World.frozen?, h]
  clear h
  go_enter Tryz.func65, Tryz.ntmps65
  go_wp2
  rw [Lib.run_to_unsafe w ⟨wb, 3, none⟩ Tryz.underlying51 Tryz.underlying140 hj (by rw [hjs]; decide) hsh (show 3 < 5 by decide)]
  simp only [Result.andThen]
  rw [Oper.upon_value]
  go_wp2
  rw [run_callFunc_extern Tryz.func87 (by kernel_rfl) (by kernel_rfl) (by kernel_rfl) (e := Extern.AbiNoEscape.same) (by kernel_rfl)]
  rw [Lib.run_noEscape]
  simp only [Result.andThen]
  rw [Oper.upon_value]
  go_wp2
  rw [Lib.run_from_unsafe w ⟨wb, 3, none⟩ Tryz.underlying140 Tryz.underlying51 hj hsh Tryz.liesW]
  simp only [Result.andThen]
  rw [Oper.upon_value]
  go_wp2
  go_end0
  exact ⟨rfl, rfl⟩

theorem heap_set (w : World) (g o : Nat) (v : Value) (cur : Array Value) (t : TypeId) (hg : w.heap[g]? = some (.cells cur t)) : (w.setCell ⟨g, o, none⟩ v).heap[g]? = some (.cells (cur.setIfInBounds o v) t) := by
  simp [World.setCell, Array.getElem?_modify, hg]
theorem heap_set_ne (w : World) (g o : Nat) (v : Value) (k : Nat) (h : k ≠ g) : (w.setCell ⟨g, o, none⟩ v).heap[k]? = w.heap[k]? := by
  simp [World.setCell, Array.getElem?_modify, Ne.symm h]
theorem own_set {w : World} {base e sz n wb o : Nat} {v u : Value} {xs : List Value} (h : w.ownsRow base e sz v n xs) (hb : wb < base) : (w.setCell ⟨wb, o, none⟩ u).ownsRow base e sz v n xs := by
  refine ⟨h.1, ?_⟩
  rcases h.2 with h0 | ⟨g, cap, cur, hv, hbg, hg, hr⟩
  · exact .inl h0
  · exact .inr ⟨g, cap, cur, hv, hbg, (heap_set_ne w wb o u g (by omega)).trans hg, hr⟩
theorem sav_set (w : World) (wb o : Nat) (u : Value) : Sav [wb] w (w.setCell ⟨wb, o, none⟩ u) :=
  ⟨rfl, rfl, rfl, by simp [World.setCell], fun k _ hn => heap_set_ne w wb o u k (by simpa using hn)⟩
/-- Behind the check the builder bears its own address. -/
theorem ccheck_calls (wb : Nat) (e s f v : Value) (p : Option Addr) (out : List UInt8) (w : World) (h : WrAt wb e s f v p out w) :
    Calls Tryz.prog 65 #[.pointer (some ⟨wb, 3, none⟩)] w fun e0 w' => e0 = .returned (.tuple #[]) ∧ WrAt wb e s f v (some ⟨wb, 3, none⟩) out w' ∧ Sav [wb] w w' := by
  rcases h.ptr with rfl | rfl
  · refine (ccheck_fresh wb e s f v w h.blk).mono ?_
    rintro e0 w' ⟨rfl, rfl⟩
    refine ⟨rfl, ⟨?_, .inr rfl, own_set h.row (Nat.lt_succ_self _)⟩, sav_set w wb 3 _⟩
    rw [heap_set w wb 3 _ _ _ h.blk]
    rfl
  · refine (ccheck_used wb e s f v w h.blk).mono ?_
    rintro e0 w' ⟨rfl, rfl⟩
    exact ⟨rfl, h, Sav.refl _ _⟩
theorem strCells_bs (b : List UInt8) : Lib.strCells (bs b) = byV b := by
  unfold Lib.strCells byV bs
  rfl
/-- The bytes behind: in the same block, or in a new one. -/
theorem run_append_str_where {P : Program} (w : World) (base : Nat) (t u ty e : TypeId) (i : TypeInfo) (ht : P.underlying t = some (.slice e)) (hu : P.underlying u = some .string) (hi : P.info? e = some i) (hz : i.zero = some (.int .u8 0))
    (hsize : i.size = 1) (hby : i.bytes = 1) (v : Value) (n : Nat) (xs : List Value) (hown : w.ownsRow base e 1 v n xs) (s : ByteArray)
    (h63 : n + s.size ≤ maxLen) (hbytes : n + s.size ≤ 140737488355328) (hbase : base ≤ w.heap.size) :
    ∃ v' w', (Builtin.append_ #[t, u] ty #[v, .string s]).run P w = .ok v' w' ∧ w'.ownsRow base e 1 v' (n + s.size) (xs ++ Lib.strCells s) ∧ w.grownBy w' v.ownBlock ∧ SameOrNew v v' w := by
  obtain ⟨v', w', hr, ho, hg, hnil⟩ := Lib.run_append_own_string (P := P) w base t u ty e i ht hu hi hz hsize hby v n xs hown s h63 hbytes hbase
  refine ⟨v', w', hr, ho, hg, ?_⟩
  rcases hown.2 with ⟨rfl, rfl⟩ | ⟨g, cap, cur, rfl, hbg, hgg, hnc, hcm, hcs, htake⟩
  · obtain ⟨v2, w2, hr2, ho2, _, _⟩ := Lib.run_append_own_string (P := P) w w.heap.size t u ty e i ht hu hi hz hsize hby (.slice none 0 0) 0 xs ⟨hown.1, .inl ⟨rfl, rfl⟩⟩ s h63 hbytes (Nat.le_refl _)
    rw [hr] at hr2
    injection hr2 with e1 e2
    subst e1 e2
    rcases ho2.2 with ⟨rfl, _⟩ | ⟨g, cap, cur, rfl, hbg, _⟩
    · exact .inl rfl
    · exact .inr ⟨g, rfl, hbg⟩
  · have hxl : xs.length = n := by simpa using hown.1
    by_cases hroom : n + s.size ≤ cap
    · have hcs' : cur.size = cap := by simpa using hcs
      have hr2 := Lib.run_append_room_string (P := P) w t u ty e i ht hu hi hsize g n cap cur hgg s hroom (by omega)
      rw [hr] at hr2
      injection hr2 with e1 e2
      subst e1
      exact .inl rfl
    · have holds : ∀ j u, xs[j]? = some u → w.cell? ((⟨g, 0, none⟩ : Addr).add j) = some u := hown.cells (g := g) rfl
      have hr2 := Lib.run_append_grow_string (P := P) w t u ty e i (.int .u8 0) ht hu hi hz ⟨g, 0, none⟩ n cap xs (by rw [hsize]; simpa using hxl) holds s (by omega) (by simp only [maxLen] at h63; omega) (by rw [hby]; exact growslice_fits (by omega) (by omega))
      rw [hr] at hr2
      injection hr2 with e1 e2
      subst e1
      exact .inr ⟨_, rfl, Nat.le_refl _⟩
theorem wpList_append_str_where {P : Program} (w : World) {ops : Array Oper} {rest : List Oper} {o : Oper} {a : Act} {Q : Exit → Act → World → Prop} (hgd : o.guard = none) (sl x : Operand) (t u : TypeId)
    (ho : o.op = .call { callee := .builtin .append, args := #[sl, x], argTypes := #[t, u] })
    (base : Nat) (e : TypeId) (i : TypeInfo) (ht : P.underlying t = some (.slice e)) (hu : P.underlying u = some .string) (hi : P.info? e = some i) (hz : i.zero = some (.int .u8 0))
    (hsize : i.size = 1) (hby : i.bytes = 1)
    (v : Value) (n : Nat) (xs : List Value) (hs : a.eval sl = v) (hown : w.ownsRow base e 1 v n xs) (s : ByteArray) (hx : a.eval x = .string s)
    (h63 : n + s.size ≤ maxLen) (hbytes : n + s.size ≤ 140737488355328) (hbase : base ≤ w.heap.size)
    (h : ∀ v' w', w'.ownsRow base e 1 v' (n + s.size) (xs ++ Lib.strCells s) → w.grownBy w' v.ownBlock → SameOrNew v v' w → wpList P ops Q rest (a.put o.dst v') w') : wpList P ops Q (o :: rest) a w := by
  refine wpList_plain hgd fun _ hK => ?_
  obtain ⟨v', w', hr, h2, h3, h4⟩ := run_append_str_where (P := P) w base t u o.type e i ht hu hi hz hsize hby v n xs hown s h63 hbytes hbase
  have hp := hK _ _ (h v' w' h2 h3 h4)
  unfold Oper.wp execOp
  simp only [ho, resolve, invoke, builtin, Sem.run_bind, Sem.run_pure, Result.andThen_ok, List.map_toArray, List.map_cons, List.map_nil, hs, hx, hr]
  exact hp
theorem own_sl {w : World} {base e sz n : Nat} {v : Value} {xs : List Value} (h : w.ownsRow base e sz v n xs) : ∃ A c, v = .slice A n c := by
  rcases h.2 with ⟨rfl, rfl⟩ | ⟨g, cap, cur, rfl, _⟩
  · exact ⟨none, 0, rfl⟩
  · exact ⟨_, cap, rfl⟩
/-- What WriteString leaves. -/
def WsPost (wb : Nat) (e s f v : Value) (out : List UInt8) (w : World) (e0 : Ending) (w' : World) : Prop :=
  (∃ n : Int, e0 = .returned (.tuple #[.int .i64 n, .nilIface])) ∧ ∃ v', WrAt wb e s f v' (some ⟨wb, 3, none⟩) out w' ∧ SameOrNew v v' w ∧ Sav (wb :: v.ownBlock.toList) w w'
set_option maxRecDepth 100000 in
set_option maxHeartbeats 1000000 in
theorem wstr_calls (wb : Nat) (e s f v : Value) (p : Option Addr) (out b : List UInt8) (w : World) (hl : out.length + b.length ≤ 1000000000) (h : WrAt wb e s f v p out w) :
    Calls Tryz.prog 39 #[.pointer (some ⟨wb, 3, none⟩), .string (bs b)] w (WsPost wb e s f v (out ++ b) w) := by
  obtain ⟨i0, hi0, hz0, hz1, hz2⟩ := info_parts Tryz.infoBy
  have hC := Lib.hid (ccheck_calls wb e s f v p out w h)
  have hwb : wb < w.heap.size := (Array.getElem?_eq_some_iff.1 h.blk).1
  have hbs : (bs b).size = b.length := by simp [bs, ByteArray.size]
  have hrow := Lib.hid h.row
  clear h
  go_enter Tryz.func39, Tryz.ntmps39
  go_wp2_with (go_at_call 65; refine hC.out.mono ?_)
  rintro e0 w1 ⟨rfl, h1, hS⟩
  have c4 : w1.cell? ⟨wb, 4, none⟩ = some v := by simp [World.cell?, h1.blk]
  have hs1 := hS.size
  have HB : Hid (∀ w3, w1.grownBy w3 v.ownBlock → w3.heap[wb]? = some (.cells #[e, s, f, .pointer (some ⟨wb, 3, none⟩), v] 56)) := Lib.hid fun w3 hg => by
    rw [hg.block wb (by omega) (fun e => by have := h1.row.lt wb e.symm; omega)]
    exact h1.blk
  have H1 := Lib.hid h1
  have HS := Lib.hid hS
  clear h1 hS hC
  go_wp2_with (at_builtin; refine wpList_append_str_where _ rfl _ _ 52 9 rfl (wb + 1) 5 i0 Tryz.underlying52 Tryz.underlying9 hi0 hz0 hz1 hz2 v out.length (byV out) rfl H1.out.row (bs b) rfl (by rw [hbs]; unfold maxLen; omega) (by rw [hbs]; omega) (by omega) ?_; intro v' w3 hown hgrow hsn; obtain ⟨A', c', rfl⟩ := own_sl hown; have hb3 := HB.out w3 hgrow; have d4 : w3.cell? ⟨wb, 4, none⟩ = some v := (by simp [World.cell?, hb3]); have f4 : w3.frozen? ⟨wb, 4, none⟩ = false := (by simp [World.frozen?, hb3]); have H3 := Lib.hid hb3; clear hb3; have HG := Lib.hid hgrow; have HO := Lib.hid hown; have HN := Lib.hid hsn; clear hgrow hown hsn)
  go_ret2
  have hown : w3.ownsRow (wb + 1) 5 1 (.slice A' (out.length + (bs b).size) c') (out ++ b).length (byV (out ++ b)) := by
    have := HO.out
    rw [strCells_bs] at this
    rw [List.length_append, ← hbs, byV, List.map_append]
    exact this
  refine ⟨⟨_, rfl⟩, _, ⟨?_, .inr rfl, own_set hown (Nat.lt_succ_self _)⟩, ?_, ?_⟩
  · rw [heap_set w3 wb 4 _ _ _ H3.out]; rfl
  · rcases HN.out with h | ⟨g, h1, h2⟩
    · exact .inl h
    · exact .inr ⟨g, h1, by omega⟩
  · refine ((HS.out.mono (by simp)).trans ⟨HG.out.os, HG.out.tape, HG.out.output, HG.out.size, fun k hk hn => HG.out.block k hk fun e => hn (by simp [e])⟩).trans ((sav_set w3 wb 4 _).mono (by simp))
end Go.Proofs.YtdeflloidhbpmaaGreatDoor

namespace Go.Proofs.YtdeflloidhbpmaaGreatDoor
open Go.RowKit

set_option maxRecDepth 100000 in
set_option maxHeartbeats 1000000 in
theorem from_behind_calls (v : Value) (l : List Pc) (w : World) (hn : l.length ≤ 100000) (h : ArrAt w 3 v l.length (pcsV l)) :
    Calls Tryz.prog 37 #[v] w (PcsPost l.reverse w) := by
  have hC := Lib.hid (pclone_calls v l w hn h)
  have hR : Hid (∀ v w1, w1.ownsRow w.heap.size 59 3 v l.length (pcsV l) → Calls Tryz.prog 59 #[v] w1 (RevPost w.heap.size v l w1)) := Lib.hid fun v w1 h1 => preverse_calls w.heap.size v l w1 hn h1
  obtain ⟨A, c, rfl, _⟩ := h
  go_enter Tryz.func37, Tryz.ntmps37
  go_wp2_with (go_at_call 58; refine hC.out.mono ?_)
  rintro e w1 ⟨v1, rfl, h1, hB⟩
  obtain ⟨A1, c1, rfl⟩ := own_sl h1
  have hr := Lib.hid (hR.out _ _ h1)
  have HB := Lib.hid hB
  have H1 := Lib.hid h1
  clear h1 hB
  go_wp2_with (go_at_call 59; refine hr.out.mono ?_)
  rintro e w2 ⟨rfl, h2, hS⟩
  have H2 := Lib.hid h2
  have HS := Lib.hid hS
  clear h2 hS
  go_wp2
  go_ret
  refine ⟨_, rfl, by rw [List.length_reverse]; exact H2.out, HB.out.trans (HS.out.below (fun x hx => ?_) HB.out.size)⟩
  have := (H1.out.lt x (by simpa [eq_comm] using hx)).1
  exact this
end Go.Proofs.YtdeflloidhbpmaaGreatDoor
