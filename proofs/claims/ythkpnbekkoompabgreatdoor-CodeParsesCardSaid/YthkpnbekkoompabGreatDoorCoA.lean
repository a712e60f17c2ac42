/-
  Code in memory: procedures, instructions; the table of shapes.
-/
import Derived.Test.YthkpnbekkoompabGreatDoorTabs
import Derived.Test.YthkpnbekkoompabGreatDoorCoR
import Derived.WalkKit
import Derived.WalkSpells
import Derived.Below
import Derived.Lib.Hide
namespace Go.Proofs.YthkpnbekkoompabGreatDoor
open Go.RowKit

/-- Values that fit. -/
def i64 (n : Int) : Prop := -9223372036854775808 ≤ n ∧ n ≤ 9223372036854775807
def PrM.fit (p : PrM) : Prop := i64 p.frm ∧ i64 p.to ∧ i64 p.par ∧ i64 p.slo ∧ i64 p.typ
def InM.fit (x : InM) : Prop := i64 x.op ∧ i64 x.arg ∧ i64 x.mor
def prV (p : PrM) : Value := .agg #[.string (bs p.name), .int .i64 p.frm, .int .i64 p.to, .int .i64 p.par, .int .i64 p.slo, .int .i64 p.typ]
def inV (x : InM) : Value := .agg #[.int .i64 x.op, .int .i64 x.arg, .int .i64 x.mor]
/-- A slice value reads as procedures, in a block below B. -/
def PrAt (w : World) (B : Nat) (A : Option Addr) (ps : List PrM) : Prop :=
  0 < ps.length → ∃ b off, A = some ⟨b, off, none⟩ ∧ b < B ∧ ∀ i (h : i < ps.length), w.cell? ⟨b, off + i * 6, none⟩ = some (.string (bs (ps[i]).name)) ∧ w.cell? ⟨b, off + i * 6 + 1, none⟩ = some (.int .i64 (ps[i]).frm) ∧ w.cell? ⟨b, off + i * 6 + 2, none⟩ = some (.int .i64 (ps[i]).to) ∧ w.cell? ⟨b, off + i * 6 + 3, none⟩ = some (.int .i64 (ps[i]).par) ∧ w.cell? ⟨b, off + i * 6 + 4, none⟩ = some (.int .i64 (ps[i]).slo) ∧ w.cell? ⟨b, off + i * 6 + 5, none⟩ = some (.int .i64 (ps[i]).typ)
def InAt (w : World) (B : Nat) (A : Option Addr) (is : List InM) : Prop :=
  0 < is.length → ∃ b off, A = some ⟨b, off, none⟩ ∧ b < B ∧ ∀ i (h : i < is.length), w.cell? ⟨b, off + i * 3, none⟩ = some (.int .i64 (is[i]).op) ∧ w.cell? ⟨b, off + i * 3 + 1, none⟩ = some (.int .i64 (is[i]).arg) ∧ w.cell? ⟨b, off + i * 3 + 2, none⟩ = some (.int .i64 (is[i]).mor)
theorem PrAt.keep {w w' : World} {B : Nat} {A : Option Addr} {ps : List PrM} (h : PrAt w B A ps) (hk : ∀ b o, b < B → w'.cell? ⟨b, o, none⟩ = w.cell? ⟨b, o, none⟩) : PrAt w' B A ps := fun hn => by
  obtain ⟨b, off, rfl, hb, hc⟩ := h hn
  refine ⟨b, off, rfl, hb, fun i hi => ?_⟩
  rw [hk _ _ hb, hk _ _ hb, hk _ _ hb, hk _ _ hb, hk _ _ hb, hk _ _ hb]
  exact hc i hi
theorem InAt.keep {w w' : World} {B : Nat} {A : Option Addr} {is : List InM} (h : InAt w B A is) (hk : ∀ b o, b < B → w'.cell? ⟨b, o, none⟩ = w.cell? ⟨b, o, none⟩) : InAt w' B A is := fun hn => by
  obtain ⟨b, off, rfl, hb, hc⟩ := h hn
  refine ⟨b, off, rfl, hb, fun i hi => ?_⟩
  rw [hk _ _ hb, hk _ _ hb, hk _ _ hb]
  exact hc i hi
/-- Code by value: two slices; C1 to C4 where they lie. -/
structure CoAt (w : World) (B : Nat) (A : Option Addr) (c1 : Nat) (A2 : Option Addr) (c2 : Nat) (c : CoM) : Prop where
  prs : PrAt w B A c.ps
  ins : InAt w B A2 c.is
  capP : c.ps.length ≤ c1
  capI : c.is.length ≤ c2
  few : c1 ≤ maxLen ∧ c2 ≤ maxLen
  fitP : ∀ p ∈ c.ps, p.fit
  fitI : ∀ x ∈ c.is, x.fit
def coV (A : Option Addr) (c1 : Nat) (A2 : Option Addr) (c2 : Nat) (c : CoM) : Value := .agg #[.slice A c.ps.length c1, .slice A2 c.is.length c2]
theorem CoAt.keep {w w' : World} {B c1 c2 : Nat} {A A2 : Option Addr} {c : CoM} (h : CoAt w B A c1 A2 c2 c) (hk : ∀ b o, b < B → w'.cell? ⟨b, o, none⟩ = w.cell? ⟨b, o, none⟩) : CoAt w' B A c1 A2 c2 c :=
  ⟨h.prs.keep hk, h.ins.keep hk, h.capP, h.capI, h.few, h.fitP, h.fitI⟩
theorem CoAt.below {w w' : World} {B B' c1 c2 : Nat} {A A2 : Option Addr} {c : CoM} (h : CoAt w B A c1 A2 c2 c) (hb : Below B' w w') (hB : B ≤ B') : CoAt w' B A c1 A2 c2 c :=
  h.keep fun b o hlt => hb.cell (p := ⟨b, o, none⟩) (by simp; omega)

theorem CoAt.wide {w : World} {B B' c1 c2 : Nat} {A A2 : Option Addr} {c : CoM} (h : CoAt w B A c1 A2 c2 c) (hB : B ≤ B') : CoAt w B' A c1 A2 c2 c :=
  ⟨fun hn => by obtain ⟨b, off, e, hb, hc⟩ := h.prs hn; exact ⟨b, off, e, by omega, hc⟩, fun hn => by obtain ⟨b, off, e, hb, hc⟩ := h.ins hn; exact ⟨b, off, e, by omega, hc⟩, h.capP, h.capI, h.few, h.fitP, h.fitI⟩

/-- What stands in the table of shapes. -/
def opW : List (List UInt8) := [[], [109, 97, 114, 107], [99, 111, 110, 115, 116], [108, 111, 97, 100], [115, 116, 111, 114, 101], [108, 111, 97, 100, 97, 116], [115, 116, 111, 114, 101, 97, 116], [110, 101, 119], [114, 101, 97, 100], [110, 101, 103], [110, 111, 116], [97, 100, 100], [115, 117, 98], [109, 117, 108], [100, 105, 118], [109, 111, 100], [108, 116], [108, 101], [103, 116], [103, 101], [101, 113], [110, 101], [106, 117, 109, 112], [106, 117, 109, 112, 110, 111, 116], [97, 110, 100], [111, 114], [99, 97, 108, 108], [114, 101, 116, 117, 114, 110], [112, 114, 105, 110, 116], [112, 111, 112]]
def akL : List Int := [0, 2, 1, 3, 3, 3, 3, 3, 0, 0, 0, 0, 0, 0, 0, 0, 0, 0, 0, 0, 0, 0, 4, 4, 4, 4, 5, 6, 7, 0]
def Shp (w : World) : Prop := (∀ i, i < 30 → w.cell? ⟨0, i * 4, none⟩ = some (.string (bs (opW.getD i []))) ∧ w.cell? ⟨0, i * 4 + 1, none⟩ = some (.int .i64 (akL.getD i 0)) ∧ w.cell? ⟨0, i * 4 + 2, none⟩ = some (.int .i64 (tkL.getD i 0)) ∧ w.cell? ⟨0, i * 4 + 3, none⟩ = some (.int .i64 (lvL.getD i 0))) ∧ 0 < w.heap.size
theorem Shp.keep {w w' : World} (h : Shp w) (hk : ∀ b o, b < w.heap.size → w'.cell? ⟨b, o, none⟩ = w.cell? ⟨b, o, none⟩) (hs : w.heap.size ≤ w'.heap.size) : Shp w' :=
  ⟨fun i hi => by rw [hk _ _ h.2, hk _ _ h.2, hk _ _ h.2, hk _ _ h.2]; exact h.1 i hi, Nat.lt_of_lt_of_le h.2 hs⟩
theorem Shp.at' {w w' : World} (h : Shp w) (hk : ∀ o, w'.cell? ⟨0, o, none⟩ = w.cell? ⟨0, o, none⟩) (hs : 0 < w'.heap.size) : Shp w' :=
  ⟨fun i hi => by rw [hk, hk, hk, hk]; exact h.1 i hi, hs⟩
theorem Shp.below {w w' : World} (h : Shp w) (hb : Below w.heap.size w w') : Shp w' := h.keep (fun b o hlt => hb.cell (p := ⟨b, o, none⟩) hlt) hb.size
theorem Shp.drewN {w : World} (h : Shp w) (n : Nat) : Shp (w.drewN n) := h
theorem bcell {W w1 : World} {B : Nat} (hb : Below B W w1) : (∀ b o, b < B → w1.cell? ⟨b, o, none⟩ = W.cell? ⟨b, o, none⟩) ∧ (∀ b o, b < B → w1.frozen? ⟨b, o, none⟩ = W.frozen? ⟨b, o, none⟩) :=
  ⟨fun b o h => hb.cell (p := ⟨b, o, none⟩) h, fun b o h => hb.frozen (p := ⟨b, o, none⟩) h⟩

theorem heapOne (W : World) (cs : Array Value) (t : TypeId) : (W.alloc (.cells cs t)).heap[W.heap.size]? = some (.cells cs t (0, 0)) := by
  show (W.heap.push _)[W.heap.size]? = _
  simp
theorem cellC {w : World} {g : Nat} {a : Array Value} {t : TypeId} {fr : Nat × Nat} (h : w.heap[g]? = some (.cells a t fr)) (o : Nat) : w.cell? ⟨g, o, none⟩ = a[o]? := by simp [World.cell?, h]
theorem newC {w : World} {g o : Nat} {u : Value} (h : w.cell? ⟨g, o, none⟩ = some u) (b : Obj) : (w.alloc b).cell? ⟨g, o, none⟩ = some u := by
  have hg : g < w.heap.size := World.block_lt_of_cell? w ⟨g, o, none⟩ h
  simp only [World.cell?] at h ⊢
  rw [Below.heap_alloc w _ g hg]
  exact h
theorem keepC {w w' : World} {g o B : Nat} {u : Value} (hb : Below B w w') (h : w.cell? ⟨g, o, none⟩ = some u) (hg : g < B) : w'.cell? ⟨g, o, none⟩ = some u := (hb.cell (p := ⟨g, o, none⟩) hg).trans h
theorem ltC {w : World} {g o : Nat} {u : Value} (h : w.cell? ⟨g, o, none⟩ = some u) : g < w.heap.size := World.block_lt_of_cell? w ⟨g, o, none⟩ h

/-! What Args may be, by their kinds. -/
def loM (k : Int) (p : PrM) : Int := if k = 1 then -9223372036854775808 else if k = 4 then p.frm else if k = 6 then ansM p else if k = 7 then 1 else 0
def hiM (k : Int) (p : PrM) (np : Nat) : Int := if k = 1 then 9223372036854775807 else if k = 2 then 999 else if k = 3 then p.slo - 1 else if k = 4 then p.to - 1 else if k = 5 then (np : Int) - 1 else if k = 6 then ansM p else if k = 7 then 2 else 0
theorem akL_of (op : Int) (h1 : 1 ≤ op) (h2 : op ≤ 29) : akL.getD op.toNat 0 = (if op = 1 then 2 else if op = 2 then 1 else if 3 ≤ op ∧ op ≤ 7 then 3 else if 22 ≤ op ∧ op ≤ 25 then 4 else if op = 26 then 5 else if op = 27 then 6 else if op = 28 then 7 else 0) := by
  have key : ∀ k : Fin 30, 1 ≤ k.1 → akL.getD k.1 0 = (if (k.1 : Int) = 1 then 2 else if (k.1 : Int) = 2 then 1 else if 3 ≤ (k.1 : Int) ∧ (k.1 : Int) ≤ 7 then 3 else if 22 ≤ (k.1 : Int) ∧ (k.1 : Int) ≤ 25 then 4 else if (k.1 : Int) = 26 then 5 else if (k.1 : Int) = 27 then 6 else if (k.1 : Int) = 28 then 7 else 0) := by decide
  have := key ⟨op.toNat, by omega⟩ (by dsimp only; omega)
  dsimp only at this
  rw [this]
  have e : (op.toNat : Int) = op := by omega
  rw [e]
theorem argOk_iff (p : PrM) (np : Nat) (x : InM) (h1 : 1 ≤ x.op) (h2 : x.op ≤ 29) (hf : i64 x.arg) : argOk p np x ↔ loM (akL.getD x.op.toNat 0) p ≤ x.arg ∧ x.arg ≤ hiM (akL.getD x.op.toNat 0) p np := by
  rw [akL_of x.op h1 h2]
  unfold i64 at hf
  unfold argOk
  by_cases e1 : x.op = 1
  · rw [if_pos e1, if_pos e1, show loM 2 p = 0 from rfl, show hiM 2 p np = 999 from rfl]; omega
  rw [if_neg e1, if_neg e1]
  by_cases e2 : x.op = 2
  · rw [if_pos e2, if_pos e2, show loM 1 p = -9223372036854775808 from rfl, show hiM 1 p np = 9223372036854775807 from rfl]; simp; omega
  rw [if_neg e2, if_neg e2]
  by_cases e3 : 3 ≤ x.op ∧ x.op ≤ 7
  · rw [if_pos e3, if_pos e3, show loM 3 p = 0 from rfl, show hiM 3 p np = p.slo - 1 from rfl]; omega
  rw [if_neg e3, if_neg e3]
  by_cases e4 : 22 ≤ x.op ∧ x.op ≤ 25
  · rw [if_pos e4, if_pos e4, show loM 4 p = p.frm from rfl, show hiM 4 p np = p.to - 1 from rfl]; omega
  rw [if_neg e4, if_neg e4]
  by_cases e5 : x.op = 26
  · rw [if_pos e5, if_pos e5, show loM 5 p = 0 from rfl, show hiM 5 p np = (np : Int) - 1 from rfl]; omega
  rw [if_neg e5, if_neg e5]
  by_cases e6 : x.op = 27
  · rw [if_pos e6, if_pos e6, show loM 6 p = ansM p from rfl, show hiM 6 p np = ansM p from rfl]; omega
  rw [if_neg e6, if_neg e6]
  by_cases e7 : x.op = 28
  · rw [if_pos e7, if_pos e7, show loM 7 p = 1 from rfl, show hiM 7 p np = 2 from rfl]
  rw [if_neg e7, if_neg e7, show loM 0 p = 0 from rfl, show hiM 0 p np = 0 from rfl]; omega

end Go.Proofs.YthkpnbekkoompabGreatDoor
