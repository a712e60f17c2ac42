/-
  Code (layer 10): heights that are found by going through the row again and again (the document's own).
  Code in memory: procedures, instructions; the table of shapes.
  Code as a text (layer 10): what a line's parts put behind code.
  The library's contracts that package code stands on, laid at this program's own functions.
-/
import Derived.Test.YtbhlockoeiedcaaGreatDoorK04
import Derived.WalkKit
import Derived.WalkSpells
import Derived.Below
import Derived.Lib.Hide
import Derived.Lib.AtoiAll
import Derived.Lib.ItoaNum
import Derived.Shelf.Strings.Builder1
import Derived.Shelf.Strings.Builder2
import Derived.Shelf.Strings.Split
import Derived.Shelf.Strconv.AtoiAll
import Derived.Shelf.Strconv.Itoa3
import Derived.Shelf.Strconv.Clone
import Derived.Shelf.Strings.OnBuilder
import Derived.Shelf.Strings.Cut
import Derived.Shelf.Bits.Mul64
import Derived.Ground.NamesProg
import Derived.Test.YtbhlockoeiedcaaGreatDoorProg
namespace Go.Proofs.YtbhlockoeiedcaaGreatDoor

/-- What holds within a round at place i; u0: how many had no height at the round's beginning. -/
structure Scn (c : CoM) (F T : Nat) (hs0 hs : List Int) (u0 i : Nat) (more : Bool) : Prop where
  len : hs.length = c.is.length
  out : ∀ i, ¬ (F ≤ i ∧ i < T) → hAt hs i = hAt hs0 i
  first : hAt hs F = 0
  met : ∀ i, F ≤ i → i < T → (hAt hs i = -1 ∨ (0 ≤ hAt hs i ∧ hAt hs i ≤ 200)) ∧ (0 ≤ hAt hs i → Met c F i (hAt hs i))
  few : unset hs + (if more then 1 else 0) ≤ u0
  done : more = false → ∀ j, F ≤ j → j < i → 0 ≤ hAt hs j → Done c T hs j (hAt hs j)
theorem Scn.put {c : CoM} {F T : Nat} {hs0 hs : List Int} {u0 i : Nat} {more : Bool} {a : Nat} {h : Int} {q : Nat × Int} (hI : Scn c F T hs0 hs u0 i more) (hl : T ≤ c.is.length) (hF : F ≤ q.1) (h0 : 0 ≤ q.2)
    (hm : Met c F a h) (ht : takesM c (insAt c a) ≤ h) (hq : q ∈ nexts c a (insAt c a) h) (hT : q.1 < T) (h2 : q.2 ≤ 200) (hn : hAt hs q.1 < 0) : Scn c F T hs0 (hs.set q.1 q.2) u0 i true ∧ Ext hs (hs.set q.1 q.2) ∧ hAt (hs.set q.1 q.2) q.1 = q.2 := by
  obtain ⟨I1, I2, I3, I4, I5, I6⟩ := hI
  have hn1 : hAt hs q.1 = -1 := by rcases (I4 q.1 hF hT).1 with x | x <;> omega
  have hlt : q.1 < hs.length := by omega
  have hu := unset_set hs q.1 q.2 hlt hn1 (by omega)
  have hs' := fun j => hAt_set hs q.1 j q.2 hlt
  refine ⟨⟨by simp [I1], fun i hi => ?_, ?_, fun i h1 h2 => ?_, ?_, fun e => by cases e⟩, Ext.set hlt hn1, by rw [hs', if_pos rfl]⟩
  · rw [hs', if_neg (fun e => hi (by omega))]; exact I2 i hi
  · rw [hs', if_neg (fun e => by rw [e, I3] at hn; omega)]; exact I3
  · rw [hs']
    by_cases e : q.1 = i
    · rw [if_pos e]; subst e
      exact ⟨.inr ⟨h0, by omega⟩, fun _ => Met.step hm ht hq⟩
    · rw [if_neg e]; exact I4 i h1 h2
  · rw [if_pos rfl]
    have : 0 ≤ (if more = true then 1 else 0) := by omega
    omega
theorem Scn.on {c : CoM} {F T : Nat} {hs0 hs : List Int} {u0 i : Nat} {more : Bool} (hI : Scn c F T hs0 hs u0 i more) (hd : 0 ≤ hAt hs i → Done c T hs i (hAt hs i)) : Scn c F T hs0 hs u0 (i + 1) more :=
  ⟨hI.len, hI.out, hI.first, hI.met, hI.few, fun e j h1 h2 h3 => by
    by_cases e2 : j = i
    · subst e2; exact hd h3
    · exact hI.done e j h1 (by omega) h3⟩
theorem Scn.hts {c : CoM} {F T : Nat} {hs0 hs : List Int} {u0 : Nat} (h : Scn c F T hs0 hs u0 T false) : HtsP c F T hs :=
  ⟨h.first, fun i h1 h2 h3 => h.done rfl i h1 h2 h3, fun i h1 h2 => ⟨(h.met i h1 h2).1.imp id And.left, (h.met i h1 h2).2⟩⟩
/-- A new round. -/
theorem Scn.again {c : CoM} {F T : Nat} {hs0 hs : List Int} {u0 i : Nat} {more : Bool} (h : Scn c F T hs0 hs u0 i more) : Scn c F T hs0 hs (unset hs) F false :=
  ⟨h.len, h.out, h.first, h.met, by simp, fun _ j h1 h2 => by omega⟩
theorem scn_start {c : CoM} {F T : Nat} {hs0 : List Int} (hFT : F < T) (hl : T ≤ c.is.length) (hlen : hs0.length = c.is.length) (h0 : ∀ i, F ≤ i → i < T → hAt hs0 i = -1) : Scn c F T hs0 (hs0.set F 0) (unset (hs0.set F 0)) F false := by
  have hf := (fnd_start hFT hl hlen h0).2
  exact ⟨hf.len, hf.out, hf.first, hf.met, by simp, fun _ j h1 h2 => by omega⟩

/-- Those that are found, procedure by procedure: n of them. -/
structure Upto (c : CoM) (hs : List Int) (n : Nat) : Prop where
  len : hs.length = c.is.length
  ok : ∀ k (h : k < c.ps.length), k < n → HtsP c (c.ps[k]).frm.toNat (c.ps[k]).to.toNat hs
  no : ∀ k (h : k < c.ps.length), n ≤ k → ∀ i, (c.ps[k]).frm.toNat ≤ i → i < (c.ps[k]).to.toNat → hAt hs i = -1
theorem Done.same {c : CoM} {T : Nat} {a b : List Int} {F i : Nat} {h : Int} (hd : Done c T a i h) (hF : ∀ q ∈ nexts c i (insAt c i) h, F ≤ q.1) (he : ∀ i, F ≤ i → i < T → hAt b i = hAt a i) : Done c T b i h :=
  ⟨hd.1, fun q hq => by
    obtain ⟨d1, d2, d3⟩ := hd.2 q hq
    exact ⟨d1, d2, (he q.1 (hF q hq) d1).trans d3⟩⟩
theorem HtsP.same {c : CoM} {p : PrM} {F T : Nat} {a b : List Int} (h : HtsP c F T a) (hFT : F < T) (hF : p.frm = (F : Int)) (hT : p.to = (T : Int)) (hl : T ≤ c.is.length) (hb : ∀ x ∈ body c p, inOk p c.ps.length x) (he : ∀ i, F ≤ i → i < T → hAt b i = hAt a i) : HtsP c F T b := by
  refine ⟨(he F (Nat.le_refl _) hFT).trans h.first, fun i h1 h2 h3 => ?_, fun i h1 h2 => ?_⟩
  · rw [he i h1 h2] at h3 ⊢
    exact (h.done i h1 h2 h3).same (fun q hq => nexts_ge c F p _ i _ _ hF (hb _ (ins_body hF hT hl h1 h2)) h1 q hq) he
  · rw [he i h1 h2]; exact h.met i h1 h2
/-- Procedures lie apart. -/
theorem ordB_apart : ∀ (ps : List PrM) (e : Int) (n : Nat), 0 ≤ e → ordB e ps = some (n : Int) → ∀ i j (hi : i < ps.length) (hj : j < ps.length), i < j → (ps[i]).to ≤ (ps[j]).frm
  | [], e, n, _, h, i, j, hi, _, _ => by simp at hi
  | p :: r, e, n, h0, h, i, j, hi, hj, hij => by
    unfold ordB at h
    split at h
    · rename_i hc
      match i, j with
      | 0, 0 => omega
      | i + 1, 0 => omega
      | 0, j + 1 =>
        have hj' : j < r.length := by simpa using hj
        have := (ordB_range r p.to n (by omega) h).2 r[j] (List.getElem_mem hj')
        simp only [List.getElem_cons_zero, List.getElem_cons_succ]
        omega
      | i + 1, j + 1 =>
        have := ordB_apart r p.to n (by omega) h i j (by simpa using hi) (by simpa using hj) (by omega)
        simpa using this
    · cases h
theorem Upto.step {c : CoM} {hs hs' : List Int} {k : Nat} (hst : StOk c) (h : Upto c hs k) (hk : k < c.ps.length) (hlen : hs'.length = c.is.length) (hout : ∀ i, ¬ ((c.ps[k]).frm.toNat ≤ i ∧ i < (c.ps[k]).to.toNat) → hAt hs' i = hAt hs i) (hp : HtsP c (c.ps[k]).frm.toNat (c.ps[k]).to.toNat hs') : Upto c hs' (k + 1) := by
  have hr := hst.1.range (List.getElem_mem hk)
  refine ⟨hlen, fun j hj hjk => ?_, fun j hj hjk i h1 h2 => ?_⟩
  · by_cases e : j = k
    · subst e; exact hp
    · have hrj := hst.1.range (List.getElem_mem hj)
      have ha := ordB_apart c.ps 0 c.is.length (by omega) hst.1.2 j k hj hk (by omega)
      exact (h.ok j hj (by omega)).same hrj.2.2.1 hrj.1 hrj.2.1 hrj.2.2.2 (hst.2 _ (List.getElem_mem hj)).2 fun i h1 h2 => hout i (by omega)
  · have ha := ordB_apart c.ps 0 c.is.length (by omega) hst.1.2 k j hk hj (by omega)
    have hrj := hst.1.range (List.getElem_mem hj)
    rw [hout i (by omega)]
    exact h.no j hj (by omega) i h1 h2
theorem Upto.all {c : CoM} {hs : List Int} (h : Upto c hs c.ps.length) : HtsC c hs := ⟨h.len, fun p hp => by
  obtain ⟨k, hk, rfl⟩ := List.mem_iff_getElem.1 hp
  exact h.ok k hk hk⟩
theorem hAt_replicate (n i : Nat) : hAt (List.replicate n (-1)) i = -1 := by
  unfold hAt
  rw [List.getD_eq_getElem?_getD, List.getElem?_replicate]
  split <;> rfl
theorem Upto.zero (c : CoM) : Upto c (List.replicate c.is.length (-1)) 0 := ⟨by simp, fun k _ h => by omega, fun k _ _ i _ _ => hAt_replicate _ _⟩
/-- Where something goes wrong code isn't good. -/
theorem wrong_bad {c : CoM} {k : Nat} (hst : StOk c) (hk : k < c.ps.length) (hw : Wrong c (c.ps[k]).frm.toNat (c.ps[k]).to.toNat) : ¬ GoodC c := fun hg => by
  obtain ⟨_, hs, h⟩ := hg
  have hr := hst.1.range (List.getElem_mem hk)
  exact hw.no (h.2 _ (List.getElem_mem hk)) hr.2.2.1 hr.1 hr.2.1 hr.2.2.2 (hst.2 _ (List.getElem_mem hk)).2

end Go.Proofs.YtbhlockoeiedcaaGreatDoor

namespace Go.Proofs.YtbhlockoeiedcaaGreatDoor
open Go.RowKit

/-- Values that fit. -/
def i64 (n : Int) : Prop := -9223372036854775808 ≤ n ∧ n ≤ 9223372036854775807
def PrM.fit (p : PrM) : Prop := i64 p.frm ∧ i64 p.to ∧ i64 p.par ∧ i64 p.slo ∧ i64 p.typ
def InM.fit (x : InM) : Prop := i64 x.op ∧ i64 x.arg ∧ i64 x.mor
def prV (p : PrM) : Value := .agg #[.string (bs p.name), .int .i64 p.frm, .int .i64 p.to, .int .i64 p.par, .int .i64 p.slo, .int .i64 p.typ]
def inV (x : InM) : Value := .agg #[.int .i64 x.op, .int .i64 x.arg, .int .i64 x.mor]
/-- A slice value reads as procedures, in a block below B. -/
def PrAt (w : World) (B : Nat) (A : Option Addr) (ps : List PrM) : Prop :=
  0 < ps.length → ∃ b off, A = some ⟨b, off, none⟩ ∧ b < B ∧ ∀ i (h : i < ps.length), w.cell? ⟨b, off + i * 6, none⟩ = some (.string (bs (ps[i]).name)) ∧ w.cell? ⟨b, off + i * 6 + 1, none⟩ = some (.int .i64 (ps[i]).frm) ∧ w.cell? ⟨b, off + i * 6 + 2, none⟩ = some (.int .i64 (ps[i]).to) ∧ w.cell? ⟨b, off + i * 6 + 3, none⟩ = some (.int .i64 (ps[i]).par) ∧ w.cell? ⟨b, off + i * 6 + 4, none⟩ = some (.int .i64 (ps[i]).slo) ∧ w.cell? ⟨b, off + i * 6 + 5, none⟩ = some (.int .i64 (ps[i]).typ)
def InAt (w : World) (B : Nat) (A : Option Addr) (is : List InM) : Prop :=
  0 < is.length → ∃ b off, A = some ⟨b, off, none⟩ ∧ b < B ∧ ∀ i (h : i < is.length), w.cell? ⟨b, off + i * 3, none⟩ = some (.int .i64 (is[i]).op) ∧ w.cell? ⟨b, off + i * 3 + 1, none⟩ = some (.int .i64 (is[i]).arg) ∧ w.cell? ⟨b, off + i * 3 + 2, none⟩ = some (.int .i64 (is[i]).mor)
theorem PrAt.keep {w w' : World} {B : Nat} {A : Option Addr} {ps : List PrM} (h : PrAt w B A ps) (hk : ∀ b o, b < B → w'.cell? ⟨b, o, none⟩ = w.cell? ⟨b, o, none⟩) : PrAt w' B A ps := fun hn => by
  obtain ⟨b, off, rfl, hb, hc⟩ := h hn
  refine ⟨b, off, rfl, hb, fun i hi => ?_⟩
  rw [hk _ _ hb, hk _ _ hb, hk _ _ hb, hk _ _ hb, hk _ _ hb, hk _ _ hb]
  exact hc i hi
theorem InAt.keep {w w' : World} {B : Nat} {A : Option Addr} {is : List InM} (h : InAt w B A is) (hk : ∀ b o, b < B → w'.cell? ⟨b, o, none⟩ = w.cell? ⟨b, o, none⟩) : InAt w' B A is := fun hn => by
  obtain ⟨b, off, rfl, hb, hc⟩ := h hn
  refine ⟨b, off, rfl, hb, fun i hi => ?_⟩
  rw [hk _ _ hb, hk _ _ hb, hk _ _ hb]
  exact hc i hi
/-- Code by value: two slices; C1 to C4 where they lie. -/
structure CoAt (w : World) (B : Nat) (A : Option Addr) (c1 : Nat) (A2 : Option Addr) (c2 : Nat) (c : CoM) : Prop where
  prs : PrAt w B A c.ps
  ins : InAt w B A2 c.is
  capP : c.ps.length ≤ c1
  capI : c.is.length ≤ c2
  few : c1 ≤ maxLen ∧ c2 ≤ maxLen
  fitP : ∀ p ∈ c.ps, p.fit
  fitI : ∀ x ∈ c.is, x.fit
def coV (A : Option Addr) (c1 : Nat) (A2 : Option Addr) (c2 : Nat) (c : CoM) : Value := .agg #[.slice A c.ps.length c1, .slice A2 c.is.length c2]
theorem CoAt.keep {w w' : World} {B c1 c2 : Nat} {A A2 : Option Addr} {c : CoM} (h : CoAt w B A c1 A2 c2 c) (hk : ∀ b o, b < B → w'.cell? ⟨b, o, none⟩ = w.cell? ⟨b, o, none⟩) : CoAt w' B A c1 A2 c2 c :=
  ⟨h.prs.keep hk, h.ins.keep hk, h.capP, h.capI, h.few, h.fitP, h.fitI⟩
theorem CoAt.below {w w' : World} {B B' c1 c2 : Nat} {A A2 : Option Addr} {c : CoM} (h : CoAt w B A c1 A2 c2 c) (hb : Below B' w w') (hB : B ≤ B') : CoAt w' B A c1 A2 c2 c :=
  h.keep fun b o hlt => hb.cell (p := ⟨b, o, none⟩) (by simp; omega)

theorem CoAt.wide {w : World} {B B' c1 c2 : Nat} {A A2 : Option Addr} {c : CoM} (h : CoAt w B A c1 A2 c2 c) (hB : B ≤ B') : CoAt w B' A c1 A2 c2 c :=
  ⟨fun hn => by obtain ⟨b, off, e, hb, hc⟩ := h.prs hn; exact ⟨b, off, e, by omega, hc⟩, fun hn => by obtain ⟨b, off, e, hb, hc⟩ := h.ins hn; exact ⟨b, off, e, by omega, hc⟩, h.capP, h.capI, h.few, h.fitP, h.fitI⟩

/-- What stands in the table of shapes. -/
def opW : List (List UInt8) := [[], [109, 97, 114, 107], [99, 111, 110, 115, 116], [108, 111, 97, 100], [115, 116, 111, 114, 101], [108, 111, 97, 100, 97, 116], [115, 116, 111, 114, 101, 97, 116], [110, 101, 119], [114, 101, 97, 100], [110, 101, 103], [110, 111, 116], [97, 100, 100], [115, 117, 98], [109, 117, 108], [100, 105, 118], [109, 111, 100], [108, 116], [108, 101], [103, 116], [103, 101], [101, 113], [110, 101], [106, 117, 109, 112], [106, 117, 109, 112, 110, 111, 116], [97, 110, 100], [111, 114], [99, 97, 108, 108], [114, 101, 116, 117, 114, 110], [112, 114, 105, 110, 116], [112, 111, 112]]
def akL : List Int := [0, 2, 1, 3, 3, 3, 3, 3, 0, 0, 0, 0, 0, 0, 0, 0, 0, 0, 0, 0, 0, 0, 4, 4, 4, 4, 5, 6, 7, 0]
def Shp (w : World) : Prop := (∀ i, i < 30 → w.cell? ⟨0, i * 4, none⟩ = some (.string (bs (opW.getD i []))) ∧ w.cell? ⟨0, i * 4 + 1, none⟩ = some (.int .i64 (akL.getD i 0)) ∧ w.cell? ⟨0, i * 4 + 2, none⟩ = some (.int .i64 (tkL.getD i 0)) ∧ w.cell? ⟨0, i * 4 + 3, none⟩ = some (.int .i64 (lvL.getD i 0))) ∧ 0 < w.heap.size
theorem Shp.keep {w w' : World} (h : Shp w) (hk : ∀ b o, b < w.heap.size → w'.cell? ⟨b, o, none⟩ = w.cell? ⟨b, o, none⟩) (hs : w.heap.size ≤ w'.heap.size) : Shp w' :=
  ⟨fun i hi => by rw [hk _ _ h.2, hk _ _ h.2, hk _ _ h.2, hk _ _ h.2]; exact h.1 i hi, Nat.lt_of_lt_of_le h.2 hs⟩
theorem Shp.at' {w w' : World} (h : Shp w) (hk : ∀ o, w'.cell? ⟨0, o, none⟩ = w.cell? ⟨0, o, none⟩) (hs : 0 < w'.heap.size) : Shp w' :=
  ⟨fun i hi => by rw [hk, hk, hk, hk]; exact h.1 i hi, hs⟩
theorem Shp.below {w w' : World} (h : Shp w) (hb : Below w.heap.size w w') : Shp w' := h.keep (fun b o hlt => hb.cell (p := ⟨b, o, none⟩) hlt) hb.size
theorem Shp.drewN {w : World} (h : Shp w) (n : Nat) : Shp (w.drewN n) := h
theorem bcell {W w1 : World} {B : Nat} (hb : Below B W w1) : (∀ b o, b < B → w1.cell? ⟨b, o, none⟩ = W.cell? ⟨b, o, none⟩) ∧ (∀ b o, b < B → w1.frozen? ⟨b, o, none⟩ = W.frozen? ⟨b, o, none⟩) :=
  ⟨fun b o h => hb.cell (p := ⟨b, o, none⟩) h, fun b o h => hb.frozen (p := ⟨b, o, none⟩) h⟩

theorem heapOne (W : World) (cs : Array Value) (t : TypeId) : (W.alloc (.cells cs t)).heap[W.heap.size]? = some (.cells cs t (0, 0)) := by
  show (W.heap.push _)[W.heap.size]? = _
  simp
theorem cellC {w : World} {g : Nat} {a : Array Value} {t : TypeId} {fr : Nat × Nat} (h : w.heap[g]? = some (.cells a t fr)) (o : Nat) : w.cell? ⟨g, o, none⟩ = a[o]? := by simp [World.cell?, h]
theorem newC {w : World} {g o : Nat} {u : Value} (h : w.cell? ⟨g, o, none⟩ = some u) (b : Obj) : (w.alloc b).cell? ⟨g, o, none⟩ = some u := by
  have hg : g < w.heap.size := World.block_lt_of_cell? w ⟨g, o, none⟩ h
  simp only [World.cell?] at h ⊢
  rw [Below.heap_alloc w _ g hg]
  exact h
theorem keepC {w w' : World} {g o B : Nat} {u : Value} (hb : Below B w w') (h : w.cell? ⟨g, o, none⟩ = some u) (hg : g < B) : w'.cell? ⟨g, o, none⟩ = some u := (hb.cell (p := ⟨g, o, none⟩) hg).trans h
theorem ltC {w : World} {g o : Nat} {u : Value} (h : w.cell? ⟨g, o, none⟩ = some u) : g < w.heap.size := World.block_lt_of_cell? w ⟨g, o, none⟩ h

/-! What Args may be, by their kinds. -/
def loM (k : Int) (p : PrM) : Int := if k = 1 then -9223372036854775808 else if k = 4 then p.frm else if k = 6 then ansM p else if k = 7 then 1 else 0
def hiM (k : Int) (p : PrM) (np : Nat) : Int := if k = 1 then 9223372036854775807 else if k = 2 then 999 else if k = 3 then p.slo - 1 else if k = 4 then p.to - 1 else if k = 5 then (np : Int) - 1 else if k = 6 then ansM p else if k = 7 then 2 else 0
theorem akL_of (op : Int) (h1 : 1 ≤ op) (h2 : op ≤ 29) : akL.getD op.toNat 0 = (if op = 1 then 2 else if op = 2 then 1 else if 3 ≤ op ∧ op ≤ 7 then 3 else if 22 ≤ op ∧ op ≤ 25 then 4 else if op = 26 then 5 else if op = 27 then 6 else if op = 28 then 7 else 0) := by
  have key : ∀ k : Fin 30, 1 ≤ k.1 → akL.getD k.1 0 = (if (k.1 : Int) = 1 then 2 else if (k.1 : Int) = 2 then 1 else if 3 ≤ (k.1 : Int) ∧ (k.1 : Int) ≤ 7 then 3 else if 22 ≤ (k.1 : Int) ∧ (k.1 : Int) ≤ 25 then 4 else if (k.1 : Int) = 26 then 5 else if (k.1 : Int) = 27 then 6 else if (k.1 : Int) = 28 then 7 else 0) := by decide
  have := key ⟨op.toNat, by omega⟩ (by dsimp only; omega)
  dsimp only at this
  rw [this]
  have e : (op.toNat : Int) = op := by omega
  rw [e]
theorem argOk_iff (p : PrM) (np : Nat) (x : InM) (h1 : 1 ≤ x.op) (h2 : x.op ≤ 29) (hf : i64 x.arg) : argOk p np x ↔ loM (akL.getD x.op.toNat 0) p ≤ x.arg ∧ x.arg ≤ hiM (akL.getD x.op.toNat 0) p np := by
  rw [akL_of x.op h1 h2]
  unfold i64 at hf
  unfold argOk
  by_cases e1 : x.op = 1
  · rw [if_pos e1, if_pos e1, show loM 2 p = 0 from rfl, show hiM 2 p np = 999 from rfl]; omega
  rw [if_neg e1, if_neg e1]
  by_cases e2 : x.op = 2
  · rw [if_pos e2, if_pos e2, show loM 1 p = -9223372036854775808 from rfl, show hiM 1 p np = 9223372036854775807 from rfl]; simp; omega
  rw [if_neg e2, if_neg e2]
  by_cases e3 : 3 ≤ x.op ∧ x.op ≤ 7
  · rw [if_pos e3, if_pos e3, show loM 3 p = 0 from rfl, show hiM 3 p np = p.slo - 1 from rfl]; omega
  rw [if_neg e3, if_neg e3]
  by_cases e4 : 22 ≤ x.op ∧ x.op ≤ 25
  · rw [if_pos e4, if_pos e4, show loM 4 p = p.frm from rfl, show hiM 4 p np = p.to - 1 from rfl]; omega
  rw [if_neg e4, if_neg e4]
  by_cases e5 : x.op = 26
  · rw [if_pos e5, if_pos e5, show loM 5 p = 0 from rfl, show hiM 5 p np = (np : Int) - 1 from rfl]; omega
  rw [if_neg e5, if_neg e5]
  by_cases e6 : x.op = 27
  · rw [if_pos e6, if_pos e6, show loM 6 p = ansM p from rfl, show hiM 6 p np = ansM p from rfl]; omega
  rw [if_neg e6, if_neg e6]
  by_cases e7 : x.op = 28
  · rw [if_pos e7, if_pos e7, show loM 7 p = 1 from rfl, show hiM 7 p np = 2 from rfl]
  rw [if_neg e7, if_neg e7, show loM 0 p = 0 from rfl, show hiM 0 p np = 0 from rfl]; omega

end Go.Proofs.YtbhlockoeiedcaaGreatDoor

namespace Go.Proofs.YtbhlockoeiedcaaGreatDoor

/-- The int that a text tells, just as ints are told. -/
def numM (t : List UInt8) : Option Int := match Lib.atoiAll t with | .ok v => if Lib.itoa v = t then some v else none | _ => none
def numsM : List (List UInt8) → Option (List Int)
  | [] => some []
  | t :: r => match numM t with | some n => (match numsM r with | some l => some (n :: l) | none => none) | none => none
def opF (t : List UInt8) : Nat → Nat → Nat
  | 0, _ => 0
  | f + 1, k => if opW.getD k [] = t then k else opF t f (k + 1)
/-- The Op that a word stands for; 0: none. -/
def opM (t : List UInt8) : Nat := opF t 29 1
def manyM (op : Nat) : Nat := if op = 7 then 2 else if akL.getD op 0 = 0 then 0 else 1
def procB : List UInt8 := [112, 114, 111, 99]
def takePM (c : CoM) (ps : List (List UInt8)) : Option CoM :=
  if ps.length = 5 ∧ isNm (ps.getD 1 []) = true then
    match numsM (ps.drop 2) with
    | some l => some ⟨c.ps ++ [⟨ps.getD 1 [], c.is.length, c.is.length, l.getD 0 0, l.getD 1 0, l.getD 2 0⟩], c.is⟩
    | none => none
  else none
/-- The last procedure ends elsewhere. -/
def endAt (n : Int) : List PrM → List PrM
  | [] => []
  | [p] => [{ p with to := n }]
  | p :: q :: r => p :: endAt n (q :: r)
def takeIM (c : CoM) (ps : List (List UInt8)) : Option CoM :=
  match numsM (ps.drop 1) with
  | some l => if opM (ps.getD 0 []) = 0 ∨ l.length ≠ manyM (opM (ps.getD 0 [])) then none else some ⟨endAt (c.is.length + 1) c.ps, c.is ++ [⟨opM (ps.getD 0 []), l.getD 0 0, l.getD 1 0⟩]⟩
  | none => none
def takeM (c : CoM) (ps : List (List UInt8)) : Option CoM :=
  if ps.getD 0 [] = procB then takePM c ps else if c.ps = [] then none else takeIM c ps
/-- A text's parts between blanks. -/
def splitL : List UInt8 → List (List UInt8)
  | [] => [[]]
  | c :: r => if c = 32 then [] :: splitL r else match splitL r with | [] => [[c]] | h :: t => (c :: h) :: t
/-- A text's first line; what stands behind it; is there a line end? -/
def cutL : List UInt8 → List UInt8 × List UInt8 × Bool
  | [] => ([], [], false)
  | c :: r => if c = 10 then ([], r, true) else (c :: (cutL r).1, (cutL r).2.1, (cutL r).2.2)
theorem cutL_lt (t : List UInt8) (h : (cutL t).2.2 = true) : (cutL t).2.1.length < t.length := by
  induction t with
  | nil => simp [cutL] at h
  | cons c r ih =>
    unfold cutL at h ⊢
    split
    · simp
    · rename_i hc
      rw [if_neg hc] at h
      have := ih h
      simp only [List.length_cons]; omega
/-- Lines, one by one: code, or the number of the first line that is none. -/
def linesM : Nat → List UInt8 → Nat → CoM → Nat ⊕ CoM × Nat
  | 0, _, k, _ => .inl k
  | f + 1, t, k, c => if t = [] then .inr (c, k) else if (cutL t).2.2 = true then (match takeM c (splitL (cutL t).1) with | some c' => linesM f (cutL t).2.1 (k + 1) c' | none => .inl k) else .inl k
def parseM (t : List UInt8) : Nat ⊕ CoM × Nat := linesM (t.length + 1) t 1 ⟨[], []⟩
theorem linesM_step (t : List UInt8) (f k : Nat) (c : CoM) (hf : t.length < f) : ∀ g, t.length < g → linesM f t k c = linesM g t k c := by
  induction f generalizing t k c with
  | zero => omega
  | succ f ih =>
    intro g hg
    cases g with
    | zero => omega
    | succ g =>
      unfold linesM
      by_cases h0 : t = []
      · rw [if_pos h0, if_pos h0]
      · rw [if_neg h0, if_neg h0]
        by_cases hc : (cutL t).2.2 = true
        · rw [if_pos hc, if_pos hc]
          have := cutL_lt t hc
          cases takeM c (splitL (cutL t).1) with
          | none => rfl
          | some c' => exact ih _ _ _ (by omega) g (by omega)
        · rw [if_neg hc, if_neg hc]

end Go.Proofs.YtbhlockoeiedcaaGreatDoor

namespace Go.Proofs
open Go.Shelf
def Tryz.bstrL_ren : Go.Shelf.Ren := ⟨fun | 169 => 34 | n => n, fun | 70 => 76 | 9 => 9 | 0 => 0 | 72 => 79 | 37 => 77 | 127 => 125 | 3 => 3 | 5 => 5 | n => n, fun | n => n⟩
theorem Tryz.bstrL : Go.Proofs.Lays.n169 Tryz.prog Tryz.bstrL_ren := {
  mixed := by kernel_rfl
  f169 := Tryz.func34.trans (congrArg some (by kernel_rfl))
  t0 := Tryz.underlying0
  a0 := Tryz.isAgg0
  z0 := Tryz.sizeOf0
  v0 := Tryz.zeroValue0
  t3 := Tryz.underlying3
  a3 := Tryz.isAgg3
  z3 := Tryz.sizeOf3
  v3 := Tryz.zeroValue3
  t9 := Tryz.underlying9
  a9 := Tryz.isAgg9
  z9 := Tryz.sizeOf9
  v9 := Tryz.zeroValue9
  t37 := Tryz.underlying77
  a37 := Tryz.isAgg77
  z37 := Tryz.sizeOf77
  v37 := Tryz.zeroValue77
  t70 := Tryz.underlying76
  a70 := Tryz.isAgg76
  z70 := Tryz.sizeOf76
  v70 := Tryz.zeroValue76
  t72 := Tryz.underlying79
  a72 := Tryz.isAgg79
  z72 := Tryz.sizeOf79
  v72 := Tryz.zeroValue79
  t127 := Tryz.underlying125
  a127 := Tryz.isAgg125
  z127 := Tryz.sizeOf125
  v127 := Tryz.zeroValue125 }
def Tryz.joinC_ren : Go.Shelf.Ren := ⟨fun | 156 => 84 | 165 => 111 | 166 => 31 | 169 => 34 | 240 => 55 | 241 => 137 | 276 => 82 | 277 => 164 | n => n, fun | 31 => 90 | 9 => 9 | 3 => 3 | 4 => 4 | 0 => 0 | 20 => 20 | 72 => 79 | 76 => 82 | 70 => 76 | 37 => 77 | 75 => 81 | 127 => 125 | 164 => 167 | 5 => 5 | 80 => 86 | n => n, fun | n => n⟩
theorem Tryz.joinC : Go.Proofs.Lays.n156 Tryz.prog Tryz.joinC_ren := {
  mixed := by kernel_rfl
  f156 := Tryz.func84.trans (congrArg some (by kernel_rfl))
  f165 := Tryz.func111.trans (congrArg some (by kernel_rfl))
  f166 := Tryz.func31.trans (congrArg some (by kernel_rfl))
  f169 := Tryz.func34.trans (congrArg some (by kernel_rfl))
  f240 := Tryz.func55.trans (congrArg some (by kernel_rfl))
  f241 := Tryz.func137.trans (congrArg some (by kernel_rfl))
  f276 := Tryz.func82.trans (congrArg some (by kernel_rfl))
  f277 := Tryz.func164.trans (congrArg some (by kernel_rfl))
  t0 := Tryz.underlying0
  a0 := Tryz.isAgg0
  z0 := Tryz.sizeOf0
  v0 := Tryz.zeroValue0
  t3 := Tryz.underlying3
  a3 := Tryz.isAgg3
  z3 := Tryz.sizeOf3
  v3 := Tryz.zeroValue3
  t4 := Tryz.underlying4
  a4 := Tryz.isAgg4
  z4 := Tryz.sizeOf4
  v4 := Tryz.zeroValue4
  t9 := Tryz.underlying9
  a9 := Tryz.isAgg9
  z9 := Tryz.sizeOf9
  v9 := Tryz.zeroValue9
  t20 := Tryz.underlying20
  a20 := Tryz.isAgg20
  z20 := Tryz.sizeOf20
  v20 := Tryz.zeroValue20
  t31 := Tryz.underlying90
  a31 := Tryz.isAgg90
  z31 := Tryz.sizeOf90
  v31 := Tryz.zeroValue90
  t37 := Tryz.underlying77
  a37 := Tryz.isAgg77
  z37 := Tryz.sizeOf77
  v37 := Tryz.zeroValue77
  t70 := Tryz.underlying76
  a70 := Tryz.isAgg76
  z70 := Tryz.sizeOf76
  v70 := Tryz.zeroValue76
  t72 := Tryz.underlying79
  a72 := Tryz.isAgg79
  z72 := Tryz.sizeOf79
  v72 := Tryz.zeroValue79
  t75 := Tryz.underlying81
  a75 := Tryz.isAgg81
  z75 := Tryz.sizeOf81
  v75 := Tryz.zeroValue81
  t76 := Tryz.underlying82
  a76 := Tryz.isAgg82
  z76 := Tryz.sizeOf82
  v76 := Tryz.zeroValue82
  t127 := Tryz.underlying125
  a127 := Tryz.isAgg125
  z127 := Tryz.sizeOf125
  v127 := Tryz.zeroValue125
  t164 := Tryz.underlying167
  a164 := Tryz.isAgg167
  z164 := Tryz.sizeOf167
  v164 := Tryz.zeroValue167 }
def Tryz.itoaC_ren : Go.Shelf.Ren := ⟨fun | 171 => 83 | 243 => 110 | 246 => 136 | 283 => 160 | 284 => 161 | 285 => 162 | 286 => 163 | 129 => 186 | 317 => 185 | 318 => 187 | 319 => 188 | 320 => 189 | 337 => 196 | 338 => 197 | n => n, fun | 3 => 3 | 9 => 9 | 2 => 2 | 4 => 4 | 171 => 234 | 0 => 0 | 53 => 161 | 37 => 77 | 5 => 5 | 173 => 237 | 212 => 259 | 51 => 158 | 20 => 20 | 213 => 260 | 46 => 109 | 232 => 277 | 233 => 278 | n => n, fun | 17 => 5 | 18 => 9 | 19 => 10 | n => n⟩
theorem Tryz.itoaC : Go.Proofs.LaysM.n171 Tryz.prog Tryz.itoaC_ren := {
  mixed := by kernel_rfl
  f129 := Tryz.func186.trans (congrArg some (by kernel_rfl))
  f171 := Tryz.func83.trans (congrArg some (by kernel_rfl))
  f243 := Tryz.func110.trans (congrArg some (by kernel_rfl))
  f246 := Tryz.func136.trans (congrArg some (by kernel_rfl))
  f283 := Tryz.func160.trans (congrArg some (by kernel_rfl))
  f284 := Tryz.func161.trans (congrArg some (by kernel_rfl))
  f285 := Tryz.func162.trans (congrArg some (by kernel_rfl))
  f286 := Tryz.func163.trans (congrArg some (by kernel_rfl))
  f317 := Tryz.func185.trans (congrArg some (by kernel_rfl))
  f318 := Tryz.func187.trans (congrArg some (by kernel_rfl))
  f319 := Tryz.func188.trans (congrArg some (by kernel_rfl))
  f320 := Tryz.func189.trans (congrArg some (by kernel_rfl))
  f337 := Tryz.func196.trans (congrArg some (by kernel_rfl))
  f338 := Tryz.func197.trans (congrArg some (by kernel_rfl))
  t0 := Tryz.underlying0
  a0 := Tryz.isAgg0
  z0 := Tryz.sizeOf0
  v0 := Tryz.zeroValue0
  t2 := Tryz.underlying2
  a2 := Tryz.isAgg2
  z2 := Tryz.sizeOf2
  v2 := Tryz.zeroValue2
  t3 := Tryz.underlying3
  a3 := Tryz.isAgg3
  z3 := Tryz.sizeOf3
  v3 := Tryz.zeroValue3
  t4 := Tryz.underlying4
  a4 := Tryz.isAgg4
  z4 := Tryz.sizeOf4
  v4 := Tryz.zeroValue4
  t5 := Tryz.underlying5
  a5 := Tryz.isAgg5
  z5 := Tryz.sizeOf5
  v5 := Tryz.zeroValue5
  t9 := Tryz.underlying9
  a9 := Tryz.isAgg9
  z9 := Tryz.sizeOf9
  v9 := Tryz.zeroValue9
  t20 := Tryz.underlying20
  a20 := Tryz.isAgg20
  z20 := Tryz.sizeOf20
  v20 := Tryz.zeroValue20
  t37 := Tryz.underlying77
  a37 := Tryz.isAgg77
  z37 := Tryz.sizeOf77
  v37 := Tryz.zeroValue77
  t46 := Tryz.underlying109
  a46 := Tryz.isAgg109
  z46 := Tryz.sizeOf109
  v46 := Tryz.zeroValue109
  t51 := Tryz.underlying158
  a51 := Tryz.isAgg158
  z51 := Tryz.sizeOf158
  v51 := Tryz.zeroValue158
  t53 := Tryz.underlying161
  a53 := Tryz.isAgg161
  z53 := Tryz.sizeOf161
  v53 := Tryz.zeroValue161
  t171 := Tryz.underlying234
  a171 := Tryz.isAgg234
  z171 := Tryz.sizeOf234
  v171 := Tryz.zeroValue234
  t173 := Tryz.underlying237
  a173 := Tryz.isAgg237
  z173 := Tryz.sizeOf237
  v173 := Tryz.zeroValue237
  t212 := Tryz.underlying259
  a212 := Tryz.isAgg259
  z212 := Tryz.sizeOf259
  v212 := Tryz.zeroValue259
  t213 := Tryz.underlying260
  a213 := Tryz.isAgg260
  z213 := Tryz.sizeOf260
  t232 := Tryz.underlying277
  a232 := Tryz.isAgg277
  z232 := Tryz.sizeOf277
  v232 := Tryz.zeroValue277
  t233 := Tryz.underlying278
  a233 := Tryz.isAgg278
  z233 := Tryz.sizeOf278
  v233 := Tryz.zeroValue278
  g17 := by kernel_rfl
  g18 := by kernel_rfl
  g19 := by kernel_rfl
  i0 := by kernel_rfl
  i2 := by kernel_rfl
  i3 := by kernel_rfl
  i4 := by kernel_rfl
  i5 := by kernel_rfl
  i9 := by kernel_rfl
  i20 := by kernel_rfl
  i37 := by kernel_rfl
  i46 := by kernel_rfl
  i51 := by kernel_rfl
  i53 := by kernel_rfl
  i171 := by kernel_rfl
  i173 := by kernel_rfl
  i212 := by kernel_rfl
  i232 := by kernel_rfl
  i233 := by kernel_rfl
  m17 := by kernel_rfl
  m18 := by kernel_rfl
  m19 := by kernel_rfl }
def Tryz.cloneC_ren : Go.Shelf.Ren := ⟨fun | 316 => 117 | n => n, fun | 9 => 9 | 3 => 3 | 4 => 4 | 37 => 77 | 0 => 0 | 127 => 125 | 5 => 5 | n => n, fun | n => n⟩
theorem Tryz.cloneC : Go.Proofs.LaysM.n316 Tryz.prog Tryz.cloneC_ren := {
  mixed := by kernel_rfl
  f316 := Tryz.func117.trans (congrArg some (by kernel_rfl))
  t0 := Tryz.underlying0
  a0 := Tryz.isAgg0
  z0 := Tryz.sizeOf0
  v0 := Tryz.zeroValue0
  t3 := Tryz.underlying3
  a3 := Tryz.isAgg3
  z3 := Tryz.sizeOf3
  v3 := Tryz.zeroValue3
  t4 := Tryz.underlying4
  a4 := Tryz.isAgg4
  z4 := Tryz.sizeOf4
  v4 := Tryz.zeroValue4
  t9 := Tryz.underlying9
  a9 := Tryz.isAgg9
  z9 := Tryz.sizeOf9
  v9 := Tryz.zeroValue9
  t37 := Tryz.underlying77
  a37 := Tryz.isAgg77
  z37 := Tryz.sizeOf77
  v37 := Tryz.zeroValue77
  t127 := Tryz.underlying125
  a127 := Tryz.isAgg125
  z127 := Tryz.sizeOf125
  v127 := Tryz.zeroValue125
  t5 := Tryz.underlying5
  a5 := Tryz.isAgg5
  z5 := Tryz.sizeOf5
  v5 := Tryz.zeroValue5
  i0 := by kernel_rfl
  i3 := by kernel_rfl
  i4 := by kernel_rfl
  i5 := by kernel_rfl
  i9 := by kernel_rfl
  i37 := by kernel_rfl
  i127 := by kernel_rfl }
def Tryz.atoiC_ren : Go.Shelf.Ren := ⟨fun | 172 => 116 | 244 => 140 | 245 => 141 | 247 => 165 | 279 => 166 | 280 => 167 | 281 => 168 | 282 => 169 | 287 => 190 | 316 => 117 | 171 => 83 | 205 => 191 | 321 => 198 | 322 => 199 | 243 => 110 | 246 => 136 | 283 => 160 | 284 => 161 | 285 => 162 | 286 => 163 | 129 => 186 | 317 => 185 | 318 => 187 | 319 => 188 | 320 => 189 | 337 => 196 | 338 => 197 | n => n, fun | 9 => 9 | 3 => 3 | 75 => 81 | 76 => 82 | 4 => 4 | 5 => 5 | 167 => 240 | 37 => 77 | 0 => 0 | 85 => 241 | 2 => 2 | 168 => 243 | 53 => 161 | 175 => 262 | 46 => 109 | 210 => 265 | 127 => 125 | 145 => 275 | 143 => 273 | 21 => 21 | 171 => 234 | 173 => 237 | 212 => 259 | 51 => 158 | 20 => 20 | 213 => 260 | 232 => 277 | 233 => 278 | 80 => 86 | n => n, fun | 15 => 6 | 16 => 7 | 17 => 5 | 18 => 9 | 19 => 10 | n => n⟩
theorem Tryz.atoiC : Go.Proofs.LaysC.n172 Tryz.prog Tryz.atoiC_ren := {
  mixed := by kernel_rfl
  f129 := Tryz.func186.trans (congrArg some (by kernel_rfl))
  f171 := Tryz.func83.trans (congrArg some (by kernel_rfl))
  f172 := Tryz.func116.trans (congrArg some (by kernel_rfl))
  f205 := Tryz.func191.trans (congrArg some (by kernel_rfl))
  f243 := Tryz.func110.trans (congrArg some (by kernel_rfl))
  f244 := Tryz.func140.trans (congrArg some (by kernel_rfl))
  f245 := Tryz.func141.trans (congrArg some (by kernel_rfl))
  f246 := Tryz.func136.trans (congrArg some (by kernel_rfl))
  f247 := Tryz.func165.trans (congrArg some (by kernel_rfl))
  f279 := Tryz.func166.trans (congrArg some (by kernel_rfl))
  f280 := Tryz.func167.trans (congrArg some (by kernel_rfl))
  f281 := Tryz.func168.trans (congrArg some (by kernel_rfl))
  f282 := Tryz.func169.trans (congrArg some (by kernel_rfl))
  f283 := Tryz.func160.trans (congrArg some (by kernel_rfl))
  f284 := Tryz.func161.trans (congrArg some (by kernel_rfl))
  f285 := Tryz.func162.trans (congrArg some (by kernel_rfl))
  f286 := Tryz.func163.trans (congrArg some (by kernel_rfl))
  f287 := Tryz.func190.trans (congrArg some (by kernel_rfl))
  f316 := Tryz.func117.trans (congrArg some (by kernel_rfl))
  f317 := Tryz.func185.trans (congrArg some (by kernel_rfl))
  f318 := Tryz.func187.trans (congrArg some (by kernel_rfl))
  f319 := Tryz.func188.trans (congrArg some (by kernel_rfl))
  f320 := Tryz.func189.trans (congrArg some (by kernel_rfl))
  f321 := Tryz.func198.trans (congrArg some (by kernel_rfl))
  f322 := Tryz.func199.trans (congrArg some (by kernel_rfl))
  f337 := Tryz.func196.trans (congrArg some (by kernel_rfl))
  f338 := Tryz.func197.trans (congrArg some (by kernel_rfl))
  t0 := Tryz.underlying0
  a0 := Tryz.isAgg0
  z0 := Tryz.sizeOf0
  v0 := Tryz.zeroValue0
  t2 := Tryz.underlying2
  a2 := Tryz.isAgg2
  z2 := Tryz.sizeOf2
  v2 := Tryz.zeroValue2
  t3 := Tryz.underlying3
  a3 := Tryz.isAgg3
  z3 := Tryz.sizeOf3
  v3 := Tryz.zeroValue3
  t4 := Tryz.underlying4
  a4 := Tryz.isAgg4
  z4 := Tryz.sizeOf4
  v4 := Tryz.zeroValue4
  t5 := Tryz.underlying5
  a5 := Tryz.isAgg5
  z5 := Tryz.sizeOf5
  v5 := Tryz.zeroValue5
  t9 := Tryz.underlying9
  a9 := Tryz.isAgg9
  z9 := Tryz.sizeOf9
  v9 := Tryz.zeroValue9
  t20 := Tryz.underlying20
  a20 := Tryz.isAgg20
  z20 := Tryz.sizeOf20
  v20 := Tryz.zeroValue20
  t21 := Tryz.underlying21
  a21 := Tryz.isAgg21
  z21 := Tryz.sizeOf21
  v21 := Tryz.zeroValue21
  t37 := Tryz.underlying77
  a37 := Tryz.isAgg77
  z37 := Tryz.sizeOf77
  v37 := Tryz.zeroValue77
  t46 := Tryz.underlying109
  a46 := Tryz.isAgg109
  z46 := Tryz.sizeOf109
  v46 := Tryz.zeroValue109
  t51 := Tryz.underlying158
  a51 := Tryz.isAgg158
  z51 := Tryz.sizeOf158
  v51 := Tryz.zeroValue158
  t53 := Tryz.underlying161
  a53 := Tryz.isAgg161
  z53 := Tryz.sizeOf161
  v53 := Tryz.zeroValue161
  t75 := Tryz.underlying81
  a75 := Tryz.isAgg81
  z75 := Tryz.sizeOf81
  v75 := Tryz.zeroValue81
  t76 := Tryz.underlying82
  a76 := Tryz.isAgg82
  z76 := Tryz.sizeOf82
  v76 := Tryz.zeroValue82
  t85 := Tryz.underlying241
  a85 := Tryz.isAgg241
  z85 := Tryz.sizeOf241
  v85 := Tryz.zeroValue241
  t127 := Tryz.underlying125
  a127 := Tryz.isAgg125
  z127 := Tryz.sizeOf125
  v127 := Tryz.zeroValue125
  t143 := Tryz.underlying273
  a143 := Tryz.isAgg273
  z143 := Tryz.sizeOf273
  v143 := Tryz.zeroValue273
  t145 := Tryz.underlying275
  a145 := Tryz.isAgg275
  z145 := Tryz.sizeOf275
  v145 := Tryz.zeroValue275
  t167 := Tryz.underlying240
  a167 := Tryz.isAgg240
  z167 := Tryz.sizeOf240
  v167 := Tryz.zeroValue240
  t168 := Tryz.underlying243
  a168 := Tryz.isAgg243
  z168 := Tryz.sizeOf243
  v168 := Tryz.zeroValue243
  t171 := Tryz.underlying234
  a171 := Tryz.isAgg234
  z171 := Tryz.sizeOf234
  v171 := Tryz.zeroValue234
  t173 := Tryz.underlying237
  a173 := Tryz.isAgg237
  z173 := Tryz.sizeOf237
  v173 := Tryz.zeroValue237
  t175 := Tryz.underlying262
  a175 := Tryz.isAgg262
  z175 := Tryz.sizeOf262
  v175 := Tryz.zeroValue262
  t210 := Tryz.underlying265
  a210 := Tryz.isAgg265
  z210 := Tryz.sizeOf265
  v210 := Tryz.zeroValue265
  t212 := Tryz.underlying259
  a212 := Tryz.isAgg259
  z212 := Tryz.sizeOf259
  v212 := Tryz.zeroValue259
  t213 := Tryz.underlying260
  a213 := Tryz.isAgg260
  z213 := Tryz.sizeOf260
  t232 := Tryz.underlying277
  a232 := Tryz.isAgg277
  z232 := Tryz.sizeOf277
  v232 := Tryz.zeroValue277
  t233 := Tryz.underlying278
  a233 := Tryz.isAgg278
  z233 := Tryz.sizeOf278
  v233 := Tryz.zeroValue278
  g15 := by kernel_rfl
  g16 := by kernel_rfl
  g17 := by kernel_rfl
  g18 := by kernel_rfl
  g19 := by kernel_rfl
  t80 := Tryz.underlying86
  a80 := Tryz.isAgg86
  z80 := Tryz.sizeOf86
  v80 := Tryz.zeroValue86
  i0 := by kernel_rfl
  i2 := by kernel_rfl
  i3 := by kernel_rfl
  i4 := by kernel_rfl
  i5 := by kernel_rfl
  i9 := by kernel_rfl
  i20 := by kernel_rfl
  i21 := by kernel_rfl
  i37 := by kernel_rfl
  i46 := by kernel_rfl
  i51 := by kernel_rfl
  i53 := by kernel_rfl
  i75 := by kernel_rfl
  i76 := by kernel_rfl
  i80 := by kernel_rfl
  i85 := by kernel_rfl
  i127 := by kernel_rfl
  i143 := by kernel_rfl
  i145 := by kernel_rfl
  i167 := by kernel_rfl
  i168 := by kernel_rfl
  i171 := by kernel_rfl
  i173 := by kernel_rfl
  i175 := by kernel_rfl
  i210 := by kernel_rfl
  i212 := by kernel_rfl
  i232 := by kernel_rfl
  i233 := by kernel_rfl
  m15 := by kernel_rfl
  m16 := by kernel_rfl
  m17 := by kernel_rfl
  m18 := by kernel_rfl
  m19 := by kernel_rfl
  c0 := by kernel_rfl
  c2 := by kernel_rfl
  c3 := by kernel_rfl
  c4 := by kernel_rfl
  c5 := by kernel_rfl
  c9 := by kernel_rfl
  c20 := by kernel_rfl
  c21 := by kernel_rfl
  c37 := by kernel_rfl
  c46 := by kernel_rfl
  c51 := by kernel_rfl
  c53 := by kernel_rfl
  c75 := by kernel_rfl
  c76 := by kernel_rfl
  c80 := by kernel_rfl
  c85 := by kernel_rfl
  c127 := by kernel_rfl
  c143 := by kernel_rfl
  c145 := by kernel_rfl
  c167 := by kernel_rfl
  c168 := by kernel_rfl
  c171 := by kernel_rfl
  c173 := by kernel_rfl
  c175 := by kernel_rfl
  c210 := by kernel_rfl
  c212 := by kernel_rfl
  c213 := by kernel_rfl
  c232 := by kernel_rfl
  c233 := by kernel_rfl }
def Tryz.cutC_ren : Go.Shelf.Ren := ⟨fun | 145 => 35 | 220 => 58 | 219 => 85 | 217 => 112 | 225 => 113 | 224 => 114 | 267 => 115 | 266 => 138 | 314 => 139 | n => n, fun | 9 => 9 | 4 => 4 | 59 => 87 | 3 => 3 | 5 => 5 | 46 => 109 | 146 => 159 | 51 => 158 | n => n, fun | 1 => 1 | n => n⟩
theorem Tryz.cutC : Go.Proofs.Lays.n145 Tryz.prog Tryz.cutC_ren := {
  mixed := by kernel_rfl
  f145 := Tryz.func35.trans (congrArg some (by kernel_rfl))
  f217 := Tryz.func112.trans (congrArg some (by kernel_rfl))
  f219 := Tryz.func85.trans (congrArg some (by kernel_rfl))
  f220 := Tryz.func58.trans (congrArg some (by kernel_rfl))
  f224 := Tryz.func114.trans (congrArg some (by kernel_rfl))
  f225 := Tryz.func113.trans (congrArg some (by kernel_rfl))
  f266 := Tryz.func138.trans (congrArg some (by kernel_rfl))
  f267 := Tryz.func115.trans (congrArg some (by kernel_rfl))
  f314 := Tryz.func139.trans (congrArg some (by kernel_rfl))
  t3 := Tryz.underlying3
  a3 := Tryz.isAgg3
  z3 := Tryz.sizeOf3
  v3 := Tryz.zeroValue3
  t4 := Tryz.underlying4
  a4 := Tryz.isAgg4
  z4 := Tryz.sizeOf4
  v4 := Tryz.zeroValue4
  t5 := Tryz.underlying5
  a5 := Tryz.isAgg5
  z5 := Tryz.sizeOf5
  v5 := Tryz.zeroValue5
  t9 := Tryz.underlying9
  a9 := Tryz.isAgg9
  z9 := Tryz.sizeOf9
  v9 := Tryz.zeroValue9
  t46 := Tryz.underlying109
  a46 := Tryz.isAgg109
  z46 := Tryz.sizeOf109
  v46 := Tryz.zeroValue109
  t51 := Tryz.underlying158
  a51 := Tryz.isAgg158
  z51 := Tryz.sizeOf158
  v51 := Tryz.zeroValue158
  t59 := Tryz.underlying87
  a59 := Tryz.isAgg87
  z59 := Tryz.sizeOf87
  v59 := Tryz.zeroValue87
  t146 := Tryz.underlying159
  a146 := Tryz.isAgg159
  z146 := Tryz.sizeOf159
  v146 := Tryz.zeroValue159
  g1 := by kernel_rfl }
def Tryz.splitC_ren : Go.Shelf.Ren := ⟨fun | 146 => 37 | 221 => 61 | 268 => 89 | 138 => 90 | 143 => 91 | 195 => 118 | 197 => 119 | 218 => 120 | 219 => 85 | 260 => 142 | 217 => 112 | 225 => 113 | 224 => 114 | 267 => 115 | 266 => 138 | 314 => 139 | n => n, fun | 9 => 9 | 31 => 90 | 3 => 3 | 4 => 4 | 0 => 0 | 105 => 205 | 21 => 21 | 5 => 5 | 46 => 109 | 119 => 246 | 139 => 249 | 138 => 248 | 146 => 159 | 51 => 158 | n => n, fun | 1 => 1 | 3 => 2 | 4 => 3 | n => n⟩
theorem Tryz.splitC : Go.Proofs.Lays.n146 Tryz.prog Tryz.splitC_ren := {
  mixed := by kernel_rfl
  f138 := Tryz.func90.trans (congrArg some (by kernel_rfl))
  f143 := Tryz.func91.trans (congrArg some (by kernel_rfl))
  f146 := Tryz.func37.trans (congrArg some (by kernel_rfl))
  f195 := Tryz.func118.trans (congrArg some (by kernel_rfl))
  f197 := Tryz.func119.trans (congrArg some (by kernel_rfl))
  f217 := Tryz.func112.trans (congrArg some (by kernel_rfl))
  f218 := Tryz.func120.trans (congrArg some (by kernel_rfl))
  f219 := Tryz.func85.trans (congrArg some (by kernel_rfl))
  f221 := Tryz.func61.trans (congrArg some (by kernel_rfl))
  f224 := Tryz.func114.trans (congrArg some (by kernel_rfl))
  f225 := Tryz.func113.trans (congrArg some (by kernel_rfl))
  f260 := Tryz.func142.trans (congrArg some (by kernel_rfl))
  f266 := Tryz.func138.trans (congrArg some (by kernel_rfl))
  f267 := Tryz.func115.trans (congrArg some (by kernel_rfl))
  f268 := Tryz.func89.trans (congrArg some (by kernel_rfl))
  f314 := Tryz.func139.trans (congrArg some (by kernel_rfl))
  t0 := Tryz.underlying0
  a0 := Tryz.isAgg0
  z0 := Tryz.sizeOf0
  v0 := Tryz.zeroValue0
  t3 := Tryz.underlying3
  a3 := Tryz.isAgg3
  z3 := Tryz.sizeOf3
  v3 := Tryz.zeroValue3
  t4 := Tryz.underlying4
  a4 := Tryz.isAgg4
  z4 := Tryz.sizeOf4
  v4 := Tryz.zeroValue4
  t5 := Tryz.underlying5
  a5 := Tryz.isAgg5
  z5 := Tryz.sizeOf5
  v5 := Tryz.zeroValue5
  t9 := Tryz.underlying9
  a9 := Tryz.isAgg9
  z9 := Tryz.sizeOf9
  v9 := Tryz.zeroValue9
  t21 := Tryz.underlying21
  a21 := Tryz.isAgg21
  z21 := Tryz.sizeOf21
  v21 := Tryz.zeroValue21
  t31 := Tryz.underlying90
  a31 := Tryz.isAgg90
  z31 := Tryz.sizeOf90
  v31 := Tryz.zeroValue90
  t46 := Tryz.underlying109
  a46 := Tryz.isAgg109
  z46 := Tryz.sizeOf109
  v46 := Tryz.zeroValue109
  t51 := Tryz.underlying158
  a51 := Tryz.isAgg158
  z51 := Tryz.sizeOf158
  v51 := Tryz.zeroValue158
  t105 := Tryz.underlying205
  a105 := Tryz.isAgg205
  z105 := Tryz.sizeOf205
  v105 := Tryz.zeroValue205
  t119 := Tryz.underlying246
  a119 := Tryz.isAgg246
  z119 := Tryz.sizeOf246
  t138 := Tryz.underlying248
  a138 := Tryz.isAgg248
  z138 := Tryz.sizeOf248
  v138 := Tryz.zeroValue248
  t139 := Tryz.underlying249
  a139 := Tryz.isAgg249
  z139 := Tryz.sizeOf249
  v139 := Tryz.zeroValue249
  t146 := Tryz.underlying159
  a146 := Tryz.isAgg159
  z146 := Tryz.sizeOf159
  v146 := Tryz.zeroValue159
  g1 := by kernel_rfl
  g3 := by kernel_rfl
  g4 := by kernel_rfl }
def Tryz.mulC_ren : Go.Shelf.Ren := ⟨fun | 212 => 50 | 263 => 77 | 264 => 78 | n => n, fun | 46 => 109 | 51 => 158 | 146 => 159 | 53 => 161 | 148 => 162 | n => n, fun | n => n⟩
theorem Tryz.mulC : Go.Proofs.Lays.n212 Tryz.prog Tryz.mulC_ren := {
  mixed := by kernel_rfl
  f212 := Tryz.func50.trans (congrArg some (by kernel_rfl))
  f263 := Tryz.func77.trans (congrArg some (by kernel_rfl))
  f264 := Tryz.func78.trans (congrArg some (by kernel_rfl))
  t46 := Tryz.underlying109
  a46 := Tryz.isAgg109
  z46 := Tryz.sizeOf109
  v46 := Tryz.zeroValue109
  t51 := Tryz.underlying158
  a51 := Tryz.isAgg158
  z51 := Tryz.sizeOf158
  v51 := Tryz.zeroValue158
  t53 := Tryz.underlying161
  a53 := Tryz.isAgg161
  z53 := Tryz.sizeOf161
  v53 := Tryz.zeroValue161
  t146 := Tryz.underlying159
  a146 := Tryz.isAgg159
  z146 := Tryz.sizeOf159
  v146 := Tryz.zeroValue159
  t148 := Tryz.underlying162
  a148 := Tryz.isAgg162
  z148 := Tryz.sizeOf162
  v148 := Tryz.zeroValue162 }
theorem Tryz.wstrL : Go.Proofs.Lays.n166 Tryz.prog Tryz.joinC_ren := {
  mixed := Tryz.joinC.mixed
  f166 := Tryz.joinC.f166
  f240 := Tryz.joinC.f240
  f276 := Tryz.joinC.f276
  t0 := Tryz.joinC.t0
  a0 := Tryz.joinC.a0
  z0 := Tryz.joinC.z0
  v0 := Tryz.joinC.v0
  t3 := Tryz.joinC.t3
  a3 := Tryz.joinC.a3
  z3 := Tryz.joinC.z3
  v3 := Tryz.joinC.v3
  t4 := Tryz.joinC.t4
  a4 := Tryz.joinC.a4
  z4 := Tryz.joinC.z4
  v4 := Tryz.joinC.v4
  t9 := Tryz.joinC.t9
  a9 := Tryz.joinC.a9
  z9 := Tryz.joinC.z9
  v9 := Tryz.joinC.v9
  t20 := Tryz.joinC.t20
  a20 := Tryz.joinC.a20
  z20 := Tryz.joinC.z20
  v20 := Tryz.joinC.v20
  t37 := Tryz.joinC.t37
  a37 := Tryz.joinC.a37
  z37 := Tryz.joinC.z37
  v37 := Tryz.joinC.v37
  t70 := Tryz.joinC.t70
  a70 := Tryz.joinC.a70
  z70 := Tryz.joinC.z70
  v70 := Tryz.joinC.v70
  t72 := Tryz.joinC.t72
  a72 := Tryz.joinC.a72
  z72 := Tryz.joinC.z72
  v72 := Tryz.joinC.v72
  t75 := Tryz.joinC.t75
  a75 := Tryz.joinC.a75
  z75 := Tryz.joinC.z75
  v75 := Tryz.joinC.v75
  t164 := Tryz.joinC.t164
  a164 := Tryz.joinC.a164
  z164 := Tryz.joinC.z164
  v164 := Tryz.joinC.v164 }
theorem Tryz.joinE : Builder.Extra Tryz.prog Tryz.joinC_ren := {
  sizeBuilder := by kernel_rfl
  liesBuilder := by kernel_rfl
  t5 := Tryz.underlying5
  a5 := Tryz.isAgg5
  z5 := Tryz.sizeOf5
  v5 := Tryz.zeroValue5
  infoByte := by kernel_rfl
  cellsByte := by kernel_rfl
  sizeByte := by kernel_rfl
  neB5 := by decide }
theorem Tryz.bstrE : Builder.Extra Tryz.prog Tryz.bstrL_ren := {
  sizeBuilder := by kernel_rfl
  liesBuilder := by kernel_rfl
  t5 := Tryz.underlying5
  a5 := Tryz.isAgg5
  z5 := Tryz.sizeOf5
  v5 := Tryz.zeroValue5
  infoByte := by kernel_rfl
  cellsByte := by kernel_rfl
  sizeByte := by kernel_rfl
  neB5 := by decide }

open Go.RowKit
theorem Tryz.wstrW (B b : Nat) (bs : List Value) (s : ByteArray) (w : World) (h : Lib.IsBuilder 79 5 B b bs w) (hlen : bs.length + s.size ≤ 140737488355328) (hBw : B ≤ w.heap.size) :
    Calls Tryz.prog 31 #[.pointer (some ⟨b, 0, none⟩), .string s] w fun e w' => e = .returned (.tuple #[.int .i64 s.size, .nilIface]) ∧ (Lib.BuilderAt 79 5 B b (.pointer (some ⟨b, 0, none⟩)) (bs ++ Lib.strCells s) w' ∧ Below B w w') := Any.Builder_WriteString Tryz.wstrL Tryz.joinE B b bs s w h hlen hBw
theorem Tryz.bstrW (B b : Nat) (l : List UInt8) (w : World) (h : Lib.IsBuilder 79 5 B b (Lib.byteCells l) w) (hBw : B ≤ w.heap.size) :
    Calls Tryz.prog 34 #[.pointer (some ⟨b, 0, none⟩)] w fun e w' => e = .returned (.string ⟨l.toArray⟩) ∧ Below B w w' := Any.Builder_String_any Tryz.bstrL Tryz.bstrE B b l w h hBw
theorem Tryz.joinW (bk o c : Nat) (xs : List ByteArray) (sep : ByteArray) (w : World) (hcells : ∀ (j : Nat) x, xs[j]? = some x → w.cell? ⟨bk, o + j, none⟩ = some (.string x)) (hbk : bk < w.heap.size) (hN : xs.length ≤ 140737488355328) (hcap : xs.length ≤ c) (hlen : (Lib.join (xs.map (·.data.toList)) sep.data.toList).length ≤ 140737488355328) :
    Calls Tryz.prog 84 #[.slice (some ⟨bk, o, none⟩) xs.length c, .string sep] w fun e w' => e = .returned (.string ⟨(Lib.join (xs.map (·.data.toList)) sep.data.toList).toArray⟩) ∧ Below w.heap.size w w' := Any.strings_Join Tryz.joinC Tryz.joinE bk o c xs sep w hcells hbk hN hcap hlen
theorem Tryz.itoaW (n : Int) (h0 : -9223372036854775808 ≤ n) (h1 : n ≤ 9223372036854775807) (w : World) (htab : Lib.TabIs Tryz.prog w "internal/strconv.uint64pow10" .u64 Lib.pow10Tab) :
    Calls Tryz.prog 83 #[.int .i64 n] w fun e w' => e = .returned (.string ⟨(Lib.itoa n).toArray⟩) ∧ ∃ k os, w' = Go.Sort.grow (w.drewN k) os := Any.strconv_Itoa Tryz.itoaC n h0 h1 w htab
theorem Tryz.cloneW (s : ByteArray) (w : World) (hlim : s.size ≤ 281474976710656) :
    Calls Tryz.prog 117 #[.string s] w fun e w' => e = .returned (.string s) ∧ Below w.heap.size w w' := Any.stringslite_Clone Tryz.cloneC s w hlim
theorem Tryz.atoiOk (s : ByteArray) (hmax : s.size ≤ 9223372036854775806) (v : Int) (h : Lib.atoiAll s.data.toList = .ok v) (w : World) :
    Calls Tryz.prog 116 #[.string s] w fun e w' => e = .returned (.tuple #[.int .i64 v, .nilIface]) ∧ (w' = w ∨ ∃ t, w' = Lib.bytesWorld w 5 t) := Any.strconv_Atoi_ok Tryz.atoiC s hmax v h w
theorem Tryz.atoiSyn (s : ByteArray) (hlim : s.size ≤ 281474976710656) (h : (∀ v, Lib.atoiAll s.data.toList ≠ .ok v) ∧ Lib.atoiAll s.data.toList ≠ .range) (ev : Value) (w : World) (hv : w.cell? ⟨6, 0, none⟩ = some ev) (hev : ev = .nilIface ∨ ∃ te pe, ev = .iface te pe) :
    Calls Tryz.prog 116 #[.string s] w fun e w' => ∃ N, e = .returned (.tuple #[.int .i64 (0), .iface 243 (.pointer (some ⟨N, 0, none⟩))]) ∧ w.heap.size ≤ N ∧ w'.heap[N]? = some (.cells #[.string ⟨#[65, 116, 111, 105]⟩, .string s, ev] 265 (0, 0)) ∧ Below w.heap.size w w' := by
  rcases hx : Lib.atoiAll s.data.toList with v | _ | _
  · exact absurd hx (h.1 v)
  · exact Any.strconv_Atoi_syntax Tryz.atoiC s hlim hx ev w hv hev
  · exact absurd hx h.2
theorem Tryz.atoiRng (s : ByteArray) (hlim : s.size ≤ 281474976710656) (h : Lib.atoiAll s.data.toList = .range) (ev : Value) (w : World) (hv : w.cell? ⟨7, 0, none⟩ = some ev) (hev : ev = .nilIface ∨ ∃ te pe, ev = .iface te pe) :
    Calls Tryz.prog 116 #[.string s] w fun e w' => ∃ N, e = .returned (.tuple #[.int .i64 (Lib.atoiSat s.data.toList), .iface 243 (.pointer (some ⟨N, 0, none⟩))]) ∧ w.heap.size ≤ N ∧ w'.heap[N]? = some (.cells #[.string ⟨#[65, 116, 111, 105]⟩, .string s, ev] 265 (0, 0)) ∧ Below w.heap.size w w' := Any.strconv_Atoi_range Tryz.atoiC s hlim h ev w hv hev
theorem Tryz.cutW (s sep : ByteArray) (m : Int) (w : World) (hs : s.size < 4294967281) (hm : w.cell? ⟨1, 0, none⟩ = some (.int .i64 m)) :
    Calls Tryz.prog 35 #[.string s, .string sep] w fun e w' => e = .returned (.tuple #[.string ⟨(Lib.cut s.data.toList sep.data.toList).1.toArray⟩, .string ⟨(Lib.cut s.data.toList sep.data.toList).2.1.toArray⟩, .bool (Lib.cut s.data.toList sep.data.toList).2.2]) ∧ ∃ n, w' = w.drewN n := Any.strings_Cut Tryz.cutC s sep m w hs hm
theorem Tryz.splitW (s sep : ByteArray) (m : Int) (w : World) (hs : s.size < 4294967281) (hm : w.cell? ⟨1, 0, none⟩ = some (.int .i64 m)) (h1 : 1 ≤ sep.size) :
    Calls Tryz.prog 37 #[.string s, .string sep] w fun e w' =>
      e = .returned (.slice (some ⟨w.heap.size, 0, none⟩) (Lib.countB s sep + 1) (Lib.countB s sep + 1)) ∧ w' = w.alloc (.cells ((Lib.splitB sep 0 (Lib.countB s sep) s).map Value.string).toArray 9) := Any.strings_Split Tryz.splitC (by kernel_rfl) s sep m w hs hm h1
theorem Tryz.mulW (x y : Nat) (hx : x < 18446744073709551616) (hy : y < 18446744073709551616) (w : World) :
    Calls Tryz.prog 50 #[.int .u64 x, .int .u64 y] w fun e w' => e = .returned (.tuple #[.int .u64 ((x * y / 18446744073709551616 : Nat) : Int), .int .u64 ((x * y % 18446744073709551616 : Nat) : Int)]) ∧ w' = w := Any.bits_Mul Tryz.mulC x y hx hy w
end Go.Proofs
