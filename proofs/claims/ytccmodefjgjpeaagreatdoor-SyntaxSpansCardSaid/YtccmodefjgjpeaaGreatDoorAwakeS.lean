/-
  The statements' own small fact: the document's example; what a call of Parse leaves.
-/
import Derived.Test.YtccmodefjgjpeaaGreatDoorPFront
import Derived.Test.YtccmodefjgjpeaaGreatDoorLaidS
namespace Go.Proofs.YtccmodefjgjpeaaGreatDoor
open Go.RowKit

def exT : List UInt8 := [102, 117, 110, 99, 32, 109, 97, 105, 110, 40, 41, 32, 123, 32, 112, 114, 105, 110, 116, 32, 49, 32, 43, 32, 50, 32, 42, 32, 51, 59, 32, 125]
def chk (r : Res0) : Bool := match r with
  | .good s => s.st.length == 1 && s.ex.length == 5 && (s.ex[4]?.map (·.op)) == some [43]
  | _ => false
set_option maxRecDepth 100000 in
theorem ex_chk : chk (parseT exT) = true := by decide +kernel
theorem ex_good : ∃ s, parseT exT = .good s ∧ s.st.length = 1 ∧ s.ex.length = 5 ∧ ∃ x, s.ex[4]? = some x ∧ x.op = [43] := by
  have h := ex_chk
  cases hr : parseT exT with
  | bad p c => rw [hr] at h; simp [chk] at h
  | good s =>
    rw [hr] at h
    simp only [chk, Bool.and_eq_true, beq_iff_eq] at h
    obtain ⟨⟨h1, h2⟩, h3⟩ := h
    obtain ⟨x, hx, ho⟩ := Option.map_eq_some_iff.1 h3
    exact ⟨s, rfl, h1, h2, x, hx, ho⟩
/-- An expression of a program in memory. -/
theorem arr_cells {w : World} {sz : Nat} {v : Value} {n : Nat} {cs : List Value} (h : ArrAt w sz v n cs) (hn : 0 < n) : ∃ g c, v = .slice (some ⟨g, 0, none⟩) n c ∧ ∀ j u, cs[j]? = some u → w.cell? ⟨g, j, none⟩ = some u := by
  obtain ⟨A, c, rfl, _, h2⟩ := h
  obtain ⟨g, rfl, _, h4⟩ := h2 hn
  exact ⟨g, c, rfl, h4⟩

theorem PsPost.good {t : List UInt8} {w w' : World} {e : Ending} {s : Sg} (h : PsPost t w e w') (hs : parseT t = .good s) : Below w.heap.size w w' ∧ ∃ v, e = .returned (.tuple #[v, .int .i64 0, .int .i64 0]) ∧ TrAt w' v s := by
  unfold PsPost at h
  rw [hs] at h
  exact h
theorem PsPost.bad {t : List UInt8} {w w' : World} {e : Ending} {p c : Nat} (h : PsPost t w e w') (hs : parseT t = .bad p c) : Below w.heap.size w w' ∧ e = .returned (.tuple #[nilT, .int .i64 (p : Int), .int .i64 (c : Int)]) := by
  unfold PsPost at h
  rw [hs] at h
  exact h
theorem ex_at {w1 : World} {v : Value} {s : Sg} {x : Ex} (ht : TrAt w1 v s) (h1 : s.st.length = 1) (h2 : s.ex.length = 5) (hx : s.ex[4]? = some x) (ho : x.op = [43]) :
    ∃ g c1 A2 c2 A3 c3 n, v = .agg #[.slice (some ⟨g, 0, none⟩) 5 c1, .slice A2 1 c2, .slice A3 n c3] ∧ w1.cell? ⟨g, 41, none⟩ = some (.string (bs [43])) := by
  obtain ⟨ve, vs, vf, ce, cs, cf, rfl, ⟨hae, _⟩, ⟨has, _⟩, ⟨haf, _⟩, hre, _, _⟩ := ht
  obtain ⟨g, c1, rfl, hce⟩ := arr_cells hae (by omega)
  obtain ⟨A2, c2, rfl⟩ := arr_form has
  obtain ⟨A3, c3, rfl⟩ := arr_form haf
  obtain ⟨hh, ⟨l, rfl, _⟩, hget⟩ := hre.get ExC.len 4 (by omega)
  have hx4 : s.ex[4] = x := by
    rw [List.getElem?_eq_getElem (by omega)] at hx
    exact Option.some.inj hx
  rw [hx4] at hget
  have hop : w1.cell? ⟨g, 41, none⟩ = some (.string (bs [43])) := hce 41 _ (by
    have := hget 5 (by omega)
    rw [show 4 * 9 + 5 = 41 from rfl] at this
    rw [this, ← ho]
    rfl)
  exact ⟨g, c1, A2, c2, A3, c3, s.fn.length, by rw [h1, h2], hop⟩

set_option maxRecDepth 100000 in
set_option maxHeartbeats 1000000 in
theorem awake_calls (w : World) (hw : Tabs w) : Calls Tryz.prog 14 #[] w fun e w' => e = .returned (.bool true) ∧ Below w.heap.size w w' := by
  have hf := front_calls (bs exT) (by decide) w hw
  rw [bs_toList] at hf
  obtain ⟨s, hs, h1, h2, x, hx, ho⟩ := ex_good
  have HF := Lib.hid hf
  have HS := Lib.hid hs
  have HX := Lib.hid hx
  clear hf hs hx
  go_enter Tryz.func14, Tryz.ntmps14
  go_wp2_with fail
  refine HF.out.mono ?_
  intro e w1 h3
  obtain ⟨hB, v, rfl, ht⟩ := h3.good HS.out
  obtain ⟨g, c1, A2, c2, A3, c3, n, rfl, hop⟩ := ex_at ht h1 h2 HX.out ho
  have hal : ∀ o, (w1.alloc o).cell? ⟨g, 41, none⟩ = some (.string (bs [43])) := fun o => (World.cell?_of_block (a := ⟨g, 41, none⟩) (Below.heap_alloc w1 o g (World.block_lt_of_cell? w1 _ hop))).trans hop
  have hq : ((bs [43]).toList == [43]) = true := tx_eq rfl
  have HB := Lib.hid hB
  clear hB ho h1 h2 HX HS HF ht
  go_wp2
  go_ret
  exact ⟨rfl, HB.out.alloc HB.out.size _⟩

end Go.Proofs.YtccmodefjgjpeaaGreatDoor
