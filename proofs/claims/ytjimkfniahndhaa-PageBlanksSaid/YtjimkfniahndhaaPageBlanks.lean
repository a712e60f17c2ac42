/-
  PageBlanks: for every text and every list of spans the statement answers true, and its arguments read as before. No condition.
-/
import Derived.Test.YtjimkfniahndhaaRows
import Derived.WalkKit
import Derived.WalkSpells
import Derived.ProofKit
import Derived.OpenShut
import Derived.ShutString
import Derived.Lib.SmallJoins
import Derived.Deep.SlicePairs
import Derived.ChangeOld
import Derived.Below
import Derived.Test.YtjimkfniahndhaaBlanksLaw
namespace Go.Proofs.Ytjimkfniahndhaa.pageBlanks
open Go.ChangeShapes Go.WideShapes Go.ChangeAt Go.RowKit Go.Proofs.Ytjimkfniahndhaa Go.Joins
open Go.ChangeMaps (open_string shut_string)
set_option linter.unusedVariables false

theorem laidOut : laidOutB Try.prog = true := by kernel_rfl
theorem own : ownKnob Try.prog.godebug = none := by kernel_rfl
theorem Try.cells41 : Try.prog.cellsOf 41 = 2 := by kernel_rfl

set_option maxRecDepth 100000 in
set_option maxHeartbeats 1000000 in
/-- PageBlanks answers true, and leaves what there was. -/
theorem walk (s : ByteArray) (A : Option Addr) (n c : Nat) (xs : List Sp) (hA : A = none → n = 0 ∧ c = 0) (w : World) (hx : SpAt w w.heap.size A n xs) :
    Calls Try.prog 6 #[.string s, .slice A n c] w fun e w' => e = .returned (.bool true) ∧ Below w.heap.size w w' := by
  by_cases hs : s.size ≤ 300
  · by_cases hn : n ≤ 30
    · by_cases hg : ∀ x ∈ xs, goodB x s.size = true
      · exact blanks_good s hs A n c xs hn hA hg w hx
      · exact blanks_bad s hs A n c xs hn hA hg w hx
    · have hsd : decide ((300 : Int) < (s.size : Int)) = false := by simp; omega
      have hn' : 30 < n := by omega
      clear hx hA
      go_enter Try.func6, Try.ntmps6
      go_wp2_with fail
      refine (awake_calls _).mono ?_
      rintro e w1 ⟨rfl, hB1⟩
      go_wp2_with fail
      refine (awake_calls _).mono ?_
      rintro e w2 ⟨rfl, hB2⟩
      go_wp2
      go_ret
      exact ⟨rfl, hB1.trans (hB2.mono hB1.size)⟩
  · have hs' : 300 < s.size := by omega
    clear hx hA
    go_enter Try.func6, Try.ntmps6
    go_wp2_with fail
    refine (awake_calls _).mono ?_
    rintro e w1 ⟨rfl, hB1⟩
    go_wp2_with fail
    refine (awake_calls _).mono ?_
    rintro e w2 ⟨rfl, hB2⟩
    go_wp2
    go_ret
    exact ⟨rfl, hB1.trans (hB2.mono hB1.size)⟩

theorem addr_plain {w : World} {a : Addr} {v : Value} (h : w.cell? a = some v) : ∃ b off, a = ⟨b, off, none⟩ := by
  obtain ⟨b, off, p⟩ := a
  cases p with
  | none => exact ⟨b, off, rfl⟩
  | some q =>
    simp [World.cell?] at h
    split at h <;> cases h

set_option maxRecDepth 100000 in
theorem lifted (os : Os) (started : os.Started) (H : Type) (enc : TypeId × Value → H) :
    ReturnsInHanded {} Try.checked os 6 .any (Rows.pageBlanksSpec.pre6 enc Try.prog Try.f6 Rows.pageBlanksRow.domain false) (Rows.pageBlanksSpec.post enc Try.prog Try.f6 false true false false) := by
  refine returnsInHanded_of_change (C := Try.checked) own started (by kernel_rfl) Try.func6
    (ChangeSpec.witness6 (enc := enc) (C := Try.checked) false ⟨#[], #[.string ByteArray.empty, .slice none 0 0], []⟩ 8 (by kernel_rfl) (by kernel_rfl) (by kernel_rfl) (by kernel_rfl)) ?_
  intro W base args ds gs before hval0 hW hcnd _
  have hval : ∀ (j : Nat) t v, Try.f6.params[j]? = some t → args[j]? = some v → Value.okWide Try.prog W .any base t v := hval0
  have hW' := hW
  obtain ⟨p, q, hA0, hV, rfl, hfz, hnd⟩ := hW
  have hA : DataW.TrodAll enc Try.prog W 0 (fun _ => true) true Try.f6.params.toList args.toList ds p := hA0
  rw [Try.params6] at hA hval
  obtain ⟨v0, vs0, d0, ds0, p0, q0, hargs, rfl, rfl, h0, r0⟩ := trodAll_cons hA
  obtain ⟨v1, vs1, d1, ds1, p1, q1, rfl, rfl, rfl, h1, r1⟩ := trodAll_cons r0
  obtain ⟨rfl, rfl, rfl⟩ := trodAll_nil r1
  obtain rfl : args = #[v0, v1] := by cases args; simp_all
  obtain ⟨rfl, rfl⟩ := trodVars_none hV
  obtain ⟨a0, rfl, rfl, rfl, w0⟩ := open_string Try.underlying9 (hval 0 9 v0 rfl rfl) h0
  obtain ⟨A, len, cap, rfl⟩ := okWide_slice Try.underlying37 (hval 1 37 v1 rfl rfl)
  have k1 := h1
  have lt1 : ∀ x ∈ p1, x.block < W.heap.size := by obtain ⟨m, hm⟩ := k1; exact DataW.trod_lt m _ _ _ hm
  obtain ⟨xs, hA1, hsp⟩ : ∃ xs, (A = none → len = 0 ∧ cap = 0) ∧ SpAt W W.heap.size A len xs := by
    obtain ⟨fuel, hf⟩ := h1
    rcases Go.Deep.open_slice_pairs Try.underlying37 Try.underlying41 Try.cells41 rfl rfl (by kernel_rfl) (by kernel_rfl) hf with ⟨hcs, _⟩ | ⟨ad, l, cp, m, n', V0, V1, D0, D1, P0, P1, hcs, _, hl, hm, hmm, _, hcell⟩
    · simp [Value.cells] at hcs
      obtain ⟨rfl, rfl, rfl⟩ := hcs
      exact ⟨[], fun _ => ⟨rfl, rfl⟩, rfl, fun h => absurd h (by omega)⟩
    · simp [Value.cells] at hcs
      obtain ⟨rfl, rfl, rfl⟩ := hcs
      have hlm : len ≤ m := by rw [hmm]; split <;> omega
      have hv : ∀ i, i < len → ∃ y : Int × Int, V0 i = .int .i64 y.1 ∧ V1 i = .int .i64 y.2 := fun i hi => by
        obtain ⟨_, _, t0, t1⟩ := hcell i (by omega)
        obtain ⟨z0, e0, _, _⟩ := DataW.trod_int Try.underlying3 t0
        obtain ⟨z1, e1, _, _⟩ := DataW.trod_int Try.underlying3 t1
        simp at e0 e1
        exact ⟨(z0, z1), e0, e1⟩
      obtain ⟨f, hf'⟩ : ∃ f : Nat → Int × Int, ∀ i, i < len → V0 i = .int .i64 (f i).1 ∧ V1 i = .int .i64 (f i).2 := by
        refine ⟨fun i => if h : i < len then Classical.choose (hv i h) else (0, 0), fun i hi => ?_⟩
        simp only [hi, dif_pos]
        exact Classical.choose_spec (hv i hi)
      refine ⟨(List.range len).map f, (fun h => by cases h), by simp, fun hn => ?_⟩
      obtain ⟨b, off, rfl⟩ : ∃ b off, ad = ⟨b, off, none⟩ := by
        have h0 := (hcell 0 (by omega)).1
        have e : ad.add (0 * 2) = ad := by simp [Addr.add]
        rw [e] at h0
        exact addr_plain h0
      have hadd : ∀ k, (⟨b, off, none⟩ : Addr).add k = ⟨b, off + k, none⟩ := fun k => by
        unfold Addr.add
        split
        · rename_i h0; subst h0; rfl
        · rfl
      have hlt : b < W.heap.size := by
        have h0 := (hcell 0 (by omega)).1
        rw [hadd] at h0
        rcases Nat.lt_or_ge b W.heap.size with h | h
        · exact h
        · have e : W.heap[b]? = none := Array.getElem?_eq_none h
          simp [World.cell?, e] at h0
      refine ⟨b, off, rfl, hlt, fun i hi => ?_⟩
      have hi' : i < len := by simpa using hi
      obtain ⟨c0, c1, _, _⟩ := hcell i (by omega)
      rw [hadd] at c0 c1
      rw [(hf' i hi').1] at c0
      rw [(hf' i hi').2] at c1
      simp only [List.getElem_map, List.getElem_range]
      rw [Nat.add_assoc]
      exact ⟨c0, c1⟩
  clear hA0 hval0
  refine (walk a0 A len cap xs hA1 W hsp).mono fun e W' ⟨he, hg⟩ => ?_
  subst he
  exact ⟨_, rfl, _, _, _, [], _, [], hW', trodAll_cons_mk (shut_bool Try.underlying4 _) trodAll_mk0, (trodAll_cons_mk (shut_string Try.underlying9 w0) (trodAll_cons_mk (Below.trod laidOut (by kernel_rfl) (of_decide_eq_true (by kernel_rfl)) k1 hg lt1) trodAll_mk0)), rfl, hg.frame _, fun h => by cases h⟩

theorem over : Rows.pageBlanksRow.holds Try.pinned (OpenSpec.ofChange Rows.pageBlanksSpec) :=
  OpenClaim.holds_of_wide 6 Try.f6 rfl rfl rfl rfl rfl rfl rfl ⟨rfl, rfl, rfl, rfl, rfl⟩ rfl rfl rfl rfl rfl (by kernel_rfl) Try.func6 (by kernel_rfl)
    (of_decide_eq_true (by kernel_rfl)) (by unfold Func.isWrapper; first | (rw [if_pos (by decide +kernel)]; kernel_rfl) | (rw [if_neg (by decide +kernel)]; exact ⟨rfl, rfl⟩))
    (fun os started H enc _ => lifted os started H enc)

theorem proved : Rows.PageBlanksSaid :=
  over
#print axioms proved

end Go.Proofs.Ytjimkfniahndhaa.pageBlanks
