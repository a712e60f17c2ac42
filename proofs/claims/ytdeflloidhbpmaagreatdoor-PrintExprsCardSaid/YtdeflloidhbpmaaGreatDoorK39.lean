/-
  Texts of the library: repeated, joined; a number's digits.
  blanks; one, of statements.
-/
import Derived.Test.YtdeflloidhbpmaaGreatDoorK23
import Derived.Test.YtdeflloidhbpmaaGreatDoorK38
import Derived.Shelf.Strings.Repeat
import Derived.Shelf.Strings.OnBuilder
namespace Go.Proofs.YtdeflloidhbpmaaGreatDoor
open Go.RowKit Go.Shelf

theorem Tryz.repX : Builder.Extra Tryz.prog Tryz.repeatL_ren := {
  sizeBuilder := by kernel_rfl
  liesBuilder := by kernel_rfl
  t5 := Tryz.underlying5
  a5 := Tryz.isAgg5
  z5 := Tryz.sizeOf5
  v5 := Tryz.zeroValue5
  infoByte := by kernel_rfl
  cellsByte := by kernel_rfl
  sizeByte := by kernel_rfl
  neB5 := by decide }
theorem Tryz.joinX : Builder.Extra Tryz.prog Tryz.joinL_ren := {
  sizeBuilder := by kernel_rfl
  liesBuilder := by kernel_rfl
  t5 := Tryz.underlying5
  a5 := Tryz.isAgg5
  z5 := Tryz.sizeOf5
  v5 := Tryz.zeroValue5
  infoByte := by kernel_rfl
  cellsByte := by kernel_rfl
  sizeByte := by kernel_rfl
  neB5 := by decide }
theorem repeat_two : ∀ c, Lib.repeatL [32, 32] c = List.replicate (2 * c) 32
  | 0 => rfl
  | c + 1 => by
    show [32, 32] ++ Lib.repeatL [32, 32] c = _
    rw [repeat_two c, show 2 * (c + 1) = 2 * c + 2 by omega, List.replicate_succ, List.replicate_succ]
    rfl
/-- Twice so many blanks. -/
theorem repeat_calls (c : Nat) (hc : c ≤ 1000) (w : World) : Calls Tryz.prog 89 #[.string ⟨#[32, 32]⟩, .int .i64 (c : Int)] w fun e w' => e = .returned (.string (bs (List.replicate (2 * c) 32))) ∧ Below w.heap.size w w' := by
  have h := Any.strings_Repeat Tryz.repeatL Tryz.repX ⟨#[32, 32]⟩ c w (by omega) (by simp [ByteArray.size]; omega)
  rw [show (⟨#[32, 32]⟩ : ByteArray).data.toList = [32, 32] from rfl, repeat_two] at h
  exact h
theorem map_back : ∀ l : List (List UInt8), (l.map bs).map (·.data.toList) = l
  | [] => rfl
  | a :: r => by
    show (bs a).data.toList :: (r.map bs).map (·.data.toList) = a :: r
    rw [map_back r]; rfl
/-- Texts with commas between. -/
def joinB : List (List UInt8) → List UInt8
  | [] => []
  | a :: r => a ++ r.flatMap fun b => [44, 32] ++ b
theorem join_eq : ∀ l : List (List UInt8), Lib.join l [44, 32] = joinB l
  | [] => rfl
  | [a] => by rw [Lib.join_one]; simp [joinB]
  | a :: b :: r => by
    have ih := join_eq (b :: r)
    unfold Lib.join at ih ⊢
    rw [List.intercalate_cons_cons, ih]
    simp [joinB]
theorem join_calls (A : Option Addr) (c : Nat) (l : List (List UInt8)) (w : World) (hl : l.length ≤ 100000) (hb : (joinB l).length ≤ 1000000000) (hR : RwAt w (fun _ => True) (.slice A l.length c) (strsV l)) (hc : l.length ≤ c) :
    Calls Tryz.prog 41 #[.slice A l.length c, .string ⟨#[44, 32]⟩] w fun e w' => e = .returned (.string (bs (joinB l))) ∧ Below w.heap.size w w' := by
  have hm : (l.map bs).map (·.data.toList) = l := map_back l
  cases l with
  | nil =>
    refine Calls.mono (Any.strings_Join_none Tryz.joinL Tryz.joinX A c ⟨#[44, 32]⟩ w) ?_
    rintro e w' ⟨rfl, rfl⟩
    exact ⟨rfl, Below.refl _ _⟩
  | cons a r =>
    obtain ⟨A', c', e, h2, h3⟩ := hR
    obtain ⟨bk, hA, hcs⟩ := h3 (by simp [strsV])
    injection e with e1 e2 e3
    subst e1
    subst hA
    have h := Any.strings_Join Tryz.joinL Tryz.joinX bk 0 c ((a :: r).map bs) ⟨#[44, 32]⟩ w (fun j x hx => by
      rw [Nat.zero_add]
      refine hcs j _ ?_
      rw [strsV, List.getElem?_map]
      rw [List.getElem?_map] at hx
      cases hj : (a :: r)[j]? with
      | none => rw [hj] at hx; cases hx
      | some b => rw [hj] at hx; simp at hx ⊢; exact hx) (h2 bk rfl).2 (by rw [List.length_map]; omega) (by rw [List.length_map]; exact hc) (by
      rw [hm, show (⟨#[44, 32]⟩ : ByteArray).data.toList = [44, 32] from rfl, join_eq]; omega)
    rw [hm, show (⟨#[44, 32]⟩ : ByteArray).data.toList = [44, 32] from rfl, join_eq, List.length_map] at h
    exact h
end Go.Proofs.YtdeflloidhbpmaaGreatDoor

namespace Go.Proofs.YtdeflloidhbpmaaGreatDoor
open Go.RowKit

theorem Tryz.sizePc : (Tryz.prog.info? 59).map (·.size) = some 3 := by kernel_rfl
/-- What a piece's call answers. -/
def TxP (b : List UInt8) (w : World) (e : Ending) (w' : World) : Prop := e = .returned (.agg #[.bool false, .string (bs b), .int .i64 0]) ∧ Below w.heap.size w w'
set_option maxRecDepth 100000 in
set_option maxHeartbeats 1000000 in
theorem blanks_calls (b : Nat) (hb : b ≤ 1000) (w : World) : Calls Tryz.prog 67 #[.int .i64 (b : Int)] w (TxP (List.replicate (2 * b) 32) w) := by
  have hR : Hid (∀ W, Calls Tryz.prog 89 #[.string ⟨#[32, 32]⟩, .int .i64 (b : Int)] W fun e w' => e = .returned (.string (bs (List.replicate (2 * b) 32))) ∧ Below W.heap.size W w') := Lib.hid (repeat_calls b hb)
  have hT := Lib.hid ptextB
  generalize List.replicate (2 * b) (32 : UInt8) = s at hR ⊢
  have HON : Hid (∀ u ∈ ([.bool false, .string (bs s), .int .i64 0] : List Value), u.oneCell' = true) := Lib.hid (pcs_one [.tx s])
  have HBX := Lib.hid (heap_one w #[.bool false, .string ⟨#[]⟩, .int .i64 0] 59)
  have HB0 := Lib.hid ((Below.refl w.heap.size w).alloc (Nat.le_refl _) (.cells #[.bool false, .string ⟨#[]⟩, .int .i64 0] 59))
  have hwl : w.heap.size < (w.alloc (.cells #[.bool false, .string ⟨#[]⟩, .int .i64 0] 59)).heap.size := by simp
  have HWL := Lib.hid hwl
  clear hwl
  go_enter Tryz.func67, Tryz.ntmps67
  go_wp2_with (go_at_call 89; refine (hR.out _).mono ?_)
  rintro e w2 ⟨rfl, hB2⟩
  have HX2 := Lib.hid ((hB2.block w.heap.size HWL.out).trans HBX.out)
  have HB2 := Lib.hid (HB0.out.trans (hB2.mono HB0.out.size))
  have hl2 : w.heap.size < w2.heap.size := Nat.lt_of_lt_of_le HWL.out hB2.size
  have HL2 := Lib.hid hl2
  clear hB2 hl2
  go_wp2_with (go_at_call 40; refine (hT.out _ _).mono ?_)
  rintro e w3 ⟨rfl, hB3⟩
  have HX3 := Lib.hid ((hB3.block w.heap.size HL2.out).trans HX2.out)
  have HB3 := Lib.hid (HB2.out.trans (hB3.mono HB2.out.size))
  clear hB3
  go_wp2_with (refine wpList_store_whole rfl 59 (.tmp 2) (.tmp 5) rfl w.heap.size #[.bool false, .string ⟨#[]⟩, .int .i64 0] #[.bool false, .string (bs s), .int .i64 0] 59 HX3.out rfl rfl rfl Tryz.sizePc (all_oneCell_toArray HON.out) ?_; intro w4 ho hb; have HO := Lib.hid ho; have HB := Lib.hid hb; clear ho hb)
  have d0 := cellK HB.out 0
  have d1 := cellK HB.out 1
  have d2 := cellK HB.out 2
  go_wp2
  refine bodyPost_ret (v := .agg #[.bool false, .string (bs s), .int .i64 0]) (by simp [results, Tryz.results67, go_sem, d0, d1, d2]) rfl ⟨rfl, ?_⟩
  exact HB3.out.trans ⟨HO.out.os, HO.out.tape, HO.out.output, Nat.le_of_eq HO.out.size.symm, fun k hk => HO.out.block k (by omega)⟩
/-- What one answers. -/
def OneS (x : Sm) (l m : Value) (w : World) (e : Ending) (w' : World) : Prop := e = .returned (.agg (smV x l m).toArray) ∧ Below w.heap.size w w'
set_option maxRecDepth 100000 in
set_option maxHeartbeats 1000000 in
theorem oneS_calls (g n c i : Nat) (x : Sm) (l m : Value) (hl : l.oneCell' = true) (hm : m.oneCell' = true) (w : World) (hi : i < n) (hc : ∀ j u, j < 9 → (smV x l m)[j]? = some u → w.cell? ⟨g, i * 9 + j, none⟩ = some u) :
    Calls Tryz.prog 69 #[.slice (some ⟨g, 0, none⟩) n c, .int .i64 (i : Int)] w (OneS x l m w) := by
  have c0 : ∀ b, (w.alloc b).cell? ⟨g, i * 9, none⟩ = some (.int .i64 (x.kind : Int)) := fun b => cell_new (hc 0 _ (by decide) rfl) b
  have c1 := fun b => cell_new (hc 1 _ (by decide) rfl) b
  have c2 := fun b => cell_new (hc 2 _ (by decide) rfl) b
  have c3 := fun b => cell_new (hc 3 _ (by decide) rfl) b
  have c4 := fun b => cell_new (hc 4 _ (by decide) rfl) b
  have c5 := fun b => cell_new (hc 5 _ (by decide) rfl) b
  have c6 := fun b => cell_new (hc 6 _ (by decide) rfl) b
  have c7 := fun b => cell_new (hc 7 _ (by decide) rfl) b
  have c8 := fun b => cell_new (hc 8 _ (by decide) rfl) b
  have h0 : decide ((i : Int) < 0) = false := by simp
  have h1 : decide (n ≤ i) = false := by simp; omega
  have h2 : (i : Int) < (n : Int) := by omega
  have h3 : (0 : Int) ≤ (i : Int) := by omega
  clear hc
  go_enter Tryz.func69, Tryz.ntmps69
  go_wp2_with (refine wpList_store_whole rfl 42 (.tmp 4) (.tmp 18) rfl w.heap.size #[.int .i64 0, .int .i64 0, .int .i64 0, .string ⟨#[]⟩, .int .i64 0, .int .i64 0, .int .i64 0, .slice none 0 0, .slice none 0 0] (smV x l m).toArray 42 (heap_one w _ _) rfl rfl rfl Tryz.sizeSm (all_oneCell_toArray (oneS x l m hl hm)) ?_; intro w3 ho hb; have HO := Lib.hid ho; have HB := Lib.hid hb; clear ho hb)
  have d0 := cellK HB.out 0
  have d1 := cellK HB.out 1
  have d2 := cellK HB.out 2
  have d3 := cellK HB.out 3
  have d4 := cellK HB.out 4
  have d5 := cellK HB.out 5
  have d6 := cellK HB.out 6
  have d7 := cellK HB.out 7
  have d8 := cellK HB.out 8
  go_wp2
  refine bodyPost_ret (v := .agg (smV x l m).toArray) (by simp [results, Tryz.results69, go_sem, smV, d0, d1, d2, d3, d4, d5, d6, d7, d8]) rfl ⟨rfl, below_only HO.out⟩
end Go.Proofs.YtdeflloidhbpmaaGreatDoor
