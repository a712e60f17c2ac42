/-
  PrintExprs: for every text the statement answers true, and its argument reads as before. No condition but that the listed variables lie as the program's text lays them (the tie).
-/
import Derived.Test.YtdeflloidhbpmaaGreatDoorRows
import Derived.Test.YtdeflloidhbpmaaGreatDoorCards
import Derived.Test.YtdeflloidhbpmaaGreatDoorTie
import Derived.WalkKit
import Derived.WalkSpells
import Derived.ProofKit
import Derived.OpenShut
import Derived.ShutString
import Derived.Lib.SmallJoins
import Derived.SevenTiedAt
import Derived.Deep.RegionHeld3
import Derived.BigGuardPart
import Derived.Test.YtdeflloidhbpmaaGreatDoorL00
import Derived.Test.YtdeflloidhbpmaaGreatDoorK24
namespace Go.Proofs.YtdeflloidhbpmaaGreatDoor.printExprs
open Go.ChangeShapes Go.WideShapes Go.ChangeAt Go.RowKit Go.Proofs.YtdeflloidhbpmaaGreatDoor Go.Joins
open Go.ChangeMaps (open_string shut_string)
set_option linter.unusedVariables false


theorem tabsP_of {W : World} (h : laidMetH Tryz.prog laidP W) : TabsP W := by
  obtain ⟨h1, h2, h3⟩ := tabs_of_laid h
  exact ⟨h1, h2, h3⟩
theorem tri {w : World} {b : Nat} {u v x : Value} {t : TypeId} {fr : Nat × Nat} (h : w.heap[b]? = some (.cells #[u, v, x] t fr)) : w.cell? ⟨b, 0, none⟩ = some u ∧ w.cell? ⟨b, 1, none⟩ = some v ∧ w.cell? ⟨b, 2, none⟩ = some x := ⟨cellK h 0, cellK h 1, cellK h 2⟩
/-- A box that goes on lying. -/
theorem box_keep {w w' : World} {b : Nat} {o : Obj} (h : w.heap[b]? = some o) (hB : Below w.heap.size w w') : w'.heap[b]? = some o := (hB.block b (blk_lt h)).trans h
theorem cel_keep {w w' : World} {b o : Nat} {v : Value} (h : w.cell? ⟨b, o, none⟩ = some v) (hB : Below w.heap.size w w') : w'.cell? ⟨b, o, none⟩ = some v := (hB.cell (p := ⟨b, o, none⟩) (World.block_lt_of_cell? w _ h)).trans h
theorem txt3 (a b c : ByteArray) : (a ++ b ++ c).data.toList = a.data.toList ++ (b.data.toList ++ c.data.toList) := by simp
/-- The only statement, as it lies. -/
theorem only_st {w : World} {A1 A2 A3 : Option Addr} {c1 c2 c3 n1 n3 : Nat} {s : Sg} {x : Sm} {a : Nat} (h : TrAt w (.agg #[.slice A1 n1 c1, .slice A2 1 c2, .slice A3 n3 c3]) s) (h1 : s.st.length = 1) (hx : s.st[0]? = some x) (ha : x.a = (a : Int)) :
    ∃ g, A2 = some ⟨g, 0, none⟩ ∧ w.cell? ⟨g, 5, none⟩ = some (.int .i64 (a : Int)) := by
  obtain ⟨g, l, m, hA, _, _, _, _, _, _, _, _, y5, _, _, _⟩ := TrIn.smC h 0 (by omega)
  have e : s.st[0] = x := by
    rw [List.getElem?_eq_getElem (by omega)] at hx
    exact Option.some.inj hx
  rw [e, ha] at y5
  exact ⟨g, hA, y5⟩

set_option maxRecDepth 100000 in
set_option maxHeartbeats 8000000 in
theorem walk_bad (a0 : ByteArray) (w : World) (HT : Hid (TabsP w)) (hs : a0.size ≤ 300) (p c : Nat) (hres : parseT (preP ++ (a0.data.toList ++ postR)) = .bad p c) :
    Calls Tryz.prog 5 #[.string a0] w fun e w' => e = .returned (.bool true) ∧ Below w.heap.size w w' := by
  have hd : decide ((300 : Int) < (a0.size : Int)) = false := decide_eq_false (by omega)
  have hr : (a0.data.toList ++ postR).length ≤ 303 := by
    have : a0.data.toList.length = a0.size := sizeL _
    rw [List.length_append]
    show _ + 3 ≤ _
    omega
  have htl : ((⟨#[102, 117, 110, 99, 32, 102, 40, 41, 32, 123, 32, 112, 114, 105, 110, 116, 32]⟩ : ByteArray) ++ a0 ++ (⟨#[59, 32, 125]⟩ : ByteArray)).data.toList = preP ++ (a0.data.toList ++ postR) := txt3 _ _ _
  have hz0 : (⟨#[102, 117, 110, 99, 32, 102, 40, 41, 32, 123, 32, 112, 114, 105, 110, 116, 32]⟩ : ByteArray).size = 17 := rfl
  have hz1 : (⟨#[59, 32, 125]⟩ : ByteArray).size = 3 := rfl
  have m0 : (9223372036854775807 < 17 + a0.size) = False := eq_false (by (try simp only [ByteArray.size_append]); omega)
  have m1 : (9223372036854775807 < 17 + a0.size + 3) = False := eq_false (by (try simp only [ByteArray.size_append]); omega)
  have m2 : (9223372036854775807 < (⟨#[102, 117, 110, 99, 32, 102, 40, 41, 32, 123, 32, 112, 114, 105, 110, 116, 32]⟩ : ByteArray).size + a0.size) = False := eq_false (by (try simp only [ByteArray.size_append]); omega)
  have m3 : (9223372036854775807 < (⟨#[102, 117, 110, 99, 32, 102, 40, 41, 32, 123, 32, 112, 114, 105, 110, 116, 32]⟩ : ByteArray).size + a0.size + 3) = False := eq_false (by (try simp only [ByteArray.size_append]); omega)
  have m4 : (9223372036854775807 < ((⟨#[102, 117, 110, 99, 32, 102, 40, 41, 32, 123, 32, 112, 114, 105, 110, 116, 32]⟩ : ByteArray) ++ a0).size + 3) = False := eq_false (by (try simp only [ByteArray.size_append]); omega)
  have m5 : (9223372036854775807 < ((⟨#[102, 117, 110, 99, 32, 102, 40, 41, 32, 123, 32, 112, 114, 105, 110, 116, 32]⟩ : ByteArray) ++ a0).size + (⟨#[59, 32, 125]⟩ : ByteArray).size) = False := eq_false (by (try simp only [ByteArray.size_append]); omega)
  have m6 : (9223372036854775807 < (⟨#[102, 117, 110, 99, 32, 102, 40, 41, 32, 123, 32, 112, 114, 105, 110, 116, 32]⟩ : ByteArray).size + a0.size + (⟨#[59, 32, 125]⟩ : ByteArray).size) = False := eq_false (by (try simp only [ByteArray.size_append]); omega)
  have HF := Lib.hid (fun W hW => front_calls ((⟨#[102, 117, 110, 99, 32, 102, 40, 41, 32, 123, 32, 112, 114, 105, 110, 116, 32]⟩ : ByteArray) ++ a0 ++ (⟨#[59, 32, 125]⟩ : ByteArray)) (by rw [ByteArray.size_append, ByteArray.size_append, hz0, hz1]; omega) W hW)
  rw [htl] at HF
  clear htl hz0 hz1
  obtain ⟨_, hc⟩ := parseT_bad hres
  have HR := Lib.hid hres
  have hc0 : ((c : Int) == 0) = false := by rw [beq_eq_false_iff_ne]; omega
  have hc1 : ((c : Int) != 0) = true := by rw [bne, hc0]; rfl
  clear hres hc hr
  go_enter Tryz.func5, Tryz.ntmps5
  go_wp2_with fail
  refine (awake_calls _ HT.out).mono ?_
  rintro e w1 ⟨rfl, hB1⟩
  have HT1 := Lib.hid (HT.out.below hB1)
  have HB1 := Lib.hid hB1
  clear hB1
  go_wp2_with (go_at_call 13; refine (HF.out _ HT1.out.tabs).mono ?_)
  intro e w2 h3
  obtain ⟨hB2, he⟩ := h3.bad HR.out
  have HB2 := Lib.hid (HB1.out.trans (hB2.mono HB1.out.size))
  clear hB2 h3
  subst he
  unfold nilT
  go_wp2
  go_ret
  exact ⟨rfl, HB2.out.alloc HB2.out.size _⟩
set_option maxRecDepth 100000 in
set_option maxHeartbeats 8000000 in
theorem walk_two (a0 : ByteArray) (w : World) (HT : Hid (TabsP w)) (hs : a0.size ≤ 300) (s : Sg) (hres : parseT (preP ++ (a0.data.toList ++ postR)) = .good s) (h1 : ¬ s.st.length = 1) :
    Calls Tryz.prog 5 #[.string a0] w fun e w' => e = .returned (.bool true) ∧ Below w.heap.size w w' := by
  have hd : decide ((300 : Int) < (a0.size : Int)) = false := decide_eq_false (by omega)
  have hr : (a0.data.toList ++ postR).length ≤ 303 := by
    have : a0.data.toList.length = a0.size := sizeL _
    rw [List.length_append]
    show _ + 3 ≤ _
    omega
  have htl : ((⟨#[102, 117, 110, 99, 32, 102, 40, 41, 32, 123, 32, 112, 114, 105, 110, 116, 32]⟩ : ByteArray) ++ a0 ++ (⟨#[59, 32, 125]⟩ : ByteArray)).data.toList = preP ++ (a0.data.toList ++ postR) := txt3 _ _ _
  have hz0 : (⟨#[102, 117, 110, 99, 32, 102, 40, 41, 32, 123, 32, 112, 114, 105, 110, 116, 32]⟩ : ByteArray).size = 17 := rfl
  have hz1 : (⟨#[59, 32, 125]⟩ : ByteArray).size = 3 := rfl
  have m0 : (9223372036854775807 < 17 + a0.size) = False := eq_false (by (try simp only [ByteArray.size_append]); omega)
  have m1 : (9223372036854775807 < 17 + a0.size + 3) = False := eq_false (by (try simp only [ByteArray.size_append]); omega)
  have m2 : (9223372036854775807 < (⟨#[102, 117, 110, 99, 32, 102, 40, 41, 32, 123, 32, 112, 114, 105, 110, 116, 32]⟩ : ByteArray).size + a0.size) = False := eq_false (by (try simp only [ByteArray.size_append]); omega)
  have m3 : (9223372036854775807 < (⟨#[102, 117, 110, 99, 32, 102, 40, 41, 32, 123, 32, 112, 114, 105, 110, 116, 32]⟩ : ByteArray).size + a0.size + 3) = False := eq_false (by (try simp only [ByteArray.size_append]); omega)
  have m4 : (9223372036854775807 < ((⟨#[102, 117, 110, 99, 32, 102, 40, 41, 32, 123, 32, 112, 114, 105, 110, 116, 32]⟩ : ByteArray) ++ a0).size + 3) = False := eq_false (by (try simp only [ByteArray.size_append]); omega)
  have m5 : (9223372036854775807 < ((⟨#[102, 117, 110, 99, 32, 102, 40, 41, 32, 123, 32, 112, 114, 105, 110, 116, 32]⟩ : ByteArray) ++ a0).size + (⟨#[59, 32, 125]⟩ : ByteArray).size) = False := eq_false (by (try simp only [ByteArray.size_append]); omega)
  have m6 : (9223372036854775807 < (⟨#[102, 117, 110, 99, 32, 102, 40, 41, 32, 123, 32, 112, 114, 105, 110, 116, 32]⟩ : ByteArray).size + a0.size + (⟨#[59, 32, 125]⟩ : ByteArray).size) = False := eq_false (by (try simp only [ByteArray.size_append]); omega)
  have HF := Lib.hid (fun W hW => front_calls ((⟨#[102, 117, 110, 99, 32, 102, 40, 41, 32, 123, 32, 112, 114, 105, 110, 116, 32]⟩ : ByteArray) ++ a0 ++ (⟨#[59, 32, 125]⟩ : ByteArray)) (by rw [ByteArray.size_append, ByteArray.size_append, hz0, hz1]; omega) W hW)
  rw [htl] at HF
  clear htl hz0 hz1
  have HR := Lib.hid hres
  have hn1 : ((s.st.length : Int) == 1) = false := by rw [beq_eq_false_iff_ne]; omega
  have hn2 : ((s.st.length : Int) != 1) = true := by rw [bne, hn1]; rfl
  clear hres h1 hr
  go_enter Tryz.func5, Tryz.ntmps5
  go_wp2_with fail
  refine (awake_calls _ HT.out).mono ?_
  rintro e w1 ⟨rfl, hB1⟩
  have HT1 := Lib.hid (HT.out.below hB1)
  have HB1 := Lib.hid hB1
  clear hB1
  go_wp2_with (go_at_call 13; refine (HF.out _ HT1.out.tabs).mono ?_)
  intro e w2 h3
  obtain ⟨hB2, v, he, ht⟩ := h3.good HR.out
  obtain ⟨A1, c1, A2, c2, A3, c3, rfl⟩ := ht.form
  have HB2 := Lib.hid (HB1.out.trans (hB2.mono HB1.out.size))
  obtain ⟨x0, x1, x2⟩ := tri (heap_one w2 #[.slice A1 s.ex.length c1, .slice A2 s.st.length c2, .slice A3 s.fn.length c3] 27)
  clear hB2 h3 ht
  subst he
  go_wp2
  go_ret
  exact ⟨rfl, HB2.out.alloc HB2.out.size _⟩
set_option maxRecDepth 100000 in
set_option maxHeartbeats 8000000 in
theorem walk_one (a0 : ByteArray) (w : World) (HT : Hid (TabsP w)) (hs : a0.size ≤ 300) (s : Sg) (hres : parseT (preP ++ (a0.data.toList ++ postR)) = .good s) (h1 : s.st.length = 1) :
    Calls Tryz.prog 5 #[.string a0] w fun e w' => e = .returned (.bool true) ∧ Below w.heap.size w w' := by
  have hd : decide ((300 : Int) < (a0.size : Int)) = false := decide_eq_false (by omega)
  have hr : (a0.data.toList ++ postR).length ≤ 303 := by
    have : a0.data.toList.length = a0.size := sizeL _
    rw [List.length_append]
    show _ + 3 ≤ _
    omega
  have htl : ((⟨#[102, 117, 110, 99, 32, 102, 40, 41, 32, 123, 32, 112, 114, 105, 110, 116, 32]⟩ : ByteArray) ++ a0 ++ (⟨#[59, 32, 125]⟩ : ByteArray)).data.toList = preP ++ (a0.data.toList ++ postR) := txt3 _ _ _
  have hz0 : (⟨#[102, 117, 110, 99, 32, 102, 40, 41, 32, 123, 32, 112, 114, 105, 110, 116, 32]⟩ : ByteArray).size = 17 := rfl
  have hz1 : (⟨#[59, 32, 125]⟩ : ByteArray).size = 3 := rfl
  have m0 : (9223372036854775807 < 17 + a0.size) = False := eq_false (by (try simp only [ByteArray.size_append]); omega)
  have m1 : (9223372036854775807 < 17 + a0.size + 3) = False := eq_false (by (try simp only [ByteArray.size_append]); omega)
  have m2 : (9223372036854775807 < (⟨#[102, 117, 110, 99, 32, 102, 40, 41, 32, 123, 32, 112, 114, 105, 110, 116, 32]⟩ : ByteArray).size + a0.size) = False := eq_false (by (try simp only [ByteArray.size_append]); omega)
  have m3 : (9223372036854775807 < (⟨#[102, 117, 110, 99, 32, 102, 40, 41, 32, 123, 32, 112, 114, 105, 110, 116, 32]⟩ : ByteArray).size + a0.size + 3) = False := eq_false (by (try simp only [ByteArray.size_append]); omega)
  have m4 : (9223372036854775807 < ((⟨#[102, 117, 110, 99, 32, 102, 40, 41, 32, 123, 32, 112, 114, 105, 110, 116, 32]⟩ : ByteArray) ++ a0).size + 3) = False := eq_false (by (try simp only [ByteArray.size_append]); omega)
  have m5 : (9223372036854775807 < ((⟨#[102, 117, 110, 99, 32, 102, 40, 41, 32, 123, 32, 112, 114, 105, 110, 116, 32]⟩ : ByteArray) ++ a0).size + (⟨#[59, 32, 125]⟩ : ByteArray).size) = False := eq_false (by (try simp only [ByteArray.size_append]); omega)
  have m6 : (9223372036854775807 < (⟨#[102, 117, 110, 99, 32, 102, 40, 41, 32, 123, 32, 112, 114, 105, 110, 116, 32]⟩ : ByteArray).size + a0.size + (⟨#[59, 32, 125]⟩ : ByteArray).size) = False := eq_false (by (try simp only [ByteArray.size_append]); omega)
  have HF := Lib.hid (fun W hW => front_calls ((⟨#[102, 117, 110, 99, 32, 102, 40, 41, 32, 123, 32, 112, 114, 105, 110, 116, 32]⟩ : ByteArray) ++ a0 ++ (⟨#[59, 32, 125]⟩ : ByteArray)) (by rw [ByteArray.size_append, ByteArray.size_append, hz0, hz1]; omega) W hW)
  rw [htl] at HF
  clear htl hz0 hz1
  have HR := Lib.hid hres
  obtain ⟨a, s', x, x', hx, hxa, ha, hsh, hl9, hp', hx', hxa', ha', hxl, hst', hfn', hsh', hex', hls'⟩ := expr_again hr hres h1
  have hpl : (preP ++ (a0.data.toList ++ postR)).length ≤ 320 := by rw [List.length_append]; show 17 + _ ≤ _; omega
  have hcn := parse_cnt hres
  have hfw := parse_few _ (by omega) hres
  have hll := parse_len hres
  have hout := parse_out (by omega) hres (by omega)
  have HE1 : Hid (∀ W v, TabsP W → TrAt W v s → Calls Tryz.prog 9 #[v, .int .i64 (a : Int)] W (PrP (exT Lib.decDigits s.ex a) W)) := Lib.hid fun W v hW hv =>
    expr_calls hW (by omega) hres (fun y hy => by have := hll.ex y hy; omega) (by omega) (by omega) (by omega) hout hv hsh ha
  generalize hb : exT Lib.decDigits s.ex a = b at HE1 hl9 hp' hsh' hex'
  have hpl' : (preR ++ (b ++ postR)).length ≤ 10000 := by rw [List.length_append, List.length_append]; show 18 + (_ + 3) ≤ _; omega
  have hout' := parse_out1 (by omega) hp' (by omega) (by omega) (by omega)
  have HE2 : Hid (∀ W v, TabsP W → TrAt W v s' → Calls Tryz.prog 9 #[v, .int .i64 (a : Int)] W (PrP b W)) := Lib.hid fun W v hW hv => by
    have := expr_calls hW (by omega) hp' hls' (by omega) (by omega) (by omega) hout' hv hsh' ha'
    rwa [hex'] at this
  have hsb : (bs b).size = b.length := bs_size b
  have htl2 : ((⟨#[102, 117, 110, 99, 32, 102, 40, 41, 32, 123, 32, 114, 101, 116, 117, 114, 110, 32]⟩ : ByteArray) ++ bs b ++ (⟨#[59, 32, 125]⟩ : ByteArray)).data.toList = preR ++ (b ++ postR) := txt3 _ _ _
  have hz0 : (⟨#[102, 117, 110, 99, 32, 102, 40, 41, 32, 123, 32, 114, 101, 116, 117, 114, 110, 32]⟩ : ByteArray).size = 18 := rfl
  have hz1 : (⟨#[59, 32, 125]⟩ : ByteArray).size = 3 := rfl
  have r0 : (9223372036854775807 < 18 + b.length) = False := eq_false (by (try simp only [ByteArray.size_append]); omega)
  have r1 : (9223372036854775807 < 18 + b.length + 3) = False := eq_false (by (try simp only [ByteArray.size_append]); omega)
  have r2 : (9223372036854775807 < (⟨#[102, 117, 110, 99, 32, 102, 40, 41, 32, 123, 32, 114, 101, 116, 117, 114, 110, 32]⟩ : ByteArray).size + b.length) = False := eq_false (by (try simp only [ByteArray.size_append]); omega)
  have r3 : (9223372036854775807 < (⟨#[102, 117, 110, 99, 32, 102, 40, 41, 32, 123, 32, 114, 101, 116, 117, 114, 110, 32]⟩ : ByteArray).size + b.length + 3) = False := eq_false (by (try simp only [ByteArray.size_append]); omega)
  have r4 : (9223372036854775807 < ((⟨#[102, 117, 110, 99, 32, 102, 40, 41, 32, 123, 32, 114, 101, 116, 117, 114, 110, 32]⟩ : ByteArray) ++ (bs b)).size + 3) = False := eq_false (by (try simp only [ByteArray.size_append]); omega)
  have r5 : (9223372036854775807 < ((⟨#[102, 117, 110, 99, 32, 102, 40, 41, 32, 123, 32, 114, 101, 116, 117, 114, 110, 32]⟩ : ByteArray) ++ (bs b)).size + (⟨#[59, 32, 125]⟩ : ByteArray).size) = False := eq_false (by (try simp only [ByteArray.size_append]); omega)
  have r6 : (9223372036854775807 < (⟨#[102, 117, 110, 99, 32, 102, 40, 41, 32, 123, 32, 114, 101, 116, 117, 114, 110, 32]⟩ : ByteArray).size + b.length + (⟨#[59, 32, 125]⟩ : ByteArray).size) = False := eq_false (by (try simp only [ByteArray.size_append]); omega)
  have r7 : (9223372036854775807 < 18 + (bs b).size) = False := eq_false (by (try simp only [ByteArray.size_append]); omega)
  have r8 : (9223372036854775807 < 18 + (bs b).size + 3) = False := eq_false (by (try simp only [ByteArray.size_append]); omega)
  have r9 : (9223372036854775807 < (⟨#[102, 117, 110, 99, 32, 102, 40, 41, 32, 123, 32, 114, 101, 116, 117, 114, 110, 32]⟩ : ByteArray).size + (bs b).size) = False := eq_false (by (try simp only [ByteArray.size_append]); omega)
  have r10 : (9223372036854775807 < (⟨#[102, 117, 110, 99, 32, 102, 40, 41, 32, 123, 32, 114, 101, 116, 117, 114, 110, 32]⟩ : ByteArray).size + (bs b).size + 3) = False := eq_false (by (try simp only [ByteArray.size_append]); omega)
  have r11 : (9223372036854775807 < (⟨#[102, 117, 110, 99, 32, 102, 40, 41, 32, 123, 32, 114, 101, 116, 117, 114, 110, 32]⟩ : ByteArray).size + (bs b).size + (⟨#[59, 32, 125]⟩ : ByteArray).size) = False := eq_false (by (try simp only [ByteArray.size_append]); omega)
  have HF2 := Lib.hid (fun W hW => front_calls ((⟨#[102, 117, 110, 99, 32, 102, 40, 41, 32, 123, 32, 114, 101, 116, 117, 114, 110, 32]⟩ : ByteArray) ++ bs b ++ (⟨#[59, 32, 125]⟩ : ByteArray)) (by rw [ByteArray.size_append, ByteArray.size_append, hz0, hz1]; omega) W hW)
  rw [htl2] at HF2
  have HS := Lib.hid hp'
  have H1 := Lib.hid h1
  have HX := Lib.hid (And.intro hx hxa)
  have HX' := Lib.hid (And.intro hx' hxa')
  have HST' := Lib.hid hst'
  have HXL := Lib.hid hxl
  have hne0 : ((s.ex.length : Int) == 0) = false := by rw [beq_eq_false_iff_ne]; omega
  have h0a : (0 : Int) ≤ (a : Int) := by omega
  clear htl2 hz0 hz1 hres h1 hx hxa ha hsh hl9 hp' hx' hxa' ha' hxl hst' hfn' hsh' hex' hls' hpl hcn hfw hll hout hb hpl' hout' hsb hr
  go_enter Tryz.func5, Tryz.ntmps5
  go_wp2_with fail
  refine (awake_calls _ HT.out).mono ?_
  rintro e w1 ⟨rfl, hB1⟩
  have HT1 := Lib.hid (HT.out.below hB1)
  have HB1 := Lib.hid hB1
  clear hB1
  go_wp2_with (go_at_call 13; refine (HF.out _ HT1.out.tabs).mono ?_)
  intro e w2 h3
  obtain ⟨hB2, v, he, ht⟩ := h3.good HR.out
  obtain ⟨A1, c1, A2, c2, A3, c3, rfl⟩ := ht.form
  rw [H1.out] at ht he
  obtain ⟨gS, rfl, hcS⟩ := only_st ht H1.out HX.out.1 HX.out.2
  have hal := (Below.refl w2.heap.size w2).alloc (Nat.le_refl _) (.cells #[.slice A1 s.ex.length c1, .slice (some ⟨gS, 0, none⟩) 1 c2, .slice A3 s.fn.length c3] 27)
  have HBXA := Lib.hid (heap_one w2 #[.slice A1 s.ex.length c1, .slice (some ⟨gS, 0, none⟩) 1 c2, .slice A3 s.fn.length c3] 27)
  have HTT : Hid (TrAt (w2.alloc (.cells #[.slice A1 s.ex.length c1, .slice (some ⟨gS, 0, none⟩) 1 c2, .slice A3 s.fn.length c3] 27)) (.agg #[.slice A1 s.ex.length c1, .slice (some ⟨gS, 0, none⟩) 1 c2, .slice A3 s.fn.length c3]) s) := Lib.hid (ht.below hal)
  have HCS := Lib.hid (cel_keep hcS hal)
  have HT3 := Lib.hid ((HT1.out.below hB2).below hal)
  have HB3 := Lib.hid ((HB1.out.trans (hB2.mono HB1.out.size)).trans (hal.mono (Nat.le_trans HB1.out.size hB2.size)))
  clear hB2 h3 ht hal hcS HT1 HB1 HF
  subst he
  obtain ⟨x0, x1, x2⟩ := tri HBXA.out
  go_upto_region 6 with fail
  clear x0 x1 x2
  generalize (w2.alloc (.cells #[.slice A1 s.ex.length c1, .slice (some ⟨gS, 0, none⟩) 1 c2, .slice A3 s.fn.length c3] 27)) = w3 at HBXA HTT HT3 HB3 HCS ⊢
  have HE3 : Hid (∀ W, Below w3.heap.size w3 W → Calls Tryz.prog 9 #[.agg #[.slice A1 s.ex.length c1, .slice (some ⟨gS, 0, none⟩) 1 c2, .slice A3 s.fn.length c3], .int .i64 (a : Int)] W (PrP b W)) := Lib.hid fun W hW => HE1.out W _ (HT3.out.below hW) (HTT.out.below hW)
  have HBX : Hid (Below w3.heap.size w3 w3.drew) := Lib.hid (Below.refl _ _).drew
  obtain ⟨x0, x1, x2⟩ := tri (box_keep HBXA.out HBX.out)
  have x3 := cel_keep HCS.out HBX.out
  go_region_held3 (fun w' => w'.cell? ⟨w2.heap.size, 0, none⟩ = some (.slice A1 s.ex.length c1) ∧ w'.cell? ⟨w2.heap.size, 1, none⟩ = some (.slice (some ⟨gS, 0, none⟩) 1 c2) ∧ w'.cell? ⟨w2.heap.size, 2, none⟩ = some (.slice A3 s.fn.length c3) ∧ w'.cell? ⟨gS, 5, none⟩ = some (.int .i64 (a : Int)))
    (first | with_reducible exact ⟨x0, x1, x2, x3⟩)
    (first | (go_at_call 9; (with_reducible refine (HE3.out _ HBX.out).mono ?_); rintro e4 w4 ⟨rfl, hB4⟩; have HBX := Lib.hid (HBX.out.trans (hB4.mono HBX.out.size)); clear hB4; obtain ⟨x0, x1, x2⟩ := tri (box_keep HBXA.out HBX.out); have x3 := cel_keep HCS.out HBX.out))
  have HT4 := Lib.hid (HT3.out.below HBX.out)
  have HB4 := Lib.hid (HB3.out.trans (HBX.out.mono HB3.out.size))
  have HBA4 := Lib.hid (box_keep HBXA.out HBX.out)
  clear x0 x1 x2 x3 HBX HE3 HTT HT3 HB3 HBXA HCS
  go_wp2_with (go_at_call 13; refine (HF2.out _ HT4.out.tabs).mono ?_)
  intro e w5 h5
  obtain ⟨hB5, v, he, ht⟩ := h5.good HS.out
  obtain ⟨D1, d1, D2, d2, D3, d3, rfl⟩ := ht.form
  rw [HST'.out, HXL.out] at ht he
  obtain ⟨gU, rfl, hcU⟩ := only_st ht HST'.out HX'.out.1 HX'.out.2
  have hal := (Below.refl w5.heap.size w5).alloc (Nat.le_refl _) (.cells #[.slice D1 s.ex.length d1, .slice (some ⟨gU, 0, none⟩) 1 d2, .slice D3 s'.fn.length d3] 27)
  have HBXB := Lib.hid (heap_one w5 #[.slice D1 s.ex.length d1, .slice (some ⟨gU, 0, none⟩) 1 d2, .slice D3 s'.fn.length d3] 27)
  have HBXA := Lib.hid (box_keep (box_keep HBA4.out hB5) hal)
  have HTU : Hid (TrAt (w5.alloc (.cells #[.slice D1 s.ex.length d1, .slice (some ⟨gU, 0, none⟩) 1 d2, .slice D3 s'.fn.length d3] 27)) (.agg #[.slice D1 s.ex.length d1, .slice (some ⟨gU, 0, none⟩) 1 d2, .slice D3 s'.fn.length d3]) s') := Lib.hid (ht.below hal)
  have HCU := Lib.hid (cel_keep hcU hal)
  have HT6 := Lib.hid ((HT4.out.below hB5).below hal)
  have HB6 := Lib.hid ((HB4.out.trans (hB5.mono HB4.out.size)).trans (hal.mono (Nat.le_trans HB4.out.size hB5.size)))
  clear hB5 h5 ht hal hcU HT4 HB4 HF2 HBA4
  subst he
  go_upto_region 8 with fail
  generalize (w5.alloc (.cells #[.slice D1 s.ex.length d1, .slice (some ⟨gU, 0, none⟩) 1 d2, .slice D3 s'.fn.length d3] 27)) = w6 at HBXA HBXB HTU HT6 HB6 HCU ⊢
  have HE6 : Hid (∀ W, Below w6.heap.size w6 W → Calls Tryz.prog 9 #[.agg #[.slice D1 s.ex.length d1, .slice (some ⟨gU, 0, none⟩) 1 d2, .slice D3 s'.fn.length d3], .int .i64 (a : Int)] W (PrP b W)) := Lib.hid fun W hW => HE2.out W _ (HT6.out.below hW) (HTU.out.below hW)
  have HBX : Hid (Below w6.heap.size w6 w6.drew) := Lib.hid (Below.refl _ _).drew
  have hq : ((bs b).toList == (bs b).toList) = true := beq_self_eq_true _
  obtain ⟨x0, x1, x2⟩ := tri (box_keep HBXB.out HBX.out)
  obtain ⟨y0, y1, y2⟩ := tri (box_keep HBXA.out HBX.out)
  have x3 := cel_keep HCU.out HBX.out
  go_region_held3 (fun w' => w'.cell? ⟨w5.heap.size, 0, none⟩ = some (.slice D1 s.ex.length d1) ∧ w'.cell? ⟨w5.heap.size, 1, none⟩ = some (.slice (some ⟨gU, 0, none⟩) 1 d2) ∧ w'.cell? ⟨w5.heap.size, 2, none⟩ = some (.slice D3 s'.fn.length d3) ∧ w'.cell? ⟨gU, 5, none⟩ = some (.int .i64 (a : Int)) ∧ w'.cell? ⟨w2.heap.size, 0, none⟩ = some (.slice A1 s.ex.length c1))
    (first | with_reducible exact ⟨x0, x1, x2, x3, y0⟩)
    (first | (go_at_call 9; (with_reducible refine (HE6.out _ HBX.out).mono ?_); rintro e7 w7 ⟨rfl, hB7⟩; have HBX := Lib.hid (HBX.out.trans (hB7.mono HBX.out.size)); clear hB7; obtain ⟨x0, x1, x2⟩ := tri (box_keep HBXB.out HBX.out); obtain ⟨y0, y1, y2⟩ := tri (box_keep HBXA.out HBX.out); have x3 := cel_keep HCU.out HBX.out))
  all_goals
    go_wp2
    go_ret
    exact ⟨rfl, HB6.out.trans (HBX.out.mono HB6.out.size)⟩
set_option maxRecDepth 100000 in
set_option maxHeartbeats 8000000 in
/-- PrintExprs answers true, and leaves what there was. -/
theorem walk (a0 : ByteArray) (w : World) (hT : TabsP w) :
    Calls Tryz.prog 5 #[.string a0] w fun e w' => e = .returned (.bool true) ∧ Below w.heap.size w w' := by
  have HT := Lib.hid hT
  clear hT
  by_cases hs : a0.size ≤ 300
  · cases hres : parseT (preP ++ (a0.data.toList ++ postR)) with
    | bad p c => exact walk_bad a0 w HT hs p c hres
    | good s =>
      by_cases h1 : s.st.length = 1
      · exact walk_one a0 w HT hs s hres h1
      · exact walk_two a0 w HT hs s hres h1
  · have hd : decide ((300 : Int) < (a0.size : Int)) = true := decide_eq_true (by omega)
    go_enter Tryz.func5, Tryz.ntmps5
    go_wp2_with fail
    refine (awake_calls _ HT.out).mono ?_
    rintro e w1 ⟨rfl, hB1⟩
    have HT1 := Lib.hid (HT.out.below hB1)
    have HB1 := Lib.hid hB1
    clear hB1
    go_wp2_with fail
    refine (awake_calls _ HT1.out).mono ?_
    rintro e w2 ⟨rfl, hB2⟩
    go_wp2
    go_ret
    exact ⟨rfl, HB1.out.trans (hB2.mono HB1.out.size)⟩


set_option maxRecDepth 100000 in
theorem lifted (os : Os) (started : os.Started) (H : Type) (enc : TypeId × Value → H) :
    ReturnsInHanded {} Tryz.checked os 5 .any (fun w args => (Rows.printExprsSpec.pre enc Tryz.prog Tryz.f5 [] false w args ∧ laidMetH Tryz.prog laidP w) ∧ sizedMet enc Tryz.prog Tryz.f5 (OpenSpec.ofChange Rows.printExprsSpec) false w args)
      (Rows.printExprsSpec.post enc Tryz.prog Tryz.f5 false true false false) := by
  refine returnsInHanded_of_change_and (C := Tryz.checked) (X := fun w _ => laidMetH Tryz.prog laidP w) (fun _ _ _ hh h => h.of_heap hh) Tryz.own started (by kernel_rfl) Tryz.func5
    (ChangeSpec.witness_shaped (enc := enc) (C := Tryz.checked) (os := os) (X := fun w _ => laidMetH Tryz.prog laidP w) false (World.doorLaid Tryz.prog 223 os) #[.string ByteArray.empty] 8 rfl (World.shaped_of_RefB (by kernel_rfl) (by kernel_rfl)) (by kernel_rfl) (by kernel_rfl) (by kernel_rfl) (door_met os _)) ?_
  intro W base args ds gs before hval0 hW hcnd hsz hL _
  have hval : ∀ (j : Nat) t v, Tryz.f5.params[j]? = some t → args[j]? = some v → Value.okWide Tryz.prog W .any base t v := hval0
  have hW' := hW
  obtain ⟨p, q, hA0, hV, rfl, hfz, hnd⟩ := hW
  have hA : DataW.TrodAll enc Tryz.prog W 0 (fun _ => true) true Tryz.f5.params.toList args.toList ds p := hA0
  rw [Tryz.params5] at hA hval
  obtain ⟨v0, vs0, d0, ds0, p0, q0, hargs, rfl, rfl, h0, r0⟩ := trodAll_cons hA
  obtain ⟨rfl, rfl, rfl⟩ := trodAll_nil r0
  obtain rfl : args = #[v0] := by cases args; simp_all
  obtain ⟨rfl, rfl⟩ := trodVars_none hV
  obtain ⟨a0, rfl, rfl, rfl, w0⟩ := open_string Tryz.underlying9 (hval 0 9 v0 rfl rfl) h0
  clear hA0 hval0
  simp only [List.append_nil] at hW'
  refine (walk a0 W (tabsP_of hL)).mono fun e W' ⟨he, hg⟩ => ?_
  subst he
  exact ⟨_, rfl, _, _, _, [], [], [], hW', trodAll_cons_mk (shut_bool Tryz.underlying4 _) trodAll_mk0, (trodAll_cons_mk (shut_string Tryz.underlying9 w0) trodAll_mk0), rfl, hg.frame _, fun h => by cases h⟩

theorem over : Rows.PrintExprsSaid :=
  OpenClaim.holds_of_wide 5 Tryz.f5 rfl rfl rfl rfl rfl rfl rfl ⟨rfl, rfl, rfl, rfl, rfl⟩ rfl rfl rfl rfl rfl (by kernel_rfl) Tryz.func5 (by kernel_rfl)
    (of_decide_eq_true (by kernel_rfl)) (by unfold Func.isWrapper; first | (rw [if_pos (by decide +kernel)]; kernel_rfl) | (rw [if_neg (by decide +kernel)]; exact ⟨rfl, rfl⟩))
    (fun os started H enc _ => lifted os started H enc)

theorem proved : Rows.PrintExprsCardSaid :=
  Claim7.holds_tied_plain_at .later [] [.data, .data, .data, .sentinel, .sentinel, .widerDeep, .data, .data] true (true, "1fee94d94e8fce987835c372c9b7de755bd218681043bb13ce87bbad322ac513") true
    over (fun _ h => by cases h) (by kernel_rfl) (fun _ h => by cases h) printExprs_row_tie rfl ⟨rfl, rfl⟩ (by kernel_rfl) rfl
    (fun f fn hf hfn => by
      obtain rfl : f = 5 := Option.some.inj ((show Tryz.prog.funcNamed Rows.printExprsRow.func = some 5 by kernel_rfl).symm.trans hf) |>.symm
      obtain rfl : fn = Tryz.f5 := (Option.some.inj (Tryz.func5.symm.trans hfn)).symm
      exact ⟨by kernel_rfl, fun j t ht => by
        rw [Tryz.params5] at ht
        rcases j with _ | j
        · obtain rfl : t = 9 := by simpa using ht.symm
          exact (show Tryz.prog.wantsStandIn 9 = false by kernel_rfl)
        simp at ht⟩)
    (by kernel_rfl)
#print axioms proved
end Go.Proofs.YtdeflloidhbpmaaGreatDoor.printExprs
