/-
  SyntaxLists: for every two numbers the statement answers true. No condition but that the listed variables lie as the program's text lays them (the tie).
-/
import Derived.Test.YtccmodefjgjpeaaGreatDoorRows
import Derived.Test.YtccmodefjgjpeaaGreatDoorCards
import Derived.Test.YtccmodefjgjpeaaGreatDoorTie
import Derived.WalkKit
import Derived.WalkSpells
import Derived.ProofKit
import Derived.OpenShut
import Derived.ShutString
import Derived.Lib.SmallJoins
import Derived.SevenTiedAt
import Derived.Test.YtccmodefjgjpeaaGreatDoorLaidS
import Derived.Test.YtccmodefjgjpeaaGreatDoorAwakeS
import Derived.Test.YtccmodefjgjpeaaGreatDoorPRes
import Derived.Test.YtccmodefjgjpeaaGreatDoorListT
import Derived.Test.YtccmodefjgjpeaaGreatDoorCell
namespace Go.Proofs.YtccmodefjgjpeaaGreatDoor.syntaxLists
open Go.ChangeShapes Go.WideShapes Go.ChangeAt Go.RowKit Go.Proofs.YtccmodefjgjpeaaGreatDoor Go.Joins
open Go.ChangeMaps (open_string shut_string)
set_option linter.unusedVariables false


theorem bs_app (a b : List UInt8) : bs a ++ bs b = bs (a ++ b) := by
  rw [bs_eq]
  simp [bs_toList]
theorem argsT_len (n : Nat) : (argsT n).length ≤ n * 3 := parted_len [44, 32] [49] n
theorem parsT_len (n : Nat) : (parsT n).length ≤ n * 2 := parted_len [44] [112] n
theorem argsT_step (n : Nat) (h : n ≠ 0) : bs (argsT n) ++ (⟨#[44, 32]⟩ : ByteArray) ++ (⟨#[49]⟩ : ByteArray) = bs (argsT (n + 1)) := by
  show bs (argsT n) ++ bs [44, 32] ++ bs [49] = _
  rw [bs_app, bs_app]
  unfold argsT
  rw [parted_succ, if_neg h]
theorem parsT_step (n : Nat) (h : n ≠ 0) : bs (parsT n) ++ (⟨#[44]⟩ : ByteArray) ++ (⟨#[112]⟩ : ByteArray) = bs (parsT (n + 1)) := by
  show bs (parsT n) ++ bs [44] ++ bs [112] = _
  rw [bs_app, bs_app]
  unfold parsT
  rw [parted_succ, if_neg h]
theorem u8_nat {a : Int} (hw : (Lit.int .u8 a).wf = true) : ∃ n : Nat, a = (n : Int) ∧ n ≤ 255 := by
  have hmin : IntKind.u8.min = 0 := rfl
  have hmax : IntKind.u8.max = 255 := rfl
  simp only [Lit.wf, Bool.and_eq_true, decide_eq_true_eq] at hw
  exact ⟨a.toNat, by omega, by omega⟩

set_option maxRecDepth 100000 in
set_option maxHeartbeats 8000000 in
/-- SyntaxLists answers true, and leaves what there was. -/
theorem walk (a0 a1 : Int) (w : World) (hT : Tabs w) (hw0 : (Lit.int .u8 a0).wf = true) (hw1 : (Lit.int .u8 a1).wf = true) :
    Calls Tryz.prog 8 #[.int .u8 a0, .int .u8 a1] w fun e w' => e = .returned (.bool true) ∧ Below w.heap.size w w' := by
  obtain ⟨n, rfl, hn⟩ := u8_nat hw0
  obtain ⟨m, rfl, hm⟩ := u8_nat hw1
  clear hw0 hw1
  have HT := Lib.hid hT
  have h2 := hT.2.2
  clear hT
  have ha : n % 30 < 30 := Nat.mod_lt _ (by omega)
  have hp : m % 30 < 30 := Nat.mod_lt _ (by omega)
  have er1 : ((n : Int) % 30) = ((n % 30 : Nat) : Int) := by simp
  have er1' : (n : Int).tmod 30 = ((n % 30 : Nat) : Int) := by rw [Int.tmod_eq_emod_of_nonneg (by omega)]; simp
  have er2 : ((m : Int) % 30) = ((m % 30 : Nat) : Int) := by simp
  have er2' : (m : Int).tmod 30 = ((m % 30 : Nat) : Int) := by rw [Int.tmod_eq_emod_of_nonneg (by omega)]; simp
  generalize n % 30 = a at *
  generalize m % 30 = p at *
  have za : (bs (argsT a)).size ≤ 90 := by rw [bs_size]; have := argsT_len a; omega
  have zq : (bs (parsT p)).size ≤ 60 := by rw [bs_size]; have := parsT_len p; omega
  obtain ⟨s, hg, hfn, hst, hex, ⟨x, hx, hxk, hxl⟩, f, hf, hfp⟩ := list_good a p ha hp
  obtain ⟨q2, hg2⟩ := list_badF p hp
  obtain ⟨q3, hg3⟩ := list_badG a ha
  have m0 : (9223372036854775807 < (⟨#[102, 117, 110, 99, 32, 102, 40]⟩ : ByteArray).size + (bs (parsT p)).size) = False := eq_false (by have y0 : (⟨#[102, 117, 110, 99, 32, 102, 40]⟩ : ByteArray).size = 7 := rfl; (try simp only [ByteArray.size_append]); omega)
  have m1 : (9223372036854775807 < 7 + (bs (parsT p)).size) = False := eq_false (by have y0 : (⟨#[102, 117, 110, 99, 32, 102, 40]⟩ : ByteArray).size = 7 := rfl; (try simp only [ByteArray.size_append]); omega)
  have m2 : (9223372036854775807 < ((⟨#[102, 117, 110, 99, 32, 102, 40]⟩ : ByteArray) ++ (bs (parsT p))).size + 6) = False := eq_false (by have y0 : (⟨#[102, 117, 110, 99, 32, 102, 40]⟩ : ByteArray).size = 7 := rfl; have y2 : (⟨#[41, 32, 123, 32, 103, 40]⟩ : ByteArray).size = 6 := rfl; (try simp only [ByteArray.size_append]); omega)
  have m3 : (9223372036854775807 < ((⟨#[102, 117, 110, 99, 32, 102, 40]⟩ : ByteArray) ++ (bs (parsT p))).size + (⟨#[41, 32, 123, 32, 103, 40]⟩ : ByteArray).size) = False := eq_false (by have y0 : (⟨#[102, 117, 110, 99, 32, 102, 40]⟩ : ByteArray).size = 7 := rfl; have y2 : (⟨#[41, 32, 123, 32, 103, 40]⟩ : ByteArray).size = 6 := rfl; (try simp only [ByteArray.size_append]); omega)
  have m4 : (9223372036854775807 < 7 + (bs (parsT p)).size + 6) = False := eq_false (by have y0 : (⟨#[102, 117, 110, 99, 32, 102, 40]⟩ : ByteArray).size = 7 := rfl; have y2 : (⟨#[41, 32, 123, 32, 103, 40]⟩ : ByteArray).size = 6 := rfl; (try simp only [ByteArray.size_append]); omega)
  have m5 : (9223372036854775807 < ((⟨#[102, 117, 110, 99, 32, 102, 40]⟩ : ByteArray) ++ (bs (parsT p)) ++ (⟨#[41, 32, 123, 32, 103, 40]⟩ : ByteArray)).size + (bs (argsT a)).size) = False := eq_false (by have y0 : (⟨#[102, 117, 110, 99, 32, 102, 40]⟩ : ByteArray).size = 7 := rfl; have y2 : (⟨#[41, 32, 123, 32, 103, 40]⟩ : ByteArray).size = 6 := rfl; (try simp only [ByteArray.size_append]); omega)
  have m6 : (9223372036854775807 < 7 + (bs (parsT p)).size + 6 + (bs (argsT a)).size) = False := eq_false (by have y0 : (⟨#[102, 117, 110, 99, 32, 102, 40]⟩ : ByteArray).size = 7 := rfl; have y2 : (⟨#[41, 32, 123, 32, 103, 40]⟩ : ByteArray).size = 6 := rfl; (try simp only [ByteArray.size_append]); omega)
  have m7 : (9223372036854775807 < ((⟨#[102, 117, 110, 99, 32, 102, 40]⟩ : ByteArray) ++ (bs (parsT p)) ++ (⟨#[41, 32, 123, 32, 103, 40]⟩ : ByteArray) ++ (bs (argsT a))).size + 4) = False := eq_false (by have y0 : (⟨#[102, 117, 110, 99, 32, 102, 40]⟩ : ByteArray).size = 7 := rfl; have y2 : (⟨#[41, 32, 123, 32, 103, 40]⟩ : ByteArray).size = 6 := rfl; have y4 : (⟨#[41, 59, 32, 125]⟩ : ByteArray).size = 4 := rfl; (try simp only [ByteArray.size_append]); omega)
  have m8 : (9223372036854775807 < ((⟨#[102, 117, 110, 99, 32, 102, 40]⟩ : ByteArray) ++ (bs (parsT p)) ++ (⟨#[41, 32, 123, 32, 103, 40]⟩ : ByteArray) ++ (bs (argsT a))).size + (⟨#[41, 59, 32, 125]⟩ : ByteArray).size) = False := eq_false (by have y0 : (⟨#[102, 117, 110, 99, 32, 102, 40]⟩ : ByteArray).size = 7 := rfl; have y2 : (⟨#[41, 32, 123, 32, 103, 40]⟩ : ByteArray).size = 6 := rfl; have y4 : (⟨#[41, 59, 32, 125]⟩ : ByteArray).size = 4 := rfl; (try simp only [ByteArray.size_append]); omega)
  have m9 : (9223372036854775807 < 7 + (bs (parsT p)).size + 6 + (bs (argsT a)).size + 4) = False := eq_false (by have y0 : (⟨#[102, 117, 110, 99, 32, 102, 40]⟩ : ByteArray).size = 7 := rfl; have y2 : (⟨#[41, 32, 123, 32, 103, 40]⟩ : ByteArray).size = 6 := rfl; have y4 : (⟨#[41, 59, 32, 125]⟩ : ByteArray).size = 4 := rfl; (try simp only [ByteArray.size_append]); omega)
  have HM := Lib.hid (show (9223372036854775807 < (⟨#[102, 117, 110, 99, 32, 102, 40]⟩ : ByteArray).size + (bs (parsT p)).size) = False ∧ (9223372036854775807 < 7 + (bs (parsT p)).size) = False ∧ (9223372036854775807 < ((⟨#[102, 117, 110, 99, 32, 102, 40]⟩ : ByteArray) ++ (bs (parsT p))).size + 6) = False ∧ (9223372036854775807 < ((⟨#[102, 117, 110, 99, 32, 102, 40]⟩ : ByteArray) ++ (bs (parsT p))).size + (⟨#[41, 32, 123, 32, 103, 40]⟩ : ByteArray).size) = False ∧ (9223372036854775807 < 7 + (bs (parsT p)).size + 6) = False ∧ (9223372036854775807 < ((⟨#[102, 117, 110, 99, 32, 102, 40]⟩ : ByteArray) ++ (bs (parsT p)) ++ (⟨#[41, 32, 123, 32, 103, 40]⟩ : ByteArray)).size + (bs (argsT a)).size) = False ∧ (9223372036854775807 < 7 + (bs (parsT p)).size + 6 + (bs (argsT a)).size) = False ∧ (9223372036854775807 < ((⟨#[102, 117, 110, 99, 32, 102, 40]⟩ : ByteArray) ++ (bs (parsT p)) ++ (⟨#[41, 32, 123, 32, 103, 40]⟩ : ByteArray) ++ (bs (argsT a))).size + 4) = False ∧ (9223372036854775807 < ((⟨#[102, 117, 110, 99, 32, 102, 40]⟩ : ByteArray) ++ (bs (parsT p)) ++ (⟨#[41, 32, 123, 32, 103, 40]⟩ : ByteArray) ++ (bs (argsT a))).size + (⟨#[41, 59, 32, 125]⟩ : ByteArray).size) = False ∧ (9223372036854775807 < 7 + (bs (parsT p)).size + 6 + (bs (argsT a)).size + 4) = False from ⟨m0, m1, m2, m3, m4, m5, m6, m7, m8, m9⟩)
  clear m0 m1 m2 m3 m4 m5 m6 m7 m8 m9
  have o0 : (9223372036854775807 < (⟨#[102, 117, 110, 99, 32, 102, 40]⟩ : ByteArray).size + (bs (parsT p)).size) = False := eq_false (by have y0 : (⟨#[102, 117, 110, 99, 32, 102, 40]⟩ : ByteArray).size = 7 := rfl; (try simp only [ByteArray.size_append]); omega)
  have o1 : (9223372036854775807 < 7 + (bs (parsT p)).size) = False := eq_false (by have y0 : (⟨#[102, 117, 110, 99, 32, 102, 40]⟩ : ByteArray).size = 7 := rfl; (try simp only [ByteArray.size_append]); omega)
  have o2 : (9223372036854775807 < ((⟨#[102, 117, 110, 99, 32, 102, 40]⟩ : ByteArray) ++ (bs (parsT p))).size + 6) = False := eq_false (by have y0 : (⟨#[102, 117, 110, 99, 32, 102, 40]⟩ : ByteArray).size = 7 := rfl; have y2 : (⟨#[44, 41, 32, 123, 32, 125]⟩ : ByteArray).size = 6 := rfl; (try simp only [ByteArray.size_append]); omega)
  have o3 : (9223372036854775807 < ((⟨#[102, 117, 110, 99, 32, 102, 40]⟩ : ByteArray) ++ (bs (parsT p))).size + (⟨#[44, 41, 32, 123, 32, 125]⟩ : ByteArray).size) = False := eq_false (by have y0 : (⟨#[102, 117, 110, 99, 32, 102, 40]⟩ : ByteArray).size = 7 := rfl; have y2 : (⟨#[44, 41, 32, 123, 32, 125]⟩ : ByteArray).size = 6 := rfl; (try simp only [ByteArray.size_append]); omega)
  have o4 : (9223372036854775807 < 7 + (bs (parsT p)).size + 6) = False := eq_false (by have y0 : (⟨#[102, 117, 110, 99, 32, 102, 40]⟩ : ByteArray).size = 7 := rfl; have y2 : (⟨#[44, 41, 32, 123, 32, 125]⟩ : ByteArray).size = 6 := rfl; (try simp only [ByteArray.size_append]); omega)
  have HO := Lib.hid (show (9223372036854775807 < (⟨#[102, 117, 110, 99, 32, 102, 40]⟩ : ByteArray).size + (bs (parsT p)).size) = False ∧ (9223372036854775807 < 7 + (bs (parsT p)).size) = False ∧ (9223372036854775807 < ((⟨#[102, 117, 110, 99, 32, 102, 40]⟩ : ByteArray) ++ (bs (parsT p))).size + 6) = False ∧ (9223372036854775807 < ((⟨#[102, 117, 110, 99, 32, 102, 40]⟩ : ByteArray) ++ (bs (parsT p))).size + (⟨#[44, 41, 32, 123, 32, 125]⟩ : ByteArray).size) = False ∧ (9223372036854775807 < 7 + (bs (parsT p)).size + 6) = False from ⟨o0, o1, o2, o3, o4⟩)
  clear o0 o1 o2 o3 o4
  have r0 : (9223372036854775807 < (⟨#[102, 117, 110, 99, 32, 102, 40, 41, 32, 123, 32, 103, 40]⟩ : ByteArray).size + (bs (argsT a)).size) = False := eq_false (by have y0 : (⟨#[102, 117, 110, 99, 32, 102, 40, 41, 32, 123, 32, 103, 40]⟩ : ByteArray).size = 13 := rfl; (try simp only [ByteArray.size_append]); omega)
  have r1 : (9223372036854775807 < 13 + (bs (argsT a)).size) = False := eq_false (by have y0 : (⟨#[102, 117, 110, 99, 32, 102, 40, 41, 32, 123, 32, 103, 40]⟩ : ByteArray).size = 13 := rfl; (try simp only [ByteArray.size_append]); omega)
  have r2 : (9223372036854775807 < ((⟨#[102, 117, 110, 99, 32, 102, 40, 41, 32, 123, 32, 103, 40]⟩ : ByteArray) ++ (bs (argsT a))).size + 5) = False := eq_false (by have y0 : (⟨#[102, 117, 110, 99, 32, 102, 40, 41, 32, 123, 32, 103, 40]⟩ : ByteArray).size = 13 := rfl; have y2 : (⟨#[44, 41, 59, 32, 125]⟩ : ByteArray).size = 5 := rfl; (try simp only [ByteArray.size_append]); omega)
  have r3 : (9223372036854775807 < ((⟨#[102, 117, 110, 99, 32, 102, 40, 41, 32, 123, 32, 103, 40]⟩ : ByteArray) ++ (bs (argsT a))).size + (⟨#[44, 41, 59, 32, 125]⟩ : ByteArray).size) = False := eq_false (by have y0 : (⟨#[102, 117, 110, 99, 32, 102, 40, 41, 32, 123, 32, 103, 40]⟩ : ByteArray).size = 13 := rfl; have y2 : (⟨#[44, 41, 59, 32, 125]⟩ : ByteArray).size = 5 := rfl; (try simp only [ByteArray.size_append]); omega)
  have r4 : (9223372036854775807 < 13 + (bs (argsT a)).size + 5) = False := eq_false (by have y0 : (⟨#[102, 117, 110, 99, 32, 102, 40, 41, 32, 123, 32, 103, 40]⟩ : ByteArray).size = 13 := rfl; have y2 : (⟨#[44, 41, 59, 32, 125]⟩ : ByteArray).size = 5 := rfl; (try simp only [ByteArray.size_append]); omega)
  have HRR := Lib.hid (show (9223372036854775807 < (⟨#[102, 117, 110, 99, 32, 102, 40, 41, 32, 123, 32, 103, 40]⟩ : ByteArray).size + (bs (argsT a)).size) = False ∧ (9223372036854775807 < 13 + (bs (argsT a)).size) = False ∧ (9223372036854775807 < ((⟨#[102, 117, 110, 99, 32, 102, 40, 41, 32, 123, 32, 103, 40]⟩ : ByteArray) ++ (bs (argsT a))).size + 5) = False ∧ (9223372036854775807 < ((⟨#[102, 117, 110, 99, 32, 102, 40, 41, 32, 123, 32, 103, 40]⟩ : ByteArray) ++ (bs (argsT a))).size + (⟨#[44, 41, 59, 32, 125]⟩ : ByteArray).size) = False ∧ (9223372036854775807 < 13 + (bs (argsT a)).size + 5) = False from ⟨r0, r1, r2, r3, r4⟩)
  clear r0 r1 r2 r3 r4
  have HF1 := Lib.hid (fun W hW => front_calls ((⟨#[102, 117, 110, 99, 32, 102, 40]⟩ : ByteArray) ++ (bs (parsT p)) ++ (⟨#[41, 32, 123, 32, 103, 40]⟩ : ByteArray) ++ (bs (argsT a)) ++ (⟨#[41, 59, 32, 125]⟩ : ByteArray)) (by simp only [ByteArray.size_append, show (⟨#[102, 117, 110, 99, 32, 102, 40]⟩ : ByteArray).size = 7 from rfl, show (⟨#[41, 32, 123, 32, 103, 40]⟩ : ByteArray).size = 6 from rfl, show (⟨#[41, 59, 32, 125]⟩ : ByteArray).size = 4 from rfl]; omega) W hW)
  have e1 : ((⟨#[102, 117, 110, 99, 32, 102, 40]⟩ : ByteArray) ++ (bs (parsT p)) ++ (⟨#[41, 32, 123, 32, 103, 40]⟩ : ByteArray) ++ (bs (argsT a)) ++ (⟨#[41, 59, 32, 125]⟩ : ByteArray)).data.toList = listT a p := by simp [bs_toList, listT]
  rw [e1] at HF1
  have HF2 := Lib.hid (fun W hW => front_calls ((⟨#[102, 117, 110, 99, 32, 102, 40]⟩ : ByteArray) ++ (bs (parsT p)) ++ (⟨#[44, 41, 32, 123, 32, 125]⟩ : ByteArray)) (by simp only [ByteArray.size_append, show (⟨#[102, 117, 110, 99, 32, 102, 40]⟩ : ByteArray).size = 7 from rfl, show (⟨#[44, 41, 32, 123, 32, 125]⟩ : ByteArray).size = 6 from rfl]; omega) W hW)
  have e2 : ((⟨#[102, 117, 110, 99, 32, 102, 40]⟩ : ByteArray) ++ (bs (parsT p)) ++ (⟨#[44, 41, 32, 123, 32, 125]⟩ : ByteArray)).data.toList = listF p := by simp [bs_toList, listF]
  rw [e2] at HF2
  have HF3 := Lib.hid (fun W hW => front_calls ((⟨#[102, 117, 110, 99, 32, 102, 40, 41, 32, 123, 32, 103, 40]⟩ : ByteArray) ++ (bs (argsT a)) ++ (⟨#[44, 41, 59, 32, 125]⟩ : ByteArray)) (by simp only [ByteArray.size_append, show (⟨#[102, 117, 110, 99, 32, 102, 40, 41, 32, 123, 32, 103, 40]⟩ : ByteArray).size = 13 from rfl, show (⟨#[44, 41, 59, 32, 125]⟩ : ByteArray).size = 5 from rfl]; omega) W hW)
  have e3 : ((⟨#[102, 117, 110, 99, 32, 102, 40, 41, 32, 123, 32, 103, 40]⟩ : ByteArray) ++ (bs (argsT a)) ++ (⟨#[44, 41, 59, 32, 125]⟩ : ByteArray)).data.toList = listG a := by simp [bs_toList, listG]
  rw [e3] at HF3
  have HG1 := Lib.hid hg
  have HG2 := Lib.hid hg2
  have HG3 := Lib.hid hg3
  have hxi : s.ex[a]'(by omega) = x := by
    rw [List.getElem?_eq_getElem (by omega)] at hx
    exact Option.some.inj hx
  have hfi : s.fn[0]'(by omega) = f := by
    rw [List.getElem?_eq_getElem (by omega)] at hf
    exact Option.some.inj hf
  clear e1 e2 e3 hg hg2 hg3 hx hf
  go_enter Tryz.func8, Tryz.ntmps8
  go_wp2_with fail
  refine (awake_calls _ HT.out).mono ?_
  rintro e w1 ⟨rfl, hB1⟩
  have HB1 := Lib.hid hB1
  clear hB1
  go_wp2
  go_loopw [7, 30] (fun va vi wr => ∃ i : Nat, i ≤ a ∧ va = .string (bs (argsT i)) ∧ vi = .int .i64 (i : Int) ∧ Below w.heap.size w wr) (fun _ vi _ => a - (intOf vi).toNat)
  case atStart => exact ⟨0, Nat.zero_le _, rfl, rfl, HB1.out⟩
  case round =>
    obtain ⟨i, hi, rfl, rfl, hB2⟩ := hrel
    have HB2 := Lib.hid hB2
    clear hB2
    by_cases hlt : i < a
    · have hlt1 : (i : Int) < (a : Int) := by omega
      have zi : (bs (argsT i)).size ≤ 90 := by rw [bs_size]; have := argsT_len i; omega
      by_cases h0 : i = 0
      · have hz : decide ((0 : Int) < (i : Int)) = false := decide_eq_false (by omega)
        have hz' : decide (0 < i) = false := decide_eq_false (by omega)
        have s0 : (9223372036854775807 < (bs (argsT i)).size + 1) = False := eq_false (by have y1 : (⟨#[49]⟩ : ByteArray).size = 1 := rfl; (try simp only [ByteArray.size_append]); omega)
        have s1 : (9223372036854775807 < (bs (argsT i)).size + (⟨#[49]⟩ : ByteArray).size) = False := eq_false (by have y1 : (⟨#[49]⟩ : ByteArray).size = 1 := rfl; (try simp only [ByteArray.size_append]); omega)
        have a1 : Hid (bs (argsT i) ++ (⟨#[49]⟩ : ByteArray) = bs (argsT (i + 1))) := Lib.hid (by rw [h0]; rfl)
        clear h0 zi
        go_wp2
        go_roundw
        case rel => exact ⟨i + 1, by omega, by rw [a1.out], by go_num, HB2.out⟩
        case measure => simp [intOf]; omega
      · have hz : decide ((0 : Int) < (i : Int)) = true := decide_eq_true (by omega)
        have hz' : decide (0 < i) = true := decide_eq_true (by omega)
        have s0 : (9223372036854775807 < (bs (argsT i)).size + 2) = False := eq_false (by have y1 : (⟨#[44, 32]⟩ : ByteArray).size = 2 := rfl; (try simp only [ByteArray.size_append]); omega)
        have s1 : (9223372036854775807 < (bs (argsT i)).size + (⟨#[44, 32]⟩ : ByteArray).size) = False := eq_false (by have y1 : (⟨#[44, 32]⟩ : ByteArray).size = 2 := rfl; (try simp only [ByteArray.size_append]); omega)
        have s2 : (9223372036854775807 < ((bs (argsT i)) ++ (⟨#[44, 32]⟩ : ByteArray)).size + 1) = False := eq_false (by have y1 : (⟨#[44, 32]⟩ : ByteArray).size = 2 := rfl; have y2 : (⟨#[49]⟩ : ByteArray).size = 1 := rfl; (try simp only [ByteArray.size_append]); omega)
        have s3 : (9223372036854775807 < ((bs (argsT i)) ++ (⟨#[44, 32]⟩ : ByteArray)).size + (⟨#[49]⟩ : ByteArray).size) = False := eq_false (by have y1 : (⟨#[44, 32]⟩ : ByteArray).size = 2 := rfl; have y2 : (⟨#[49]⟩ : ByteArray).size = 1 := rfl; (try simp only [ByteArray.size_append]); omega)
        have s4 : (9223372036854775807 < (bs (argsT i)).size + 2 + 1) = False := eq_false (by have y1 : (⟨#[44, 32]⟩ : ByteArray).size = 2 := rfl; have y2 : (⟨#[49]⟩ : ByteArray).size = 1 := rfl; (try simp only [ByteArray.size_append]); omega)
        have a1 : Hid (bs (argsT i) ++ (⟨#[44, 32]⟩ : ByteArray) ++ (⟨#[49]⟩ : ByteArray) = bs (argsT (i + 1))) := Lib.hid (argsT_step i h0)
        clear h0 zi
        go_wp2
        go_roundw
        case rel => exact ⟨i + 1, by omega, by rw [a1.out], by go_num, HB2.out⟩
        case measure => simp [intOf]; omega
    · obtain rfl : a = i := by omega
      go_wp2
      go_loopw [8, 41] (fun va vi wr => ∃ i : Nat, i ≤ p ∧ va = .string (bs (parsT i)) ∧ vi = .int .i64 (i : Int) ∧ Below w.heap.size w wr) (fun _ vi _ => p - (intOf vi).toNat)
      case atStart => exact ⟨0, Nat.zero_le _, rfl, rfl, HB2.out⟩
      case round =>
        obtain ⟨i, hi, rfl, rfl, hB2⟩ := hrel
        have HB2 := Lib.hid hB2
        clear hB2
        by_cases hlt : i < p
        · have hlt1 : (i : Int) < (p : Int) := by omega
          have zi : (bs (parsT i)).size ≤ 90 := by rw [bs_size]; have := parsT_len i; omega
          by_cases h0 : i = 0
          · have hz : decide ((0 : Int) < (i : Int)) = false := decide_eq_false (by omega)
            have hz' : decide (0 < i) = false := decide_eq_false (by omega)
            have s0 : (9223372036854775807 < (bs (parsT i)).size + 1) = False := eq_false (by have y1 : (⟨#[112]⟩ : ByteArray).size = 1 := rfl; (try simp only [ByteArray.size_append]); omega)
            have s1 : (9223372036854775807 < (bs (parsT i)).size + (⟨#[112]⟩ : ByteArray).size) = False := eq_false (by have y1 : (⟨#[112]⟩ : ByteArray).size = 1 := rfl; (try simp only [ByteArray.size_append]); omega)
            have a1 : Hid (bs (parsT i) ++ (⟨#[112]⟩ : ByteArray) = bs (parsT (i + 1))) := Lib.hid (by rw [h0]; rfl)
            clear h0 zi
            go_wp2
            go_roundw
            case rel => exact ⟨i + 1, by omega, by rw [a1.out], by go_num, HB2.out⟩
            case measure => simp [intOf]; omega
          · have hz : decide ((0 : Int) < (i : Int)) = true := decide_eq_true (by omega)
            have hz' : decide (0 < i) = true := decide_eq_true (by omega)
            have s0 : (9223372036854775807 < (bs (parsT i)).size + 1) = False := eq_false (by have y1 : (⟨#[44]⟩ : ByteArray).size = 1 := rfl; (try simp only [ByteArray.size_append]); omega)
            have s1 : (9223372036854775807 < (bs (parsT i)).size + (⟨#[44]⟩ : ByteArray).size) = False := eq_false (by have y1 : (⟨#[44]⟩ : ByteArray).size = 1 := rfl; (try simp only [ByteArray.size_append]); omega)
            have s2 : (9223372036854775807 < ((bs (parsT i)) ++ (⟨#[44]⟩ : ByteArray)).size + 1) = False := eq_false (by have y1 : (⟨#[44]⟩ : ByteArray).size = 1 := rfl; have y2 : (⟨#[112]⟩ : ByteArray).size = 1 := rfl; (try simp only [ByteArray.size_append]); omega)
            have s3 : (9223372036854775807 < ((bs (parsT i)) ++ (⟨#[44]⟩ : ByteArray)).size + (⟨#[112]⟩ : ByteArray).size) = False := eq_false (by have y1 : (⟨#[44]⟩ : ByteArray).size = 1 := rfl; have y2 : (⟨#[112]⟩ : ByteArray).size = 1 := rfl; (try simp only [ByteArray.size_append]); omega)
            have s4 : (9223372036854775807 < (bs (parsT i)).size + 1 + 1) = False := eq_false (by have y1 : (⟨#[44]⟩ : ByteArray).size = 1 := rfl; have y2 : (⟨#[112]⟩ : ByteArray).size = 1 := rfl; (try simp only [ByteArray.size_append]); omega)
            have a1 : Hid (bs (parsT i) ++ (⟨#[44]⟩ : ByteArray) ++ (⟨#[112]⟩ : ByteArray) = bs (parsT (i + 1))) := Lib.hid (parsT_step i h0)
            clear h0 zi
            go_wp2
            go_roundw
            case rel => exact ⟨i + 1, by omega, by rw [a1.out], by go_num, HB2.out⟩
            case measure => simp [intOf]; omega
        · obtain rfl : p = i := by omega
          have HT3 := Lib.hid (HT.out.below HB2.out h2)
          obtain ⟨m0, m1, m2, m3, m4, m5, m6, m7, m8, m9⟩ := HM.out
          go_wp2_with fail
          clear m0 m1 m2 m3 m4 m5 m6 m7 m8 m9
          refine (HF1.out _ HT3.out).mono ?_
          intro e w3 h3
          obtain ⟨hB3, v3, rfl, ht3⟩ := h3.good HG1.out
          obtain ⟨A1, c1, A2, c2, A3, c3, rfl⟩ := ht3.form
          obtain ⟨g, l, rfl, hgl, hl, x0, x1, x2, x3, x4, x5, x6, x7, x8⟩ := TrIn.exC ht3 _ (by omega : a < s.ex.length)
          obtain ⟨g3, l3, m3, rfl, hgl3, hl3, hm3, y0, y1, y2, y3, y4, y5⟩ := TrIn.fuC ht3 0 (by omega)
          rw [hxi] at x0 x1 x2 x3 x4 x5 x6 x7 hl
          rw [hfi] at hl3
          obtain ⟨Al, cl, rfl⟩ := hl.form
          obtain ⟨Ap, cp, rfl⟩ := hl3.form
          rw [intsV_len, hxl] at x8
          rw [strsV_len, hfp] at y3
          rw [hxk] at x0
          rw [Nat.zero_mul, Nat.zero_add] at y3
          rw [hfn, hst, hex]
          have HB3 := Lib.hid (HB2.out.trans (hB3.mono HB2.out.size))
          clear hB3 h3 ht3 hl hm3 hl3 y0 y1 y2 y4 y5
          have hz1 : ∀ k o, k < w3.heap.size → (w3.alloc (.cells #[.slice (some ⟨g, 0, none⟩) (a + 1) c1, .slice A2 1 c2, .slice (some ⟨g3, 0, none⟩) 1 c3] 27)).cell? ⟨k, o, none⟩ = w3.cell? ⟨k, o, none⟩ := fun k o hk => World.cell?_of_block (a := ⟨k, o, none⟩) (Below.heap_alloc w3 _ k hk)
          have z0 := (hz1 g (a * 9) hgl).trans x0
          have z1 := (hz1 g (a * 9 + 1) hgl).trans x1
          have z2 := (hz1 g (a * 9 + 2) hgl).trans x2
          have z3 := (hz1 g (a * 9 + 3) hgl).trans x3
          have z4 := (hz1 g (a * 9 + 4) hgl).trans x4
          have z5 := (hz1 g (a * 9 + 5) hgl).trans x5
          have z6 := (hz1 g (a * 9 + 6) hgl).trans x6
          have z7 := (hz1 g (a * 9 + 7) hgl).trans x7
          have z8 := (hz1 g (a * 9 + 8) hgl).trans x8
          have hi0 : (0 : Int) ≤ (a : Int) := by omega
          have hi1 : (a : Int) < ((a + 1 : Nat) : Int) := by omega
          have hi2 : (a : Int) < (a : Int) + 1 := by omega
          have HK1 := Lib.hid ((Below.heap_alloc (w3.alloc (.cells #[.slice (some ⟨g, 0, none⟩) (a + 1) c1, .slice A2 1 c2, .slice (some ⟨g3, 0, none⟩) 1 c3] 27)) (.cells #[.int .i64 ((6 : Nat) : Int), .int .i64 (x.lo : Int), .int .i64 (x.hi : Int), .int .i64 (x.num : Int), .string (bs x.name), .string (bs x.op), .int .i64 (x.a : Int), .int .i64 (x.b : Int), .slice Al a cl] 35) w3.heap.size (by simp)).trans (heap_one w3 #[.slice (some ⟨g, 0, none⟩) (a + 1) c1, .slice A2 1 c2, .slice (some ⟨g3, 0, none⟩) 1 c3] 27))
          have HK2 := Lib.hid (heap_two w3 (.cells #[.slice (some ⟨g, 0, none⟩) (a + 1) c1, .slice A2 1 c2, .slice (some ⟨g3, 0, none⟩) 1 c3] 27) #[.int .i64 ((6 : Nat) : Int), .int .i64 (x.lo : Int), .int .i64 (x.hi : Int), .int .i64 (x.num : Int), .string (bs x.name), .string (bs x.op), .int .i64 (x.a : Int), .int .i64 (x.b : Int), .slice Al a cl] 35)
          have HY3 := Lib.hid y3
          have HB4 := Lib.hid ((HB3.out.alloc HB3.out.size (.cells #[.slice (some ⟨g, 0, none⟩) (a + 1) c1, .slice A2 1 c2, .slice (some ⟨g3, 0, none⟩) 1 c3] 27)).alloc (by have := HB3.out.size; simp; omega) (.cells #[.int .i64 ((6 : Nat) : Int), .int .i64 (x.lo : Int), .int .i64 (x.hi : Int), .int .i64 (x.num : Int), .string (bs x.name), .string (bs x.op), .int .i64 (x.a : Int), .int .i64 (x.b : Int), .slice Al a cl] 35))
          have HA4 := Lib.hid (below_two w3 (.cells #[.slice (some ⟨g, 0, none⟩) (a + 1) c1, .slice A2 1 c2, .slice (some ⟨g3, 0, none⟩) 1 c3] 27) (.cells #[.int .i64 ((6 : Nat) : Int), .int .i64 (x.lo : Int), .int .i64 (x.hi : Int), .int .i64 (x.num : Int), .string (bs x.name), .string (bs x.op), .int .i64 (x.a : Int), .int .i64 (x.b : Int), .slice Al a cl] 35))
          have HT4 := Lib.hid (HT.out.below HB4.out h2)
          clear hz1
          obtain ⟨o0, o1, o2, o3, o4⟩ := HO.out
          go_wp2_with fail
          clear o0 o1 o2 o3 o4
          refine (HF2.out _ HT4.out).mono ?_
          intro e w4 h4
          obtain ⟨hB4, rfl⟩ := h4.bad HG2.out
          have hs4 : ((w3.alloc (.cells #[.slice (some ⟨g, 0, none⟩) (a + 1) c1, .slice A2 1 c2, .slice (some ⟨g3, 0, none⟩) 1 c3] 27)).alloc (.cells #[.int .i64 ((6 : Nat) : Int), .int .i64 (x.lo : Int), .int .i64 (x.hi : Int), .int .i64 (x.num : Int), .string (bs x.name), .string (bs x.op), .int .i64 (x.a : Int), .int .i64 (x.b : Int), .slice Al a cl] 35)).heap.size = w3.heap.size + 2 := by simp
          have j1 := (hB4.block w3.heap.size (by rw [hs4]; omega)).trans HK1.out
          have j2 := (hB4.block (w3.heap.size + 1) (by rw [hs4]; omega)).trans HK2.out
          have hB34 : Below w3.heap.size w3 w4 := HA4.out.trans (hB4.mono (by rw [hs4]; omega))
          have HJ1 := Lib.hid ((Below.heap_alloc w4 (.cells #[.slice none 0 0, .slice none 0 0, .slice none 0 0] 27) _ (blk_lt j1)).trans j1)
          have HJ2 := Lib.hid ((Below.heap_alloc w4 (.cells #[.slice none 0 0, .slice none 0 0, .slice none 0 0] 27) _ (blk_lt j2)).trans j2)
          have HB34 := Lib.hid (hB34.trans (((Below.refl w4.heap.size w4).alloc (Nat.le_refl _) (.cells #[.slice none 0 0, .slice none 0 0, .slice none 0 0] 27)).mono hB34.size))
          have HB5 := Lib.hid ((HB4.out.trans (hB4.mono HB4.out.size)).alloc (by have := HB4.out.size; have := hB4.size; omega) (.cells #[.slice none 0 0, .slice none 0 0, .slice none 0 0] 27))
          have HT5 := Lib.hid (HT.out.below HB5.out h2)
          unfold nilT
          clear hB4 h4 j1 j2 hB34
          obtain ⟨r0, r1, r2, r3, r4⟩ := HRR.out
          go_wp2_with fail
          clear r0 r1 r2 r3 r4
          refine (HF3.out _ HT5.out).mono ?_
          intro e w5 h5
          obtain ⟨hB5, rfl⟩ := h5.bad HG3.out
          have hs5 : (w4.alloc (.cells #[.slice none 0 0, .slice none 0 0, .slice none 0 0] 27)).heap.size = w4.heap.size + 1 := by simp
          have j1 := (hB5.block w3.heap.size (blk_lt HJ1.out)).trans HJ1.out
          have j2 := (hB5.block (w3.heap.size + 1) (blk_lt HJ2.out)).trans HJ2.out
          have hB35 : Below w3.heap.size w3 w5 := HB34.out.trans (hB5.mono HB34.out.size)
          have y3' := (hB35.cell (p := ⟨g3, 3, none⟩) hgl3).trans HY3.out
          have hg5 : g3 < w5.heap.size := Nat.lt_of_lt_of_le hgl3 hB35.size
          have l1 := blk_lt j1
          have l2 := blk_lt j2
          have hz : ∀ k o, k < w5.heap.size → (w5.alloc (.cells #[.slice none 0 0, .slice none 0 0, .slice none 0 0] 27)).cell? ⟨k, o, none⟩ = w5.cell? ⟨k, o, none⟩ := fun k o hk => World.cell?_of_block (a := ⟨k, o, none⟩) (Below.heap_alloc w5 _ k hk)
          have t0 := (cellK j1 2).trans rfl
          have t1 := (cellK j2 0).trans rfl
          have t2 := (cellK j2 8).trans rfl
          have t0' := (hz _ 2 l1).trans t0
          have t1' := (hz _ 0 l2).trans t1
          have t2' := (hz _ 8 l2).trans t2
          have y3'' := (hz _ 3 hg5).trans y3'
          have HB6 := Lib.hid (HB5.out.trans (hB5.mono HB5.out.size))
          unfold nilT
          clear hB5 h5 hB35 hz j1 j2
          go_wp2
          go_ret
          exact ⟨rfl, HB6.out.alloc HB6.out.size _⟩

set_option maxRecDepth 100000 in
theorem lifted (os : Os) (started : os.Started) (H : Type) (enc : TypeId × Value → H) :
    ReturnsInHanded {} Tryz.checked os 8 .any (fun w args => (Rows.syntaxListsSpec.pre enc Tryz.prog Tryz.f8 [] false w args ∧ laidMetH Tryz.prog laid2 w) ∧ sizedMet enc Tryz.prog Tryz.f8 (OpenSpec.ofChange Rows.syntaxListsSpec) false w args)
      (Rows.syntaxListsSpec.post enc Tryz.prog Tryz.f8 false true false false) := by
  refine returnsInHanded_of_change_and (C := Tryz.checked) (X := fun w _ => laidMetH Tryz.prog laid2 w) (fun _ _ _ hh h => h.of_heap hh) Tryz.own started (by kernel_rfl) Tryz.func8
    (ChangeSpec.witness_shaped (enc := enc) (C := Tryz.checked) (os := os) (X := fun w _ => laidMetH Tryz.prog laid2 w) false (World.doorLaid Tryz.prog 233 os) #[.int .u8 0, .int .u8 0] 8 rfl (World.shaped_of_RefB (by kernel_rfl) (by kernel_rfl)) (by kernel_rfl) (by kernel_rfl) (by kernel_rfl) (door_met os _)) ?_
  intro W base args ds gs before hval0 hW hcnd hsz hL _
  have hval : ∀ (j : Nat) t v, Tryz.f8.params[j]? = some t → args[j]? = some v → Value.okWide Tryz.prog W .any base t v := hval0
  have hW' := hW
  obtain ⟨p, q, hA0, hV, rfl, hfz, hnd⟩ := hW
  have hA : DataW.TrodAll enc Tryz.prog W 0 (fun _ => true) true Tryz.f8.params.toList args.toList ds p := hA0
  rw [Tryz.params8] at hA hval
  obtain ⟨v0, vs0, d0, ds0, p0, q0, hargs, rfl, rfl, h0, r0⟩ := trodAll_cons hA
  obtain ⟨v1, vs1, d1, ds1, p1, q1, rfl, rfl, rfl, h1, r1⟩ := trodAll_cons r0
  obtain ⟨rfl, rfl, rfl⟩ := trodAll_nil r1
  obtain rfl : args = #[v0, v1] := by cases args; simp_all
  obtain ⟨rfl, rfl⟩ := trodVars_none hV
  obtain ⟨a0, rfl, rfl, rfl, w0⟩ := open_int Tryz.underlying5 (hval 0 5 v0 rfl rfl) h0
  obtain ⟨a1, rfl, rfl, rfl, w1⟩ := open_int Tryz.underlying5 (hval 1 5 v1 rfl rfl) h1
  clear hA0 hval0
  simp only [List.append_nil] at hW'
  refine (walk a0 a1 W (tabs_of_laid hL) w0 w1).mono fun e W' ⟨he, hg⟩ => ?_
  subst he
  exact ⟨_, rfl, _, _, _, [], [], [], hW', trodAll_cons_mk (shut_bool Tryz.underlying4 _) trodAll_mk0, (trodAll_cons_mk (shut_int Tryz.underlying5 w0) (trodAll_cons_mk (shut_int Tryz.underlying5 w1) trodAll_mk0)), rfl, hg.frame _, fun h => by cases h⟩

theorem over : Rows.SyntaxListsSaid :=
  OpenClaim.holds_of_wide 8 Tryz.f8 rfl rfl rfl rfl rfl rfl rfl ⟨rfl, rfl, rfl, rfl, rfl⟩ rfl rfl rfl rfl rfl (by kernel_rfl) Tryz.func8 (by kernel_rfl)
    (of_decide_eq_true (by kernel_rfl)) (by unfold Func.isWrapper; first | (rw [if_pos (by decide +kernel)]; kernel_rfl) | (rw [if_neg (by decide +kernel)]; exact ⟨rfl, rfl⟩))
    (fun os started H enc _ => lifted os started H enc)

theorem proved : Rows.SyntaxListsCardSaid :=
  Claim7.holds_tied_plain_at .later [] [.data, .data, .data, .sentinel, .sentinel, .data, .data] true (true, "e16af3669a31a138b6f0a67cedbca0c9b2bdc8ebff04942fd3db04372b172399") true
    over (fun _ h => by cases h) (by kernel_rfl) (fun _ h => by cases h) syntaxLists_row_tie rfl ⟨rfl, rfl⟩ (by kernel_rfl) rfl
    (fun f fn hf hfn => by
      obtain rfl : f = 8 := Option.some.inj ((show Tryz.prog.funcNamed Rows.syntaxListsRow.func = some 8 by kernel_rfl).symm.trans hf) |>.symm
      obtain rfl : fn = Tryz.f8 := (Option.some.inj (Tryz.func8.symm.trans hfn)).symm
      exact ⟨by kernel_rfl, fun j t ht => by
        rw [Tryz.params8] at ht
        rcases j with _ | j
        · obtain rfl : t = 5 := by simpa using ht.symm
          exact (show Tryz.prog.wantsStandIn 5 = false by kernel_rfl)
        rcases j with _ | j
        · obtain rfl : t = 5 := by simpa using ht.symm
          exact (show Tryz.prog.wantsStandIn 5 = false by kernel_rfl)
        simp at ht⟩)
    (by kernel_rfl)
#print axioms proved
end Go.Proofs.YtccmodefjgjpeaaGreatDoor.syntaxLists
