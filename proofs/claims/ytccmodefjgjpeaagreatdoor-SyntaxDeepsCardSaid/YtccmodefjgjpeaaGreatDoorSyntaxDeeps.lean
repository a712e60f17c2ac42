/-
  SyntaxDeeps: for every depth and every kind the statement answers true. No condition but that the listed variables lie as the program's text lays them (the tie).
-/
import Derived.Test.YtccmodefjgjpeaaGreatDoorRows
import Derived.Test.YtccmodefjgjpeaaGreatDoorCards
import Derived.Test.YtccmodefjgjpeaaGreatDoorTie
import Derived.WalkKit
import Derived.WalkSpells
import Derived.ProofKit
import Derived.OpenShut
import Derived.ShutString
import Derived.Lib.SmallJoins
import Derived.SevenTiedAt
import Derived.Test.YtccmodefjgjpeaaGreatDoorLaidS
import Derived.Test.YtccmodefjgjpeaaGreatDoorAwakeS
import Derived.Test.YtccmodefjgjpeaaGreatDoorPRes
import Derived.Test.YtccmodefjgjpeaaGreatDoorDeep0
import Derived.Test.YtccmodefjgjpeaaGreatDoorDeep1
import Derived.Test.YtccmodefjgjpeaaGreatDoorDeep2
import Derived.Test.YtccmodefjgjpeaaGreatDoorDeep3
import Derived.Test.YtccmodefjgjpeaaGreatDoorDeepB
namespace Go.Proofs.YtccmodefjgjpeaaGreatDoor.syntaxDeeps
open Go.ChangeShapes Go.WideShapes Go.ChangeAt Go.RowKit Go.Proofs.YtccmodefjgjpeaaGreatDoor Go.Joins
open Go.ChangeMaps (open_string shut_string)
set_option linter.unusedVariables false


theorem bs_app (a b : List UInt8) : bs a ++ bs b = bs (a ++ b) := by
  rw [bs_eq]
  simp [bs_toList]
theorem code_good {t : List UInt8} (h : code (parseT t) = 0) : ∃ s, parseT t = .good s := by
  cases hr : parseT t with
  | good s => exact ⟨s, rfl⟩
  | bad p c =>
    have h1 := (parseT_bad hr).2
    rw [hr] at h
    have h2 : c = 0 := h
    omega
theorem code_bad {t : List UInt8} {c : Nat} (h : code (parseT t) = c) (hc : c ≠ 0) : ∃ p, parseT t = .bad p c := by
  cases hr : parseT t with
  | good s => rw [hr] at h; exact absurd h.symm hc
  | bad p d => rw [hr] at h; exact ⟨p, by rw [show d = c from h]⟩
theorem deep_a (k j : Nat) (hk : k < 70) (hj : j < 4) : code (parseT (deepA k j)) = if k ≤ 63 then 0 else 4 := by
  have : j = 0 ∨ j = 1 ∨ j = 2 ∨ j = 3 := by omega
  rcases this with rfl | rfl | rfl | rfl
  · exact deep_a0 k hk
  · exact deep_a1 k hk
  · exact deep_a2 k hk
  · exact deep_a3 k hk
set_option maxRecDepth 100000 in
theorem opn_at (w : World) (j : Nat) (hj : j < 4) : Sem.run Tryz.prog (Instr.index 45 (.agg #[.string ⟨#[40]⟩, .string ⟨#[45]⟩, .string ⟨#[33]⟩, .string ⟨#[97, 91]⟩]) (.int .u8 (j : Int))) w = .ok (.string (bs (opn j))) w := by
  have : j = 0 ∨ j = 1 ∨ j = 2 ∨ j = 3 := by omega
  rcases this with rfl | rfl | rfl | rfl <;> simp [Instr.index, go_sem, opn, bs]
set_option maxRecDepth 100000 in
theorem shu_at (w : World) (j : Nat) (hj : j < 4) : Sem.run Tryz.prog (Instr.index 45 (.agg #[.string ⟨#[41]⟩, .string ⟨#[]⟩, .string ⟨#[]⟩, .string ⟨#[93]⟩]) (.int .u8 (j : Int))) w = .ok (.string (bs (shu j))) w := by
  have : j = 0 ∨ j = 1 ∨ j = 2 ∨ j = 3 := by omega
  rcases this with rfl | rfl | rfl | rfl <;> simp [Instr.index, go_sem, shu, bs]
theorem os_len (j : Nat) : (opn j).length ≤ 2 ∧ (shu j).length ≤ 2 := by
  match j with
  | 0 => simp [opn, shu]
  | 1 => simp [opn, shu]
  | 2 => simp [opn, shu]
  | j + 3 => simp [opn, shu]
theorem u8_nat {a : Int} (hw : (Lit.int .u8 a).wf = true) : ∃ n : Nat, a = (n : Int) ∧ n ≤ 255 := by
  have hmin : IntKind.u8.min = 0 := rfl
  have hmax : IntKind.u8.max = 255 := rfl
  simp only [Lit.wf, Bool.and_eq_true, decide_eq_true_eq] at hw
  exact ⟨a.toNat, by omega, by omega⟩

set_option maxRecDepth 100000 in
set_option maxHeartbeats 4000000 in
/-- SyntaxDeeps answers true, and leaves what there was. -/
theorem walk (a0 a1 : Int) (w : World) (hT : Tabs w) (hw0 : (Lit.int .u8 a0).wf = true) (hw1 : (Lit.int .u8 a1).wf = true) :
    Calls Tryz.prog 4 #[.int .u8 a0, .int .u8 a1] w fun e w' => e = .returned (.bool true) ∧ Below w.heap.size w w' := by
  obtain ⟨n, rfl, hn⟩ := u8_nat hw0
  obtain ⟨m, rfl, hm⟩ := u8_nat hw1
  clear hw0 hw1
  have HT := Lib.hid hT
  have h2 := hT.2.2
  clear hT
  have hk : n % 70 < 70 := Nat.mod_lt _ (by omega)
  have hj : m % 4 < 4 := Nat.mod_lt _ (by omega)
  have er1 : ((n : Int) % 70) = ((n % 70 : Nat) : Int) := by simp
  have er1' : (n : Int).tmod 70 = ((n % 70 : Nat) : Int) := by rw [Int.tmod_eq_emod_of_nonneg (by omega)]; simp
  have er2 : ((m : Int) % 4) = ((m % 4 : Nat) : Int) := by simp
  have er2' : (m : Int).tmod 4 = ((m % 4 : Nat) : Int) := by rw [Int.tmod_eq_emod_of_nonneg (by omega)]; simp
  generalize n % 70 = k at *
  generalize m % 4 = j at *
  have hx1 := fun W => opn_at W j hj
  have hx2 := fun W => shu_at W j hj
  have hol := os_len j
  have hda := deep_a k j hk hj
  have hdb := deep_b k hk
  unfold deepA headM at hda
  unfold deepB headM at hdb
  generalize opn j = O at *
  generalize shu j = Q at *
  obtain ⟨hO2, hQ2⟩ := hol
  have z1 : (bs (rep k O)).size = k * O.length := by rw [bs_size, rep_len]
  have z2 : (bs (rep k Q)).size = k * Q.length := by rw [bs_size, rep_len]
  have z3 : (bs (rep k [105, 102, 32, 49, 32, 123])).size = k * 6 := by rw [bs_size, rep_len]; rfl
  have z4 : (bs (rep k [125])).size = k * 1 := by rw [bs_size, rep_len]; rfl
  have m1 : k * O.length ≤ 140 := by have := Nat.mul_le_mul (show k ≤ 70 by omega) hO2; omega
  have m2 : k * Q.length ≤ 140 := by have := Nat.mul_le_mul (show k ≤ 70 by omega) hQ2; omega
  have y1 : (⟨#[102, 117, 110, 99, 32, 109, 97, 105, 110, 40, 41, 32, 123, 32, 112, 114, 105, 110, 116, 32]⟩ : ByteArray).size = 20 := rfl
  have y2 : (⟨#[102, 117, 110, 99, 32, 109, 97, 105, 110, 40, 41, 32, 123]⟩ : ByteArray).size = 13 := rfl
  have y3 : (⟨#[49]⟩ : ByteArray).size = 1 := rfl
  have y4 : (⟨#[59, 32, 125]⟩ : ByteArray).size = 3 := rfl
  have y5 : (⟨#[125]⟩ : ByteArray).size = 1 := rfl
  have n0 : (9223372036854775807 < 20 + (bs (rep k O)).size) = False := eq_false (by rw [z1]; omega)
  have n1 : (9223372036854775807 < 20 + (bs (rep k O)).size + 1) = False := eq_false (by rw [z1]; omega)
  have n2 : (9223372036854775807 < 20 + (bs (rep k O)).size + 1 + (bs (rep k Q)).size) = False := eq_false (by rw [z1, z2]; omega)
  have n3 : (9223372036854775807 < 20 + (bs (rep k O)).size + 1 + (bs (rep k Q)).size + 3) = False := eq_false (by rw [z1, z2]; omega)
  have n4 : (9223372036854775807 < 13 + (bs (rep k [105, 102, 32, 49, 32, 123])).size) = False := eq_false (by rw [z3]; omega)
  have n5 : (9223372036854775807 < 13 + (bs (rep k [105, 102, 32, 49, 32, 123])).size + (bs (rep k [125])).size) = False := eq_false (by rw [z3, z4]; omega)
  have n6 : (9223372036854775807 < 13 + (bs (rep k [105, 102, 32, 49, 32, 123])).size + (bs (rep k [125])).size + 1) = False := eq_false (by rw [z3, z4]; omega)
  have t0 : (9223372036854775807 < (⟨#[102, 117, 110, 99, 32, 109, 97, 105, 110, 40, 41, 32, 123, 32, 112, 114, 105, 110, 116, 32]⟩ : ByteArray).size + (bs (rep k O)).size) = False := eq_false (by (try simp only [ByteArray.size_append]); omega)
  have t1 : (9223372036854775807 < ((⟨#[102, 117, 110, 99, 32, 109, 97, 105, 110, 40, 41, 32, 123, 32, 112, 114, 105, 110, 116, 32]⟩ : ByteArray) ++ bs (rep k O)).size + 1) = False := eq_false (by (try simp only [ByteArray.size_append]); omega)
  have t2 : (9223372036854775807 < ((⟨#[102, 117, 110, 99, 32, 109, 97, 105, 110, 40, 41, 32, 123, 32, 112, 114, 105, 110, 116, 32]⟩ : ByteArray) ++ bs (rep k O) ++ (⟨#[49]⟩ : ByteArray)).size + (bs (rep k Q)).size) = False := eq_false (by (try simp only [ByteArray.size_append]); omega)
  have t3 : (9223372036854775807 < ((⟨#[102, 117, 110, 99, 32, 109, 97, 105, 110, 40, 41, 32, 123, 32, 112, 114, 105, 110, 116, 32]⟩ : ByteArray) ++ bs (rep k O) ++ (⟨#[49]⟩ : ByteArray) ++ bs (rep k Q)).size + 3) = False := eq_false (by (try simp only [ByteArray.size_append]); omega)
  have t4 : (9223372036854775807 < (⟨#[102, 117, 110, 99, 32, 109, 97, 105, 110, 40, 41, 32, 123]⟩ : ByteArray).size + (bs (rep k [105, 102, 32, 49, 32, 123])).size) = False := eq_false (by (try simp only [ByteArray.size_append]); omega)
  have t5 : (9223372036854775807 < ((⟨#[102, 117, 110, 99, 32, 109, 97, 105, 110, 40, 41, 32, 123]⟩ : ByteArray) ++ bs (rep k [105, 102, 32, 49, 32, 123])).size + (bs (rep k [125])).size) = False := eq_false (by (try simp only [ByteArray.size_append]); omega)
  have t6 : (9223372036854775807 < ((⟨#[102, 117, 110, 99, 32, 109, 97, 105, 110, 40, 41, 32, 123]⟩ : ByteArray) ++ bs (rep k [105, 102, 32, 49, 32, 123]) ++ bs (rep k [125])).size + 1) = False := eq_false (by (try simp only [ByteArray.size_append]); omega)
  have e1 : ((⟨#[102, 117, 110, 99, 32, 109, 97, 105, 110, 40, 41, 32, 123, 32, 112, 114, 105, 110, 116, 32]⟩ : ByteArray) ++ bs (rep k O) ++ (⟨#[49]⟩ : ByteArray) ++ bs (rep k Q) ++ (⟨#[59, 32, 125]⟩ : ByteArray)).data.toList = [102, 117, 110, 99, 32, 109, 97, 105, 110, 40, 41, 32, 123] ++ [32, 112, 114, 105, 110, 116, 32] ++ rep k O ++ [49] ++ rep k Q ++ [59, 32, 125] := by simp [bs_toList]
  have e2 : ((⟨#[102, 117, 110, 99, 32, 109, 97, 105, 110, 40, 41, 32, 123]⟩ : ByteArray) ++ bs (rep k [105, 102, 32, 49, 32, 123]) ++ bs (rep k [125]) ++ (⟨#[125]⟩ : ByteArray)).data.toList = [102, 117, 110, 99, 32, 109, 97, 105, 110, 40, 41, 32, 123] ++ rep k [105, 102, 32, 49, 32, 123] ++ rep k [125] ++ [125] := by simp [bs_toList]
  have HF1 := Lib.hid (fun W hW => front_calls ((⟨#[102, 117, 110, 99, 32, 109, 97, 105, 110, 40, 41, 32, 123, 32, 112, 114, 105, 110, 116, 32]⟩ : ByteArray) ++ bs (rep k O) ++ (⟨#[49]⟩ : ByteArray) ++ bs (rep k Q) ++ (⟨#[59, 32, 125]⟩ : ByteArray)) (by simp only [ByteArray.size_append, z1, z2, y1, y3, y4]; omega) W hW)
  have HF2 := Lib.hid (fun W hW => front_calls ((⟨#[102, 117, 110, 99, 32, 109, 97, 105, 110, 40, 41, 32, 123]⟩ : ByteArray) ++ bs (rep k [105, 102, 32, 49, 32, 123]) ++ bs (rep k [125]) ++ (⟨#[125]⟩ : ByteArray)) (by simp only [ByteArray.size_append, z3, z4, y2, y5]; omega) W hW)
  rw [e1] at HF1
  rw [e2] at HF2
  clear e1 e2 z1 z2 z3 z4 m1 m2 y1 y2 y3 y4 y5
  by_cases hd : k ≤ 63
  · rw [if_pos hd] at hda hdb
    obtain ⟨g1, hg1⟩ := code_good hda
    obtain ⟨g2, hg2⟩ := code_good hdb
    have HG1 := Lib.hid hg1
    have HG2 := Lib.hid hg2
    have d1 : decide ((k : Int) ≤ 63) = true := decide_eq_true (by omega)
    have d2 : decide (k ≤ 63) = true := decide_eq_true hd
    clear hda hdb hg1 hg2
    go_enter Tryz.func4, Tryz.ntmps4
    go_wp2_with fail
    refine (awake_calls _ HT.out).mono ?_
    rintro e w1 ⟨rfl, hB1⟩
    have HT1 := Lib.hid (HT.out.below hB1 h2)
    have HB1 := Lib.hid hB1
    clear hB1
    go_wp2
    go_quiet (fail)
    clear hx1 hx2
    go_wp2
    go_loopw [8, 9, 32] (fun va vb vi wr => ∃ i : Nat, i ≤ k ∧ va = .string (bs (rep i O)) ∧ vb = .string (bs (rep i Q)) ∧ vi = .int .i64 (i : Int) ∧ Below w.heap.size w wr) (fun _ _ vi _ => k - (intOf vi).toNat)
    case atStart => exact ⟨0, Nat.zero_le _, rfl, rfl, rfl, below_drewN HB1.out _⟩
    case round =>
      obtain ⟨i, hi, rfl, rfl, rfl, hB2⟩ := hrel
      by_cases hlt : i < k
      · have hlt1 : (i : Int) < (k : Int) := by omega
        have l1 := rep_len i O
        have l2 := rep_len i Q
        have m1 : i * O.length ≤ 140 := by have := Nat.mul_le_mul (show i ≤ 70 by omega) hO2; omega
        have m2 : i * Q.length ≤ 140 := by have := Nat.mul_le_mul (show i ≤ 70 by omega) hQ2; omega
        have s1 : (9223372036854775807 < (bs (rep i O)).size + (bs O).size) = False := eq_false (by rw [bs_size, bs_size, l1]; omega)
        have s2 : (9223372036854775807 < (bs (rep i Q)).size + (bs Q).size) = False := eq_false (by rw [bs_size, bs_size, l2]; omega)
        have a1 := Lib.hid (bs_app (rep i O) O)
        have a2 := Lib.hid (bs_app (rep i Q) Q)
        have HB2 := Lib.hid hB2
        clear l1 l2 m1 m2 hB2
        go_wp2
        go_roundw
        case rel => exact ⟨i + 1, by omega, by rw [a1.out, rep_snoc], by rw [a2.out, rep_snoc], by go_num, HB2.out⟩
        case measure => simp [intOf]; omega
      · obtain rfl : i = k := by omega
        have HB2 := Lib.hid hB2
        have HT2 := Lib.hid (HT.out.below hB2 h2)
        clear hB2
        go_wp2_with fail
        refine (HF1.out _ HT2.out).mono ?_
        intro e w3 h3
        obtain ⟨hB3, v3, rfl, ht3⟩ := h3.good HG1.out
        obtain ⟨A1, c1, A2, c2, A3, c3, rfl⟩ := ht3.form
        have HB3 := Lib.hid (HB2.out.trans (hB3.mono HB2.out.size))
        clear hB3 h3
        clear ht3
        go_wp2
        go_loopw [13, 14, 53] (fun va vb vi wr => ∃ j : Nat, j ≤ i ∧ va = .string (bs (rep j [105, 102, 32, 49, 32, 123])) ∧ vb = .string (bs (rep j [125])) ∧ vi = .int .i64 (j : Int) ∧ Below w.heap.size w wr) (fun _ _ vi _ => i - (intOf vi).toNat)
        case atStart => exact ⟨0, Nat.zero_le _, rfl, rfl, rfl, HB3.out.alloc HB3.out.size _⟩
        case round =>
          obtain ⟨j, hj, rfl, rfl, rfl, hB4⟩ := hrel
          by_cases hlt : j < i
          · have hlt1 : (j : Int) < (i : Int) := by omega
            have l1 := rep_len j [105, 102, 32, 49, 32, 123]
            have l2 := rep_len j [125]
            simp only [List.length_cons, List.length_nil] at l1 l2
            have s1 : (9223372036854775807 < (bs (rep j [105, 102, 32, 49, 32, 123])).size + 6) = False := eq_false (by rw [bs_size, l1]; omega)
            have s1' : (9223372036854775807 < (bs (rep j [105, 102, 32, 49, 32, 123])).size + (⟨#[105, 102, 32, 49, 32, 123]⟩ : ByteArray).size) = False := s1
            have s2 : (9223372036854775807 < (bs (rep j [125])).size + 1) = False := eq_false (by rw [bs_size, l2]; omega)
            have s2' : (9223372036854775807 < (bs (rep j [125])).size + (⟨#[125]⟩ : ByteArray).size) = False := s2
            have a1 : Hid (bs (rep j [105, 102, 32, 49, 32, 123]) ++ (⟨#[105, 102, 32, 49, 32, 123]⟩ : ByteArray) = bs (rep j [105, 102, 32, 49, 32, 123] ++ [105, 102, 32, 49, 32, 123])) := Lib.hid (bs_app _ [105, 102, 32, 49, 32, 123])
            have a2 : Hid (bs (rep j [125]) ++ (⟨#[125]⟩ : ByteArray) = bs (rep j [125] ++ [125])) := Lib.hid (bs_app _ [125])
            have HB4 := Lib.hid hB4
            clear l1 l2 hB4
            go_wp2
            go_roundw
            case rel => exact ⟨j + 1, by omega, by rw [a1.out, rep_snoc], by rw [a2.out, rep_snoc], by go_num, HB4.out⟩
            case measure => simp [intOf]; omega
          · obtain rfl : j = i := by omega
            have HB4 := Lib.hid hB4
            have HT4 := Lib.hid (HT.out.below hB4 h2)
            clear hB4
            go_wp2_with fail
            refine (HF2.out _ HT4.out).mono ?_
            intro e w5 h5
            obtain ⟨hB5, v5, rfl, ht5⟩ := h5.good HG2.out
            obtain ⟨B1, e1, B2, e2, B3, e3, rfl⟩ := ht5.form
            have HB5 := Lib.hid (HB4.out.trans (hB5.mono HB4.out.size))
            clear hB5 h5
            clear ht5
            go_wp2
            go_ret
            exact ⟨rfl, HB5.out.alloc HB5.out.size _⟩
  · rw [if_neg hd] at hda hdb
    obtain ⟨p1, hg1⟩ := code_bad hda (by decide)
    obtain ⟨p2, hg2⟩ := code_bad hdb (by decide)
    have HG1 := Lib.hid hg1
    have HG2 := Lib.hid hg2
    have d1 : decide ((k : Int) ≤ 63) = false := decide_eq_false (by omega)
    have d2 : decide (k ≤ 63) = false := decide_eq_false hd
    clear hda hdb hg1 hg2
    go_enter Tryz.func4, Tryz.ntmps4
    go_wp2_with fail
    refine (awake_calls _ HT.out).mono ?_
    rintro e w1 ⟨rfl, hB1⟩
    have HT1 := Lib.hid (HT.out.below hB1 h2)
    have HB1 := Lib.hid hB1
    clear hB1
    go_wp2
    go_quiet (fail)
    clear hx1 hx2
    go_wp2
    go_loopw [8, 9, 32] (fun va vb vi wr => ∃ i : Nat, i ≤ k ∧ va = .string (bs (rep i O)) ∧ vb = .string (bs (rep i Q)) ∧ vi = .int .i64 (i : Int) ∧ Below w.heap.size w wr) (fun _ _ vi _ => k - (intOf vi).toNat)
    case atStart => exact ⟨0, Nat.zero_le _, rfl, rfl, rfl, below_drewN HB1.out _⟩
    case round =>
      obtain ⟨i, hi, rfl, rfl, rfl, hB2⟩ := hrel
      by_cases hlt : i < k
      · have hlt1 : (i : Int) < (k : Int) := by omega
        have l1 := rep_len i O
        have l2 := rep_len i Q
        have m1 : i * O.length ≤ 140 := by have := Nat.mul_le_mul (show i ≤ 70 by omega) hO2; omega
        have m2 : i * Q.length ≤ 140 := by have := Nat.mul_le_mul (show i ≤ 70 by omega) hQ2; omega
        have s1 : (9223372036854775807 < (bs (rep i O)).size + (bs O).size) = False := eq_false (by rw [bs_size, bs_size, l1]; omega)
        have s2 : (9223372036854775807 < (bs (rep i Q)).size + (bs Q).size) = False := eq_false (by rw [bs_size, bs_size, l2]; omega)
        have a1 := Lib.hid (bs_app (rep i O) O)
        have a2 := Lib.hid (bs_app (rep i Q) Q)
        have HB2 := Lib.hid hB2
        clear l1 l2 m1 m2 hB2
        go_wp2
        go_roundw
        case rel => exact ⟨i + 1, by omega, by rw [a1.out, rep_snoc], by rw [a2.out, rep_snoc], by go_num, HB2.out⟩
        case measure => simp [intOf]; omega
      · obtain rfl : i = k := by omega
        have HB2 := Lib.hid hB2
        have HT2 := Lib.hid (HT.out.below hB2 h2)
        clear hB2
        go_wp2_with fail
        refine (HF1.out _ HT2.out).mono ?_
        intro e w3 h3
        obtain ⟨hB3, rfl⟩ := h3.bad HG1.out
        have HB3 := Lib.hid (HB2.out.trans (hB3.mono HB2.out.size))
        clear hB3 h3
        unfold nilT
        go_wp2
        go_loopw [13, 14, 53] (fun va vb vi wr => ∃ j : Nat, j ≤ i ∧ va = .string (bs (rep j [105, 102, 32, 49, 32, 123])) ∧ vb = .string (bs (rep j [125])) ∧ vi = .int .i64 (j : Int) ∧ Below w.heap.size w wr) (fun _ _ vi _ => i - (intOf vi).toNat)
        case atStart => exact ⟨0, Nat.zero_le _, rfl, rfl, rfl, HB3.out.alloc HB3.out.size _⟩
        case round =>
          obtain ⟨j, hj, rfl, rfl, rfl, hB4⟩ := hrel
          by_cases hlt : j < i
          · have hlt1 : (j : Int) < (i : Int) := by omega
            have l1 := rep_len j [105, 102, 32, 49, 32, 123]
            have l2 := rep_len j [125]
            simp only [List.length_cons, List.length_nil] at l1 l2
            have s1 : (9223372036854775807 < (bs (rep j [105, 102, 32, 49, 32, 123])).size + 6) = False := eq_false (by rw [bs_size, l1]; omega)
            have s1' : (9223372036854775807 < (bs (rep j [105, 102, 32, 49, 32, 123])).size + (⟨#[105, 102, 32, 49, 32, 123]⟩ : ByteArray).size) = False := s1
            have s2 : (9223372036854775807 < (bs (rep j [125])).size + 1) = False := eq_false (by rw [bs_size, l2]; omega)
            have s2' : (9223372036854775807 < (bs (rep j [125])).size + (⟨#[125]⟩ : ByteArray).size) = False := s2
            have a1 : Hid (bs (rep j [105, 102, 32, 49, 32, 123]) ++ (⟨#[105, 102, 32, 49, 32, 123]⟩ : ByteArray) = bs (rep j [105, 102, 32, 49, 32, 123] ++ [105, 102, 32, 49, 32, 123])) := Lib.hid (bs_app _ [105, 102, 32, 49, 32, 123])
            have a2 : Hid (bs (rep j [125]) ++ (⟨#[125]⟩ : ByteArray) = bs (rep j [125] ++ [125])) := Lib.hid (bs_app _ [125])
            have HB4 := Lib.hid hB4
            clear l1 l2 hB4
            go_wp2
            go_roundw
            case rel => exact ⟨j + 1, by omega, by rw [a1.out, rep_snoc], by rw [a2.out, rep_snoc], by go_num, HB4.out⟩
            case measure => simp [intOf]; omega
          · obtain rfl : j = i := by omega
            have HB4 := Lib.hid hB4
            have HT4 := Lib.hid (HT.out.below hB4 h2)
            clear hB4
            go_wp2_with fail
            refine (HF2.out _ HT4.out).mono ?_
            intro e w5 h5
            obtain ⟨hB5, rfl⟩ := h5.bad HG2.out
            have HB5 := Lib.hid (HB4.out.trans (hB5.mono HB4.out.size))
            clear hB5 h5
            unfold nilT
            go_wp2
            go_ret
            exact ⟨rfl, HB5.out.alloc HB5.out.size _⟩


set_option maxRecDepth 100000 in
theorem lifted (os : Os) (started : os.Started) (H : Type) (enc : TypeId × Value → H) :
    ReturnsInHanded {} Tryz.checked os 4 .any (fun w args => (Rows.syntaxDeepsSpec.pre enc Tryz.prog Tryz.f4 [] false w args ∧ laidMetH Tryz.prog laid2 w) ∧ sizedMet enc Tryz.prog Tryz.f4 (OpenSpec.ofChange Rows.syntaxDeepsSpec) false w args)
      (Rows.syntaxDeepsSpec.post enc Tryz.prog Tryz.f4 false true false false) := by
  refine returnsInHanded_of_change_and (C := Tryz.checked) (X := fun w _ => laidMetH Tryz.prog laid2 w) (fun _ _ _ hh h => h.of_heap hh) Tryz.own started (by kernel_rfl) Tryz.func4
    (ChangeSpec.witness_shaped (enc := enc) (C := Tryz.checked) (os := os) (X := fun w _ => laidMetH Tryz.prog laid2 w) false (World.doorLaid Tryz.prog 233 os) #[.int .u8 0, .int .u8 0] 8 rfl (World.shaped_of_RefB (by kernel_rfl) (by kernel_rfl)) (by kernel_rfl) (by kernel_rfl) (by kernel_rfl) (door_met os _)) ?_
  intro W base args ds gs before hval0 hW hcnd hsz hL _
  have hval : ∀ (j : Nat) t v, Tryz.f4.params[j]? = some t → args[j]? = some v → Value.okWide Tryz.prog W .any base t v := hval0
  have hW' := hW
  obtain ⟨p, q, hA0, hV, rfl, hfz, hnd⟩ := hW
  have hA : DataW.TrodAll enc Tryz.prog W 0 (fun _ => true) true Tryz.f4.params.toList args.toList ds p := hA0
  rw [Tryz.params4] at hA hval
  obtain ⟨v0, vs0, d0, ds0, p0, q0, hargs, rfl, rfl, h0, r0⟩ := trodAll_cons hA
  obtain ⟨v1, vs1, d1, ds1, p1, q1, rfl, rfl, rfl, h1, r1⟩ := trodAll_cons r0
  obtain ⟨rfl, rfl, rfl⟩ := trodAll_nil r1
  obtain rfl : args = #[v0, v1] := by cases args; simp_all
  obtain ⟨rfl, rfl⟩ := trodVars_none hV
  obtain ⟨a0, rfl, rfl, rfl, w0⟩ := open_int Tryz.underlying5 (hval 0 5 v0 rfl rfl) h0
  obtain ⟨a1, rfl, rfl, rfl, w1⟩ := open_int Tryz.underlying5 (hval 1 5 v1 rfl rfl) h1
  clear hA0 hval0
  simp only [List.append_nil] at hW'
  refine (walk a0 a1 W (tabs_of_laid hL) w0 w1).mono fun e W' ⟨he, hg⟩ => ?_
  subst he
  exact ⟨_, rfl, _, _, _, [], [], [], hW', trodAll_cons_mk (shut_bool Tryz.underlying4 _) trodAll_mk0, (trodAll_cons_mk (shut_int Tryz.underlying5 w0) (trodAll_cons_mk (shut_int Tryz.underlying5 w1) trodAll_mk0)), rfl, hg.frame _, fun h => by cases h⟩

theorem over : Rows.SyntaxDeepsSaid :=
  OpenClaim.holds_of_wide 4 Tryz.f4 rfl rfl rfl rfl rfl rfl rfl ⟨rfl, rfl, rfl, rfl, rfl⟩ rfl rfl rfl rfl rfl (by kernel_rfl) Tryz.func4 (by kernel_rfl)
    (of_decide_eq_true (by kernel_rfl)) (by unfold Func.isWrapper; first | (rw [if_pos (by decide +kernel)]; kernel_rfl) | (rw [if_neg (by decide +kernel)]; exact ⟨rfl, rfl⟩))
    (fun os started H enc _ => lifted os started H enc)

theorem proved : Rows.SyntaxDeepsCardSaid :=
  Claim7.holds_tied_plain_at .later [] [.data, .data, .data, .sentinel, .sentinel, .data, .data] true (true, "e16af3669a31a138b6f0a67cedbca0c9b2bdc8ebff04942fd3db04372b172399") true
    over (fun _ h => by cases h) (by kernel_rfl) (fun _ h => by cases h) syntaxDeeps_row_tie rfl ⟨rfl, rfl⟩ (by kernel_rfl) rfl
    (fun f fn hf hfn => by
      obtain rfl : f = 4 := Option.some.inj ((show Tryz.prog.funcNamed Rows.syntaxDeepsRow.func = some 4 by kernel_rfl).symm.trans hf) |>.symm
      obtain rfl : fn = Tryz.f4 := (Option.some.inj (Tryz.func4.symm.trans hfn)).symm
      exact ⟨by kernel_rfl, fun j t ht => by
        rw [Tryz.params4] at ht
        rcases j with _ | j
        · obtain rfl : t = 5 := by simpa using ht.symm
          exact (show Tryz.prog.wantsStandIn 5 = false by kernel_rfl)
        rcases j with _ | j
        · obtain rfl : t = 5 := by simpa using ht.symm
          exact (show Tryz.prog.wantsStandIn 5 = false by kernel_rfl)
        simp at ht⟩)
    (by kernel_rfl)
#print axioms proved
end Go.Proofs.YtccmodefjgjpeaaGreatDoor.syntaxDeeps
