/-
  Layer 12: are two rows of ints the same (rewindref06.Ints); the document's text (rewindref12.Text); the example.
-/
import Derived.Test.YtoailhkaenofpaaDoorWdP
import Derived.Test.YtoailhkaenofpaaDoorWdD
namespace Go.Proofs.YtoailhkaenofpaaDoor
open Go.RowKit

/-- Whether two rows of ints are the same. -/
def IntP (l k : List Int) (w : World) (e : Ending) (w' : World) : Prop :=
  Below w.heap.size w w' ∧ ((l = k ∧ e = .returned (.bool true)) ∨ (l ≠ k ∧ e = .returned (.bool false)))
set_option maxRecDepth 100000 in
set_option maxHeartbeats 2000000 in
theorem ints_calls (A B : Option Addr) (c d : Nat) (l m : List Int) (N1 N2 : Nat) (w : World) (hA : IsAt w N1 A l) (hB : IsAt w N2 B m) (hl : l.length ≤ 1000000) (hm : m.length ≤ 1000000) :
    Calls Tryd.prog 13 #[.slice A l.length c, .slice B m.length d] w (IntP l m w) := by
  have HA := Lib.hid hA
  have HB := Lib.hid hB
  clear hA hB
  by_cases hlen : l.length = m.length
  · have HL := Lib.hid hlen
    have e1 : ((l.length : Int) == (m.length : Int)) = true := beq_iff_eq.2 (by omega)
    have e2 : (l.length == m.length) = true := beq_iff_eq.2 hlen
    have e3 : ((l.length : Int) != (m.length : Int)) = false := by simp [bne, e1]
    have e4 : (l.length != m.length) = false := by simp [bne, e2]
    clear hlen
    go_enter Tryd.func13, Tryd.ntmps13
    go_wp2
    go_loopw [13] (fun i wr => ∃ (k : Nat), k ≤ l.length ∧ i = .int .i64 k ∧ Hid (l.take k = m.take k) ∧ ∃ z, wr = w.drewN z) (fun i _ => l.length - (intOf i).toNat)
    case atStart => exact ⟨0, by omega, rfl, Lib.hid rfl, 0, rfl⟩
    case round =>
      obtain ⟨k, hk, rfl, HT, z, rfl⟩ := hrel
      by_cases hlt : k < l.length
      · have hlm : k < m.length := by have := HL.out; omega
        obtain ⟨g, o, rfl, _, hc⟩ := HA.out (by omega)
        obtain ⟨g2, o2, rfl, _, hc2⟩ := HB.out (by omega)
        have q := hc k hlt
        have q2 := hc2 k hlm
        have HT1 : Hid (l.take (k + 1) = l.take k ++ [l[k]]) := Lib.hid (List.take_succ_eq_append_getElem hlt)
        have HT2 : Hid (m.take (k + 1) = m.take k ++ [m[k]]) := Lib.hid (List.take_succ_eq_append_getElem hlm)
        have HN : Hid (l[k] ≠ m[k] → l ≠ m) := Lib.hid (fun h e => h (by subst e; rfl))
        generalize l[k] = a at *
        generalize m[k] = b at *
        have hk0 : (0 : Int) ≤ (k : Int) := by omega
        have hk1 : (k : Int) < (l.length : Int) := by omega
        have hk2 : (k : Int) < (m.length : Int) := by omega
        clear hc hc2
        by_cases hab : a = b
        · subst hab
          have b1 : (a == a) = true := beq_self_eq_true a
          have b2 : (a != a) = false := by simp [bne]
          have HT3 : Hid (l.take (k + 1) = m.take (k + 1)) := Lib.hid (by rw [HT1.out, HT2.out, HT.out])
          go_wp2
          go_quiet (fail)
          go_wp2
          go_roundw
          case rel => exact ⟨k + 1, by omega, by go_num, HT3, _, rfl⟩
          case measure => simp [intOf]; omega
        · have b1 : (a == b) = false := beq_eq_false_iff_ne.2 hab
          have b2 : (a != b) = true := by simp [bne, b1]
          have HN := Lib.hid (HN.out hab)
          clear hab
          go_wp2
          go_quiet (fail)
          go_wp2
          go_ret
          exact ⟨below_drewC (below_drewC (Below.refl _ _) _) _, .inr ⟨HN.out, rfl⟩⟩
      · obtain rfl : k = l.length := by omega
        have HE : Hid (l = m) := Lib.hid (by
          have h := HT.out
          rw [List.take_length, List.take_of_length_le (by have := HL.out; omega)] at h
          exact h)
        clear hlt hk
        go_wp2
        go_ret
        exact ⟨below_drewC (Below.refl _ _) _, .inl ⟨HE.out, rfl⟩⟩
  · have HL : Hid (l ≠ m) := Lib.hid (fun e => hlen (by rw [e]))
    have e1 : ((l.length : Int) == (m.length : Int)) = false := beq_eq_false_iff_ne.2 (by omega)
    have e2 : (l.length == m.length) = false := beq_eq_false_iff_ne.2 hlen
    have e3 : ((l.length : Int) != (m.length : Int)) = true := by simp [bne, e1]
    have e4 : (l.length != m.length) = true := by simp [bne, e2]
    clear hlen
    go_enter Tryd.func13, Tryd.ntmps13
    go_wp2
    go_ret
    exact ⟨Below.refl _ _, .inr ⟨HL.out, rfl⟩⟩

def preW (s : Int) (l : List Int) : List UInt8 := headB ++ Lib.join ((s :: l).map Lib.itoa) [32]
theorem preW_step (s : Int) (l : List Int) (n : Int) : preW s (l ++ [n]) = preW s l ++ [32] ++ Lib.itoa n := by
  unfold preW
  have : Lib.join ((s :: (l ++ [n])).map Lib.itoa) [32] = Lib.join ((s :: l).map Lib.itoa) [32] ++ ([32] ++ Lib.itoa n) := by
    simp only [List.map_cons, List.map_append, List.map_nil, Lib.join_cons]
    rw [List.append_assoc]
    congr 1
    simp [Lib.joinTail]
  rw [this]
  simp
theorem preW_len (s : Int) (l : List Int) (hs : i64 s) (hl : ∀ n ∈ l, i64 n) : (preW s l).length ≤ 22 * l.length + 60 := by
  have h1 := txtW_len ⟨s, l⟩ ⟨hs, hl⟩
  rw [txtW_eq] at h1
  unfold preW
  simp only [List.length_append] at h1 ⊢
  omega
theorem cat_bs (a b : List UInt8) : bs a ++ bs b = bs (a ++ b) := by
  apply bs_eq.2
  rw [ByteArray.data_append, Array.toList_append, bs_toList, bs_toList]

set_option maxRecDepth 100000 in
set_option maxHeartbeats 2000000 in
theorem refText_calls (s : Int) (A : Option Addr) (c : Nat) (l : List Int) (N : Nat) (w : World) (hs : i64 s) (hl : ∀ n ∈ l, i64 n) (hn : l.length ≤ 10000) (hA : IsAt w N A l) (hN : N ≤ w.heap.size) :
    Calls Tryd.prog 12 #[.int .i64 s, .slice A l.length c] w fun e w' => e = .returned (.string (bs (txtW ⟨s, l⟩))) ∧ Below w.heap.size w w' := by
  have HA := Lib.hid hA
  have HF := Lib.hid hl
  have HS := Lib.hid hs
  have HP0 : Hid (bs headB ++ bs (Lib.itoa s) = bs (preW s [])) := Lib.hid (by rw [cat_bs]; simp [preW, Lib.join_one])
  have HD := Lib.hid (refDec_calls s hs w)
  have z0 : (bs (Lib.itoa s)).size ≤ 21 := by rw [bs_size]; exact itoa_len hs
  generalize bs (Lib.itoa s) = d0 at *
  have g0 : (9223372036854775807 < 6 + d0.size) = False := eq_false (by omega)
  clear hA hl hs
  go_enter Tryd.func12, Tryd.ntmps12
  go_wp2_with fail
  refine HD.out.mono ?_
  rintro e w1 ⟨rfl, hB1⟩
  have HB1 := Lib.hid hB1
  clear hB1 HD z0
  go_wp2
  generalize hS0 : (⟨#[115, 116, 101, 112, 115, 32]⟩ : ByteArray) ++ d0 = S0 at *
  have hS0' : S0 = bs (preW s []) := hS0.symm.trans HP0.out
  have HS0 := Lib.hid hS0'
  clear hS0 hS0' HP0
  go_loopw [5, 12] (fun t i wr => ∃ (k : Nat), k ≤ l.length ∧ i = .int .i64 k ∧ t = .string (bs (preW s (l.take k))) ∧ Hid (Below w.heap.size w wr)) (fun _ i _ => l.length - (intOf i).toNat)
  case atStart => exact ⟨0, by omega, rfl, by rw [HS0.out]; rfl, HB1⟩
  case round =>
    obtain ⟨k, hk, rfl, rfl, HB⟩ := hrel
    have hpl := preW_len s (l.take k) HS.out (fun n hn => HF.out n (List.mem_of_mem_take hn))
    rw [List.length_take] at hpl
    have hpz : (bs (preW s (l.take k))).size ≤ 1000000 := by rw [bs_size]; omega
    by_cases hlt : k < l.length
    · obtain ⟨b, off, rfl, hb, hcl⟩ := HA.out (by omega)
      have hx : wr.cell? ⟨b, off + k, none⟩ = some (.int .i64 l[k]) := keepC HB.out (hcl k hlt) (by omega)
      have HTK : Hid (bs (preW s (l.take k)) ++ (⟨#[32]⟩ : ByteArray) ++ bs (Lib.itoa l[k]) = bs (preW s (l.take (k + 1)))) := Lib.hid (by
        rw [List.take_succ_eq_append_getElem hlt, preW_step, ← cat_bs, ← cat_bs]; rfl)
      have hnf := HF.out _ (List.getElem_mem hlt)
      generalize l[k] = n at *
      have HD := Lib.hid (refDec_calls n hnf wr)
      have z0 : (bs (Lib.itoa n)).size ≤ 21 := by rw [bs_size]; exact itoa_len hnf
      generalize bs (Lib.itoa n) = d at *
      generalize hSS : bs (preW s (l.take k)) = S at *
      have g1 : (9223372036854775807 < S.size + 1) = False := eq_false (by omega)
      have g2 : (9223372036854775807 < S.size + 1 + d.size) = False := eq_false (by omega)
      have hk0 : (0 : Int) ≤ (k : Int) := by omega
      have hk1 : (k : Int) < (l.length : Int) := by omega
      clear hcl hnf hSS hpl hpz z0
      go_wp2_with fail
      refine HD.out.mono ?_
      rintro e w5 ⟨rfl, hB5⟩
      have HB5 := Lib.hid (HB.out.trans (hB5.mono (by have := HB.out.size; omega)))
      clear hB5 HD hx
      go_wp2
      go_roundw
      case rel => exact ⟨k + 1, by omega, by go_num, by rw [HTK.out], HB5⟩
      case measure => simp [intOf]; omega
    · obtain rfl : k = l.length := by omega
      rw [List.take_length] at hpz ⊢
      have HE : Hid (bs (preW s l) ++ (⟨#[10]⟩ : ByteArray) = bs (txtW ⟨s, l⟩)) := Lib.hid (by
        rw [show (⟨#[10]⟩ : ByteArray) = bs [10] from rfl, cat_bs, txtW_eq]; rfl)
      generalize bs (preW s l) = S at *
      have g1 : (9223372036854775807 < S.size + 1) = False := eq_false (by omega)
      clear hlt hk hpl hpz
      go_wp2
      go_ret
      exact ⟨ret_str HE.out, HB.out⟩

/-! The example. -/
theorem ex_txt : txtW ⟨5, [-1, 7]⟩ = [115, 116, 101, 112, 115, 32, 53, 32, 45, 49, 32, 55, 10] := by decide +kernel
theorem ex_of : wOf [115, 116, 101, 112, 115, 32, 53, 32, 45, 49, 32, 55, 10] = some [5, -1, 7] := by
  rw [← ex_txt]
  exact wOf_txt ⟨5, [-1, 7]⟩ ⟨by unfold i64; decide, by intro n hn; simp at hn; rcases hn with rfl | rfl <;> (unfold i64; decide)⟩
set_option maxRecDepth 100000 in
set_option maxHeartbeats 2000000 in
theorem awake_calls (w : World) (hX : TX w) : Calls Tryd.prog 8 #[] w fun e w' => e = .returned (.bool true) ∧ Below w.heap.size w w' := by
  have HP := Lib.hid (parse_calls [115, 116, 101, 112, 115, 32, 53, 32, 45, 49, 32, 55, 10] (by decide) w hX)
  clear hX
  go_enter Tryd.func8, Tryd.ntmps8
  go_wp2_with fail
  refine HP.out.mono ?_
  rintro e w1 ⟨hB1, h1⟩
  have HB1 := Lib.hid hB1
  clear hB1
  rw [ex_of] at h1
  rcases h1 with ⟨⟨ms, mi⟩, A, c, hm, _, rfl, hA⟩ | ⟨⟨ms, mi⟩, hm, hg, rfl⟩ | ⟨hm, _⟩
  · have hm := Option.some.inj hm
    injection hm with e1 e2
    dsimp only at e1 e2
    subst e1 e2
    have hc := hA.cap
    obtain ⟨b, off, rfl, hb, hcl⟩ := hA.row (by simp)
    have x0 : w1.cell? ⟨b, off, none⟩ = some (.int .i64 (-1)) := hcl 0 (by simp)
    have y0 := newC x0 (.cells #[.int .i64 5, .slice (some ⟨b, off, none⟩) 2 c] 24)
    clear hA hcl
    have HB2 := Lib.hid (HB1.out.alloc HB1.out.size (.cells #[.int .i64 5, .slice (some ⟨b, off, none⟩) 2 c] 24))
    unfold woV
    dsimp only [List.length_cons, List.length_nil]
    go_wp2
    go_ret
    exact ⟨rfl, HB2.out⟩
  · exfalso
    have hm := Option.some.inj hm
    injection hm with e1 e2
    dsimp only at e1 e2
    subst e1 e2
    apply hg
    unfold GoodW
    dsimp only
    simp
  · cases hm
end Go.Proofs.YtoailhkaenofpaaDoor
