/-
  The statement ArenaKeeps, gone through.
-/
import Derived.Test.YthbhdmkbojjjkaaArStr
import Derived.Test.YthbhdmkbojjjkaaArPure
import Derived.Test.YthbhdmkbojjjkaaArgs
namespace Go.Proofs.Ythbhdmkbojjjkaa
open Go.RowKit

theorem below_drewN' {B : Nat} {a w : World} (h : Below B a w) (n : Nat) : Below B a (w.drewN n) := ⟨h.os, h.tape, h.output, h.size, h.block⟩
/-- All's answer behind k rounds: what stands from k on. -/
def RowR (w : World) (B : Nat) (A : Option Addr) (n k : Nat) (ss : List ByteArray) : Prop :=
  0 < n → ∃ g, A = some ⟨g, 0, none⟩ ∧ B ≤ g ∧ g < w.heap.size ∧ ∀ t (h : t < ss.length), w.frozen? ⟨g, t, none⟩ = false ∧ (k ≤ t → w.cell? ⟨g, t, none⟩ = some (.string ss[t]))
theorem rowR_of_own {w : World} {B c : Nat} {A : Option Addr} {ss : List ByteArray} (h : w.ownsRow B 9 1 (.slice A ss.length c) ss.length (strV ss)) : RowR w B A ss.length 0 ss := fun hn => by
  obtain ⟨g, cap, hv, hb, hg, _, _⟩ := own_pos h hn
  injection hv with h1 h2 h3
  subst h1 h3
  refine ⟨g, rfl, hb, hg, fun t ht => ?_⟩
  obtain ⟨_, h1, h2⟩ := own_cell1 h t ht
  exact ⟨h2, fun _ => by rw [h1, strV_get ss t ht]⟩
theorem RowR.step {w : World} {B n k g : Nat} {ss : List ByteArray} {v : Value} (h : RowR w B (some ⟨g, 0, none⟩) n k ss) : RowR (w.setCell ⟨g, k, none⟩ v) B (some ⟨g, 0, none⟩) n (k + 1) ss := fun hn => by
  obtain ⟨g', h1, hb, hg, hc⟩ := h hn
  injection h1 with h1
  injection h1 with h1
  subst h1
  refine ⟨g, rfl, hb, by simpa using hg, fun t ht => ⟨by simpa using (hc t ht).1, fun hk => ?_⟩⟩
  rw [← (hc t ht).2 (by omega)]
  exact World.cell?_setCell_other (h := fun e => by injection e with _ e; omega) ..

set_option maxRecDepth 100000 in
set_option maxHeartbeats 2000000 in
theorem keeps_long (A : Option Addr) (c : Nat) (n : Nat) (at' : Int) (w : World) (hn : 100 < n) :
    Calls Try.prog 3 #[.slice A n c, .int .i64 at'] w fun e w' => e = .returned (.bool true) ∧ Below w.heap.size w w' := by
  have hd : decide ((100 : Int) < (n : Int)) = true := decide_eq_true (by omega)
  have hd' : decide (100 < n) = true := decide_eq_true hn
  go_enter Try.func3, Try.ntmps3
  go_wp2_with fail
  refine (awake_calls _).mono ?_
  rintro e w1 ⟨rfl, hB1⟩
  go_wp2_with fail
  refine (awake_calls _).mono ?_
  rintro e w2 ⟨rfl, hB2⟩
  go_wp2
  go_ret
  exact ⟨rfl, hB1.trans (hB2.mono hB1.size)⟩

set_option maxRecDepth 100000 in
set_option maxHeartbeats 2000000 in
theorem keeps_short (A : Option Addr) (c : Nat) (ss : List ByteArray) (at' : Int) (w : World) (hn : ss.length ≤ 100) (hA : StsAt w w.heap.size A ss.length ss) :
    Calls Try.prog 3 #[.slice A ss.length c, .int .i64 at'] w fun e w' => e = .returned (.bool true) ∧ Below w.heap.size w w' := by
  have hd : decide ((100 : Int) < (ss.length : Int)) = false := decide_eq_false (by omega)
  have hd' : decide (100 < ss.length) = false := decide_eq_false (by omega)
  have HA := Lib.hid hA
  clear hA
  go_enter Try.func3, Try.ntmps3
  go_wp2_with fail
  refine (awake_calls _).mono ?_
  rintro e w1 ⟨rfl, hB1⟩
  have hz1 := hB1.size
  have HB1 := Lib.hid hB1
  clear hB1
  go_wp2
  go_loopw [24] (fun i wr => ∃ k : Nat, k ≤ ss.length ∧ i = .int .i64 k ∧ (∃ v, Hid (ArAt w1.heap.size v (ss.take k) wr)) ∧ Hid (Below w1.heap.size w1 wr)) (fun i _ => ss.length - (intOf i).toNat)
  case atStart => exact ⟨0, by omega, rfl, ⟨.slice none 0 0, Lib.hid ⟨heap_alloc_new w1 _, ⟨by simp [strV], .inl ⟨rfl, by simp⟩⟩⟩⟩, Lib.hid ((Below.refl _ _).alloc (Nat.le_refl _) _)⟩
  case round =>
    obtain ⟨k, hk, rfl, ⟨v, HV⟩, HB⟩ := hrel
    by_cases hlt : k < ss.length
    · obtain ⟨b, off, rfl, hb, hkl, hcl⟩ := HA.out.get k hlt
      have hx := (HB.out.cell (p := ⟨b, off + k, none⟩) (by simp; omega)).trans ((HB1.out.cell (p := ⟨b, off + k, none⟩) hb).trans hcl)
      have hlen : (ss.take k).length = k := by rw [List.length_take]; omega
      have HL := Lib.hid hlen
      have HT : Hid (ss.take (k + 1) = ss.take k ++ [ss[k]]) := Lib.hid (List.take_succ_eq_append_getElem hlt)
      generalize ss[k] = s at hx HT
      clear hcl hlen
      have hsz := HB.out.size
      go_wp2_with fail
      refine (aput_calls w1.heap.size v (ss.take k) s wr (by rw [HL.out]; omega) HV.out).mono ?_
      rintro e w3 ⟨rfl, v3, h3, hs3⟩
      rw [HL.out]
      have H3 : Hid (ArAt w1.heap.size v3 (ss.take (k + 1)) w3) := Lib.hid (by rw [HT.out]; exact h3)
      have HB3 : Hid (Below w1.heap.size w1 w3) := Lib.hid (below_asked HB.out hs3 (Nat.le_refl _) (fun g hg => (HV.out.row g hg).1) hsz)
      have HL3 : Hid (((ss.take (k + 1)).length : Int) = (k : Int) + 1) := Lib.hid (by rw [List.length_take]; omega)
      clear h3 hs3 HT
      go_wp2_with fail
      refine (alen_calls w1.heap.size v3 (ss.take (k + 1)) w3 H3.out).mono ?_
      rintro e w4 ⟨rfl, rfl⟩
      rw [HL3.out]
      go_wp2
      go_roundw
      case rel => exact ⟨k + 1, by omega, by go_num, ⟨v3, H3⟩, HB3⟩
      case measure => simp [intOf]; omega
    · obtain rfl : k = ss.length := by omega
      rw [List.take_length] at HV
      clear hlt hk
      have hsz := HB.out.size
      have hat : (decide (0 ≤ at') = false ∧ Hid (at' < 0 ∨ (ss.length : Int) ≤ at')) ∨ (decide (0 ≤ at') = true ∧ decide (at' < (ss.length : Int)) = false ∧ Hid (at' < 0 ∨ (ss.length : Int) ≤ at')) ∨ ∃ j : Nat, j < ss.length ∧ at' = (j : Int) := by
        by_cases h0 : at' < 0
        · exact .inl ⟨decide_eq_false (by omega), .inl h0⟩
        · by_cases h1 : (ss.length : Int) ≤ at'
          · exact .inr (.inl ⟨decide_eq_true (by omega), decide_eq_false (by omega), .inr h1⟩)
          · exact .inr (.inr ⟨at'.toNat, by omega, by omega⟩)
      rcases hat with ⟨hd1, HAT⟩ | ⟨hd1, hd2, HAT⟩ | ⟨j, hj, rfl⟩
      rotate_left 2
      focus
        obtain ⟨b, off, rfl, hb, hjl, hcl⟩ := HA.out.get j hj
        have hx := (HB.out.cell (p := ⟨b, off + j, none⟩) (by simp; omega)).trans ((HB1.out.cell (p := ⟨b, off + j, none⟩) hb).trans hcl)
        have HGet := Lib.hid (aget_yes w1.heap.size v ss j wr (by omega) HV.out hj)
        generalize ss[j] = s at hx HGet
        clear hcl
        have hjd : decide (j < ss.length) = true := decide_eq_true hj
        have hjd' : (0 : Int) ≤ (j : Int) := by omega
        have hjd2 : (j : Int) < (ss.length : Int) := by omega
        go_wp2_with fail
        refine HGet.out.mono ?_
        rintro e w2 ⟨rfl, rfl⟩
        clear HGet
        go_wp2_with fail
        clear hx
      rotate_left 1
      focus
        go_wp2_with fail
        refine (aget_no w1.heap.size v ss at' wr HV.out HAT.out).mono ?_
        rintro e w2 ⟨rfl, rfl⟩
        go_wp2_with fail
      rotate_left 1
      focus
        go_wp2_with fail
        refine (aget_no w1.heap.size v ss at' wr HV.out HAT.out).mono ?_
        rintro e w2 ⟨rfl, rfl⟩
        go_wp2_with fail
      rotate_left 1
      all_goals
        obtain ⟨wo, rfl⟩ : ∃ x, x = wr := ⟨_, rfl⟩
        refine (all_calls w1.heap.size v ss wo (by omega) HV.out).mono ?_
        rintro e w3 ⟨v3, rfl, ho3, hB3⟩
        obtain ⟨A3, c3, rfl⟩ := own_slice ho3
        have HR0 := Lib.hid (rowR_of_own ho3)
        have HB3 := Lib.hid hB3
        clear ho3 hB3
        go_wp2
        go_loopw [82] (fun i wx => ∃ k : Nat, k ≤ ss.length ∧ i = .int .i64 k ∧ Hid (RowR wx wo.heap.size A3 ss.length k ss) ∧ Hid (Below wo.heap.size wo wx)) (fun i _ => ss.length - (intOf i).toNat)
        case atStart => exact ⟨0, by omega, rfl, HR0, HB3⟩
        case round =>
          obtain ⟨k, hk, rfl, HR, HBx⟩ := hrel
          have hszx := HBx.out.size
          clear HR0
          by_cases hlt : k < ss.length
          · obtain ⟨b2, off2, hA2, hb2, hkl, hcl⟩ := HA.out.get k hlt
            have hx := (HBx.out.cell (p := ⟨b2, off2 + k, none⟩) (by simp; omega)).trans ((HB.out.cell (p := ⟨b2, off2 + k, none⟩) (by simp; omega)).trans ((HB1.out.cell (p := ⟨b2, off2 + k, none⟩) hb2).trans hcl))
            have HGet := Lib.hid (fun (wy : World) (hy : Below wo.heap.size wo wy) => aget_yes w1.heap.size v ss k wy (by omega) (HV.out.below hy) hlt)
            obtain ⟨g, rfl, hBg, hgl, hgc⟩ := HR.out (by omega)
            obtain ⟨hfz, hcc⟩ := hgc k hlt
            have hcg := hcc (Nat.le_refl _)
            clear hcc hgc hcl
            generalize ss[k] = s at hx HGet hcg
            have hne : ¬ g = b2 := by omega
            have hne' : ¬ b2 = g := by omega
            first
              | subst hA2
              | (injection hA2 with hA2
                 injection hA2 with e1 e2
                 subst e1 e2)
            have hk0 : (0 : Int) ≤ (k : Int) := by omega
            have hk1 : (k : Int) < (ss.length : Int) := by omega
            go_wp2_with fail
            refine (HGet.out wr HBx.out).mono ?_
            rintro e w5 ⟨rfl, rfl⟩
            go_wp2
            go_quiet (fail)
            go_wp2_with fail
            have HB5 := Lib.hid (((below_drewN' HBx.out nq)).setCell (p := ⟨g, k, none⟩) hBg (.string ⟨#[63]⟩))
            refine (HGet.out _ HB5.out).mono ?_
            rintro e w6 ⟨rfl, rfl⟩
            go_wp2
            go_roundw
            case rel => exact ⟨k + 1, by omega, by go_num, Lib.hid (RowR.step HR.out), HB5⟩
            case measure => simp [intOf]; omega
          · clear HR
            go_wp2
            go_ret
            exact ⟨rfl, (HB1.out.trans (HB.out.mono hz1)).trans (HBx.out.mono (by omega))⟩

theorem keeps_walk (A : Option Addr) (c : Nat) (ss : List ByteArray) (at' : Int) (w : World) (hA : StsAt w w.heap.size A ss.length ss) :
    Calls Try.prog 3 #[.slice A ss.length c, .int .i64 at'] w fun e w' => e = .returned (.bool true) ∧ Below w.heap.size w w' := by
  by_cases h : ss.length ≤ 100
  · exact keeps_short A c ss at' w h hA
  · exact keeps_long A c ss.length at' w (by omega)

end Go.Proofs.Ythbhdmkbojjjkaa
