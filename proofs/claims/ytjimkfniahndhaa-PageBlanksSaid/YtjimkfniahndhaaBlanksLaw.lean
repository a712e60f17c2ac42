/-
  PageBlanks, walked.
-/
import Derived.Test.YtjimkfniahndhaaRef
import Derived.Test.YtjimkfniahndhaaAwake
import Derived.Laws.AppendOwnNone
import Derived.Deep.QuietTactic
import Derived.BigQuiet
namespace Go.Proofs.Ytjimkfniahndhaa
open Go.RowKit

theorem blankS_again (s : ByteArray) (L : List Sp) : blankS (blankS s L) L = blankS s L := by
  have e : (blankS s L).data.toList = blankL s.data.toList L := by simp [blankS]
  show (⟨(blankL (blankS s L).data.toList L).toArray⟩ : ByteArray) = _
  rw [e, blankL_again]
  rfl

/-- An append whose run is known. -/
theorem wpList_append_run {P : Program} {w : World} {ops : Array Oper} {rest : List Oper} {o : Oper} {a : Act} {Q : Exit → Act → World → Prop} (hgd : o.guard = none) (s x : Operand) (t : TypeId)
    (ho : o.op = .call { callee := .builtin .append, args := #[s, x], argTypes := #[t, t] }) (vs vx : Value) (hs : a.eval s = vs) (hx : a.eval x = vx) (v' : Value) (w' : World)
    (hr : (Builtin.append_ #[t, t] o.type #[vs, vx]).run P w = .ok v' w') (h : wpList P ops Q rest (a.put o.dst v') w') : wpList P ops Q (o :: rest) a w := by
  refine wpList_plain hgd fun K hK => ?_
  unfold Oper.wp execOp
  simp only [ho, resolve, invoke, builtin, Sem.run_bind, Sem.run_pure, Result.andThen_ok, List.map_toArray, List.map_cons, List.map_nil, hs, hx, hr]
  exact hK _ _ h

/-- 'append([]api.Span{}, keep...)': a copy of the spans, in a row of the call's own. -/
theorem copy_run (w : World) (A : Option Addr) (n c : Nat) (xs : List Sp) (hn : n ≤ 1000) (hA : A = none → n = 0 ∧ c = 0) (hx : SpAt w w.heap.size A n xs) :
    ∃ A' c' w2, (Builtin.append_ #[37, 37] 37 #[.slice (some ⟨w.heap.size, 0, none⟩) 0 0, .slice A n c]).run Try.prog (w.alloc (.cells #[] 41)) = .ok (.slice A' n c') w2 ∧ SpAt w2 w2.heap.size A' n xs ∧ Below w.heap.size w w2 := by
  obtain ⟨i0, hi, hz0, hz1, hz2⟩ := info_parts Try.info41
  have hown : (w.alloc (.cells #[] 41)).ownsRow w.heap.size 41 2 (.slice (some ⟨w.heap.size, 0, none⟩) 0 0) 0 [] := World.ownsRow_lit w #[] 0 (Nat.le_refl _) (by unfold maxLen; omega) (by simp)
  have hB0 : Below w.heap.size w (w.alloc (.cells #[] 41)) := (Below.refl _ w).alloc (Nat.le_refl _) _
  cases A with
  | none =>
    obtain ⟨rfl, rfl⟩ := hA rfl
    have hx0 : xs = [] := List.eq_nil_of_length_eq_zero hx.1
    subst hx0
    exact ⟨_, _, _, run_append_owned_none (P := Try.prog) (w := w.alloc (.cells #[] 41)) w.heap.size 37 37 41 i0 2 Try.underlying37 hi _ 0 [] hown, ⟨rfl, fun h => absurd h (by omega)⟩, hB0⟩
  | some ad =>
    have hxa := hx.below hB0 (Nat.le_refl _)
    have hnews : ∀ j u, (flatS xs)[j]? = some u → (w.alloc (.cells #[] 41)).cell? (ad.add j) = some u := fun j u hu => by
      have hjl : j < (flatS xs).length := by
        rcases Nat.lt_or_ge j (flatS xs).length with h | h
        · exact h
        · rw [List.getElem?_eq_none h] at hu; cases hu
      rw [flatS_length] at hjl
      have hl := hx.1
      obtain ⟨b, off, e, hlt, hc⟩ := hxa.2 (by omega)
      obtain rfl : ad = ⟨b, off, none⟩ := by injection e
      obtain ⟨i, hi'⟩ : ∃ i, i = j / 2 := ⟨_, rfl⟩
      have hix : i < xs.length := by omega
      have g1 := flatS_get xs i hix
      have g2 := hc i hix
      have hadd : ∀ k, (⟨b, off, none⟩ : Addr).add k = ⟨b, off + k, none⟩ := fun k => by
        unfold Addr.add
        split
        · rename_i h0; subst h0; rfl
        · rfl
      rw [hadd]
      rcases Nat.mod_two_eq_zero_or_one j with h0 | h0
      · obtain rfl : j = i * 2 := by omega
        rw [g1.1] at hu; rw [g2.1, hu]
      · obtain rfl : j = i * 2 + 1 := by omega
        rw [g1.2] at hu; rw [← Nat.add_assoc, g2.2, hu]
    obtain ⟨v', w2, hr, hown2, hg2, hnil⟩ := run_append_own (P := Try.prog) (w.alloc (.cells #[] 41)) w.heap.size 37 37 41 i0 (.agg #[.int .i64 0, .int .i64 0]) 2 16 Try.underlying37 hi hz0 hz1 hz2 rfl (by decide) _ 0 [] hown ad n c (flatS xs)
      (by rw [flatS_length, hx.1]) hnews (fun u hu => by
        simp only [flatS, List.mem_flatMap] at hu
        obtain ⟨x, _, hu⟩ := hu
        simp at hu
        rcases hu with rfl | rfl <;> rfl) (by unfold maxLen; omega) (by omega) (by simp)
    rw [Nat.zero_add, List.nil_append] at hown2
    rcases hown2.2 with ⟨e, _⟩ | ⟨g, cap, cur, rfl, _⟩
    · exact absurd (hnil.1 e).1 (by simp)
    · exact ⟨_, cap, w2, hr, spAt_of_own hown2, below_append hB0 (Nat.le_refl _) hown hg2⟩

set_option maxRecDepth 100000 in
set_option maxHeartbeats 1000000 in
theorem blanks_good (s : ByteArray) (hs : s.size ≤ 300) (A : Option Addr) (n c : Nat) (xs : List Sp) (hn : n ≤ 30) (hA : A = none → n = 0 ∧ c = 0) (hgood : ∀ x ∈ xs, goodB x s.size = true) (w : World) (hx : SpAt w w.heap.size A n xs) :
    Calls Try.prog 6 #[.string s, .slice A n c] w fun e w' => e = .returned (.bool true) ∧ Below w.heap.size w w' := by
  have hsd : decide ((300 : Int) < (s.size : Int)) = false := by simp; omega
  have hnd : decide ((30 : Int) < (n : Int)) = false := by simp; omega
  have HX := Lib.hid hx
  have HG := Lib.hid hgood
  have HL := Lib.hid hx.1
  clear hx hgood
  go_enter Try.func6, Try.ntmps6
  go_wp2_with fail
  refine (awake_calls _).mono ?_
  rintro e w1 ⟨rfl, hB1⟩
  have hb1 := hB1.size
  obtain ⟨A2, c2, w2, happ, hsp2, hB2⟩ := copy_run w1 A n c xs (by omega) hA ((HX.out.below hB1 (Nat.le_refl _)).mono hb1)
  have hb2 := hB2.size
  have HX2 := Lib.hid hsp2
  have hbl := Lib.hid (blank_yes s (by omega) A2 n c2 xs (by omega) HG.out w2 hsp2)
  have HAp := Lib.hid happ
  clear hsp2 happ
  go_wp2_with (at_builtin; refine wpList_append_run rfl _ _ 37 rfl _ _ rfl rfl _ _ HAp.out ?_)
  refine hbl.out.mono ?_
  rintro e w3 ⟨rfl, hB3⟩
  have hb3 := hB3.size
  have HX3 := Lib.hid ((HX2.out.below hB3 (Nat.le_refl _)).mono hb3)
  have hBw3 : Below w.heap.size w w3 := hB1.trans ((hB2.mono hb1).trans (hB3.mono (by omega)))
  have HK3 := Lib.hid ((HX.out.below hBw3 (Nat.le_refl _)).mono hBw3.size)
  clear HAp hbl hB1 hB2 hB3 HX2
  go_wp2
  go_loopw [39] (fun i wr => ∃ (k : Nat), k ≤ n ∧ i = .int .i64 k ∧ Below w3.heap.size w3 wr) (fun i _ => n - (intOf i).toNat)
  case atStart => exact ⟨0, Nat.zero_le _, rfl, Below.refl _ _⟩
  case round =>
    obtain ⟨k, hk, rfl, hB⟩ := hrel
    have hbs := hB.size
    by_cases hlt : k < n
    · have hkl : k < xs.length := by rw [HL.out]; exact hlt
      obtain ⟨b, off, hAe, hbl, hcs⟩ := (HK3.out.below hB (Nat.le_refl _)).2 (by omega)
      obtain ⟨b2, off2, hAe2, hbl2, hcs2⟩ := (HX3.out.below hB (Nat.le_refl _)).2 (by omega)
      subst hAe
      subst hAe2
      obtain ⟨hc1, hc2⟩ := hcs k hkl
      obtain ⟨hd1, hd2⟩ := hcs2 k hkl
      clear hcs hcs2
      have hgk := HG.out xs[k] (List.getElem_mem hkl)
      generalize hgx : xs[k] = x at hc1 hc2 hd1 hd2 hgk
      clear hgx
      obtain ⟨x1, x2⟩ := x
      dsimp only at hc1 hc2 hd1 hd2
      have hcall := Lib.hid (fun W => good_calls (x1, x2) s.size W)
      rw [hgk] at hcall
      have hgd : 0 ≤ x1 ∧ x1 ≤ x2 ∧ x2 ≤ s.size := by simpa [goodB] using hgk
      have hg1 := hgd.1
      have hg2 := hgd.2.1
      have hg3 := hgd.2.2
      clear hgk hgd
      have hf1 : (wr.alloc (.cells #[.int .i64 x1, .int .i64 x2] 41)).cell? ⟨b2, off2 + k * 2, none⟩ = some (.int .i64 x1) := (World.cell?_alloc_lt wr _ ⟨b2, off2 + k * 2, none⟩ (by simp; omega)).trans hd1
      have hf2 : (wr.alloc (.cells #[.int .i64 x1, .int .i64 x2] 41)).cell? ⟨b2, off2 + k * 2 + 1, none⟩ = some (.int .i64 x2) := (World.cell?_alloc_lt wr _ ⟨b2, off2 + k * 2 + 1, none⟩ (by simp; omega)).trans hd2
      have hq0 : (0 : Int) ≤ (k : Int) := by omega
      have hq1 : (k : Int) < (n : Int) := by omega
      clear hd1 hd2
      go_wp2_with fail
      go_quiet (fail)
      go_wp2_with (go_at_call 18; refine (hcall.out _).mono ?_; rintro e w5 ⟨rfl, rfl⟩)
      go_roundw
      case rel => exact ⟨k + 1, by omega, by go_num, (below_drewN' (hB.alloc hbs _) nq).alloc (by simp; omega) _⟩
      case measure => simp [intOf]; omega
    · obtain rfl : k = n := by omega
      have hBw : Below w.heap.size w wr := hBw3.trans (hB.mono hBw3.size)
      have HKw := Lib.hid ((HX.out.below hBw (Nat.le_refl _)).mono hBw.size)
      clear HX3 HK3 hB
      go_wp2
      generalize wr = w6 at *
      have hb6 := hBw.size
      go_loopw [76] (fun i wz => ∃ (q : Nat), q ≤ k ∧ i = .int .i64 q ∧ Below w6.heap.size w6 wz) (fun i _ => k - (intOf i).toNat)
      case atStart => exact ⟨0, Nat.zero_le _, rfl, Below.refl _ _⟩
      case round =>
        obtain ⟨q, hq, rfl, hB⟩ := hrel
        have hbs := hB.size
        by_cases hlt : q < k
        · have hkl : q < xs.length := by rw [HL.out]; exact hlt
          obtain ⟨b, off, hAe, hbl, hcs⟩ := (HKw.out.below hB (Nat.le_refl _)).2 (by omega)
          subst hAe
          obtain ⟨hc1, hc2⟩ := hcs q hkl
          clear hcs
          have hgk := HG.out xs[q] (List.getElem_mem hkl)
          generalize hgx : xs[q] = x at hc1 hc2 hgk
          clear hgx
          obtain ⟨x1, x2⟩ := x
          dsimp only at hc1 hc2
          have hgd : 0 ≤ x1 ∧ x1 ≤ x2 ∧ x2 ≤ s.size := by simpa [goodB] using hgk
          have hg1 : decide (x1 < 0) = false := by simp; omega
          have hg2 : decide (x2 < x1) = false := by simp; omega
          have hg3 : decide ((s.size : Int) < x2) = false := by simp; omega
          clear hgk hgd
          go_wp2
          go_roundw
          case rel => exact ⟨q + 1, by omega, by go_num, hB.alloc hbs _⟩
          case measure => simp [intOf]; omega
        · obtain rfl : q = k := by omega
          have hBz : Below w.heap.size w wr := hBw.trans (hB.mono hb6)
          have hbz := hBz.size
          have hxz := (HX.out.below hBz (Nat.le_refl _)).mono hbz
          have hbl2 := Lib.hid (blank_yes (blankS s xs) (by rw [blankS_size]; omega) A q c xs (by omega) (fun x hx => by rw [blankS_size]; exact HG.out x hx) wr hxz)
          have hrf := Lib.hid (fun W (h : Below w.heap.size w W) => refBlank_calls s (by omega) A q c xs (by omega) W ((HX.out.below h (Nat.le_refl _)).mono h.size))
          have HAg := Lib.hid (blankS_again s xs)
          have hsz := blankS_size s xs
          unfold BlankPost at hbl2
          rw [HAg.out] at hbl2
          clear hxz HKw hB hBw
          generalize blankS s xs = out at *
          go_wp2_with fail
          refine hbl2.out.mono ?_
          rintro e w7 ⟨rfl, hB7⟩
          have hB7w := hBz.trans (hB7.mono hbz)
          clear hbl2
          go_wp2_with fail
          refine (hrf.out _ hB7w).mono ?_
          rintro e w8 ⟨rfl, hB8⟩
          go_wp2
          go_ret
          exact ⟨rfl, hB7w.trans (hB8.mono hB7w.size)⟩

set_option maxRecDepth 100000 in
set_option maxHeartbeats 1000000 in
theorem blanks_bad (s : ByteArray) (hs : s.size ≤ 300) (A : Option Addr) (n c : Nat) (xs : List Sp) (hn : n ≤ 30) (hA : A = none → n = 0 ∧ c = 0) (hgood : ¬ ∀ x ∈ xs, goodB x s.size = true) (w : World) (hx : SpAt w w.heap.size A n xs) :
    Calls Try.prog 6 #[.string s, .slice A n c] w fun e w' => e = .returned (.bool true) ∧ Below w.heap.size w w' := by
  have hsd : decide ((300 : Int) < (s.size : Int)) = false := by simp; omega
  have hnd : decide ((30 : Int) < (n : Int)) = false := by simp; omega
  have HX := Lib.hid hx
  have HG := Lib.hid hgood
  have HL := Lib.hid hx.1
  clear hx hgood
  go_enter Try.func6, Try.ntmps6
  go_wp2_with fail
  refine (awake_calls _).mono ?_
  rintro e w1 ⟨rfl, hB1⟩
  have hb1 := hB1.size
  obtain ⟨A2, c2, w2, happ, hsp2, hB2⟩ := copy_run w1 A n c xs (by omega) hA ((HX.out.below hB1 (Nat.le_refl _)).mono hb1)
  have hb2 := hB2.size
  have HX2 := Lib.hid hsp2
  have hbl := Lib.hid (blank_no s A2 n c2 xs (by omega) HG.out w2 hsp2)
  have HAp := Lib.hid happ
  clear hsp2 happ
  go_wp2_with (at_builtin; refine wpList_append_run rfl _ _ 37 rfl _ _ rfl rfl _ _ HAp.out ?_)
  refine hbl.out.mono ?_
  rintro e w3 ⟨rfl, hB3⟩
  have hb3 := hB3.size
  have HX3 := Lib.hid ((HX2.out.below hB3 (Nat.le_refl _)).mono hb3)
  have hBw3 : Below w.heap.size w w3 := hB1.trans ((hB2.mono hb1).trans (hB3.mono (by omega)))
  have HK3 := Lib.hid ((HX.out.below hBw3 (Nat.le_refl _)).mono hBw3.size)
  clear HAp hbl hB1 hB2 hB3 HX2
  go_wp2
  go_loopw [39] (fun i wr => ∃ (k : Nat), k ≤ n ∧ i = .int .i64 k ∧ Below w3.heap.size w3 wr) (fun i _ => n - (intOf i).toNat)
  case atStart => exact ⟨0, Nat.zero_le _, rfl, Below.refl _ _⟩
  case round =>
    obtain ⟨k, hk, rfl, hB⟩ := hrel
    have hbs := hB.size
    by_cases hlt : k < n
    · have hkl : k < xs.length := by rw [HL.out]; exact hlt
      obtain ⟨b, off, hAe, hbl, hcs⟩ := (HK3.out.below hB (Nat.le_refl _)).2 (by omega)
      obtain ⟨b2, off2, hAe2, hbl2, hcs2⟩ := (HX3.out.below hB (Nat.le_refl _)).2 (by omega)
      subst hAe
      subst hAe2
      obtain ⟨hc1, hc2⟩ := hcs k hkl
      obtain ⟨hd1, hd2⟩ := hcs2 k hkl
      clear hcs hcs2
      generalize hgx : xs[k] = x at hc1 hc2 hd1 hd2
      clear hgx
      obtain ⟨x1, x2⟩ := x
      dsimp only at hc1 hc2 hd1 hd2
      have hcall := Lib.hid (fun W => good_calls (x1, x2) s.size W)
      have hf1 : (wr.alloc (.cells #[.int .i64 x1, .int .i64 x2] 41)).cell? ⟨b2, off2 + k * 2, none⟩ = some (.int .i64 x1) := (World.cell?_alloc_lt wr _ ⟨b2, off2 + k * 2, none⟩ (by simp; omega)).trans hd1
      have hf2 : (wr.alloc (.cells #[.int .i64 x1, .int .i64 x2] 41)).cell? ⟨b2, off2 + k * 2 + 1, none⟩ = some (.int .i64 x2) := (World.cell?_alloc_lt wr _ ⟨b2, off2 + k * 2 + 1, none⟩ (by simp; omega)).trans hd2
      have hq0 : (0 : Int) ≤ (k : Int) := by omega
      have hq1 : (k : Int) < (n : Int) := by omega
      clear hd1 hd2
      by_cases h1 : 0 ≤ x1
      · by_cases h2 : x1 ≤ x2
        · by_cases h3 : x2 ≤ s.size
          · have hgk : goodB (x1, x2) s.size = true := by simp [goodB]; omega
            rw [hgk] at hcall
            clear hgk
            go_wp2_with fail
            go_quiet (fail)
            go_wp2_with (go_at_call 18; refine (hcall.out _).mono ?_; rintro e w5 ⟨rfl, rfl⟩)
            go_roundw
            case rel => exact ⟨k + 1, by omega, by go_num, (below_drewN' (hB.alloc hbs _) nq).alloc (by simp; omega) _⟩
            case measure => simp [intOf]; omega
          · have h3' : decide (x2 ≤ (s.size : Int)) = false := by simp; omega
            have hgk : goodB (x1, x2) s.size = false := by simp [goodB]; omega
            rw [hgk] at hcall
            clear hgk
            go_wp2_with fail
            go_quiet (fail)
            go_wp2_with (go_at_call 18; refine (hcall.out _).mono ?_; rintro e w5 ⟨rfl, rfl⟩)
            go_roundw
            case rel => exact ⟨k + 1, by omega, by go_num, (below_drewN' (hB.alloc hbs _) nq).alloc (by simp; omega) _⟩
            case measure => simp [intOf]; omega
        · have h2' : decide (x1 ≤ x2) = false := by simp; omega
          have hgk : goodB (x1, x2) s.size = false := by simp [goodB]; omega
          rw [hgk] at hcall
          clear hgk
          go_wp2_with fail
          go_quiet (fail)
          go_wp2_with (go_at_call 18; refine (hcall.out _).mono ?_; rintro e w5 ⟨rfl, rfl⟩)
          go_roundw
          case rel => exact ⟨k + 1, by omega, by go_num, (below_drewN' (hB.alloc hbs _) nq).alloc (by simp; omega) _⟩
          case measure => simp [intOf]; omega
      · have h1' : decide (0 ≤ x1) = false := by simp; omega
        have hgk : goodB (x1, x2) s.size = false := by simp [goodB]; omega
        rw [hgk] at hcall
        clear hgk
        go_wp2_with fail
        go_quiet (fail)
        go_wp2_with (go_at_call 18; refine (hcall.out _).mono ?_; rintro e w5 ⟨rfl, rfl⟩)
        go_roundw
        case rel => exact ⟨k + 1, by omega, by go_num, (below_drewN' (hB.alloc hbs _) nq).alloc (by simp; omega) _⟩
        case measure => simp [intOf]; omega
    · obtain rfl : k = n := by omega
      have hBw : Below w.heap.size w wr := hBw3.trans (hB.mono hBw3.size)
      have HKw := Lib.hid ((HX.out.below hBw (Nat.le_refl _)).mono hBw.size)
      clear HX3 HK3 hB
      go_wp2
      generalize wr = w6 at *
      have hb6 := hBw.size
      go_loopw [76] (fun i wz => ∃ (q : Nat), q ≤ k ∧ i = .int .i64 q ∧ (∀ j (h : j < xs.length), j < q → goodB xs[j] s.size = true) ∧ Below w6.heap.size w6 wz) (fun i _ => k - (intOf i).toNat)
      case atStart => exact ⟨0, Nat.zero_le _, rfl, fun j _ h => absurd h (by omega), Below.refl _ _⟩
      case round =>
        obtain ⟨q, hq, rfl, hall, hB⟩ := hrel
        have HA := Lib.hid hall
        clear hall
        have hbs := hB.size
        by_cases hlt : q < k
        · have hkl : q < xs.length := by rw [HL.out]; exact hlt
          obtain ⟨b, off, hAe, hbl, hcs⟩ := (HKw.out.below hB (Nat.le_refl _)).2 (by omega)
          subst hAe
          obtain ⟨hc1, hc2⟩ := hcs q hkl
          clear hcs
          have HS := Lib.hid (show goodB xs[q] s.size = true → ∀ j (h : j < xs.length), j < q + 1 → goodB xs[j] s.size = true from fun hg j h hj => by
            rcases Nat.lt_or_ge j q with h1 | h1
            · exact HA.out j h h1
            · obtain rfl : j = q := by omega
              exact hg)
          generalize hgx : xs[q] = x at hc1 hc2 HS
          clear hgx
          obtain ⟨x1, x2⟩ := x
          dsimp only at hc1 hc2
          by_cases h1 : x1 < 0
          · go_wp2
            go_ret
            exact ⟨rfl, (hBw.trans (hB.mono hb6)).alloc (by omega) _⟩
          · have h1' : decide (x1 < 0) = false := by simp; omega
            by_cases h2 : x2 < x1
            · go_wp2
              go_ret
              exact ⟨rfl, (hBw.trans (hB.mono hb6)).alloc (by omega) _⟩
            · have h2' : decide (x2 < x1) = false := by simp; omega
              by_cases h3 : (s.size : Int) < x2
              · go_wp2
                go_ret
                exact ⟨rfl, (hBw.trans (hB.mono hb6)).alloc (by omega) _⟩
              · have h3' : decide ((s.size : Int) < x2) = false := by simp; omega
                have HS2 := Lib.hid (HS.out (by simp [goodB]; omega))
                go_wp2
                go_roundw
                case rel => exact ⟨q + 1, by omega, by go_num, HS2.out, hB.alloc hbs _⟩
                case measure => simp [intOf]; omega
        · exfalso
          apply HG.out
          intro x hx
          obtain ⟨j, hj, rfl⟩ := List.getElem_of_mem hx
          exact HA.out j hj (by have := HL.out; omega)

end Go.Proofs.Ytjimkfniahndhaa
