/-
  token.tokenAt, token.Next.
-/
import Derived.Test.YtdknejmhlfpdfaaGreatDoorTokenAt
namespace Go.Proofs.YtdknejmhlfpdfaaGreatDoor
open Go.RowKit

theorem drop_cons (s : ByteArray) (k : Nat) (hk : k < s.size) : s.data.toList.drop k = s[k] :: s.data.toList.drop (k + 1) :=
  List.drop_eq_getElem_cons (by rw [sizeL]; exact hk)
theorem tokL_name (s : ByteArray) (k : Nat) (hk : k < s.size) (h : isLet s[k] = true) : tokL (s.data.toList.drop k) = (nameK ((s.data.toList.drop k).take (run isAl (s.data.toList.drop k))), run isAl (s.data.toList.drop k)) := by
  rw [drop_cons s k hk]; simp only [tokL]; rw [if_pos h]
theorem tokL_num (s : ByteArray) (k : Nat) (hk : k < s.size) (h : isLet s[k] = false) (hd : isDig s[k] = true) : tokL (s.data.toList.drop k) = (if numBad (s.data.toList.drop k) (run isDig (s.data.toList.drop k)) then 0 else 2, if numBad (s.data.toList.drop k) (run isDig (s.data.toList.drop k)) then 0 else run isDig (s.data.toList.drop k)) := by
  rw [drop_cons s k hk]; simp only [tokL]; rw [if_neg (by rw [h]; simp), if_pos hd]
  split <;> rfl
theorem tokL_sign (s : ByteArray) (k : Nat) (hk : k < s.size) (h : isLet s[k] = false) (hd : isDig s[k] = false) : tokL (s.data.toList.drop k) = (signKL (s.data.toList.drop k), signL (s.data.toList.drop k)) := by
  rw [drop_cons s k hk]; simp only [tokL]; rw [if_neg (by rw [h]; simp), if_neg (by rw [hd]; simp)]
  unfold signKL
  split
  · rename_i h; rw [h]
  · rfl

set_option maxRecDepth 100000 in
set_option maxHeartbeats 1000000 in
theorem tokenAt_calls (s : ByteArray) (hs : s.size ≤ 100000) (k : Nat) (hk : k ≤ s.size) (w : World) (hw : Tabs w) :
    Calls Tryz.prog 70 #[.string s, .int .i64 (k : Int)] w fun e w' => e = .returned (.tuple #[.int .i64 (((tokL (s.data.toList.drop k)).1 : Nat) : Int), .int .i64 ((k + (tokL (s.data.toList.drop k)).2 : Nat) : Int)]) ∧ Below w.heap.size w w' := by
  by_cases hlt : k < s.size
  · have hne : ((k : Int) == (s.size : Int)) = false := by rw [beq_eq_false_iff_ne]; omega
    have hl := Lib.hid (fun w => isLetter_calls s[k] w)
    have hd := Lib.hid (fun w => isDigit_calls s[k] w)
    cases el : isLet s[k]
    · cases ed : isDig s[k]
      · have hc := Lib.hid (signAt_calls s hs k hk w hw)
        rw [tokL_sign s k hlt el ed]
        rw [el] at hl
        rw [ed] at hd
        clear el ed hw
        go_enter Tryz.func70, Tryz.ntmps70
        go_wp2_with (first | (go_at_call 83; refine (hl.out _).mono ?_; rintro e w' ⟨rfl, rfl⟩) | (go_at_call 85; refine (hd.out _).mono ?_; rintro e w' ⟨rfl, rfl⟩) | (go_at_call 87; refine hc.out.mono ?_; rintro e w' ⟨rfl, rfl⟩))
        go_ret2
        exact ⟨rfl, Below.refl _ _⟩
      · have hc := numberAt_calls s hs k hlt w
        have e1 := congrArg Prod.fst (tokL_num s k hlt el ed)
        have e2 := congrArg Prod.snd (tokL_num s k hlt el ed)
        dsimp only at e1 e2
        rw [← e1, ← e2] at hc
        clear e1 e2
        generalize tokL (s.data.toList.drop k) = kl at hc ⊢
        obtain ⟨kd, ln⟩ := kl
        dsimp only at hc ⊢
        have hc := Lib.hid hc
        rw [el] at hl
        rw [ed] at hd
        clear el ed hw
        go_enter Tryz.func70, Tryz.ntmps70
        go_wp2_with (first | (go_at_call 83; refine (hl.out _).mono ?_; rintro e w' ⟨rfl, rfl⟩) | (go_at_call 85; refine (hd.out _).mono ?_; rintro e w' ⟨rfl, rfl⟩) | (go_at_call 86; refine hc.out.mono ?_; rintro e w' ⟨rfl, hB⟩))
        go_ret2
        exact ⟨rfl, hB⟩
    · have hc := Lib.hid (nameAt_calls s hs k hlt w hw)
      rw [tokL_name s k hlt el]
      rw [el] at hl
      clear el hw
      go_enter Tryz.func70, Tryz.ntmps70
      go_wp2_with (first | (go_at_call 83; refine (hl.out _).mono ?_; rintro e w' ⟨rfl, rfl⟩) | (go_at_call 84; refine hc.out.mono ?_; rintro e w' ⟨rfl, hB⟩))
      go_ret2
      exact ⟨rfl, hB⟩
  · obtain rfl : k = s.size := by omega
    have h0 : s.data.toList.drop s.size = [] := List.drop_eq_nil_of_le (by rw [sizeL]; omega)
    rw [h0]
    clear h0
    go_enter Tryz.func70, Tryz.ntmps70
    go_wp2
    go_ret2
    exact ⟨rfl, Below.refl _ _⟩

def tokV (x : Tok) : Value := .agg #[.int .i64 (x.kind : Int), .int .i64 (x.lo : Int), .int .i64 (x.hi : Int)]
def badC (b : Bool) : Int := if b then 2 else 0

theorem box3_kept (w : World) (s : ByteArray) {w2 : World} (hB : Below ((w.alloc (.cells #[.int .i64 0, .int .i64 0, .int .i64 0] 56)).alloc (.cells #[.string s] 9)).heap.size ((w.alloc (.cells #[.int .i64 0, .int .i64 0, .int .i64 0] 56)).alloc (.cells #[.string s] 9)) w2) :
    w2.cell? ⟨w.heap.size, 0, none⟩ = some (.int .i64 0) ∧ w2.cell? ⟨w.heap.size, 1, none⟩ = some (.int .i64 0) ∧ w2.cell? ⟨w.heap.size, 2, none⟩ = some (.int .i64 0) ∧
    w2.frozen? ⟨w.heap.size, 0, none⟩ = false ∧ w2.frozen? ⟨w.heap.size, 1, none⟩ = false ∧ w2.frozen? ⟨w.heap.size, 2, none⟩ = false := by
  refine ⟨?_, ?_, ?_, ?_, ?_, ?_⟩
  · rw [hB.cell (p := ⟨w.heap.size, 0, none⟩) (by simp; omega)]; simp
  · rw [hB.cell (p := ⟨w.heap.size, 1, none⟩) (by simp; omega)]; simp
  · rw [hB.cell (p := ⟨w.heap.size, 2, none⟩) (by simp; omega)]; simp
  · rw [hB.frozen (p := ⟨w.heap.size, 0, none⟩) (by simp; omega)]; simp
  · rw [hB.frozen (p := ⟨w.heap.size, 1, none⟩) (by simp; omega)]; simp
  · rw [hB.frozen (p := ⟨w.heap.size, 2, none⟩) (by simp; omega)]; simp
theorem next_below (w : World) (s : ByteArray) {w2 : World} (hB : Below ((w.alloc (.cells #[.int .i64 0, .int .i64 0, .int .i64 0] 56)).alloc (.cells #[.string s] 9)).heap.size ((w.alloc (.cells #[.int .i64 0, .int .i64 0, .int .i64 0] 56)).alloc (.cells #[.string s] 9)) w2) (o : Obj) (a b c : Value) :
    Below w.heap.size w ((((w2.setCell ⟨w.heap.size, 0, none⟩ a).setCell ⟨w.heap.size, 1, none⟩ b).setCell ⟨w.heap.size, 2, none⟩ c).alloc o) := by
  have h1 : Below w.heap.size w w2 := (((Below.refl _ w).alloc (Nat.le_refl _) _).alloc (by simp) _).trans (hB.mono (by simp; omega))
  have h2 := ((h1.setCell (p := ⟨w.heap.size, 0, none⟩) (by simp) a).setCell (p := ⟨w.heap.size, 1, none⟩) (by simp) b).setCell (p := ⟨w.heap.size, 2, none⟩) (by simp) c
  exact h2.alloc h2.size _

set_option maxRecDepth 100000 in
set_option maxHeartbeats 1000000 in
theorem tnext_calls (s : ByteArray) (hs : s.size ≤ 100000) (k : Nat) (hk : k ≤ s.size) (w : World) (hw : Tabs w) :
    Calls Tryz.prog 52 #[.string s, .int .i64 (k : Int)] w fun e w' => e = .returned (.tuple #[tokV (nextT s.data.toList k), .int .i64 (badC (nextBad s.data.toList k))]) ∧ Below w.heap.size w w' := by
  have h0 : decide ((k : Int) < 0) = false := by simp
  have h1 : decide ((s.size : Int) < (k : Int)) = false := by simp; omega
  have hle := skipTo_le false s.data.toList k (by rw [sizeL]; exact hk)
  rw [sizeL] at hle
  have HX : Hid (nextT s.data.toList k = ⟨(tokL (s.data.toList.drop (skipTo false s.data.toList k))).1, skipTo false s.data.toList k, skipTo false s.data.toList k + (tokL (s.data.toList.drop (skipTo false s.data.toList k))).2⟩) := Lib.hid rfl
  have HB : Hid (nextBad s.data.toList k = ((nextT s.data.toList k).hi == (nextT s.data.toList k).lo && decide ((nextT s.data.toList k).lo < s.data.toList.length))) := Lib.hid rfl
  have hb := Lib.hid (fun w => behind_calls s hs k hk w)
  have ht := Lib.hid (fun w hw => tokenAt_calls s hs (skipTo false s.data.toList k) hle.2 w hw)
  have htl := tokL_le (s.data.toList.drop (skipTo false s.data.toList k))
  rw [List.length_drop, sizeL] at htl
  generalize skipTo false s.data.toList k = f at hle HX hb ht htl
  generalize tokL (s.data.toList.drop f) = kl at HX ht htl
  obtain ⟨kd, ln⟩ := kl
  obtain ⟨hf1, hf2⟩ := hle
  dsimp only at HX ht htl
  rw [HB.out, HX.out, sizeL]
  dsimp only
  clear HX HB
  have hT : Tabs ((w.alloc (.cells #[.int .i64 0, .int .i64 0, .int .i64 0] 56)).alloc (.cells #[.string s] 9)) := (hw.below ((Below.refl _ w).alloc (Nat.le_refl _) _) hw.2.2).below ((Below.refl _ _).alloc (Nat.le_refl _) _) (by have := hw.2.2; simp; omega)
  have HT := Lib.hid hT
  clear hw hT
  by_cases h2 : ln = 0
  · subst h2
    have h3 : (((f + 0 : Nat) : Int) == (f : Int)) = true := by simp
    by_cases h4 : f < s.size
    · have h5 : ((f + 0 == f) && decide (f < s.size)) = true := by simp [h4]
      rw [h5]
      clear h5
      go_enter Tryz.func52, Tryz.ntmps52
      go_wp2_with fail
      refine (hb.out _).mono ?_
      rintro e w1 ⟨rfl, rfl⟩
      go_wp2_with fail
      refine (ht.out _ HT.out).mono ?_
      rintro e w2 ⟨rfl, hB⟩
      have hz : w.heap.size < w2.heap.size := by have := hB.size; simp at this; omega
      obtain ⟨c0, c1, c2, f0, f1, f2⟩ := box3_kept w s hB
      have HB2 := Lib.hid (next_below w s hB)
      clear hB
      go_wp2
      refine bodyPost_ret (v := .tuple #[tokV ⟨kd, f, f + 0⟩, .int .i64 (badC true)]) (by simp [results, Tryz.results52, go_sem, tokV, badC, hz, c0, c1, c2]) rfl ⟨rfl, ?_⟩
      exact HB2.out _ _ _ _
    · have h6 : decide ((f : Int) < (s.size : Int)) = false := by simp; omega
      have h5 : ((f + 0 == f) && decide (f < s.size)) = false := by simp [h4]
      rw [h5]
      clear h5
      go_enter Tryz.func52, Tryz.ntmps52
      go_wp2_with fail
      refine (hb.out _).mono ?_
      rintro e w1 ⟨rfl, rfl⟩
      go_wp2_with fail
      refine (ht.out _ HT.out).mono ?_
      rintro e w2 ⟨rfl, hB⟩
      have hz : w.heap.size < w2.heap.size := by have := hB.size; simp at this; omega
      obtain ⟨c0, c1, c2, f0, f1, f2⟩ := box3_kept w s hB
      have HB2 := Lib.hid (next_below w s hB)
      clear hB
      go_wp2
      refine bodyPost_ret (v := .tuple #[tokV ⟨kd, f, f + 0⟩, .int .i64 (badC false)]) (by simp [results, Tryz.results52, go_sem, tokV, badC, hz, c0, c1, c2]) rfl ⟨rfl, ?_⟩
      exact HB2.out _ _ _ _
  · have h3 : (((f + ln : Nat) : Int) == (f : Int)) = false := by rw [beq_eq_false_iff_ne]; omega
    have h3' : ((f : Int) + (ln : Int) == (f : Int)) = false := by rw [beq_eq_false_iff_ne]; omega
    have h5 : ((f + ln == f) && decide (f < s.size)) = false := by
      have : (f + ln == f) = false := by rw [beq_eq_false_iff_ne]; omega
      rw [this]; rfl
    rw [h5]
    clear h5
    have h7 : (f : Int) + (ln : Int) ≤ 100000 := by omega
    go_enter Tryz.func52, Tryz.ntmps52
    go_wp2_with fail
    refine (hb.out _).mono ?_
    rintro e w1 ⟨rfl, rfl⟩
    go_wp2_with fail
    refine (ht.out _ HT.out).mono ?_
    rintro e w2 ⟨rfl, hB⟩
    have hz : w.heap.size < w2.heap.size := by have := hB.size; simp at this; omega
    obtain ⟨c0, c1, c2, f0, f1, f2⟩ := box3_kept w s hB
    have HB2 := Lib.hid (next_below w s hB)
    clear hB
    go_wp2
    refine bodyPost_ret (v := .tuple #[tokV ⟨kd, f, f + ln⟩, .int .i64 (badC false)]) (by simp [results, Tryz.results52, go_sem, tokV, badC, hz, c0, c1, c2]) rfl ⟨rfl, ?_⟩
    exact HB2.out _ _ _ _

end Go.Proofs.YtdknejmhlfpdfaaGreatDoor
