/-
  So many statements: the text's tokens, and what the grammar makes of them.
-/
import Derived.Test.YtccmodefjgjpeaaGreatDoorPRes
namespace Go.Proofs.YtccmodefjgjpeaaGreatDoor

theorem nextT_of (t : List UInt8) (k : Nat) (r : List UInt8) (h : t.drop k = r) (hs : skipL false r = 0) : nextT t k = ⟨(tokL r).1, k, k + (tokL r).2⟩ := by
  have e : skipTo false t k = k := by unfold skipTo; rw [h, hs]; rfl
  simp only [nextT, e, h]
theorem bad_of_ne (t : List UInt8) (k : Nat) (h : (nextT t k).hi ≠ (nextT t k).lo) : nextBad t k = false := by
  unfold nextBad
  rw [show ((nextT t k).hi == (nextT t k).lo) = false from beq_eq_false_iff_ne.2 h]
  rfl
/-- A token of so many bytes ahead, and then the rest. -/
theorem toks_cons (t : List UInt8) (k : Nat) (x r : List UInt8) (kd : Nat) (h : t.drop k = x ++ r) (hk : k ≤ t.length) (hx : x ≠ []) (h0 : kd ≠ 0) (ht : tokL (x ++ r) = (kd, x.length)) (hs : skipL false (x ++ r) = 0) : toks t k = (⟨kd, k, k + x.length⟩ :: (toks t (k + x.length)).1, (toks t (k + x.length)).2) := by
  have hn := nextT_of t k _ h hs
  rw [ht] at hn
  have hl : 0 < x.length := List.length_pos_iff.2 hx
  rw [toks_more t k hk (bad_of_ne t k (by rw [hn]; show k + x.length ≠ k; omega)) (by rw [hn]; exact h0), hn]
def kRet : List UInt8 := [114, 101, 116, 117, 114, 110]
theorem tok_ret (r : List UInt8) : tokL (kRet ++ 59 :: r) = (3, 6) := by rfl
theorem tok_semi (c : UInt8) (r : List UInt8) (h : c = 114 ∨ c = 125) : tokL ([59] ++ c :: r) = (4, 1) := by
  rcases h with rfl | rfl <;> rfl
theorem tok_shut : tokL ([125] ++ []) = (4, 1) := by rfl
/-- The tokens of so many statements from a place on, and of the end. -/
def retsT : Nat → Nat → List Tok
  | 0, p => [⟨4, p, p + 1⟩, ⟨0, p + 1, p + 1⟩]
  | n + 1, p => ⟨3, p, p + 6⟩ :: ⟨4, p + 6, p + 7⟩ :: retsT n (p + 7)
def retsB : Nat → List UInt8
  | 0 => [125]
  | n + 1 => kRet ++ 59 :: retsB n
theorem retsB_head (n : Nat) : ∃ c r, retsB n = c :: r ∧ (c = 114 ∨ c = 125) := by
  cases n with
  | zero => exact ⟨125, [], rfl, .inr rfl⟩
  | succ n => exact ⟨114, _, rfl, .inl rfl⟩
theorem toks_rets (t : List UInt8) : ∀ n p, p ≤ t.length → t.drop p = retsB n → toks t p = (retsT n p, none)
  | 0, p, hp, h => by
    have h1 := toks_cons t p [125] [] 4 (by rw [h]; rfl) hp (by simp) (by decide) tok_shut (by rfl)
    have hl : t.length = p + 1 := by
      have := congrArg List.length h
      simp [retsB] at this
      omega
    have hd : t.drop (p + 1) = [] := List.drop_eq_nil_of_le (by omega)
    have hn := nextT_of t (p + 1) [] hd rfl
    have hb : nextBad t (p + 1) = false := by
      unfold nextBad; rw [hn]; simp [hl]
    have h2 := toks_end t (p + 1) hb (by rw [hn]; rfl)
    rw [h1, show p + ([125] : List UInt8).length = p + 1 from rfl, h2, hn]
    rfl
  | n + 1, p, hp, h => by
    obtain ⟨c, r, hc, hcc⟩ := retsB_head n
    have h1 := toks_cons t p kRet (59 :: retsB n) 3 h hp (by decide) (by decide) (tok_ret _) (by rfl)
    have hd6 : t.drop (p + 6) = [59] ++ c :: r := by
      rw [← List.drop_drop, h, ← hc]; rfl
    have hl : p + 7 ≤ t.length := by
      have := congrArg List.length hd6
      simp at this
      omega
    have h2 := toks_cons t (p + 6) [59] (c :: r) 4 hd6 (by omega) (by decide) (by decide) (tok_semi c r hcc) (by rcases hcc with rfl | rfl <;> rfl)
    have hd7 : t.drop (p + 7) = retsB n := by
      rw [show p + 7 = p + 6 + 1 from rfl, ← List.drop_drop, hd6, hc]; rfl
    have h3 := toks_rets t n (p + 7) hl hd7
    rw [h1, show p + kRet.length = p + 6 from rfl, h2, show p + 6 + ([59] : List UInt8).length = p + 7 from rfl, h3]
    rfl

/-- A statement 'return;'. -/
theorem ret_stmt (T : List Tk) (s : Sg) (l h l2 h2 : Nat) (h1 : cur T s = ⟨3, l, h, kReturn⟩) (hs : cur T { s with at_ := s.at_ + 1 } = ⟨4, l2, h2, [59]⟩) (k : Nat) :
    stmtM T (k + 1) s = if 1000 < s.st.length then .no 5 s.at_ else .ok s.st.length { s with at_ := s.at_ + 2, st := s.st ++ [{ kind := 9, a := -1, lo := l, hi := lastHi T { s with at_ := s.at_ + 2 } }] } := by
  by_cases hm : 1000 < s.st.length
  · rw [if_pos hm]
    simp [stmtM, stmtS, fieldsM, simpleM, answerM, bd, isP, isK, takeP, nextP, h1, hm, kIf, kWhile, kVar, kReturn]
  · rw [if_neg hm]
    simp [stmtM, stmtS, fieldsM, simpleM, answerM, bd, isP, isK, takeP, nextP, h1, hs, hm, kIf, kWhile, kVar, kReturn, okP, putS, lastHi]

/-- The same with their bytes. -/
def retsK : Nat → Nat → List Tk
  | 0, p => [⟨4, p, p + 1, [125]⟩, ⟨0, p + 1, p + 1, []⟩]
  | n + 1, p => ⟨3, p, p + 6, kReturn⟩ :: ⟨4, p + 6, p + 7, [59]⟩ :: retsK n (p + 7)
theorem retsK_of (t : List UInt8) : ∀ n p, t.drop p = retsB n → (retsT n p).map (tkOf t) = retsK n p
  | 0, p, h => by
    have e1 : (t.drop p).take 1 = [125] := by rw [h]; rfl
    simp [retsT, retsK, tkOf, bytesOf, e1]
  | n + 1, p, h => by
    have e1 : (t.drop p).take 6 = kReturn := by rw [h]; rfl
    have hd6 : t.drop (p + 6) = 59 :: retsB n := by rw [← List.drop_drop, h]; rfl
    have e2 : (t.drop (p + 6)).take 1 = [59] := by rw [hd6]; rfl
    have hd7 : t.drop (p + 7) = retsB n := by rw [show p + 7 = p + 6 + 1 from rfl, ← List.drop_drop, hd6]; rfl
    have ih := retsK_of t n (p + 7) hd7
    simp [retsT, retsK, tkOf, bytesOf, e1, ih, show p + 7 - (p + 6) = 1 by omega, e2]
theorem cur_drop {T : List Tk} {s : Sg} {x : Tk} {r : List Tk} (h : T.drop s.at_ = x :: r) : cur T s = x := by
  unfold cur
  have h1 : T[s.at_]? = some x := by
    have := congrArg (·[0]?) h
    simpa using this
  simp [List.getD, h1]
theorem drop_next {T : List Tk} {k : Nat} {x : Tk} {r : List Tk} (h : T.drop k = x :: r) : T.drop (k + 1) = r := by
  rw [← List.drop_drop, h]; rfl
/-- Few enough statements: all are put. -/
theorem rets_ok (T : List Tk) (k : Nat) : ∀ n p fuel out s, T.drop s.at_ = retsK n p → n < fuel → s.st.length + n ≤ 1000 →
    ∃ out' s' p', blockL T (stmtM T (k + 1)) fuel out s = .ok out' s' ∧ T.drop s'.at_ = retsK 0 p' ∧ s'.st.length = s.st.length + n ∧ s'.fn = s.fn
  | 0, p, fuel + 1, out, s, h, hf, hm => by
    have h1 := cur_drop (x := ⟨4, p, p + 1, [125]⟩) h
    refine ⟨out, s, p, ?_, h, rfl, rfl⟩
    simp [blockL, isP, h1]
  | n + 1, p, fuel + 1, out, s, h, hf, hm => by
    have h1 := cur_drop (x := ⟨3, p, p + 6, kReturn⟩) h
    have h2 := drop_next h
    have h3 := cur_drop (s := { s with at_ := s.at_ + 1 }) (x := ⟨4, p + 6, p + 7, [59]⟩) h2
    have h4 : T.drop (s.at_ + 2) = retsK n (p + 7) := drop_next h2
    have hr := ret_stmt T s _ _ _ _ h1 h3 k
    rw [if_neg (by omega)] at hr
    obtain ⟨out', s', p', e1, e2, e3, e4⟩ := rets_ok T k n (p + 7) fuel (out ++ [s.st.length]) { s with at_ := s.at_ + 2, st := s.st ++ [{ kind := 9, a := -1, lo := p, hi := lastHi T { s with at_ := s.at_ + 2 } }] } h4 (by omega) (by simp; omega)
    refine ⟨out', s', p', ?_, e2, by rw [e3]; simp; omega, e4⟩
    simp only [blockL, isP, h1]
    rw [if_neg (by decide), bd_ok hr, e1]
  | n, p, 0, out, s, h, hf, hm => by omega
/-- Too many: it ends at one of them, or behind. -/
theorem rets_no (T : List Tk) (k : Nat) : ∀ n p fuel out s, T.drop s.at_ = retsK n p → n < fuel → 1000 < s.st.length + n →
    ∃ i, bd (blockL T (stmtM T (k + 1)) fuel out) (fun l => bd (takeP T [[125]]) fun _ => okP l) s = .no 5 i
  | 0, p, fuel + 1, out, s, h, hf, hm => by
    have h1 := cur_drop (x := ⟨4, p, p + 1, [125]⟩) h
    have hm' : 1000 < s.st.length := by omega
    refine ⟨s.at_, ?_⟩
    simp [blockL, isP, h1, bd, takeP, nextP, hm']
  | n + 1, p, fuel + 1, out, s, h, hf, hm => by
    have h1 := cur_drop (x := ⟨3, p, p + 6, kReturn⟩) h
    have h2 := drop_next h
    have h3 := cur_drop (s := { s with at_ := s.at_ + 1 }) (x := ⟨4, p + 6, p + 7, [59]⟩) h2
    have h4 : T.drop (s.at_ + 2) = retsK n (p + 7) := drop_next h2
    have hr := ret_stmt T s _ _ _ _ h1 h3 k
    have hb : blockL T (stmtM T (k + 1)) (fuel + 1) out s = bd (stmtM T (k + 1)) (fun x => blockL T (stmtM T (k + 1)) fuel (out ++ [x])) s := by
      conv => lhs; unfold blockL
      simp only [isP, h1]
      rw [if_neg (by decide)]
    by_cases hm' : 1000 < s.st.length
    · rw [if_pos hm'] at hr
      exact ⟨s.at_, by rw [bd_no (hb.trans (bd_no hr))]⟩
    · rw [if_neg hm'] at hr
      obtain ⟨i, hi⟩ := rets_no T k n (p + 7) fuel (out ++ [s.st.length]) { s with at_ := s.at_ + 2, st := s.st ++ [{ kind := 9, a := -1, lo := p, hi := lastHi T { s with at_ := s.at_ + 2 } }] } h4 (by omega) (by simp; omega)
      refine ⟨i, ?_⟩
      rw [← hi]
      unfold bd
      rw [hb, bd_ok hr]
  | n, p, 0, out, s, h, hf, hm => by omega

def manyB (n : Nat) : List UInt8 := 102 :: 117 :: 110 :: 99 :: 32 :: 109 :: 97 :: 105 :: 110 :: 40 :: 41 :: 32 :: 123 :: retsB n
theorem manyB_len (n : Nat) : 13 ≤ (manyB n).length := by simp [manyB]
theorem toks_many (n : Nat) : toks (manyB n) 0 = (⟨3, 0, 4⟩ :: ⟨1, 5, 9⟩ :: ⟨4, 9, 10⟩ :: ⟨4, 10, 11⟩ :: ⟨4, 12, 13⟩ :: retsT n 13, none) := by
  have hl := manyB_len n
  obtain ⟨c, r, hc, hcc⟩ := retsB_head n
  have e0 := toks_cons (manyB n) 0 [102, 117, 110, 99] (32 :: 109 :: 97 :: 105 :: 110 :: 40 :: 41 :: 32 :: 123 :: retsB n) 3 rfl (by omega) (by decide) (by decide) (by rfl) (by rfl)
  have e1 : toks (manyB n) 4 = toks (manyB n) 5 := toks_from _ _ _ (by omega) (by omega) (by rfl)
  have e2 := toks_cons (manyB n) 5 [109, 97, 105, 110] (40 :: 41 :: 32 :: 123 :: retsB n) 1 rfl (by omega) (by decide) (by decide) (by rfl) (by rfl)
  have e3 := toks_cons (manyB n) 9 [40] (41 :: 32 :: 123 :: retsB n) 4 rfl (by omega) (by decide) (by decide) (by rfl) (by rfl)
  have e4 := toks_cons (manyB n) 10 [41] (32 :: 123 :: retsB n) 4 rfl (by omega) (by decide) (by decide) (by rfl) (by rfl)
  have e5 : toks (manyB n) 11 = toks (manyB n) 12 := toks_from _ _ _ (by omega) (by omega) (by rfl)
  have e6 := toks_cons (manyB n) 12 [123] (retsB n) 4 rfl (by omega) (by decide) (by decide) (by rw [hc]; rcases hcc with rfl | rfl <;> rfl) (by rfl)
  have e7 := toks_rets (manyB n) n 13 hl rfl
  rw [e0, show 0 + ([102, 117, 110, 99] : List UInt8).length = 4 from rfl, e1, e2, show 5 + ([109, 97, 105, 110] : List UInt8).length = 9 from rfl, e3, show 9 + ([40] : List UInt8).length = 10 from rfl, e4, show 10 + ([41] : List UInt8).length = 11 from rfl, e5, e6, show 12 + ([123] : List UInt8).length = 13 from rfl, e7]
theorem tks_many (n : Nat) : tksL (manyB n) = ⟨3, 0, 4, kFunc⟩ :: ⟨1, 5, 9, [109, 97, 105, 110]⟩ :: ⟨4, 9, 10, [40]⟩ :: ⟨4, 10, 11, [41]⟩ :: ⟨4, 12, 13, [123]⟩ :: retsK n 13 := by
  unfold tksL
  rw [toks_many]
  simp only [List.map_cons]
  rw [retsK_of (manyB n) n 13 rfl]
  rfl

theorem many_block (T : List Tk) (n : Nat) (hT : T = ⟨3, 0, 4, kFunc⟩ :: ⟨1, 5, 9, [109, 97, 105, 110]⟩ :: ⟨4, 9, 10, [40]⟩ :: ⟨4, 10, 11, [41]⟩ :: ⟨4, 12, 13, [123]⟩ :: retsK n 13) :
    functionM T start = bd (bd (takeP T [[123]]) fun _ => bd (blockL T (stmtM T 64) (T.length + 1) []) fun l => bd (takeP T [[125]]) fun _ => okP l) (fun body => putF T 0 { name := [109, 97, 105, 110], params := [], ty := 4, body := body }) ⟨4, [], [], []⟩ := by
  have c0 : cur T start = ⟨3, 0, 4, kFunc⟩ := by rw [hT]; rfl
  have c1 : cur T ⟨1, [], [], []⟩ = ⟨1, 5, 9, [109, 97, 105, 110]⟩ := by rw [hT]; rfl
  have c2 : cur T ⟨2, [], [], []⟩ = ⟨4, 9, 10, [40]⟩ := by rw [hT]; rfl
  have c3 : cur T ⟨3, [], [], []⟩ = ⟨4, 10, 11, [41]⟩ := by rw [hT]; rfl
  have c4 : cur T ⟨4, [], [], []⟩ = ⟨4, 12, 13, [123]⟩ := by rw [hT]; rfl
  have t0 : takeP T [kFunc] start = .ok kFunc ⟨1, [], [], []⟩ := by show takeP T [kFunc] ⟨0, [], [], []⟩ = _; simp [takeP, isP, nextP, show cur T ⟨0, [], [], []⟩ = ⟨3, 0, 4, kFunc⟩ from c0]
  have t1 : takeK T 1 ⟨1, [], [], []⟩ = .ok [109, 97, 105, 110] ⟨2, [], [], []⟩ := by simp [takeK, isK, nextP, c1]
  have t2 : listM T (takeK T 1) ⟨2, [], [], []⟩ = .ok [] ⟨4, [], [], []⟩ := by simp [listM, bd, takeP, isP, nextP, c2, c3, listL, okP]
  have i0 : (isP T [kFunc] start && start.fn.length == 32) = false := by simp [start]
  have i4 : isP T [kInt] ⟨4, [], [], []⟩ = false := by simp [isP, c4, kInt]
  unfold functionM
  rw [if_neg (by rw [i0]; simp), bd_ok t0, bd_ok t1, bd_ok t2]
  rw [bd_ok (show (fun s1 => if isP T [kInt] s1 = true then bd (takeP T [kInt]) (fun _ => okP 1) s1 else .ok 4 s1 : Ps Nat) ⟨4, [], [], []⟩ = .ok 4 ⟨4, [], [], []⟩ by simp [i4])]
  rw [c0]
  rfl

theorem prog_many (n : Nat) : (n ≤ 1000 → ∃ s, programM (tksL (manyB n)) start = .ok () s) ∧ (1000 < n → ∃ i, programM (tksL (manyB n)) start = .no 5 i) := by
  have hT := tks_many n
  generalize tksL (manyB n) = T at hT
  have hb := many_block T n hT
  have c4 : cur T ⟨4, [], [], []⟩ = ⟨4, 12, 13, [123]⟩ := by rw [hT]; rfl
  have t4 : takeP T [[123]] ⟨4, [], [], []⟩ = .ok [123] ⟨5, [], [], []⟩ := by simp [takeP, isP, nextP, c4]
  have hd : T.drop (⟨5, [], [], []⟩ : Sg).at_ = retsK n 13 := by rw [hT]; rfl
  have hl : n < T.length + 1 := by
    have : ∀ n p, n ≤ (retsK n p).length := by
      intro n
      induction n with
      | zero => intro p; exact Nat.zero_le _
      | succ n ih => intro p; have := ih (p + 7); simp [retsK]; omega
    have := this n 13
    rw [hT]; simp; omega
  constructor
  · intro hn
    obtain ⟨out, s', p', e1, e2, e3, e4⟩ := rets_ok T 63 n 13 (T.length + 1) [] ⟨5, [], [], []⟩ hd hl (by simpa using hn)
    have c5 := cur_drop (x := ⟨4, p', p' + 1, [125]⟩) e2
    have hm : ¬ 1000 < s'.st.length := by rw [e3]; simp; omega
    have t5 : takeP T [[125]] s' = .ok [125] { s' with at_ := s'.at_ + 1 } := by simp [takeP, isP, nextP, c5, hm]
    rw [bd_ok (show bd (takeP T [[123]]) (fun _ => bd (blockL T (stmtM T 64) (T.length + 1) []) fun l => bd (takeP T [[125]]) fun _ => okP l) ⟨4, [], [], []⟩ = .ok out { s' with at_ := s'.at_ + 1 } by rw [bd_ok t4, bd_ok e1, bd_ok t5]; rfl)] at hb
    have c6 := drop_next e2
    have hb' : functionM T start = .ok () { s' with at_ := s'.at_ + 1, fn := s'.fn ++ [{ name := [109, 97, 105, 110], lo := 0, hi := lastHi T { s' with at_ := s'.at_ + 1 }, params := [], ty := 4, body := out }] } := hb
    refine ⟨{ s' with at_ := s'.at_ + 1, fn := s'.fn ++ [{ name := [109, 97, 105, 110], lo := 0, hi := lastHi T { s' with at_ := s'.at_ + 1 }, params := [], ty := 4, body := out }] }, ?_⟩
    unfold programM
    rw [bd_ok hb']
    unfold programL
    have c7 := cur_drop (s := { s' with at_ := s'.at_ + 1, fn := s'.fn ++ [{ name := [109, 97, 105, 110], lo := 0, hi := lastHi T { s' with at_ := s'.at_ + 1 }, params := [], ty := 4, body := out }] }) (x := ⟨0, p' + 1, p' + 1, []⟩) c6
    rw [if_pos (show isK T 0 _ = true by simp [isK, c7])]
  · intro hn
    obtain ⟨i, hi⟩ := rets_no T 63 n 13 (T.length + 1) [] ⟨5, [], [], []⟩ hd hl (by simpa using hn)
    refine ⟨i, ?_⟩
    unfold programM
    rw [bd_no (hb.trans (bd_no (show bd (takeP T [[123]]) _ ⟨4, [], [], []⟩ = .no 5 i by rw [bd_ok t4]; exact hi)))]
theorem many_res (n : Nat) : (n ≤ 1000 → ∃ s, parseT (manyB n) = .good s) ∧ (1000 < n → ∃ p, parseT (manyB n) = .bad p 5) := by
  have h := prog_many n
  have hn : (toks (manyB n) 0).2 = none := by rw [toks_many]
  constructor
  · intro h1
    obtain ⟨s, hs⟩ := h.1 h1
    exact ⟨s, by unfold parseT; rw [hn, hs]⟩
  · intro h1
    obtain ⟨i, hi⟩ := h.2 h1
    exact ⟨_, by unfold parseT; rw [hn, hi]⟩

end Go.Proofs.YtccmodefjgjpeaaGreatDoor
