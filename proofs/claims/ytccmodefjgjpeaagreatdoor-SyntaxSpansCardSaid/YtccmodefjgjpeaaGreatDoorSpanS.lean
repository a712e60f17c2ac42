/-
  Where statements stand: within those in whose lists they are; each is in one list.
-/
import Derived.Test.YtccmodefjgjpeaaGreatDoorSpanM
namespace Go.Proofs.YtccmodefjgjpeaaGreatDoor

section
variable {T : List Tk} {n : Nat}
def refs (S : List Sm) : List Nat := S.flatMap fun x => x.thn ++ x.els
theorem refs_app (a b : List Sm) : refs (a ++ b) = refs a ++ refs b := by simp [refs]
def StOk (S : List Sm) : Prop := ∀ (i : Nat) (x : Sm), S[i]? = some x → ∀ k ∈ x.thn ++ x.els, ∃ y : Sm, S[k]? = some y ∧ k < i ∧ x.lo ≤ y.lo ∧ y.hi ≤ x.hi
/-- One goes on; l: statements that were put, and are in no list yet. -/
structure SS (n : Nat) (s : Sg) (l : List Nat) (s1 : Sg) : Prop where
  ex : ExOk s1.ex
  st : StOk s1.st
  fn : s1.fn = s.fn
  le : s.at_ ≤ s1.at_
  n : s1.at_ ≤ n
  new : ∃ N, s1.st = s.st ++ N ∧ ∀ k, (refs N ++ l).count k = if s.st.length ≤ k ∧ k < s1.st.length then 1 else 0
theorem ES.ss {s s1 : Sg} (h : ES n s s1) (hS : StOk s.st) : SS n s [] s1 := ⟨h.ex, by rw [h.st]; exact hS, h.fn, h.le, h.n, [], by rw [h.st]; simp, fun k => by rw [h.st, if_neg (by omega)]; simp [refs]⟩
theorem SS.trans {s s1 s2 : Sg} {l m : List Nat} (h : SS n s l s1) (h2 : SS n s1 m s2) : SS n s (l ++ m) s2 := by
  obtain ⟨N, h3, h4⟩ := h.new
  obtain ⟨N2, h5, h6⟩ := h2.new
  refine ⟨h2.ex, h2.st, h2.fn.trans h.fn, Nat.le_trans h.le h2.le, h2.n, N ++ N2, by rw [h5, h3, List.append_assoc], fun k => ?_⟩
  have e1 := h4 k
  have e2 := h6 k
  have l1 : s1.st.length = s.st.length + N.length := by rw [h3]; simp
  have l2 : s2.st.length = s1.st.length + N2.length := by rw [h5]; simp
  rw [refs_app]
  simp only [List.count_append] at e1 e2 ⊢
  by_cases c1 : s.st.length ≤ k ∧ k < s1.st.length
  · rw [if_pos c1] at e1
    rw [if_neg (by omega)] at e2
    rw [if_pos (by omega)]
    omega
  · rw [if_neg c1] at e1
    by_cases c2 : s1.st.length ≤ k ∧ k < s2.st.length
    · rw [if_pos c2] at e2
      rw [if_pos (by omega)]
      omega
    · rw [if_neg c2] at e2
      rw [if_neg (by omega)]
      omega
theorem SS.pre {s s1 : Sg} {l : List Nat} (h : SS n s l s1) : s.st <+: s1.st := by
  obtain ⟨N, h3, _⟩ := h.new
  exact ⟨N, h3.symm⟩
theorem SS.refl {s : Sg} (h : ExOk s.ex) (hS : StOk s.st) (hn : s.at_ ≤ n) : SS n s [] s := (ES.refl h hn).ss hS
/-- Statements that stand between two tokens. -/
def WI (T : List Tk) (lo : Nat) (s : Sg) (l : List Nat) : Prop := ∀ k ∈ l, ∃ y, s.st[k]? = some y ∧ lo ≤ y.lo ∧ y.hi ≤ Hi T (s.at_ - 1)
theorem WI.nil {lo : Nat} {s : Sg} : WI T lo s [] := fun k hk => by cases hk
theorem WI.keep (hT : TkOrd T n) {lo : Nat} {s s1 : Sg} {l m : List Nat} (h : WI T lo s l) (hs : SS n s m s1) (h0 : 0 < s.at_) : WI T lo s1 l := by
  intro k hk
  obtain ⟨y, h1, h2, h3⟩ := h k hk
  have := ord_HH hT (show s.at_ - 1 ≤ s1.at_ - 1 by have := hs.le; omega) (by have := hs.n; have := hs.le; omega)
  exact ⟨y, get_prefix hs.pre h1, h2, by omega⟩
theorem WI.mono {lo lo' : Nat} {s : Sg} {l : List Nat} (h : WI T lo s l) (hl : lo' ≤ lo) : WI T lo' s l := by
  intro k hk
  obtain ⟨y, h1, h2, h3⟩ := h k hk
  exact ⟨y, h1, by omega, h3⟩
theorem WI.app {lo : Nat} {s : Sg} {l m : List Nat} (h : WI T lo s l) (h2 : WI T lo s m) : WI T lo s (l ++ m) := by
  intro k hk
  rcases List.mem_append.1 hk with hk | hk
  · exact h k hk
  · exact h2 k hk
def IsS (T : List Tk) (n : Nat) {α : Type} (out : α → List Nat) (x : Ps α) : Prop := ∀ s a s1, ExOk s.ex → StOk s.st → s.at_ ≤ n → x s = .ok a s1 → SS n s (out a) s1 ∧ s.at_ < s1.at_ ∧ WI T (Lo T s.at_) s1 (out a)
theorem putS_inv {lo : Nat} {x : Sm} {s s1 s2 : Sg} {l : List Nat} {a : Nat} (h : SS n s l s1) (hl : x.thn ++ x.els = l) (hw : WI T lo s1 l) (hp : putS T lo x s1 = .ok a s2) : SS n s [a] s2 ∧ WI T lo s2 [a] ∧ s2.at_ = s1.at_ := by
  unfold putS at hp
  injection hp with h1 h2
  subst h1 h2
  obtain ⟨N, h3, h4⟩ := h.new
  refine ⟨⟨h.ex, ?_, h.fn, h.le, h.n, N ++ [{ x with lo := lo, hi := lastHi T s1 }], ?_, fun k => ?_⟩, ?_, rfl⟩
  · intro i y hy k hk
    show ∃ z, (s1.st ++ [_])[k]? = some z ∧ _
    rcases Nat.lt_or_ge i s1.st.length with hlt | hge
    · rw [List.getElem?_append_left hlt] at hy
      obtain ⟨z, z1, z2, z3, z4⟩ := h.st i y hy k hk
      exact ⟨z, get_prefix (List.prefix_append _ _) z1, z2, z3, z4⟩
    · have hi : i < s1.st.length + 1 := by
        rcases Nat.lt_or_ge i (s1.st.length + 1) with h5 | h5
        · exact h5
        · rw [List.getElem?_eq_none (by simp; omega)] at hy; cases hy
      obtain rfl : i = s1.st.length := by omega
      rw [List.getElem?_concat_length] at hy
      obtain rfl := Option.some.inj hy
      obtain ⟨z, z1, z2, z3⟩ := hw k (by rw [← hl]; exact hk)
      have hkl : k < s1.st.length := by
        rcases Nat.lt_or_ge k s1.st.length with h5 | h5
        · exact h5
        · rw [List.getElem?_eq_none h5] at z1; cases z1
      exact ⟨z, get_prefix (List.prefix_append _ _) z1, hkl, z2, z3⟩
  · show s1.st ++ _ = _
    rw [h3, List.append_assoc]
  · have e := h4 k
    have hln : s1.st.length = s.st.length + N.length := by rw [h3]; simp
    rw [refs_app]
    have e2 : refs [{ x with lo := lo, hi := lastHi T s1 }] = l := by rw [← hl]; simp [refs]
    rw [e2]
    simp only [List.count_append, List.count_singleton, List.length_append, List.length_singleton] at e ⊢
    by_cases hk : s1.st.length = k
    · subst hk
      rw [if_neg (show ¬ (s.st.length ≤ s1.st.length ∧ s1.st.length < s1.st.length) by omega)] at e
      rw [if_pos (show s.st.length ≤ s1.st.length ∧ s1.st.length < s1.st.length + 1 by omega), if_pos (beq_self_eq_true _)]
      omega
    · rw [if_neg (show ¬ (s1.st.length == k) = true by rw [beq_iff_eq]; exact hk)]
      by_cases c : s.st.length ≤ k ∧ k < s1.st.length
      · rw [if_pos c] at e
        rw [if_pos (show s.st.length ≤ k ∧ k < s1.st.length + 1 by omega)]
        omega
      · rw [if_neg c] at e
        rw [if_neg (show ¬ (s.st.length ≤ k ∧ k < s1.st.length + 1) by omega)]
        omega
  · intro k hk
    rw [List.mem_singleton] at hk
    subst hk
    exact ⟨_, List.getElem?_concat_length, Nat.le_refl _, Nat.le_refl _⟩
theorem blockL_inv (hT : TkOrd T n) {one : Ps Nat} (hp : IsS T n (fun a => [a]) one) {lo : Nat} {s0 : Sg} : ∀ k out s s1 l, SS n s0 out s → 0 < s.at_ → lo ≤ Lo T s.at_ → WI T lo s out → blockL T one k out s = .ok l s1 → SS n s0 l s1 ∧ WI T lo s1 l ∧ s.at_ ≤ s1.at_
  | 0, _, _, _, _, _, _, _, _, h => by unfold blockL at h; cases h
  | k + 1, out, s, s1, l, hS, h0, hlo, hw, h => by
    unfold blockL at h
    by_cases hi : isP T [[125]] s = true
    · rw [if_pos hi] at h
      injection h with h1 h2
      subst h1 h2
      exact ⟨hS, hw, Nat.le_refl _⟩
    · rw [if_neg hi] at h
      obtain ⟨x, s2, h2, h3⟩ := bd_inv h
      obtain ⟨e1, e2, e3⟩ := hp s x s2 hS.ex hS.st hS.n h2
      have hl := ord_LL hT s.at_ s2.at_ (by omega) e1.n
      obtain ⟨f1, f2, f3⟩ := blockL_inv hT hp k (out ++ [x]) s2 s1 l (hS.trans e1) (by omega) (by omega) ((hw.keep hT e1 h0).app (e3.mono hlo)) h3
      exact ⟨f1, f2, by omega⟩
theorem blockS_isS (hK : TkOk T) (hn : T.length = n + 1) (hT : TkOrd T n) {one : Ps Nat} (hp : IsS T n (fun a => [a]) one) : IsS T n id (blockS T one) := by
  intro s l s1 hE hS hs h
  unfold blockS at h
  obtain ⟨_, s2, h1, h⟩ := bd_inv h
  obtain ⟨b, s3, h2, h⟩ := bd_inv h
  obtain ⟨_, s4, h3, h4⟩ := bd_inv h
  injection h4 with h5 h6
  subst h5 h6
  obtain ⟨e1, e2, e3⟩ := takeP_inv hK hn (by decide) hE hs h1
  have hS2 : StOk s2.st := by rw [e1.st]; exact hS
  have hl := ord_LL hT s.at_ s2.at_ (by omega) e1.n
  obtain ⟨f1, f2, f3⟩ := blockL_inv hT hp (lo := Lo T s.at_) (s0 := s) _ [] s2 s3 b (e1.ss hS) (by omega) hl WI.nil h2
  obtain ⟨g1, g2, g3⟩ := takeP_inv hK hn (by decide) f1.ex f1.n h3
  have hS4 := g1.ss f1.st
  have ht := f1.trans hS4
  rw [List.append_nil] at ht
  exact ⟨ht, by omega, f2.keep hT hS4 (by omega)⟩
theorem blkOf_isS (hK : TkOk T) (hn : T.length = n + 1) (hT : TkOrd T n) {one : Ps Nat} (hp : IsS T n (fun a => [a]) one) (k : Nat) : IsS T n id (blkOf T k one) := by
  unfold blkOf
  by_cases h : k = 0
  · rw [if_pos h]; intro s l s1 _ _ _ h; cases h
  · rw [if_neg h]; exact blockS_isS hK hn hT hp
theorem otherwise_isS {blk : Ps (List Nat)} {stm : Ps Nat} (hb : IsS T n id blk) (hs : IsS T n (fun a => [a]) stm) : IsS T n id (otherwiseM T blk stm) := by
  intro s l s1 hE hS hs1 h
  unfold otherwiseM at h
  by_cases hi : isP T [kIf] s = true
  · rw [if_pos hi] at h
    obtain ⟨i, s2, h2, h3⟩ := bd_inv h
    injection h3 with h4 h5
    subst h4 h5
    exact hs s i s2 hE hS hs1 h2
  · rw [if_neg hi] at h
    exact hb s l s1 hE hS hs1 h
/-- A statement's fields. -/
def lists (x : Sm) : List Nat := x.thn ++ x.els
theorem choice_isS (hK : TkOk T) (hn : T.length = n + 1) (hT : TkOrd T n) {ex : Ps Nat} {blk : Ps (List Nat)} {stm : Ps Nat} (he : IsE T n ex) (hb : IsS T n id blk) (hs : IsS T n (fun a => [a]) stm) : IsS T n lists (choiceM T ex blk stm) := by
  intro s x s1 hE hS hs1 h
  unfold choiceM at h
  obtain ⟨_, s2, h1, h⟩ := bd_inv h
  obtain ⟨a, s3, h2, h⟩ := bd_inv h
  obtain ⟨l, s4, h3, h⟩ := bd_inv h
  obtain ⟨e1, e2, e3⟩ := takeP_inv hK hn (by decide) hE hs1 h1
  obtain ⟨f1, f2, _⟩ := he s2 a s3 e1.ex e1.n h2
  have hS3 := (e1.trans f1).ss hS
  obtain ⟨g1, g2, g3⟩ := hb s3 l s4 f1.ex hS3.st f1.n h3
  have hl := ord_LL hT s.at_ s3.at_ hS3.le f1.n
  have g4 := hS3.trans g1
  rw [List.nil_append] at g4
  by_cases hi : isP T [kElse] s4 = true
  · rw [if_pos hi] at h
    obtain ⟨_, s5, k1, h⟩ := bd_inv h
    obtain ⟨m, s6, k2, k3⟩ := bd_inv h
    injection k3 with k4 k5
    subst k4 k5
    obtain ⟨i1, i2, i3⟩ := takeP_inv hK hn (by decide) g1.ex g1.n k1
    have hS5 := i1.ss g1.st
    obtain ⟨j1, j2, j3⟩ := otherwise_isS hb hs s5 m s6 i1.ex hS5.st i1.n k2
    have hl5 := ord_LL hT s.at_ s5.at_ (by omega) i1.n
    have ht := g4.trans (hS5.trans j1)
    rw [List.nil_append] at ht
    exact ⟨ht, by omega, ((g3.mono hl).keep hT (hS5.trans j1) (by omega)).app (j3.mono hl5)⟩
  · rw [if_neg hi] at h
    injection h with k4 k5
    subst k4 k5
    refine ⟨?_, by omega, ?_⟩
    · show SS n s (l ++ []) s4
      rw [List.append_nil]; exact g4
    · show WI T (Lo T s.at_) s4 (l ++ [])
      rw [List.append_nil]; exact g3.mono hl
theorem loop_isS (hK : TkOk T) (hn : T.length = n + 1) (hT : TkOrd T n) {ex : Ps Nat} {blk : Ps (List Nat)} (he : IsE T n ex) (hb : IsS T n id blk) : IsS T n lists (loopM T ex blk) := by
  intro s x s1 hE hS hs1 h
  unfold loopM at h
  obtain ⟨_, s2, h1, h⟩ := bd_inv h
  obtain ⟨a, s3, h2, h⟩ := bd_inv h
  obtain ⟨l, s4, h3, h⟩ := bd_inv h
  injection h with k4 k5
  subst k4 k5
  obtain ⟨e1, e2, e3⟩ := takeP_inv hK hn (by decide) hE hs1 h1
  obtain ⟨f1, f2, _⟩ := he s2 a s3 e1.ex e1.n h2
  have hS3 := (e1.trans f1).ss hS
  obtain ⟨g1, g2, g3⟩ := hb s3 l s4 f1.ex hS3.st f1.n h3
  have hl := ord_LL hT s.at_ s3.at_ hS3.le f1.n
  have g4 := hS3.trans g1
  rw [List.nil_append] at g4
  refine ⟨?_, by omega, ?_⟩
  · show SS n s (l ++ []) s4
    rw [List.append_nil]; exact g4
  · show WI T (Lo T s.at_) s4 (l ++ [])
    rw [List.append_nil]; exact g3.mono hl
/-- A part without statements. -/
def IsN (n : Nat) (x : Ps Sm) : Prop := ∀ s a s1, ExOk s.ex → s.at_ ≤ n → x s = .ok a s1 → ES n s s1 ∧ s.at_ < s1.at_ ∧ lists a = []
theorem named_isN (hK : TkOk T) (hn : T.length = n + 1) (hT : TkOrd T n) {ex sub : Ps Nat} (he : IsE T n ex) (hs : IsE T n sub) : IsN n (namedM T ex sub) := by
  intro s x s1 hE hs1 h
  unfold namedM at h
  obtain ⟨name, s2, h1, h⟩ := bd_inv h
  obtain ⟨e1, e2, e3⟩ := takeK_inv hK hn (by decide) hE hs1 h1
  by_cases hi : isP T [[40]] s2 = true
  · rw [if_pos hi] at h
    obtain ⟨a, s3, h2, h3⟩ := bd_inv h
    injection h3 with k4 k5
    subst k4 k5
    obtain ⟨f1, _, f3⟩ := call_inv hK hn hT hs e1.ex e1.n (ord_LL hT s.at_ s2.at_ (by omega) e1.n) h2
    exact ⟨e1.trans f1, by omega, rfl⟩
  · rw [if_neg hi] at h
    by_cases hj : isP T [[91]] s2 = true
    · rw [if_pos hj] at h
      obtain ⟨a, s3, h2, h⟩ := bd_inv h
      obtain ⟨_, s4, h3, h⟩ := bd_inv h
      obtain ⟨b, s5, h4, h5⟩ := bd_inv h
      injection h5 with k4 k5
      subst k4 k5
      obtain ⟨f1, _, f3⟩ := index_inv hK hn hT he e1.ex e1.n h2
      obtain ⟨g1, g2, g3⟩ := takeP_inv hK hn (by decide) f1.ex f1.n h3
      obtain ⟨i1, i2, _⟩ := he s4 b s5 g1.ex g1.n h4
      exact ⟨((e1.trans f1).trans g1).trans i1, by omega, rfl⟩
    · rw [if_neg hj] at h
      obtain ⟨_, s4, h3, h⟩ := bd_inv h
      obtain ⟨b, s5, h4, h5⟩ := bd_inv h
      injection h5 with k4 k5
      subst k4 k5
      obtain ⟨g1, g2, g3⟩ := takeP_inv hK hn (by decide) e1.ex e1.n h3
      obtain ⟨i1, i2, _⟩ := he s4 b s5 g1.ex g1.n h4
      exact ⟨(e1.trans g1).trans i1, by omega, rfl⟩
theorem variable_isN (hK : TkOk T) (hn : T.length = n + 1) {ex : Ps Nat} (he : IsE T n ex) : IsN n (variableM T ex) := by
  intro s x s1 hE hs1 h
  unfold variableM at h
  obtain ⟨_, s2, h1, h⟩ := bd_inv h
  obtain ⟨name, s3, h2, h⟩ := bd_inv h
  obtain ⟨o, s4, h3, h⟩ := bd_inv h
  obtain ⟨e1, e2, e3⟩ := takeP_inv hK hn (by decide) hE hs1 h1
  obtain ⟨f1, f2, f3⟩ := takeK_inv hK hn (by decide) e1.ex e1.n h2
  obtain ⟨g1, g2, g3⟩ := takeP_inv hK hn (by decide) f1.ex f1.n h3
  by_cases ho : o = [61]
  · rw [if_pos ho] at h
    obtain ⟨a, s5, h4, h5⟩ := bd_inv h
    injection h5 with k4 k5
    subst k4 k5
    obtain ⟨i1, i2, _⟩ := he s4 a s5 g1.ex g1.n h4
    exact ⟨((e1.trans f1).trans g1).trans i1, by omega, rfl⟩
  · rw [if_neg ho] at h
    obtain ⟨m, s5, h4, h⟩ := bd_inv h
    obtain ⟨_, s6, h5, h6⟩ := bd_inv h
    injection h6 with k4 k5
    subst k4 k5
    unfold numberM at h4
    obtain ⟨y, s7, h7, h8⟩ := bd_inv h4
    injection h8 with _ h9
    subst h9
    obtain ⟨i1, i2, i3⟩ := takeK_inv hK hn (by decide) g1.ex g1.n h7
    obtain ⟨j1, j2, j3⟩ := takeP_inv hK hn (by decide) i1.ex i1.n h5
    exact ⟨(((e1.trans f1).trans g1).trans i1).trans j1, by omega, rfl⟩
theorem answer_isN (hK : TkOk T) (hn : T.length = n + 1) {ex : Ps Nat} (he : IsE T n ex) : IsN n (answerM T ex) := by
  intro s x s1 hE hs1 h
  unfold answerM at h
  obtain ⟨_, s2, h1, h⟩ := bd_inv h
  obtain ⟨e1, e2, e3⟩ := takeP_inv hK hn (by decide) hE hs1 h1
  by_cases hi : isP T [[59]] s2 = true
  · rw [if_pos hi] at h
    injection h with k4 k5
    subst k4 k5
    exact ⟨e1, by omega, rfl⟩
  · rw [if_neg hi] at h
    obtain ⟨a, s5, h4, h5⟩ := bd_inv h
    injection h5 with k4 k5
    subst k4 k5
    obtain ⟨i1, i2, _⟩ := he s2 a s5 e1.ex e1.n h4
    exact ⟨e1.trans i1, by omega, rfl⟩
theorem simple_isN (hK : TkOk T) (hn : T.length = n + 1) (hT : TkOrd T n) {ex sub : Ps Nat} (he : IsE T n ex) (hs : IsE T n sub) : IsN n (simpleM T ex sub) := by
  intro s x s1 hE hs1 h
  unfold simpleM at h
  by_cases h1 : isK T 1 s = true
  · rw [if_pos h1] at h; exact named_isN hK hn hT he hs s x s1 hE hs1 h
  · rw [if_neg h1] at h
    by_cases h2 : isP T [kVar] s = true
    · rw [if_pos h2] at h; exact variable_isN hK hn he s x s1 hE hs1 h
    · rw [if_neg h2] at h
      by_cases h3 : isP T [kReturn] s = true
      · rw [if_pos h3] at h; exact answer_isN hK hn he s x s1 hE hs1 h
      · rw [if_neg h3] at h
        by_cases h4 : isP T [kPrint] s = true
        · rw [if_pos h4] at h
          obtain ⟨_, s2, h5, h⟩ := bd_inv h
          obtain ⟨a, s3, h6, h7⟩ := bd_inv h
          injection h7 with k4 k5
          subst k4 k5
          obtain ⟨e1, e2, e3⟩ := takeP_inv hK hn (by decide) hE hs1 h5
          obtain ⟨i1, i2, _⟩ := he s2 a s3 e1.ex e1.n h6
          exact ⟨e1.trans i1, by omega, rfl⟩
        · rw [if_neg h4] at h
          obtain ⟨o, s2, h5, h6⟩ := bd_inv h
          injection h6 with k4 k5
          subst k4 k5
          obtain ⟨e1, e2, e3⟩ := takeP_inv hK hn (by decide) hE hs1 h5
          exact ⟨e1, by omega, rfl⟩
theorem fields_isS (hK : TkOk T) (hn : T.length = n + 1) (hT : TkOrd T n) {ex sub : Ps Nat} {blk : Ps (List Nat)} {stm : Ps Nat} (he : IsE T n ex) (hu : IsE T n sub) (hb : IsS T n id blk) (hs : IsS T n (fun a => [a]) stm) : IsS T n lists (fieldsM T ex sub blk stm) := by
  intro s x s1 hE hS hs1 h
  unfold fieldsM at h
  by_cases h1 : isP T [kIf] s = true
  · rw [if_pos h1] at h; exact choice_isS hK hn hT he hb hs s x s1 hE hS hs1 h
  · rw [if_neg h1] at h
    by_cases h2 : isP T [kWhile] s = true
    · rw [if_pos h2] at h; exact loop_isS hK hn hT he hb s x s1 hE hS hs1 h
    · rw [if_neg h2] at h
      obtain ⟨y, s2, h3, h⟩ := bd_inv h
      obtain ⟨_, s3, h4, h5⟩ := bd_inv h
      injection h5 with k4 k5
      subst k4 k5
      obtain ⟨e1, e2, e3⟩ := simple_isN hK hn hT he hu s y s2 hE hs1 h3
      obtain ⟨f1, f2, f3⟩ := takeP_inv hK hn (by decide) e1.ex e1.n h4
      rw [e3]
      exact ⟨(e1.trans f1).ss hS, by omega, WI.nil⟩
theorem stmtS_isS (hK : TkOk T) (hn : T.length = n + 1) (hT : TkOrd T n) {ex sub : Ps Nat} {blk : Ps (List Nat)} {stm : Ps Nat} (he : IsE T n ex) (hu : IsE T n sub) (hb : IsS T n id blk) (hs : IsS T n (fun a => [a]) stm) : IsS T n (fun a => [a]) (stmtS T ex sub blk stm) := by
  intro s a s1 hE hS hs1 h
  unfold stmtS at h
  obtain ⟨x, s2, h1, h2⟩ := bd_inv h
  obtain ⟨e1, e2, e3⟩ := fields_isS hK hn hT he hu hb hs s x s2 hE hS hs1 h1
  obtain ⟨f1, f2, f3⟩ := putS_inv (T := T) e1 rfl e3 h2
  exact ⟨f1, by omega, f2⟩
theorem stmt_isS (hK : TkOk T) (hn : T.length = n + 1) (hT : TkOrd T n) : ∀ k, IsS T n (fun a => [a]) (stmtM T k)
  | 0 => fun s a s1 _ _ _ h => by cases h
  | k + 1 => stmtS_isS hK hn hT (expression_isE hK hn hT (operand_isE hK hn hT (k + 1))) (operand_isE hK hn hT k) (blkOf_isS hK hn hT (stmt_isS hK hn hT k) k) (stmt_isS hK hn hT k)

/-! ### functions -/
def bodies (F : List Fu) : List Nat := F.flatMap Fu.body
structure SpanOk (s : Sg) : Prop where
  ex : ExOk s.ex
  st : StOk s.st
  fn : ∀ f ∈ s.fn, ∀ k ∈ f.body, ∃ y, s.st[k]? = some y ∧ f.lo ≤ y.lo ∧ y.hi ≤ f.hi
  one : ∀ k, (refs s.st ++ bodies s.fn).count k = if k < s.st.length then 1 else 0
theorem names_inv (hK : TkOk T) (hn : T.length = n + 1) : ∀ k out s s1 (l : List (List UInt8)), ExOk s.ex → s.at_ ≤ n → listL T (takeK T 1) k out s = .ok l s1 → ES n s s1
  | 0, _, _, _, _, _, _, h => by unfold listL at h; cases h
  | k + 1, out, s, s1, l, hE, hs, h => by
    unfold listL at h
    by_cases hi : isP T [[41]] s = true
    · rw [if_pos hi] at h
      injection h with h1 h2
      subst h1 h2
      exact ES.refl hE hs
    · rw [if_neg hi] at h
      obtain ⟨u, s2, h1, h⟩ := bd_inv h
      obtain ⟨x, s3, h2, h3⟩ := bd_inv h
      have hcomma : ES n s s2 := by
        by_cases hz : out.length = 0
        · rw [if_pos hz] at h1
          injection h1 with _ h4
          subst h4
          exact ES.refl hE hs
        · rw [if_neg hz] at h1
          exact (takeP_inv hK hn (by decide) hE hs h1).1
      obtain ⟨f1, f2, f3⟩ := takeK_inv hK hn (by decide) hcomma.ex hcomma.n h2
      exact (hcomma.trans f1).trans (names_inv hK hn k (out ++ [x]) s3 s1 l f1.ex f1.n h3)
theorem function_span (hK : TkOk T) (hn : T.length = n + 1) (hT : TkOrd T n) {s s1 : Sg} (hO : SpanOk s) (hs : s.at_ ≤ n) (h : functionM T s = .ok () s1) : SpanOk s1 ∧ s1.at_ ≤ n := by
  unfold functionM at h
  by_cases hc : (isP T [kFunc] s && s.fn.length == 32) = true
  · rw [if_pos hc] at h; cases h
  rw [if_neg hc] at h
  obtain ⟨_, s2, h1, h⟩ := bd_inv h
  obtain ⟨name, s3, h2, h⟩ := bd_inv h
  obtain ⟨ps, s4, h3, h⟩ := bd_inv h
  obtain ⟨ty, s5, h4, h⟩ := bd_inv h
  obtain ⟨body, s6, h5, h⟩ := bd_inv h
  obtain ⟨a1, a2, a3⟩ := takeP_inv hK hn (by decide) hO.ex hs h1
  obtain ⟨b1, b2, b3⟩ := takeK_inv hK hn (by decide) a1.ex a1.n h2
  have c1 : ES n s3 s4 := by
    unfold listM at h3
    obtain ⟨_, t1, k1, h3⟩ := bd_inv h3
    obtain ⟨_, t2, k2, h3⟩ := bd_inv h3
    obtain ⟨_, t3, k3, k4⟩ := bd_inv h3
    injection k4 with _ k5
    subst k5
    obtain ⟨x1, x2, x3⟩ := takeP_inv hK hn (by decide) b1.ex b1.n k1
    have y1 := names_inv hK hn _ _ t1 t2 _ x1.ex x1.n k2
    obtain ⟨z1, z2, z3⟩ := takeP_inv hK hn (by decide) y1.ex y1.n k3
    exact (x1.trans y1).trans z1
  have d1 : ES n s4 s5 := by
    by_cases hi : isP T [kInt] s4 = true
    · rw [if_pos hi] at h4
      obtain ⟨_, t1, k1, k2⟩ := bd_inv h4
      injection k2 with _ k3
      subst k3
      exact (takeP_inv hK hn (by decide) c1.ex c1.n k1).1
    · rw [if_neg hi] at h4
      injection h4 with _ k3
      subst k3
      exact ES.refl c1.ex c1.n
  have q1 := ((a1.trans b1).trans c1).trans d1
  have q2 := q1.ss hO.st
  obtain ⟨e1, e2, e3⟩ := blkOf_isS hK hn hT (stmt_isS hK hn hT 64) 64 s5 body s6 q1.ex q2.st q1.n h5
  have q3 := q2.trans e1
  rw [List.nil_append] at q3
  have hl := ord_LL hT s.at_ s5.at_ q1.le q1.n
  unfold putF at h
  injection h with _ h6
  subst h6
  obtain ⟨N, h7, h8⟩ := q3.new
  refine ⟨⟨q3.ex, q3.st, ?_, fun k => ?_⟩, q3.n⟩
  · intro f hf k hk
    have hf : f ∈ s6.fn ++ [_] := hf
    rcases List.mem_append.1 hf with hf | hf
    · rw [q3.fn] at hf
      obtain ⟨y, y1, y2, y3⟩ := hO.fn f hf k hk
      exact ⟨y, get_prefix q3.pre y1, y2, y3⟩
    · rw [List.mem_singleton] at hf
      subst hf
      exact (e3.mono hl) k hk
  · show (refs s6.st ++ bodies (s6.fn ++ [_])).count k = _
    have e := h8 k
    have o := hO.one k
    have hln : s6.st.length = s.st.length + N.length := by rw [h7]; simp
    have hb : bodies (s6.fn ++ [{ name := name, params := ps, ty := ty, body := body, lo := (cur T s).lo, hi := lastHi T s6 }]) = bodies s.fn ++ body := by
      rw [q3.fn]; simp [bodies]
    rw [hb, h7, refs_app]
    rw [← h7]
    simp only [id, List.count_append] at e o ⊢
    show _ = if k < s6.st.length then 1 else 0
    by_cases c : k < s.st.length
    · rw [if_pos c] at o
      rw [if_neg (by omega)] at e
      rw [if_pos (by omega)]
      omega
    · rw [if_neg c] at o
      by_cases c2 : k < s6.st.length
      · rw [if_pos (by omega)] at e
        rw [if_pos c2]
        omega
      · rw [if_neg (by omega)] at e
        rw [if_neg c2]
        omega
theorem programL_span (hK : TkOk T) (hn : T.length = n + 1) (hT : TkOrd T n) : ∀ k s s1, SpanOk s → s.at_ ≤ n → programL T k s = .ok () s1 → SpanOk s1
  | 0, _, _, _, _, h => by unfold programL at h; cases h
  | k + 1, s, s1, hO, hs, h => by
    unfold programL at h
    by_cases hc : isK T 0 s = true
    · rw [if_pos hc] at h
      injection h with _ h1
      subst h1
      exact hO
    · rw [if_neg hc] at h
      obtain ⟨u, s2, h1, h2⟩ := bd_inv h
      obtain ⟨e1, e2⟩ := function_span hK hn hT hO hs h1
      exact programL_span hK hn hT k s2 s1 e1 e2 h2
theorem span_start : SpanOk start := ⟨fun i x h => by simp [start] at h, fun i x h => by simp [start] at h, fun f hf => by simp [start] at hf, fun k => by simp [start, refs, bodies]⟩
end
theorem parse_span {t : List UInt8} {s : Sg} (h : parseT t = .good s) : SpanOk s := by
  unfold parseT at h
  cases hp : (toks t 0).2 with
  | some p => rw [hp] at h; cases h
  | none =>
    rw [hp] at h
    dsimp only at h
    have hK := tksL_ok t hp
    have hO := tks_ord t
    have hpos := hK.pos
    cases hr : programM (tksL t) start with
    | no c i => rw [hr] at h; cases h
    | ok u s' =>
      rw [hr] at h
      injection h with h1
      subst h1
      unfold programM at hr
      obtain ⟨_, s2, h1, h2⟩ := bd_inv hr
      obtain ⟨e1, e2⟩ := function_span hK (n := (tksL t).length - 1) (by omega) hO span_start (Nat.zero_le _) h1
      exact programL_span hK (by omega) hO _ s2 s' e1 e2 h2
end Go.Proofs.YtccmodefjgjpeaaGreatDoor
