/-
  Where parts of a program stand: ahead of it, within it, in order; each statement is in one list.
-/
import Derived.Test.YtccmodefjgjpeaaGreatDoorPRes
namespace Go.Proofs.YtccmodefjgjpeaaGreatDoor

/-! ### tokens in order -/
def OrdT : Nat → List Tok → Prop
  | _, [] => True
  | k, x :: r => k ≤ x.lo ∧ x.lo ≤ x.hi ∧ OrdT x.hi r
theorem ordT_toks (t : List UInt8) : ∀ n k, k ≤ t.length → OrdT k (toksF n t k).1 := by
  intro n
  induction n with
  | zero => intro k _; exact True.intro
  | succ n ih =>
    intro k hk
    have hle := nextT_le t k hk
    simp only [toksF]
    by_cases h1 : nextBad t k = true
    · rw [if_pos h1]; exact True.intro
    · rw [if_neg h1]
      by_cases h0 : (nextT t k).kind = 0
      · rw [if_pos h0]; exact ⟨hle.1, hle.2.1, True.intro⟩
      · rw [if_neg h0]; exact ⟨hle.1, hle.2.1, ih _ hle.2.2.1⟩
/-- Tokens up to the n-th, the End, stand in order. -/
def TkOrd (T : List Tk) (n : Nat) : Prop := ∀ i, i < n → (T.getD i ⟨0, 0, 0, []⟩).lo ≤ (T.getD i ⟨0, 0, 0, []⟩).hi ∧ (T.getD i ⟨0, 0, 0, []⟩).hi ≤ (T.getD (i + 1) ⟨0, 0, 0, []⟩).lo
theorem ordT_get (t : List UInt8) : ∀ (l : List Tok) (k : Nat), OrdT k l → ∀ i, i + 1 < l.length → ((l.map (tkOf t)).getD i ⟨0, 0, 0, []⟩).lo ≤ ((l.map (tkOf t)).getD i ⟨0, 0, 0, []⟩).hi ∧ ((l.map (tkOf t)).getD i ⟨0, 0, 0, []⟩).hi ≤ ((l.map (tkOf t)).getD (i + 1) ⟨0, 0, 0, []⟩).lo
  | [], _, _, i, h => absurd h (Nat.not_lt_zero _)
  | [_], _, _, i, h => by simp at h
  | x :: y :: r, k, h, i, hi => by
    cases i with
    | zero => exact ⟨h.2.1, h.2.2.1⟩
    | succ i => exact ordT_get t (y :: r) _ h.2.2 i (by simpa using hi)
theorem tks_ord (t : List UInt8) : TkOrd (tksL t) ((tksL t).length - 1) := by
  intro i hi
  have h := ordT_toks t (t.length - 0 + 1) 0 (Nat.zero_le _)
  refine ordT_get t _ 0 h i ?_
  have : (tksL t).length = (toks t 0).1.length := by unfold tksL; simp
  have e : (toks t 0).1.length = (toksF (t.length - 0 + 1) t 0).1.length := rfl
  omega

section
variable {T : List Tk} {n : Nat}
def Lo (T : List Tk) (i : Nat) : Nat := (T.getD i ⟨0, 0, 0, []⟩).lo
def Hi (T : List Tk) (i : Nat) : Nat := (T.getD i ⟨0, 0, 0, []⟩).hi
theorem ord_LL (h : TkOrd T n) (i : Nat) : ∀ j, i ≤ j → j ≤ n → Lo T i ≤ Lo T j
  | 0, h1, _ => by obtain rfl : i = 0 := by omega
                   exact Nat.le_refl _
  | j + 1, h1, h2 => by
    rcases Nat.lt_or_ge j i with hlt | hge
    · obtain rfl : i = j + 1 := by omega
      exact Nat.le_refl _
    · have h3 := ord_LL h i j hge (by omega)
      have h4 := h j (by omega)
      unfold Lo at *
      omega
theorem ord_HL (h : TkOrd T n) {i j : Nat} (h1 : i < j) (h2 : j ≤ n) : Hi T i ≤ Lo T j := by
  have h3 := ord_LL h (i + 1) j (by omega) h2
  have h4 := h i (by omega)
  unfold Lo Hi at *
  omega
theorem ord_LH (h : TkOrd T n) {i j : Nat} (h1 : i ≤ j) (h2 : j < n) : Lo T i ≤ Hi T j := by
  have h3 := ord_LL h i j h1 (by omega)
  have h4 := h j h2
  unfold Lo Hi at *
  omega
theorem ord_HH (h : TkOrd T n) {i j : Nat} (h1 : i ≤ j) (h2 : j < n) : Hi T i ≤ Hi T j := by
  rcases Nat.lt_or_ge i j with hlt | hge
  · have h3 := ord_HL h hlt (by omega)
    have h4 := h j h2
    unfold Lo Hi at *
    omega
  · obtain rfl : i = j := by omega
    exact Nat.le_refl _

/-! ### expressions -/
/-- So many parts, in order, between two places. -/
def Chain (E : List Ex) : Nat → List Nat → Nat → Prop
  | _, [], _ => True
  | last, k :: l, hi => ∃ y, E[k]? = some y ∧ last ≤ y.lo ∧ y.lo ≤ y.hi ∧ y.hi ≤ hi ∧ Chain E y.hi l hi
theorem get_prefix {α : Type} {E E' : List α} (h : E <+: E') {k : Nat} {y : α} (hy : E[k]? = some y) : E'[k]? = some y := by
  obtain ⟨r, rfl⟩ := h
  have : k < E.length := by
    rcases Nat.lt_or_ge k E.length with h | h
    · exact h
    · rw [List.getElem?_eq_none h] at hy; cases hy
  rw [List.getElem?_append_left this, hy]
theorem Chain.mono {E E' : List Ex} (hE : E <+: E') : ∀ {l : List Nat} {last hi hi' : Nat}, hi ≤ hi' → Chain E last l hi → Chain E' last l hi'
  | [], _, _, _, _, _ => True.intro
  | _ :: _, _, _, _, hh, ⟨y, h1, h2, h3, h4, h5⟩ => ⟨y, get_prefix hE h1, h2, h3, Nat.le_trans h4 hh, h5.mono hE hh⟩
theorem Chain.snoc {E : List Ex} : ∀ {l : List Nat} {last h0 hi k : Nat} {y : Ex}, Chain E last l h0 → last ≤ h0 → E[k]? = some y → h0 ≤ y.lo → y.lo ≤ y.hi → y.hi ≤ hi → Chain E last (l ++ [k]) hi
  | [], _, _, _, _, y, _, hl, hy, h1, h2, h3 => ⟨y, hy, by omega, h2, h3, True.intro⟩
  | _ :: l, _, _, _, _, y, ⟨z, z1, z2, z3, z4, z5⟩, hl, hy, h1, h2, h3 => ⟨z, z1, z2, z3, by omega, z5.snoc z4 hy h1 h2 h3⟩
def partsL (x : Ex) : List Nat := if x.kind = 5 ∨ x.kind = 8 then [x.a] else if x.kind = 9 then [x.a, x.b] else if x.kind = 6 then x.list else []
def ExOk (E : List Ex) : Prop := ∀ i x, E[i]? = some x → Chain (E.take i) x.lo (partsL x) x.hi
theorem exOk_snoc {E : List Ex} (h : ExOk E) {x : Ex} (hx : Chain E x.lo (partsL x) x.hi) : ExOk (E ++ [x]) := by
  intro i y hy
  rcases Nat.lt_or_ge i E.length with hlt | hge
  · rw [List.getElem?_append_left hlt] at hy
    rw [List.take_append, show i - E.length = 0 by omega, List.take_zero, List.append_nil]
    exact h i y hy
  · rcases Nat.lt_or_ge i (E.length + 1) with h1 | h1
    · obtain rfl : i = E.length := by omega
      rw [List.getElem?_concat_length] at hy
      obtain rfl := Option.some.inj hy
      rw [List.take_left]
      exact hx
    · rw [List.getElem?_eq_none (by simp; omega)] at hy; cases hy
/-- One goes on over tokens and expressions alone. -/
structure ES (n : Nat) (s s1 : Sg) : Prop where
  ex : ExOk s1.ex
  pre : s.ex <+: s1.ex
  st : s1.st = s.st
  fn : s1.fn = s.fn
  le : s.at_ ≤ s1.at_
  n : s1.at_ ≤ n
theorem ES.trans {s s1 s2 : Sg} (h : ES n s s1) (h2 : ES n s1 s2) : ES n s s2 := ⟨h2.ex, h.pre.trans h2.pre, h2.st.trans h.st, h2.fn.trans h.fn, Nat.le_trans h.le h2.le, h2.n⟩
theorem ES.refl {s : Sg} (h : ExOk s.ex) (hn : s.at_ ≤ n) : ES n s s := ⟨h, List.prefix_refl _, rfl, rfl, Nat.le_refl _, hn⟩
/-- An expression between two tokens. -/
def EP (T : List Tk) (lo : Nat) (s1 : Sg) (a : Nat) : Prop := ∃ y, s1.ex[a]? = some y ∧ lo ≤ y.lo ∧ y.lo ≤ y.hi ∧ y.hi ≤ Hi T (s1.at_ - 1)
theorem EP.keep {lo : Nat} {s s1 : Sg} {a : Nat} (hT : TkOrd T n) (h : EP T lo s a) (hs : ES n s s1) (h0 : 0 < s.at_) : EP T lo s1 a := by
  obtain ⟨y, h1, h2, h3, h4⟩ := h
  have := ord_HH hT (show s.at_ - 1 ≤ s1.at_ - 1 by have := hs.le; omega) (by have := hs.n; have := hs.le; omega)
  exact ⟨y, get_prefix hs.pre h1, h2, h3, by omega⟩
theorem EP.mono {lo lo' : Nat} {s : Sg} {a : Nat} (h : EP T lo s a) (hl : lo' ≤ lo) : EP T lo' s a := by
  obtain ⟨y, h1, h2, h3, h4⟩ := h
  exact ⟨y, h1, by omega, h3, h4⟩
/-- A part that is an expression. -/
def IsE (T : List Tk) (n : Nat) (x : Ps Nat) : Prop := ∀ s a s1, ExOk s.ex → s.at_ ≤ n → x s = .ok a s1 → ES n s s1 ∧ s.at_ < s1.at_ ∧ EP T (Lo T s.at_) s1 a
theorem next_inv {s s1 : Sg} {a : List UInt8} (hE : ExOk s.ex) (hn : s.at_ < n) (h : nextP T s = .ok a s1) : ES n s s1 ∧ s1.at_ = s.at_ + 1 := by
  unfold nextP at h
  by_cases hm : 1000 < s.st.length
  · rw [if_pos hm] at h; cases h
  · rw [if_neg hm] at h
    injection h with h1 h2
    subst h2
    exact ⟨⟨hE, List.prefix_refl _, rfl, rfl, Nat.le_succ _, hn⟩, rfl⟩
theorem isP_lt' (hT : TkOk T) (hn : T.length = n + 1) {s : Sg} (h : s.at_ ≤ n) {l : List (List UInt8)} (h0 : [] ∉ l) (hi : isP T l s = true) : s.at_ < n := by
  have := hT.isP h0 (by omega) hi
  omega
theorem isK_lt' (hT : TkOk T) (hn : T.length = n + 1) {s : Sg} (h : s.at_ ≤ n) {k : Nat} (h0 : k ≠ 0) (hi : isK T k s = true) : s.at_ < n := by
  have := hT.isK h0 (by omega) hi
  omega
theorem takeP_inv (hT : TkOk T) (hn : T.length = n + 1) {l : List (List UInt8)} (h0 : [] ∉ l) {s s1 : Sg} {a : List UInt8} (hE : ExOk s.ex) (hs : s.at_ ≤ n) (h : takeP T l s = .ok a s1) : ES n s s1 ∧ s1.at_ = s.at_ + 1 ∧ s.at_ < n := by
  unfold takeP at h
  by_cases hi : isP T l s = true
  · rw [if_pos hi] at h
    have hl := isP_lt' hT hn hs h0 hi
    obtain ⟨e1, e2⟩ := next_inv hE hl h
    exact ⟨e1, e2, hl⟩
  · rw [if_neg hi] at h; cases h
theorem takeK_inv (hT : TkOk T) (hn : T.length = n + 1) {k : Nat} (h0 : k ≠ 0) {s s1 : Sg} {a : List UInt8} (hE : ExOk s.ex) (hs : s.at_ ≤ n) (h : takeK T k s = .ok a s1) : ES n s s1 ∧ s1.at_ = s.at_ + 1 ∧ s.at_ < n := by
  unfold takeK at h
  by_cases hi : isK T k s = true
  · rw [if_pos hi] at h
    have hl := isK_lt' hT hn hs h0 hi
    obtain ⟨e1, e2⟩ := next_inv hE hl h
    exact ⟨e1, e2, hl⟩
  · rw [if_neg hi] at h; cases h
theorem putE_inv {lo : Nat} {x : Ex} {s s1 : Sg} {a : Nat} (hE : ExOk s.ex) (hs : s.at_ ≤ n) (hlo : lo ≤ Hi T (s.at_ - 1)) (hx : Chain s.ex lo (partsL x) (Hi T (s.at_ - 1))) (h : putE T lo x s = .ok a s1) : ES n s s1 ∧ EP T lo s1 a ∧ s1.at_ = s.at_ := by
  unfold putE at h
  injection h with h1 h2
  subst h1 h2
  refine ⟨⟨exOk_snoc hE hx, List.prefix_append _ _, rfl, rfl, Nat.le_refl _, hs⟩, ⟨_, List.getElem?_concat_length, Nat.le_refl _, hlo, Nat.le_refl _⟩, rfl⟩
theorem pair_inv (hT : TkOrd T n) {part : Ps Nat} (hp : IsE T n part) {lo a : Nat} {s s1 : Sg} {c : Nat} (hE : ExOk s.ex) (h0 : 0 < s.at_) (hs : s.at_ < n) (ha : EP T lo s a) (h : pairM T part lo a s = .ok c s1) : ES n s s1 ∧ EP T lo s1 c ∧ s.at_ < s1.at_ := by
  unfold pairM at h
  obtain ⟨o, s2, h1, h⟩ := bd_inv h
  obtain ⟨b, s3, h2, h3⟩ := bd_inv h
  obtain ⟨e1, e2⟩ := next_inv hE hs h1
  obtain ⟨f1, f2, f3⟩ := hp s2 b s3 e1.ex e1.n h2
  obtain ⟨y, y1, y2, y3, y4⟩ := ha.keep hT (e1.trans f1) h0
  obtain ⟨z, z1, z2, z3, z4⟩ := f3
  obtain ⟨y', w1, w2, w3, w4⟩ := ha
  have hyy : y = y' := by
    have := get_prefix (e1.trans f1).pre w1
    rw [y1] at this
    exact Option.some.inj this
  subst hyy
  have hhl := ord_HL hT (show s.at_ - 1 < s2.at_ by omega) e1.n
  obtain ⟨g1, g2, g3⟩ := putE_inv f1.ex f1.n (by omega) (by exact ⟨y, y1, y2, y3, by omega, z, z1, by omega, z3, z4, True.intro⟩) h3
  exact ⟨(e1.trans f1).trans g1, g2, by omega⟩
theorem rowL_inv (hK : TkOk T) (hn : T.length = n + 1) (hT : TkOrd T n) {part : Ps Nat} (hp : IsE T n part) {signs : List (List UInt8)} (hg : [] ∉ signs) {lo : Nat} : ∀ k a s s1 c, ExOk s.ex → 0 < s.at_ → s.at_ ≤ n → EP T lo s a → rowL T part signs lo k a s = .ok c s1 → ES n s s1 ∧ EP T lo s1 c
  | 0, _, _, _, _, _, _, _, _, h => by unfold rowL at h; cases h
  | k + 1, a, s, s1, c, hE, h0, hs, ha, h => by
    unfold rowL at h
    by_cases hi : isP T signs s = true
    · rw [if_pos hi] at h
      obtain ⟨b, s2, h1, h2⟩ := bd_inv h
      obtain ⟨e1, e2, e3⟩ := pair_inv hT hp hE h0 (isP_lt' hK hn hs hg hi) ha h1
      obtain ⟨f1, f2⟩ := rowL_inv hK hn hT hp hg k b s2 s1 c e1.ex (by omega) e1.n e2 h2
      exact ⟨e1.trans f1, f2⟩
    · rw [if_neg hi] at h
      injection h with h1 h2
      subst h1 h2
      exact ⟨ES.refl hE hs, ha⟩
theorem row_isE (hK : TkOk T) (hn : T.length = n + 1) (hT : TkOrd T n) {part : Ps Nat} (hp : IsE T n part) {signs : List (List UInt8)} (hg : [] ∉ signs) : IsE T n (rowM T part signs) := by
  intro s a s1 hE hs h
  unfold rowM at h
  obtain ⟨b, s2, h1, h2⟩ := bd_inv h
  obtain ⟨e1, e2, e3⟩ := hp s b s2 hE hs h1
  obtain ⟨f1, f2⟩ := rowL_inv hK hn hT hp hg _ b s2 s1 a e1.ex (by omega) e1.n e3 h2
  exact ⟨e1.trans f1, by have := f1.le; omega, f2⟩
theorem comparison_isE (hK : TkOk T) (hn : T.length = n + 1) (hT : TkOrd T n) {op : Ps Nat} (hp : IsE T n op) : IsE T n (comparisonM T op) := by
  intro s a s1 hE hs h
  unfold comparisonM at h
  obtain ⟨b, s2, h1, h2⟩ := bd_inv h
  have hsum := row_isE hK hn hT (row_isE hK hn hT hp (signs := sgMul) (by decide)) (signs := sgAdd) (by decide)
  obtain ⟨e1, e2, e3⟩ := hsum s b s2 hE hs h1
  by_cases hi : isP T sgCmp s2 = true
  · rw [if_pos hi] at h2
    obtain ⟨f1, f2, f3⟩ := pair_inv hT hsum e1.ex (by omega) (isP_lt' hK hn e1.n (by decide) hi) e3 h2
    exact ⟨e1.trans f1, by omega, f2⟩
  · rw [if_neg hi] at h2
    injection h2 with h3 h4
    subst h3 h4
    exact ⟨e1, e2, e3⟩
theorem expression_isE (hK : TkOk T) (hn : T.length = n + 1) (hT : TkOrd T n) {op : Ps Nat} (hp : IsE T n op) : IsE T n (expressionM T op) :=
  row_isE hK hn hT (row_isE hK hn hT (comparison_isE hK hn hT hp) (by decide)) (by decide)
theorem index_inv (hK : TkOk T) (hn : T.length = n + 1) (hT : TkOrd T n) {e : Ps Nat} (hp : IsE T n e) {s s1 : Sg} {a : Nat} (hE : ExOk s.ex) (hs : s.at_ ≤ n) (h : indexM T e s = .ok a s1) : ES n s s1 ∧ EP T (Lo T (s.at_ + 1)) s1 a ∧ s.at_ < s1.at_ := by
  unfold indexM at h
  obtain ⟨_, s2, h1, h⟩ := bd_inv h
  obtain ⟨b, s3, h2, h⟩ := bd_inv h
  obtain ⟨_, s4, h3, h4⟩ := bd_inv h
  injection h4 with h5 h6
  subst h5 h6
  obtain ⟨e1, e2, e3⟩ := takeP_inv hK hn (by decide) hE hs h1
  obtain ⟨f1, f2, f3⟩ := hp s2 b s3 e1.ex e1.n h2
  obtain ⟨g1, g2, g3⟩ := takeP_inv hK hn (by decide) f1.ex f1.n h3
  rw [e2] at f3
  exact ⟨(e1.trans f1).trans g1, f3.keep hT g1 (by omega), by omega⟩
theorem listL_inv (hK : TkOk T) (hn : T.length = n + 1) (hT : TkOrd T n) {one : Ps Nat} (hp : IsE T n one) {lo : Nat} : ∀ k out s s1 l, ExOk s.ex → 0 < s.at_ → s.at_ ≤ n → lo ≤ Hi T (s.at_ - 1) → Chain s.ex lo out (Hi T (s.at_ - 1)) → listL T one k out s = .ok l s1 → ES n s s1 ∧ Chain s1.ex lo l (Hi T (s1.at_ - 1))
  | 0, _, _, _, _, _, _, _, _, _, h => by unfold listL at h; cases h
  | k + 1, out, s, s1, l, hE, h0, hs, hlo, hc, h => by
    unfold listL at h
    by_cases hi : isP T [[41]] s = true
    · rw [if_pos hi] at h
      injection h with h1 h2
      subst h1 h2
      exact ⟨ES.refl hE hs, hc⟩
    · rw [if_neg hi] at h
      obtain ⟨u, s2, h1, h⟩ := bd_inv h
      obtain ⟨x, s3, h2, h3⟩ := bd_inv h
      have hcomma : ES n s s2 := by
        by_cases hz : out.length = 0
        · rw [if_pos hz] at h1
          injection h1 with _ h4
          subst h4
          exact ES.refl hE hs
        · rw [if_neg hz] at h1
          exact (takeP_inv hK hn (by decide) hE hs h1).1
      obtain ⟨f1, f2, f3⟩ := hp s2 x s3 hcomma.ex hcomma.n h2
      obtain ⟨y, y1, y2, y3, y4⟩ := f3
      have hle := hcomma.le
      have hhl := ord_HL hT (show s.at_ - 1 < s2.at_ by omega) hcomma.n
      obtain ⟨g1, g2⟩ := listL_inv hK hn hT hp k (out ++ [x]) s3 s1 l f1.ex (by omega) f1.n (by omega)
        ((hc.mono (hcomma.trans f1).pre (Nat.le_refl _)).snoc hlo y1 (by omega) y3 y4) h3
      exact ⟨(hcomma.trans f1).trans g1, g2⟩
theorem list_inv (hK : TkOk T) (hn : T.length = n + 1) (hT : TkOrd T n) {one : Ps Nat} (hp : IsE T n one) {lo : Nat} {s s1 : Sg} {l : List Nat} (hE : ExOk s.ex) (hs : s.at_ ≤ n) (hlo : lo ≤ Lo T s.at_) (h : listM T one s = .ok l s1) : ES n s s1 ∧ Chain s1.ex lo l (Hi T (s1.at_ - 1)) ∧ s.at_ < s1.at_ := by
  unfold listM at h
  obtain ⟨_, s2, h1, h⟩ := bd_inv h
  obtain ⟨b, s3, h2, h⟩ := bd_inv h
  obtain ⟨_, s4, h3, h4⟩ := bd_inv h
  injection h4 with h5 h6
  subst h5 h6
  obtain ⟨e1, e2, e3⟩ := takeP_inv hK hn (by decide) hE hs h1
  have hlh := ord_LH hT (show s.at_ ≤ s2.at_ - 1 by omega) (by omega)
  obtain ⟨f1, f2⟩ := listL_inv hK hn hT hp (lo := lo) _ [] s2 s3 b e1.ex (by omega) e1.n (by omega) True.intro h2
  obtain ⟨g1, g2, g3⟩ := takeP_inv hK hn (by decide) f1.ex f1.n h3
  have hle := f1.le
  have hh := ord_HH hT (show s3.at_ - 1 ≤ s4.at_ - 1 by omega) (by have := g1.n; omega)
  exact ⟨(e1.trans f1).trans g1, f2.mono g1.pre hh, by omega⟩
theorem call_inv (hK : TkOk T) (hn : T.length = n + 1) (hT : TkOrd T n) {sub : Ps Nat} (hp : IsE T n sub) {lo : Nat} {name : List UInt8} {s s1 : Sg} {a : Nat} (hE : ExOk s.ex) (hs : s.at_ ≤ n) (hlo : lo ≤ Lo T s.at_) (h : callM T sub lo name s = .ok a s1) : ES n s s1 ∧ EP T lo s1 a ∧ s.at_ < s1.at_ := by
  unfold callM at h
  obtain ⟨l, s2, h1, h2⟩ := bd_inv h
  obtain ⟨e1, e2, e3⟩ := list_inv hK hn hT (expression_isE hK hn hT hp) hE hs hlo h1
  have hlh := ord_LH hT (show s.at_ ≤ s2.at_ - 1 by omega) (by have := e1.n; omega)
  obtain ⟨f1, f2, f3⟩ := putE_inv e1.ex e1.n (by omega) (by exact e2) h2
  exact ⟨e1.trans f1, f2, by omega⟩
theorem reference_isE (hK : TkOk T) (hn : T.length = n + 1) (hT : TkOrd T n) {sub : Ps Nat} (hp : IsE T n sub) : IsE T n (referenceM T sub) := by
  intro s a s1 hE hs h
  unfold referenceM at h
  obtain ⟨name, s2, h1, h2⟩ := bd_inv h
  obtain ⟨e1, e2, e3⟩ := takeK_inv hK hn (by decide) hE hs h1
  have hl := ord_LL hT s.at_ s2.at_ (by omega) e1.n
  have hlh := ord_LH hT (show s.at_ ≤ s2.at_ - 1 by omega) (by omega)
  by_cases hi : isP T [[40]] s2 = true
  · rw [if_pos hi] at h2
    obtain ⟨f1, f2, f3⟩ := call_inv hK hn hT hp e1.ex e1.n hl h2
    exact ⟨e1.trans f1, by omega, f2⟩
  · rw [if_neg hi] at h2
    by_cases hj : isP T [[91]] s2 = true
    · rw [if_pos hj] at h2
      obtain ⟨b, s3, h3, h4⟩ := bd_inv h2
      obtain ⟨f1, f2, f3⟩ := index_inv hK hn hT (expression_isE hK hn hT hp) e1.ex e1.n h3
      obtain ⟨y, y1, y2, y3, y4⟩ := f2
      have hle := f1.n
      have hl2 := ord_LL hT s.at_ (s2.at_ + 1) (by omega) (by omega)
      have hlh2 := ord_LH hT (show s.at_ ≤ s3.at_ - 1 by omega) (by omega)
      obtain ⟨g1, g2, g3⟩ := putE_inv f1.ex f1.n (show Lo T s.at_ ≤ _ by omega) (by exact ⟨y, y1, by omega, y3, y4, True.intro⟩) h4
      exact ⟨(e1.trans f1).trans g1, by omega, g2⟩
    · rw [if_neg hj] at h2
      obtain ⟨g1, g2, g3⟩ := putE_inv e1.ex e1.n (show Lo T s.at_ ≤ _ by omega) (by exact True.intro) h2
      exact ⟨e1.trans g1, by omega, g2⟩
theorem word_isE (hK : TkOk T) (hn : T.length = n + 1) (hT : TkOrd T n) : IsE T n (wordM T) := by
  intro s a s1 hE hs h
  unfold wordM at h
  obtain ⟨x, s2, h1, h2⟩ := bd_inv h
  obtain ⟨e1, e2, e3⟩ := takeP_inv hK hn (by decide) hE hs h1
  have hlh := ord_LH hT (show s.at_ ≤ s2.at_ - 1 by omega) (by omega)
  obtain ⟨g1, g2, g3⟩ := putE_inv e1.ex e1.n (show Lo T s.at_ ≤ _ by omega) (by
    by_cases h3 : x = kTrue
    · rw [if_pos h3]; exact True.intro
    · rw [if_neg h3]
      by_cases h4 : x = kFalse
      · rw [if_pos h4]; exact True.intro
      · rw [if_neg h4]; exact True.intro) h2
  exact ⟨e1.trans g1, by omega, g2⟩
theorem operandS_isE (hK : TkOk T) (hn : T.length = n + 1) (hT : TkOrd T n) {sub : Ps Nat} (hp : IsE T n sub) : IsE T n (operandS T sub) := by
  intro s a s1 hE hs h
  unfold operandS at h
  by_cases h1 : isP T [[45], [33]] s = true
  · rw [if_pos h1] at h
    obtain ⟨o, s2, h2, h⟩ := bd_inv h
    obtain ⟨b, s3, h3, h4⟩ := bd_inv h
    have hlt := isP_lt' hK hn hs (by decide) h1
    obtain ⟨e1, e2⟩ := next_inv hE hlt h2
    obtain ⟨f1, f2, y, y1, y2, y3, y4⟩ := hp s2 b s3 e1.ex e1.n h3
    have hl := ord_LL hT s.at_ s2.at_ (by omega) e1.n
    obtain ⟨g1, g2, g3⟩ := putE_inv f1.ex f1.n (show Lo T s.at_ ≤ _ by omega) (by exact ⟨y, y1, by omega, y3, y4, True.intro⟩) h4
    exact ⟨(e1.trans f1).trans g1, by omega, g2⟩
  · rw [if_neg h1] at h
    by_cases h2 : isP T [[40]] s = true
    · rw [if_pos h2] at h
      obtain ⟨_, s2, h3, h⟩ := bd_inv h
      obtain ⟨b, s3, h4, h⟩ := bd_inv h
      obtain ⟨_, s4, h5, h6⟩ := bd_inv h
      injection h6 with h7 h8
      subst h7 h8
      obtain ⟨e1, e2, e3⟩ := takeP_inv hK hn (by decide) hE hs h3
      obtain ⟨f1, f2, f3⟩ := expression_isE hK hn hT hp s2 b s3 e1.ex e1.n h4
      obtain ⟨g1, g2, g3⟩ := takeP_inv hK hn (by decide) f1.ex f1.n h5
      have hl := ord_LL hT s.at_ s2.at_ (by omega) e1.n
      exact ⟨(e1.trans f1).trans g1, by omega, (f3.keep hT g1 (by omega)).mono hl⟩
    · rw [if_neg h2] at h
      by_cases h3 : isK T 1 s = true
      · rw [if_pos h3] at h
        exact reference_isE hK hn hT hp s a s1 hE hs h
      · rw [if_neg h3] at h
        by_cases h4 : isK T 2 s = true
        · rw [if_pos h4] at h
          obtain ⟨m, s2, h5, h6⟩ := bd_inv h
          unfold numberM at h5
          obtain ⟨x, s3, h7, h8⟩ := bd_inv h5
          injection h8 with _ h9
          subst h9
          obtain ⟨e1, e2, e3⟩ := takeK_inv hK hn (by decide) hE hs h7
          have hlh := ord_LH hT (show s.at_ ≤ s3.at_ - 1 by omega) (by omega)
          obtain ⟨g1, g2, g3⟩ := putE_inv e1.ex e1.n (show Lo T s.at_ ≤ _ by omega) (by exact True.intro) h6
          exact ⟨e1.trans g1, by omega, g2⟩
        · rw [if_neg h4] at h
          exact word_isE hK hn hT s a s1 hE hs h
theorem operand_isE (hK : TkOk T) (hn : T.length = n + 1) (hT : TkOrd T n) : ∀ k, IsE T n (operandM T k)
  | 0 => fun s a s1 _ _ h => by cases h
  | k + 1 => operandS_isE hK hn hT (operand_isE hK hn hT k)
end
end Go.Proofs.YtccmodefjgjpeaaGreatDoor
