/-
  What the grammar makes of any text: a place of it, an error that is one; or one function at least.
  What a program's expressions look like: which parts stand in which, how deep; so are all that the grammar makes.
  level: which signs bind how loosely.
-/
import Derived.Test.YtdeflloidhbpmaaGreatDoorK19
import Derived.Test.YtdeflloidhbpmaaGreatDoorK26
namespace Go.Proofs.YtdeflloidhbpmaaGreatDoor

theorem bd_inv {α β : Type} {x : Ps α} {f : α → Ps β} {s s' : Sg} {b : β} (h : bd x f s = .ok b s') : ∃ a s1, x s = .ok a s1 ∧ f a s1 = .ok b s' := by
  unfold bd at h
  cases hx : x s with
  | no c i => rw [hx] at h; cases h
  | ok a s1 => rw [hx] at h; exact ⟨a, s1, rfl, h⟩
theorem fun_ne {T : List Tk} {s s' : Sg} {u : Unit} (h : functionM T s = .ok u s') : s'.fn ≠ [] := by
  unfold functionM at h
  by_cases hc : (isP T [kFunc] s && s.fn.length == 32) = true
  · rw [if_pos hc] at h; cases h
  · rw [if_neg hc] at h
    obtain ⟨_, _, _, h⟩ := bd_inv h
    obtain ⟨_, _, _, h⟩ := bd_inv h
    obtain ⟨_, _, _, h⟩ := bd_inv h
    obtain ⟨_, _, _, h⟩ := bd_inv h
    obtain ⟨_, _, _, h⟩ := bd_inv h
    unfold putF at h
    injection h with h1 h2
    rw [← h2]
    simp
theorem programL_ne {T : List Tk} : ∀ (n : Nat) {s s' : Sg} {u : Unit}, s.fn ≠ [] → programL T n s = .ok u s' → s'.fn ≠ []
  | 0, _, _, _, _, h => by unfold programL at h; cases h
  | n + 1, s, s', u, h0, h => by
    unfold programL at h
    by_cases hc : isK T 0 s = true
    · rw [if_pos hc] at h; injection h with h1 h2; rw [← h2]; exact h0
    · rw [if_neg hc] at h
      obtain ⟨_, s1, h1, h2⟩ := bd_inv h
      exact programL_ne n (fun_ne h1) h2
theorem program_ne {T : List Tk} {s s' : Sg} {u : Unit} (h : programM T s = .ok u s') : s'.fn ≠ [] := by
  unfold programM at h
  obtain ⟨_, s1, h1, h2⟩ := bd_inv h
  exact programL_ne _ (fun_ne h1) h2
theorem toksF_place (t : List UInt8) : ∀ n k p, k ≤ t.length → (toksF n t k).2 = some p → p ≤ t.length := by
  intro n
  induction n with
  | zero => intro k p _ h; simp [toksF] at h
  | succ n ih =>
    intro k p hk h
    have hle := nextT_le t k hk
    simp only [toksF] at h
    by_cases h1 : nextBad t k = true
    · rw [if_pos h1] at h
      have := Option.some.inj h
      omega
    · rw [if_neg h1] at h
      by_cases h0 : (nextT t k).kind = 0
      · rw [if_pos h0] at h; cases h
      · rw [if_neg h0] at h
        exact ih _ _ hle.2.2.1 h
theorem lo_le (t : List UInt8) (hp : (toks t 0).2 = none) (i : Nat) (hi : i < (tksL t).length) : loOf (tksL t) i ≤ t.length := by
  obtain ⟨pre, hpre, hin⟩ := toks_tk t hp
  have hm : (tksL t)[i] ∈ tksL t := List.getElem_mem hi
  have e : loOf (tksL t) i = (tksL t)[i].lo := by simp [loOf, hi]
  rw [e]
  generalize (tksL t)[i] = x at hm ⊢
  unfold tksL at hm
  rw [hpre] at hm
  obtain ⟨y, hy, rfl⟩ := List.mem_map.1 hm
  rcases List.mem_append.1 hy with h | h
  · obtain ⟨_, a2, a3, _⟩ := hin y h
    show y.lo ≤ t.length
    omega
  · simp at h; subst h; exact Nat.le_refl _
theorem parseT_bad {t : List UInt8} {p c : Nat} (h : parseT t = .bad p c) : p ≤ t.length ∧ (c = 2 ∨ c = 3 ∨ c = 4 ∨ c = 5) := by
  unfold parseT at h
  cases hp : (toks t 0).2 with
  | some q =>
    rw [hp] at h
    injection h with h1 h2
    subst h1 h2
    exact ⟨toksF_place t _ 0 q (Nat.zero_le _) hp, .inl rfl⟩
  | none =>
    rw [hp] at h
    dsimp only at h
    have hf := fine_program (tksL_ok t hp) start (tksL_ok t hp).pos
    cases hr : programM (tksL t) start with
    | ok u s => rw [hr] at h; cases h
    | no d i =>
      rw [hr] at h hf
      injection h with h1 h2
      subst h1 h2
      exact ⟨lo_le t hp i hf.2, .inr hf.1⟩
theorem parseT_good {t : List UInt8} {s : Sg} (h : parseT t = .good s) : 0 < s.fn.length := by
  unfold parseT at h
  cases hp : (toks t 0).2 with
  | some q => rw [hp] at h; cases h
  | none =>
    rw [hp] at h
    dsimp only at h
    cases hr : programM (tksL t) start with
    | no d i => rw [hr] at h; cases h
    | ok u s' =>
      rw [hr] at h
      injection h with h1
      subst h1
      have := program_ne hr
      cases hs : s'.fn with
      | nil => exact absurd hs this
      | cons a b => simp

end Go.Proofs.YtdeflloidhbpmaaGreatDoor

namespace Go.Proofs.YtdeflloidhbpmaaGreatDoor

/-- How loose a pair's sign binds: 0 the loosest. -/
def lvl (op : List UInt8) : Nat := if sgOr.contains op then 0 else if sgAnd.contains op then 1 else if sgCmp.contains op then 2 else if sgAdd.contains op then 3 else 4
/-- Of a part: a pair its sign's, of all else 5. -/
def lvE (x : Ex) : Nat := if x.kind = 9 then lvl x.op else 5
def isOp (op : List UInt8) : Bool := sgOr.contains op || sgAnd.contains op || sgCmp.contains op || sgAdd.contains op || sgMul.contains op
/-- An expression but for where it stands. -/
def bare (x : Ex) : Ex := { x with lo := 0, hi := 0 }
/-- The levels that a pair's parts must have at least. -/
def lvA (op : List UInt8) : Nat := if lvl op = 2 then 3 else lvl op
def lvB (op : List UInt8) : Nat := lvl op + 1
/-- How deep a part may be: with brackets around it one less. -/
def dpt (E : List Ex) (n a k k' : Nat) : Prop := ∃ x, E[a]? = some x ∧ (if lvE x < n then k = k' + 1 else k = k')
/-- Where the j-th of a list's parts begins. -/
def stt (f : Nat) (l : List Nat) : Nat → Nat
  | 0 => f
  | j + 1 => l.getD j 0 + 1
/-- An expression whose parts stand from f on to it, in order; k: how deep it may be. nm, nu: which names and numbers there are. -/
inductive Sh (nm : List UInt8 → Prop) (nu : Nat → Prop) (E : List Ex) : Nat → Nat → Nat → Prop where
  | num {k i : Nat} {x : Ex} : E[i]? = some x → nu x.num → bare x = { kind := 1, num := x.num } → Sh nm nu E (k + 1) i i
  | word {k i : Nat} {x : Ex} : E[i]? = some x → (x.kind = 2 ∨ x.kind = 3 ∨ x.kind = 7) → bare x = { kind := x.kind } → Sh nm nu E (k + 1) i i
  | name {k i : Nat} {x : Ex} : E[i]? = some x → nm x.name → bare x = { kind := 4, name := x.name } → Sh nm nu E (k + 1) i i
  | idx {k f i : Nat} {x : Ex} : E[i]? = some x → nm x.name → bare x = { kind := 5, name := x.name, a := x.a } → x.a + 1 = i → Sh nm nu E k f x.a → Sh nm nu E (k + 1) f i
  | call {k f i : Nat} {x : Ex} : E[i]? = some x → nm x.name → bare x = { kind := 6, name := x.name, list := x.list } → stt f x.list x.list.length = i → (∀ j (h : j < x.list.length), Sh nm nu E k (stt f x.list j) x.list[j]) → Sh nm nu E (k + 1) f i
  | un {k k' f i : Nat} {x : Ex} : E[i]? = some x → (x.op = [45] ∨ x.op = [33]) → bare x = { kind := 8, op := x.op, a := x.a } → x.a + 1 = i → dpt E 5 x.a k k' → Sh nm nu E k' f x.a → Sh nm nu E (k + 1) f i
  | pair {k k1 k2 f i : Nat} {x : Ex} : E[i]? = some x → isOp x.op = true → bare x = { kind := 9, op := x.op, a := x.a, b := x.b } → x.b + 1 = i → dpt E (lvA x.op) x.a k k1 → Sh nm nu E k1 f x.a → dpt E (lvB x.op) x.b k k2 → Sh nm nu E k2 (x.a + 1) x.b → Sh nm nu E k f i

theorem prefix_get {α : Type} {E E' : List α} (h : E <+: E') {k : Nat} {y : α} (hy : E[k]? = some y) : E'[k]? = some y := by
  obtain ⟨r, rfl⟩ := h
  have : k < E.length := by
    rcases Nat.lt_or_ge k E.length with h | h
    · exact h
    · rw [List.getElem?_eq_none h] at hy; cases hy
  rw [List.getElem?_append_left this, hy]
section
variable {nm : List UInt8 → Prop} {nu : Nat → Prop}
theorem dpt.mono {E E' : List Ex} (hE : E <+: E') {n a k k' : Nat} (h : dpt E n a k k') : dpt E' n a k k' := by
  obtain ⟨x, h1, h2⟩ := h
  exact ⟨x, prefix_get hE h1, h2⟩
theorem dpt.deep {E : List Ex} {n a k k' : Nat} (h : dpt E n a k k') : dpt E n a (k + 1) (k' + 1) := by
  obtain ⟨x, h1, h2⟩ := h
  refine ⟨x, h1, ?_⟩
  by_cases hl : lvE x < n
  · rw [if_pos hl] at h2 ⊢; omega
  · rw [if_neg hl] at h2 ⊢; omega
theorem Sh.mono {E E' : List Ex} (hE : E <+: E') {k f i : Nat} (h : Sh nm nu E k f i) : Sh nm nu E' k f i := by
  induction h with
  | num h1 h2 h3 => exact .num (prefix_get hE h1) h2 h3
  | word h1 h2 h3 => exact .word (prefix_get hE h1) h2 h3
  | name h1 h2 h3 => exact .name (prefix_get hE h1) h2 h3
  | idx h1 h2 h3 h4 _ ih => exact .idx (prefix_get hE h1) h2 h3 h4 ih
  | call h1 h2 h3 h4 _ ih => exact .call (prefix_get hE h1) h2 h3 h4 ih
  | un h1 h2 h3 h4 h5 _ ih => exact .un (prefix_get hE h1) h2 h3 h4 (h5.mono hE) ih
  | pair h1 h2 h3 h4 h5 _ h7 _ ih1 ih2 => exact .pair (prefix_get hE h1) h2 h3 h4 (h5.mono hE) ih1 (h7.mono hE) ih2
/-- What may be as deep may be deeper. -/
theorem Sh.deep {E : List Ex} {k f i : Nat} (h : Sh nm nu E k f i) : Sh nm nu E (k + 1) f i := by
  induction h with
  | num h1 h2 h3 => exact .num h1 h2 h3
  | word h1 h2 h3 => exact .word h1 h2 h3
  | name h1 h2 h3 => exact .name h1 h2 h3
  | idx h1 h2 h3 h4 _ ih => exact .idx h1 h2 h3 h4 ih
  | call h1 h2 h3 h4 _ ih => exact .call h1 h2 h3 h4 ih
  | un h1 h2 h3 h4 h5 _ ih => exact .un h1 h2 h3 h4 h5.deep ih
  | pair h1 h2 h3 h4 h5 _ h7 _ ih1 ih2 => exact .pair h1 h2 h3 h4 h5.deep ih1 h7.deep ih2
theorem Sh.pos {E : List Ex} {k f i : Nat} (h : Sh nm nu E k f i) : 0 < k := by
  induction h with
  | num => omega
  | word => omega
  | name => omega
  | idx => omega
  | call => omega
  | un => omega
  | pair _ _ _ _ h5 _ _ _ ih1 _ =>
    obtain ⟨x, _, h2⟩ := h5
    split at h2 <;> omega
theorem Sh.lt {E : List Ex} {k f i : Nat} (h : Sh nm nu E k f i) : i < E.length ∧ f ≤ i := by
  have key : ∀ {x : Ex} {i : Nat}, E[i]? = some x → i < E.length := fun h => (List.getElem?_eq_some_iff.1 h).1
  induction h with
  | num h1 => exact ⟨key h1, Nat.le_refl _⟩
  | word h1 => exact ⟨key h1, Nat.le_refl _⟩
  | name h1 => exact ⟨key h1, Nat.le_refl _⟩
  | idx h1 _ _ h4 _ ih => exact ⟨key h1, by omega⟩
  | @call k f i x h1 _ _ h4 _ ih =>
    refine ⟨key h1, ?_⟩
    have : ∀ j, j ≤ x.list.length → f ≤ stt f x.list j := by
      intro j
      induction j with
      | zero => intro _; exact Nat.le_refl _
      | succ j ihj =>
        intro hj
        have a1 := ihj (by omega)
        have a2 := (ih j (by omega)).2
        have a3 : stt f x.list (j + 1) = x.list[j] + 1 := by show x.list.getD j 0 + 1 = _; rw [List.getD_eq_getElem?_getD, List.getElem?_eq_getElem (by omega)]; rfl
        omega
    have := this _ (Nat.le_refl _)
    omega
  | un h1 _ _ h4 _ _ ih => exact ⟨key h1, by omega⟩
  | pair h1 _ _ h4 _ _ _ _ ih1 ih2 => exact ⟨key h1, by omega⟩
/-- A part of a level at least n, where it is one's part: with brackets if it is looser. -/
def Pt (nm : List UInt8 → Prop) (nu : Nat → Prop) (E : List Ex) (n k f a : Nat) : Prop := ∃ k', dpt E n a k k' ∧ Sh nm nu E k' f a
theorem Pt.mono {E E' : List Ex} (hE : E <+: E') {n k f a : Nat} (h : Pt nm nu E n k f a) : Pt nm nu E' n k f a := by
  obtain ⟨k', h1, h2⟩ := h
  exact ⟨k', h1.mono hE, h2.mono hE⟩
/-- A part serves at a looser level. -/
theorem Pt.loose {E : List Ex} {n m k f a : Nat} (h : Pt nm nu E n k f a) (hm : m ≤ n) : Pt nm nu E m k f a := by
  obtain ⟨k', ⟨x, h1, h2⟩, h3⟩ := h
  by_cases hl : lvE x < n
  · rw [if_pos hl] at h2
    subst h2
    by_cases hl2 : lvE x < m
    · exact ⟨k', ⟨x, h1, by rw [if_pos hl2]⟩, h3⟩
    · exact ⟨k' + 1, ⟨x, h1, by rw [if_neg hl2]⟩, h3.deep⟩
  · rw [if_neg hl] at h2
    subst h2
    exact ⟨k, ⟨x, h1, by rw [if_neg (by omega)]⟩, h3⟩
/-- An expression as any part. -/
theorem Sh.part {E : List Ex} {k f a n : Nat} (h : Sh nm nu E k f a) (hn : ∀ x, E[a]? = some x → n ≤ lvE x) : Pt nm nu E n k f a := by
  have hl := h.lt.1
  have hx : E[a]? = some E[a] := List.getElem?_eq_getElem hl
  exact ⟨k, ⟨_, hx, by rw [if_neg (by have := hn _ hx; omega)]⟩, h⟩
theorem Sh.zero {E : List Ex} {k f a : Nat} (h : Sh nm nu E k f a) : Pt nm nu E 0 k f a := h.part fun _ _ => Nat.zero_le _
/-- In brackets it is a part of any level. -/
theorem Pt.bracket {E : List Ex} {k f a : Nat} (h : Pt nm nu E 0 k f a) (n : Nat) : Pt nm nu E n (k + 1) f a := by
  obtain ⟨k', ⟨x, h1, h2⟩, h3⟩ := h
  rw [if_neg (Nat.not_lt_zero _)] at h2
  subst h2
  by_cases hl : lvE x < n
  · exact ⟨k, ⟨x, h1, by rw [if_pos hl]⟩, h3⟩
  · exact ⟨k + 1, ⟨x, h1, by rw [if_neg hl]⟩, h3.deep⟩

/-- One puts expressions alone; its answer is the last one, a part of that level. -/
def Snd (nm : List UInt8 → Prop) (nu : Nat → Prop) (n k : Nat) (x : Ps Nat) : Prop := ∀ s a s1, x s = .ok a s1 → s.ex <+: s1.ex ∧ a + 1 = s1.ex.length ∧ Pt nm nu s1.ex n k s.ex.length a
variable {T : List Tk}
theorem next_ex {s s1 : Sg} {a : List UInt8} (h : nextP T s = .ok a s1) : s1.ex = s.ex ∧ a = (cur T s).txt := by
  unfold nextP at h
  by_cases hm : 1000 < s.st.length
  · rw [if_pos hm] at h; cases h
  · rw [if_neg hm] at h
    injection h with h1 h2
    subst h2
    exact ⟨rfl, h1.symm⟩
theorem takeP_ex {l : List (List UInt8)} {s s1 : Sg} {a : List UInt8} (h : takeP T l s = .ok a s1) : s1.ex = s.ex ∧ l.contains a = true := by
  unfold takeP at h
  by_cases hi : isP T l s = true
  · rw [if_pos hi] at h
    obtain ⟨e1, rfl⟩ := next_ex h
    exact ⟨e1, hi⟩
  · rw [if_neg hi] at h; cases h
theorem takeK_ex {k : Nat} {s s1 : Sg} {a : List UInt8} (h : takeK T k s = .ok a s1) : s1.ex = s.ex ∧ a = (cur T s).txt ∧ (cur T s).kind = k := by
  unfold takeK at h
  by_cases hi : isK T k s = true
  · rw [if_pos hi] at h
    obtain ⟨e1, rfl⟩ := next_ex h
    exact ⟨e1, rfl, by unfold isK at hi; exact beq_iff_eq.1 hi⟩
  · rw [if_neg hi] at h; cases h
theorem putE_ex {lo : Nat} {x : Ex} {s s1 : Sg} {a : Nat} (h : putE T lo x s = .ok a s1) : a = s.ex.length ∧ s1.ex = s.ex ++ [{ x with lo := lo, hi := lastHi T s }] := by
  unfold putE at h
  injection h with h1 h2
  subst h1 h2
  exact ⟨rfl, rfl⟩
theorem put_get (E : List Ex) (y : Ex) : (E ++ [y])[E.length]? = some y := List.getElem?_concat_length
theorem pair_snd {n m m' k : Nat} {part : Ps Nat} (hp : Snd nm nu m k part) {signs : List (List UInt8)} {s s1 : Sg} {lo f a c : Nat} (hs : isP T signs s = true) (hsg : ∀ o, signs.contains o = true → isOp o = true ∧ n ≤ lvl o ∧ lvA o ≤ m' ∧ lvB o ≤ m) (hlast : a + 1 = s.ex.length) (ha : Pt nm nu s.ex m' k f a)
    (h : pairM T part lo a s = .ok c s1) : s.ex <+: s1.ex ∧ c + 1 = s1.ex.length ∧ Pt nm nu s1.ex n k f c := by
  unfold pairM at h
  obtain ⟨o, s2, h1, h⟩ := bd_inv h
  obtain ⟨b, s3, h2, h3⟩ := bd_inv h
  obtain ⟨e1, rfl⟩ := next_ex h1
  obtain ⟨f1, f2, f3⟩ := hp s2 b s3 h2
  obtain ⟨rfl, g2⟩ := putE_ex h3
  rw [e1] at f1 f3
  obtain ⟨o1, o2, o3, o4⟩ := hsg _ (show signs.contains (cur T s).txt = true from hs)
  have hpre : s3.ex <+: s1.ex := by rw [g2]; exact List.prefix_append _ _
  have hg : s1.ex[s3.ex.length]? = some { kind := 9, op := (cur T s).txt, a := a, b := b, lo := lo, hi := lastHi T s3 } := by rw [g2]; exact put_get _ _
  have hA := (ha.mono (f1.trans hpre)).loose o3
  have hB := (f3.mono hpre).loose o4
  rw [← hlast] at hB
  obtain ⟨k1, a1, a2⟩ := hA
  obtain ⟨k2, b1, b2⟩ := hB
  have hsh : Sh nm nu s1.ex k f s3.ex.length := .pair (x := { kind := 9, op := (cur T s).txt, a := a, b := b, lo := lo, hi := lastHi T s3 }) hg o1 rfl f2 a1 a2 b1 b2
  refine ⟨f1.trans hpre, by rw [g2]; simp, hsh.part fun x hx => ?_⟩
  rw [hg] at hx
  obtain rfl := Option.some.inj hx
  exact o2
theorem rowL_snd {n m k : Nat} {part : Ps Nat} (hp : Snd nm nu m k part) {signs : List (List UInt8)} (hsg : ∀ o, signs.contains o = true → isOp o = true ∧ n ≤ lvl o ∧ lvA o ≤ n ∧ lvB o ≤ m) {lo f : Nat} : ∀ fu a s c s1, a + 1 = s.ex.length → Pt nm nu s.ex n k f a → rowL T part signs lo fu a s = .ok c s1 → s.ex <+: s1.ex ∧ c + 1 = s1.ex.length ∧ Pt nm nu s1.ex n k f c
  | 0, _, _, _, _, _, _, h => by unfold rowL at h; cases h
  | fu + 1, a, s, c, s1, hl, ha, h => by
    unfold rowL at h
    by_cases hi : isP T signs s = true
    · rw [if_pos hi] at h
      obtain ⟨b, s2, h1, h2⟩ := bd_inv h
      obtain ⟨e1, e2, e3⟩ := pair_snd hp hi hsg hl ha h1
      obtain ⟨f1, f2, f3⟩ := rowL_snd hp hsg fu b s2 c s1 e2 e3 h2
      exact ⟨e1.trans f1, f2, f3⟩
    · rw [if_neg hi] at h
      injection h with h1 h2
      subst h1 h2
      exact ⟨List.prefix_refl _, hl, ha⟩
theorem row_snd {n m k : Nat} {part : Ps Nat} (hp : Snd nm nu m k part) (hnm : n ≤ m) {signs : List (List UInt8)} (hsg : ∀ o, signs.contains o = true → isOp o = true ∧ n ≤ lvl o ∧ lvA o ≤ n ∧ lvB o ≤ m) : Snd nm nu n k (rowM T part signs) := by
  intro s a s1 h
  unfold rowM at h
  obtain ⟨b, s2, h1, h2⟩ := bd_inv h
  obtain ⟨e1, e2, e3⟩ := hp s b s2 h1
  obtain ⟨f1, f2, f3⟩ := rowL_snd hp hsg _ b s2 a s1 e2 (e3.loose hnm) h2
  exact ⟨e1.trans f1, f2, f3⟩
theorem sg_of {signs : List (List UInt8)} {P : List UInt8 → Prop} (h : ∀ o ∈ signs, P o) : ∀ o, signs.contains o = true → P o := fun o ho => h o (List.contains_iff_mem.1 ho)
theorem comparison_snd {k : Nat} {op : Ps Nat} (hp : Snd nm nu 3 k (sumM T op)) : Snd nm nu 2 k (comparisonM T op) := by
  intro s a s1 h
  unfold comparisonM at h
  obtain ⟨b, s2, h1, h2⟩ := bd_inv h
  obtain ⟨e1, e2, e3⟩ := hp s b s2 h1
  by_cases hi : isP T sgCmp s2 = true
  · rw [if_pos hi] at h2
    obtain ⟨f1, f2, f3⟩ := pair_snd (n := 2) hp hi (sg_of (by decide)) e2 e3 h2
    exact ⟨e1.trans f1, f2, f3⟩
  · rw [if_neg hi] at h2
    injection h2 with h3 h4
    subst h3 h4
    exact ⟨e1, e2, e3.loose (by omega)⟩
theorem sum_snd {k : Nat} {op : Ps Nat} (hp : Snd nm nu 5 k op) : Snd nm nu 3 k (sumM T op) := row_snd (row_snd (n := 4) hp (by omega) (sg_of (by decide))) (by omega) (sg_of (by decide))
theorem expression_snd {k : Nat} {op : Ps Nat} (hp : Snd nm nu 5 k op) : Snd nm nu 0 k (expressionM T op) :=
  row_snd (row_snd (n := 1) (comparison_snd (sum_snd hp)) (by omega) (sg_of (by decide))) (by omega) (sg_of (by decide))
theorem Pt.sh {E : List Ex} {k f a : Nat} (h : Pt nm nu E 0 k f a) : Sh nm nu E k f a := by
  obtain ⟨k', ⟨x, h1, h2⟩, h3⟩ := h
  rw [if_neg (Nat.not_lt_zero _)] at h2
  subst h2
  exact h3
/-- So many parts, one behind the other. -/
def LS (nm : List UInt8 → Prop) (nu : Nat → Prop) (E : List Ex) (k f : Nat) (l : List Nat) (e : Nat) : Prop := stt f l l.length = e ∧ ∀ j (h : j < l.length), Sh nm nu E k (stt f l j) l[j]
theorem stt_snoc (f : Nat) (l : List Nat) (a j : Nat) (h : j ≤ l.length) : stt f (l ++ [a]) j = stt f l j := by
  cases j with
  | zero => rfl
  | succ j =>
    show (l ++ [a]).getD j 0 + 1 = l.getD j 0 + 1
    rw [List.getD_eq_getElem?_getD, List.getElem?_append_left (by omega), List.getD_eq_getElem?_getD]
theorem LS.snoc {E : List Ex} {k f e a : Nat} {l : List Nat} (h : LS nm nu E k f l e) (ha : Sh nm nu E k e a) : LS nm nu E k f (l ++ [a]) (a + 1) := by
  obtain ⟨h1, h2⟩ := h
  refine ⟨?_, fun j hj => ?_⟩
  · rw [List.length_append]
    show (l ++ [a]).getD l.length 0 + 1 = a + 1
    rw [List.getD_eq_getElem?_getD, List.getElem?_concat_length]; rfl
  · rw [List.length_append] at hj
    rcases Nat.lt_or_ge j l.length with hlt | hge
    · rw [stt_snoc f l a j (by omega), List.getElem_append_left hlt]; exact h2 j hlt
    · have e1 : j = l.length := by simp at hj; omega
      subst e1
      rw [stt_snoc f l a _ (Nat.le_refl _), h1]
      simpa using ha
theorem LS.mono {E E' : List Ex} (hE : E <+: E') {k f e : Nat} {l : List Nat} (h : LS nm nu E k f l e) : LS nm nu E' k f l e := ⟨h.1, fun j hj => (h.2 j hj).mono hE⟩
theorem listL_snd {k : Nat} {one : Ps Nat} (hp : Snd nm nu 0 k one) {f : Nat} : ∀ fu out s l s1, LS nm nu s.ex k f out s.ex.length → listL T one fu out s = .ok l s1 → s.ex <+: s1.ex ∧ LS nm nu s1.ex k f l s1.ex.length
  | 0, _, _, _, _, _, h => by unfold listL at h; cases h
  | fu + 1, out, s, l, s1, ho, h => by
    unfold listL at h
    by_cases hi : isP T [[41]] s = true
    · rw [if_pos hi] at h
      injection h with h1 h2
      subst h1 h2
      exact ⟨List.prefix_refl _, ho⟩
    · rw [if_neg hi] at h
      obtain ⟨u, s2, h1, h⟩ := bd_inv h
      obtain ⟨x, s3, h2, h3⟩ := bd_inv h
      have hc : s2.ex = s.ex := by
        by_cases hz : out.length = 0
        · rw [if_pos hz] at h1
          injection h1 with _ h4
          subst h4
          rfl
        · rw [if_neg hz] at h1
          exact (takeP_ex h1).1
      obtain ⟨f1, f2, f3⟩ := hp s2 x s3 h2
      rw [hc] at f1 f3
      have hs := (ho.mono f1).snoc f3.sh
      rw [f2] at hs
      obtain ⟨g1, g2⟩ := listL_snd hp fu (out ++ [x]) s3 l s1 hs h3
      exact ⟨f1.trans g1, g2⟩
theorem list_snd {k : Nat} {one : Ps Nat} (hp : Snd nm nu 0 k one) {s s1 : Sg} {l : List Nat} (h : listM T one s = .ok l s1) : s.ex <+: s1.ex ∧ LS nm nu s1.ex k s.ex.length l s1.ex.length := by
  unfold listM at h
  obtain ⟨_, s2, h1, h⟩ := bd_inv h
  obtain ⟨b, s3, h2, h⟩ := bd_inv h
  obtain ⟨_, s4, h3, h4⟩ := bd_inv h
  injection h4 with h5 h6
  subst h5 h6
  have e1 := (takeP_ex h1).1
  have e3 := (takeP_ex h3).1
  obtain ⟨f1, f2⟩ := listL_snd hp (f := s2.ex.length) _ [] s2 b s3 ⟨rfl, fun j hj => absurd hj (Nat.not_lt_zero _)⟩ h2
  rw [e1] at f1 f2
  rw [e3]
  exact ⟨f1, f2⟩
/-- The names and numbers that the tokens have. -/
structure Nms (nm : List UInt8 → Prop) (nu : Nat → Prop) (T : List Tk) : Prop where
  name : ∀ s, (cur T s).kind = 1 → nm (cur T s).txt
  num : ∀ s, (cur T s).kind = 2 → nu (numOf (cur T s).txt)
theorem lvE5 {x : Ex} (h : x.kind ≠ 9) : lvE x = 5 := by unfold lvE; rw [if_neg h]
theorem put_part {E E' : List Ex} {y : Ex} {k f : Nat} (hE : E' = E ++ [y]) (hk : y.kind ≠ 9) (h : Sh nm nu E' k f E.length) : Pt nm nu E' 5 k f E.length := h.part fun x hx => by
  rw [hE, put_get] at hx
  obtain rfl := Option.some.inj hx
  rw [lvE5 hk]; exact Nat.le_refl _
theorem call_snd {k : Nat} {sub : Ps Nat} (hp : Snd nm nu 5 k sub) {lo : Nat} {name : List UInt8} (hn : nm name) {s s1 : Sg} {a : Nat} (h : callM T sub lo name s = .ok a s1) : s.ex <+: s1.ex ∧ a + 1 = s1.ex.length ∧ Pt nm nu s1.ex 5 (k + 1) s.ex.length a := by
  unfold callM at h
  obtain ⟨l, s2, h1, h2⟩ := bd_inv h
  obtain ⟨e1, e2⟩ := list_snd (expression_snd hp) h1
  obtain ⟨rfl, g2⟩ := putE_ex h2
  have hpre : s2.ex <+: s1.ex := by rw [g2]; exact List.prefix_append _ _
  have hg := put_get s2.ex { kind := 6, name := name, list := l, lo := lo, hi := lastHi T s2 }
  rw [← g2] at hg
  obtain ⟨k1, k2⟩ := e2.mono hpre
  exact ⟨e1.trans hpre, by rw [g2]; simp, put_part g2 (by simp) (.call hg hn rfl k1 k2)⟩
theorem reference_snd (hT : Nms nm nu T) {k : Nat} {sub : Ps Nat} (hp : Snd nm nu 5 k sub) : Snd nm nu 5 (k + 1) (referenceM T sub) := by
  intro s a s1 h
  unfold referenceM at h
  obtain ⟨name, s2, h1, h2⟩ := bd_inv h
  obtain ⟨e1, e2, e3⟩ := takeK_ex h1
  have hn : nm name := by rw [e2]; exact hT.name s e3
  by_cases hi : isP T [[40]] s2 = true
  · rw [if_pos hi] at h2
    have := call_snd hp hn h2
    rw [e1] at this
    exact this
  · rw [if_neg hi] at h2
    by_cases hj : isP T [[91]] s2 = true
    · rw [if_pos hj] at h2
      obtain ⟨b, s3, h3, h4⟩ := bd_inv h2
      unfold indexM at h3
      obtain ⟨_, t1, q1, h3⟩ := bd_inv h3
      obtain ⟨c, t2, q2, h3⟩ := bd_inv h3
      obtain ⟨_, t3, q3, q4⟩ := bd_inv h3
      injection q4 with q5 q6
      subst q5 q6
      have r1 := (takeP_ex q1).1
      have r3 := (takeP_ex q3).1
      obtain ⟨f1, f2, f3⟩ := expression_snd hp t1 c t2 q2
      rw [r1, e1] at f1 f3
      obtain ⟨rfl, g2⟩ := putE_ex h4
      rw [r3] at g2
      have hpre : t2.ex <+: s1.ex := by rw [g2]; exact List.prefix_append _ _
      have hg := put_get t2.ex { kind := 5, name := name, a := c, lo := (cur T s).lo, hi := lastHi T t3 }
      rw [← g2] at hg
      rw [r3]
      exact ⟨f1.trans hpre, by rw [g2]; simp, put_part g2 (by simp) (.idx hg hn rfl f2 (f3.sh.mono hpre))⟩
    · rw [if_neg hj] at h2
      obtain ⟨rfl, g2⟩ := putE_ex h2
      rw [e1] at g2 ⊢
      have hg := put_get s.ex { kind := 4, name := name, lo := (cur T s).lo, hi := lastHi T s2 }
      rw [← g2] at hg
      exact ⟨by rw [g2]; exact List.prefix_append _ _, by rw [g2]; simp, put_part g2 (by simp) (.name hg hn rfl)⟩
theorem word_snd {k : Nat} : Snd nm nu 5 (k + 1) (wordM T) := by
  intro s a s1 h
  unfold wordM at h
  obtain ⟨x, s2, h1, h2⟩ := bd_inv h
  have e1 := (takeP_ex h1).1
  obtain ⟨rfl, g2⟩ := putE_ex h2
  rw [e1] at g2 ⊢
  have hg := put_get s.ex { kind := if x = kTrue then 2 else if x = kFalse then 3 else 7, lo := (cur T s).lo, hi := lastHi T s2 }
  rw [← g2] at hg
  have hk : (if x = kTrue then 2 else if x = kFalse then 3 else 7) = 2 ∨ (if x = kTrue then 2 else if x = kFalse then 3 else 7) = 3 ∨ (if x = kTrue then 2 else if x = kFalse then 3 else 7) = 7 := by
    by_cases h3 : x = kTrue
    · rw [if_pos h3]; exact .inl rfl
    · rw [if_neg h3]
      by_cases h4 : x = kFalse
      · rw [if_pos h4]; exact .inr (.inl rfl)
      · rw [if_neg h4]; exact .inr (.inr rfl)
  refine ⟨by rw [g2]; exact List.prefix_append _ _, by rw [g2]; simp, put_part g2 (fun h9 => ?_) (.word hg hk rfl)⟩
  dsimp only at h9
  rw [h9] at hk
  omega
theorem operandS_snd (hT : Nms nm nu T) {k : Nat} {sub : Ps Nat} (hp : Snd nm nu 5 k sub) : Snd nm nu 5 (k + 1) (operandS T sub) := by
  intro s a s1 h
  unfold operandS at h
  by_cases h1 : isP T [[45], [33]] s = true
  · rw [if_pos h1] at h
    obtain ⟨o, s2, h2, h⟩ := bd_inv h
    obtain ⟨b, s3, h3, h4⟩ := bd_inv h
    obtain ⟨e1, rfl⟩ := next_ex h2
    obtain ⟨f1, f2, f3⟩ := hp s2 b s3 h3
    rw [e1] at f1 f3
    obtain ⟨rfl, g2⟩ := putE_ex h4
    have hpre : s3.ex <+: s1.ex := by rw [g2]; exact List.prefix_append _ _
    have hg := put_get s3.ex { kind := 8, op := (cur T s).txt, a := b, lo := (cur T s).lo, hi := lastHi T s3 }
    rw [← g2] at hg
    obtain ⟨k', a1, a2⟩ := f3.mono hpre
    have ho : (cur T s).txt = [45] ∨ (cur T s).txt = [33] := by
      have : (cur T s).txt ∈ ([[45], [33]] : List (List UInt8)) := List.contains_iff_mem.1 h1
      simpa using this
    exact ⟨f1.trans hpre, by rw [g2]; simp, put_part g2 (by simp) (.un hg ho rfl f2 a1 a2)⟩
  · rw [if_neg h1] at h
    by_cases h2 : isP T [[40]] s = true
    · rw [if_pos h2] at h
      obtain ⟨_, s2, h3, h⟩ := bd_inv h
      obtain ⟨b, s3, h4, h⟩ := bd_inv h
      obtain ⟨_, s4, h5, h6⟩ := bd_inv h
      injection h6 with h7 h8
      subst h7 h8
      have e1 := (takeP_ex h3).1
      have e3 := (takeP_ex h5).1
      obtain ⟨f1, f2, f3⟩ := expression_snd hp s2 b s3 h4
      rw [e1] at f1 f3
      rw [e3]
      exact ⟨f1, f2, f3.bracket 5⟩
    · rw [if_neg h2] at h
      by_cases h3 : isK T 1 s = true
      · rw [if_pos h3] at h
        exact reference_snd hT hp s a s1 h
      · rw [if_neg h3] at h
        by_cases h4 : isK T 2 s = true
        · rw [if_pos h4] at h
          obtain ⟨m, s2, h5, h6⟩ := bd_inv h
          unfold numberM at h5
          obtain ⟨x, s3, h7, h8⟩ := bd_inv h5
          injection h8 with h9 h10
          subst h9 h10
          obtain ⟨e1, e2, e3⟩ := takeK_ex h7
          obtain ⟨rfl, g2⟩ := putE_ex h6
          rw [e1] at g2 ⊢
          have hg := put_get s.ex { kind := 1, num := numOf x, lo := (cur T s).lo, hi := lastHi T s3 }
          rw [← g2] at hg
          exact ⟨by rw [g2]; exact List.prefix_append _ _, by rw [g2]; simp, put_part g2 (by simp) (.num hg (by show nu (numOf x); rw [e2]; exact hT.num s e3) rfl)⟩
        · rw [if_neg h4] at h
          exact word_snd s a s1 h
theorem operand_snd (hT : Nms nm nu T) : ∀ k, Snd nm nu 5 k (operandM T k)
  | 0 => fun s a s1 h => by cases h
  | k + 1 => operandS_snd hT (operand_snd hT k)
end
end Go.Proofs.YtdeflloidhbpmaaGreatDoor

namespace Go.Proofs.YtdeflloidhbpmaaGreatDoor
open Go.RowKit

def levL (i : Nat) : List (List UInt8) := [sgOr, sgAnd, sgCmp, sgAdd, sgMul].getD i []
/-- A slice of texts anywhere in a block. -/
def SgO (w : World) (g o n : Nat) (l : List (List UInt8)) : Prop := l.length = n ∧ g < w.heap.size ∧ ∀ i (h : i < l.length), w.cell? ⟨g, o + i, none⟩ = some (.string (bs l[i]))
theorem SgO.keep {w w' : World} {g o n : Nat} {l : List (List UInt8)} (h : SgO w g o n l) (hs : w.heap.size ≤ w'.heap.size) (hb : w'.heap[g]? = w.heap[g]?) : SgO w' g o n l :=
  ⟨h.1, by have := h.2.1; omega, fun i hi => (World.cell?_of_block (a := ⟨g, o + i, none⟩) hb).trans (h.2.2 i hi)⟩
set_option maxRecDepth 100000 in
set_option maxHeartbeats 1000000 in
theorem indexo_calls (g o n c : Nat) (l : List (List UInt8)) (b : List UInt8) (hn : n ≤ 100000) (w : World) (hx : SgO w g o n l) :
    Calls Tryz.prog 134 #[.slice (some ⟨g, o, none⟩) n c, .string (bs b)] w (IndexPost l b w) := by
  have HX := Lib.hid hx
  have HL := Lib.hid hx.1
  clear hx
  go_enter Tryz.func134, Tryz.ntmps134
  go_wp2
  go_loop [8] (fun a => ∃ i : Nat, i ≤ n ∧ a = .int .i64 i ∧ Hid (∀ j (h : j < l.length), j < i → b ≠ l[j])) (fun a => n - (intOf a).toNat)
  case atStart => exact ⟨0, by omega, rfl, Lib.hid (fun j _ hj => by omega)⟩
  case round =>
    obtain ⟨i, hi, rfl, HN⟩ := hrel
    by_cases hlt : i < n
    · have hc := HX.out.2.2 i (by rw [HL.out]; exact hlt)
      have hxl : i < l.length := by rw [HL.out]; exact hlt
      have h1 : (i : Int) < (n : Int) := by omega
      have h0 : (0 : Int) ≤ (i : Int) := by omega
      by_cases he : b = l[i]
      · have HE := Lib.hid (contains_yes i hxl he)
        have hq : ((bs b).toList == (bs l[i]).toList) = true := by rw [← he]; exact beq_self_eq_true _
        have HD : Hid (IndexPost l b w (.returned (.int .i64 (i : Int))) w) := Lib.hid ⟨⟨_, rfl, by rw [HE.out]; exact decide_eq_true h0⟩, rfl⟩
        clear he
        go_wp2
        go_ret
        exact HD.out
      · have HE := Lib.hid he
        have hq : ((bs b).toList == (bs l[i]).toList) = false := str_ne (fun e => he (by rw [← bs_toList b, e, bs_toList]))
        clear he
        go_wp2
        go_round
        case rel => exact ⟨i + 1, by omega, by go_num, Lib.hid (fun j hj hji => by
          by_cases h : j = i
          · subst h; exact HE.out
          · exact HN.out j hj (by omega))⟩
        case measure => simp [intOf]; omega
    · obtain rfl : i = n := by omega
      have HE := Lib.hid (contains_no (xs := l) (b := b) (fun j hj => HN.out j hj (by rw [← HL.out]; exact hj)))
      have HD : Hid (IndexPost l b w (.returned (.int .i64 (-1))) w) := Lib.hid ⟨⟨_, rfl, by rw [HE.out]; rfl⟩, rfl⟩
      go_wp2
      go_ret
      exact HD.out
set_option maxHeartbeats 1000000 in
theorem containso_calls (g o n c : Nat) (l : List (List UInt8)) (b : List UInt8) (hn : n ≤ 100000) (w : World) (hx : SgO w g o n l) :
    Calls Tryz.prog 116 #[.slice (some ⟨g, o, none⟩) n c, .string (bs b)] w fun e w' => e = .returned (.bool (l.contains b)) ∧ w' = w := by
  have hc := Lib.hid (indexo_calls g o n c l b hn w hx)
  clear hx
  go_enter Tryz.func116, Tryz.ntmps116
  go_wp2_with fail
  refine hc.out.mono ?_
  rintro e w1 ⟨⟨i, rfl, hi⟩, rfl⟩
  have HI := Lib.hid hi
  clear hi
  go_wp2
  go_ret
  exact ⟨ret_bool HI.out, rfl⟩
/-- The table of levels in memory: c i the room of the i-th list, c (i + 5) where in its block it begins. -/
structure Levs (g c : Nat → Nat) (w : World) : Prop where
  cell : ∀ i, i < 5 → w.cell? ⟨0, i, none⟩ = some (.slice (some ⟨g i, c (i + 5), none⟩) (levL i).length (c i))
  rows : ∀ i, i < 5 → SgO w (g i) (c (i + 5)) (levL i).length (levL i)
def levV (g c : Nat → Nat) : Array Value := #[.slice (some ⟨g 0, c (0 + 5), none⟩) (levL 0).length (c 0), .slice (some ⟨g 1, c (1 + 5), none⟩) (levL 1).length (c 1), .slice (some ⟨g 2, c (2 + 5), none⟩) (levL 2).length (c 2), .slice (some ⟨g 3, c (3 + 5), none⟩) (levL 3).length (c 3), .slice (some ⟨g 4, c (4 + 5), none⟩) (levL 4).length (c 4)]
/-- The level, -1 if it is none of a pair. -/
def levI (b : List UInt8) : Int := if isOp b then (lvl b : Int) else -1
theorem levI_at (b : List UInt8) (i : Nat) (hi : i < 5) (h : ∀ j, j < i → (levL j).contains b = false) (hc : (levL i).contains b = true) : levI b = (i : Int) := by
  have key : ∀ j, j < i → (levL j).contains b = false := h
  unfold levI isOp lvl
  have : i = 0 ∨ i = 1 ∨ i = 2 ∨ i = 3 ∨ i = 4 := by omega
  rcases this with rfl | rfl | rfl | rfl | rfl
  · have h0 : sgOr.contains b = true := hc
    rw [h0]; rfl
  · have h0 : sgOr.contains b = false := key 0 (by decide)
    have h1 : sgAnd.contains b = true := hc
    rw [h0, h1]; rfl
  · have h0 : sgOr.contains b = false := key 0 (by decide)
    have h1 : sgAnd.contains b = false := key 1 (by decide)
    have h2 : sgCmp.contains b = true := hc
    rw [h0, h1, h2]; rfl
  · have h0 : sgOr.contains b = false := key 0 (by decide)
    have h1 : sgAnd.contains b = false := key 1 (by decide)
    have h2 : sgCmp.contains b = false := key 2 (by decide)
    have h3 : sgAdd.contains b = true := hc
    rw [h0, h1, h2, h3]; rfl
  · have h0 : sgOr.contains b = false := key 0 (by decide)
    have h1 : sgAnd.contains b = false := key 1 (by decide)
    have h2 : sgCmp.contains b = false := key 2 (by decide)
    have h3 : sgAdd.contains b = false := key 3 (by decide)
    have h4 : sgMul.contains b = true := hc
    rw [h0, h1, h2, h3, h4]; rfl
theorem levI_no (b : List UInt8) (h : ∀ j, j < 5 → (levL j).contains b = false) : levI b = -1 := by
  unfold levI isOp
  have h0 : sgOr.contains b = false := h 0 (by decide)
  have h1 : sgAnd.contains b = false := h 1 (by decide)
  have h2 : sgCmp.contains b = false := h 2 (by decide)
  have h3 : sgAdd.contains b = false := h 3 (by decide)
  have h4 : sgMul.contains b = false := h 4 (by decide)
  rw [h0, h1, h2, h3, h4]; rfl
theorem levV_get (g c : Nat → Nat) (i : Nat) (hi : i < 5) : (levV g c)[i]? = some (.slice (some ⟨g i, c (i + 5), none⟩) (levL i).length (c i)) := by
  have : i = 0 ∨ i = 1 ∨ i = 2 ∨ i = 3 ∨ i = 4 := by omega
  rcases this with rfl | rfl | rfl | rfl | rfl <;> rfl
theorem levs_index (g c : Nat → Nat) (w : World) (i : Nat) (hi : i < 5) : Sem.run Tryz.prog (Instr.index 160 (.agg (levV g c)) (.int .i64 (i : Int))) w = .ok (.slice (some ⟨g i, c (i + 5), none⟩) (levL i).length (c i)) w := by
  have h := levV_get g c i hi
  simp [Instr.index, go_sem, h]
  intro h; omega
set_option maxRecDepth 100000 in
set_option maxHeartbeats 1000000 in
theorem level_calls (g c : Nat → Nat) (b : List UInt8) (w : World) (hL : Levs g c w) :
    Calls Tryz.prog 84 #[.string (bs b)] w fun e w' => e = .returned (.int .i64 (levI b)) ∧ w' = w := by
  have h0 := hL.cell 0 (by omega)
  have h1 := hL.cell 1 (by omega)
  have h2 := hL.cell 2 (by omega)
  have h3 := hL.cell 3 (by omega)
  have h4 := hL.cell 4 (by omega)
  have hC : Hid (∀ i, i < 5 → Calls Tryz.prog 116 #[.slice (some ⟨g i, c (i + 5), none⟩) (levL i).length (c i), .string (bs b)] w fun e w' => e = .returned (.bool ((levL i).contains b)) ∧ w' = w) := Lib.hid fun i hi => containso_calls (g i) (c (i + 5)) _ (c i) (levL i) b (by
    have key : ∀ i : Fin 5, (levL i.1).length ≤ 100000 := by decide
    exact key ⟨i, hi⟩) w (hL.rows i hi)
  clear hL
  go_enter Tryz.func84, Tryz.ntmps84
  go_wp2
  clear h0 h1 h2 h3 h4
  have hV : #[Value.slice (some ⟨g 0, c (0 + 5), none⟩) (levL 0).length (c 0), .slice (some ⟨g 1, c (1 + 5), none⟩) (levL 1).length (c 1), .slice (some ⟨g 2, c (2 + 5), none⟩) (levL 2).length (c 2), .slice (some ⟨g 3, c (3 + 5), none⟩) (levL 3).length (c 3), .slice (some ⟨g 4, c (4 + 5), none⟩) (levL 4).length (c 4)] = levV g c := rfl
  rw [hV]
  clear hV
  go_loop [6] (fun a => ∃ i : Nat, i ≤ 5 ∧ a = .int .i64 i ∧ Hid (∀ j, j < i → (levL j).contains b = false)) (fun a => 5 - (intOf a).toNat)
  case atStart => exact ⟨0, by omega, rfl, Lib.hid (fun j hj => by omega)⟩
  case round =>
    obtain ⟨i, hi, rfl, HN⟩ := hrel
    by_cases hlt : i < 5
    · have hix := levs_index g c w i hlt
      have hc := Lib.hid (hC.out i hlt)
      have h1 : (i : Int) < 5 := by omega
      cases hb : (levL i).contains b
      · have HE := Lib.hid hb
        rw [hb] at hc
        clear hb
        go_wp2_with (go_at_call 116; refine hc.out.mono ?_; rintro e w' ⟨rfl, rfl⟩)
        go_round
        case rel => exact ⟨i + 1, by omega, by go_num, Lib.hid (fun j hj => by
          by_cases h : j = i
          · subst h; exact HE.out
          · exact HN.out j (by omega))⟩
        case measure => simp [intOf]; omega
      · have HE := Lib.hid (levI_at b i hlt HN.out hb)
        rw [hb] at hc
        clear hb
        go_wp2_with (go_at_call 116; refine hc.out.mono ?_; rintro e w' ⟨rfl, rfl⟩)
        go_ret
        exact ⟨by rw [HE.out]; rfl, rfl⟩
    · obtain rfl : i = 5 := by omega
      have HE := Lib.hid (levI_no b HN.out)
      go_wp2
      go_ret
      exact ⟨by rw [HE.out]; rfl, rfl⟩
end Go.Proofs.YtdeflloidhbpmaaGreatDoor
