/-
  A program's text as words and blanks: they are laid well, and the words are those that the grammar makes the program of.
  What an expression's text is made of: pieces, put one by one.
  How many pieces an expression's text takes.
-/
import Derived.Test.YtdeflloidhbpmaaGreatDoorK30
import Derived.Test.YtdeflloidhbpmaaGreatDoorK29
namespace Go.Proofs.YtdeflloidhbpmaaGreatDoor

def gp : Wd := (9, [32])
def nl : Wd := (9, [10])
def ind (n : Nat) : Wd := (9, List.replicate (2 * n) 32)
def ctailG (g : Nat → List Wd) : List Nat → List Wd
  | [] => []
  | a :: r => (4, [44]) :: gp :: (g a ++ ctailG g r)
def commaG (g : Nat → List Wd) : List Nat → List Wd
  | [] => []
  | a :: r => g a ++ ctailG g r
/-- An expression's text. -/
def prG (dec : Nat → List UInt8) (E : List Ex) : Nat → Nat → List Wd
  | 0, _ => []
  | n + 1, i => match E[i]? with
    | none => []
    | some x =>
      if x.kind = 9 then prP E (prG dec E n) (lvA x.op) x.a ++ gp :: (4, x.op) :: gp :: prP E (prG dec E n) (lvB x.op) x.b
      else if x.kind = 8 then (4, x.op) :: prP E (prG dec E n) 5 x.a
      else if x.kind = 5 then (1, x.name) :: (4, [91]) :: (prG dec E n x.a ++ [(4, [93])])
      else if x.kind = 6 then (1, x.name) :: (4, [40]) :: (commaG (prG dec E n) x.list ++ [(4, [41])])
      else if x.kind = 1 then [(2, dec x.num)]
      else if x.kind = 2 then [(3, kTrue)]
      else if x.kind = 3 then [(3, kFalse)]
      else if x.kind = 7 then [(3, kRead)]
      else [(1, x.name)]
/-- A block's text, in so many blocks; from else on. -/
def blG (g : Nat → List Wd) (b : Nat) (l : List Nat) : List Wd := (4, [123]) :: nl :: (l.flatMap (fun a => ind (b + 1) :: (g a ++ [nl])) ++ [ind b, (4, [125])])
def elG (S : List Sm) (g1 g : Nat → List Wd) (b : Nat) (l : List Nat) : List Wd :=
  if l = [] then [] else gp :: (3, kElse) :: gp :: (match oneIf S l with
    | some j => g1 j
    | none => blG g b l)
/-- A statement's text, in so many blocks. -/
def stG (dec : Nat → List UInt8) (E : List Ex) (S : List Sm) : Nat → Nat → Nat → List Wd
  | 0, _, _ => []
  | n + 1, b, i => match S[i]? with
    | none => []
    | some x =>
      if x.kind = 1 then (3, kVar) :: gp :: (1, x.name) :: gp :: (4, [61]) :: gp :: (prG dec E E.length x.a.toNat ++ [semi])
      else if x.kind = 2 then [(3, kVar), gp, (1, x.name), (4, [91]), (2, dec x.num), (4, [93]), semi]
      else if x.kind = 3 then (1, x.name) :: gp :: (4, [61]) :: gp :: (prG dec E E.length x.a.toNat ++ [semi])
      else if x.kind = 4 then (1, x.name) :: (4, [91]) :: (prG dec E E.length x.a.toNat ++ (4, [93]) :: gp :: (4, [61]) :: gp :: (prG dec E E.length x.b ++ [semi]))
      else if x.kind = 5 then (3, kIf) :: gp :: (prG dec E E.length x.a.toNat ++ gp :: (blG (stG dec E S n (b + 1)) b x.thn ++ elG S (stG dec E S n b) (stG dec E S n (b + 1)) b x.els))
      else if x.kind = 6 then (3, kWhile) :: gp :: (prG dec E E.length x.a.toNat ++ gp :: blG (stG dec E S n (b + 1)) b x.thn)
      else if x.kind = 7 then [(3, kBreak), semi]
      else if x.kind = 8 then [(3, kContinue), semi]
      else if x.kind = 9 then (if x.a < 0 then [(3, kReturn), semi] else (3, kReturn) :: gp :: (prG dec E E.length x.a.toNat ++ [semi]))
      else if x.kind = 10 then (3, kPrint) :: gp :: (prG dec E E.length x.a.toNat ++ [semi])
      else prG dec E E.length x.a.toNat ++ [semi]
def nmTailG : List (List UInt8) → List Wd
  | [] => []
  | a :: r => (4, [44]) :: gp :: (1, a) :: nmTailG r
def nmG : List (List UInt8) → List Wd
  | [] => []
  | a :: r => (1, a) :: nmTailG r
def fnG (dec : Nat → List UInt8) (E : List Ex) (S : List Sm) (f : Fu) : List Wd :=
  (3, kFunc) :: gp :: (1, f.name) :: (4, [40]) :: (nmG f.params ++ (4, [41]) :: gp :: ((if f.ty = 1 then [(3, kInt), gp] else []) ++ (blG (stG dec E S S.length 1) 0 f.body ++ [nl])))
def progG (dec : Nat → List UInt8) (s : Sg) : List Wd := s.fn.flatMap (fnG dec s.ex s.st)

/-! ### the words -/
theorem wds_gap (g : List UInt8) (P : List Wd) : wds ((9, g) :: P) = wds P := rfl
theorem wds_word {k : Nat} (hk : k ≠ 9) (b : List UInt8) (P : List Wd) : wds ((k, b) :: P) = (k, b) :: wds P := by
  unfold wds
  rw [List.filter_cons, if_pos (by simpa using hk)]
theorem wds_prP (E : List Ex) (g h : Nat → List Wd) (hg : ∀ a, wds (g a) = h a) (n a : Nat) : wds (prP E g n a) = prP E h n a := by
  unfold prP
  cases E[a]? with
  | none => exact hg a
  | some x =>
    dsimp only
    split
    · rw [wds_word (by decide), wds_app, hg]; rfl
    · exact hg a
theorem wds_ctail (g h : Nat → List Wd) (hg : ∀ a, wds (g a) = h a) : ∀ l, wds (ctailG g l) = ctail h l
  | [] => rfl
  | a :: r => by
    unfold ctailG ctail gp
    rw [wds_word (by decide), wds_gap, wds_app, hg, wds_ctail g h hg r]
theorem wds_comma (g h : Nat → List Wd) (hg : ∀ a, wds (g a) = h a) (l : List Nat) : wds (commaG g l) = commaL h l := by
  cases l with
  | nil => rfl
  | cons a r => unfold commaG commaL; rw [wds_app, hg, wds_ctail g h hg r]
theorem wds_prG (dec : Nat → List UInt8) (E : List Ex) : ∀ n i, wds (prG dec E n i) = prE dec E n i
  | 0, _ => rfl
  | n + 1, i => by
    have ih := wds_prG dec E n
    unfold prG prE
    cases E[i]? with
    | none => rfl
    | some x =>
      dsimp only
      by_cases h9 : x.kind = 9
      · rw [if_pos h9, if_pos h9, wds_app]
        unfold gp
        rw [wds_gap, wds_word (by decide), wds_gap, wds_prP E _ _ ih, wds_prP E _ _ ih]
      rw [if_neg h9, if_neg h9]
      by_cases h8 : x.kind = 8
      · rw [if_pos h8, if_pos h8, wds_word (by decide), wds_prP E _ _ ih]
      rw [if_neg h8, if_neg h8]
      by_cases h5 : x.kind = 5
      · rw [if_pos h5, if_pos h5, wds_word (by decide), wds_word (by decide), wds_app, ih]; rfl
      rw [if_neg h5, if_neg h5]
      by_cases h6 : x.kind = 6
      · rw [if_pos h6, if_pos h6, wds_word (by decide), wds_word (by decide), wds_app, wds_comma _ _ ih]; rfl
      rw [if_neg h6, if_neg h6]
      by_cases h1 : x.kind = 1
      · rw [if_pos h1]; rfl
      rw [if_neg h1]
      by_cases h2 : x.kind = 2
      · rw [if_pos h2]; rfl
      rw [if_neg h2]
      by_cases h3 : x.kind = 3
      · rw [if_pos h3]; rfl
      rw [if_neg h3]
      by_cases h7 : x.kind = 7
      · rw [if_pos h7]; rfl
      rw [if_neg h7]; rfl
theorem wds_flat (f : Nat → Wd) (hf : ∀ a, (f a).1 = 9) (g h : Nat → List Wd) (hg : ∀ a, wds (g a) = h a) (e : Wd) (he : e.1 = 9) (l : List Nat) : wds (l.flatMap fun a => f a :: (g a ++ [e])) = l.flatMap h := by
  induction l with
  | nil => rfl
  | cons a r ih =>
    rw [List.flatMap_cons, List.flatMap_cons, wds_app, ih]
    have : wds (f a :: (g a ++ [e])) = h a := by
      rw [show f a :: (g a ++ [e]) = [f a] ++ (g a ++ [e]) from rfl, wds_app, wds_app, hg]
      simp [wds, hf, he]
    rw [this]
theorem wds_blG (g h : Nat → List Wd) (hg : ∀ a, wds (g a) = h a) (b : Nat) (l : List Nat) : wds (blG g b l) = blW h l := by
  unfold blG blW nl ind
  rw [wds_word (by decide), wds_gap, wds_app, wds_flat _ (fun _ => rfl) g h hg _ rfl]
  rfl
theorem wds_elG (S : List Sm) (g1 g h : Nat → List Wd) (h1 : ∀ a, wds (g1 a) = h a) (hg : ∀ a, wds (g a) = h a) (b : Nat) (l : List Nat) : wds (elG S g1 g b l) = elW S h l := by
  unfold elG elW gp
  by_cases hl : l = []
  · rw [if_pos hl, if_pos hl]; rfl
  · rw [if_neg hl, if_neg hl, wds_gap, wds_word (by decide), wds_gap]
    cases oneIf S l with
    | some j => exact congrArg _ (h1 j)
    | none => exact congrArg _ (wds_blG g h hg b l)
theorem wds_stG (dec : Nat → List UInt8) (E : List Ex) (S : List Sm) : ∀ n b i, wds (stG dec E S n b i) = stW dec E S n i
  | 0, _, _ => rfl
  | n + 1, b, i => by
    have ih := wds_stG dec E S n
    have ie := wds_prG dec E
    have is : wds [semi] = [semi] := rfl
    unfold stG stW
    cases S[i]? with
    | none => rfl
    | some x =>
      dsimp only
      by_cases h1 : x.kind = 1
      · rw [if_pos h1, if_pos h1]
        unfold gp
        rw [wds_word (by decide), wds_gap, wds_word (by decide), wds_gap, wds_word (by decide), wds_gap, wds_app, ie, is]
      rw [if_neg h1, if_neg h1]
      by_cases h2 : x.kind = 2
      · rw [if_pos h2, if_pos h2]; rfl
      rw [if_neg h2, if_neg h2]
      by_cases h3 : x.kind = 3
      · rw [if_pos h3, if_pos h3]
        unfold gp
        rw [wds_word (by decide), wds_gap, wds_word (by decide), wds_gap, wds_app, ie, is]
      rw [if_neg h3, if_neg h3]
      by_cases h4 : x.kind = 4
      · rw [if_pos h4, if_pos h4]
        unfold gp
        rw [wds_word (by decide), wds_word (by decide), wds_app, ie, wds_word (by decide), wds_gap, wds_word (by decide), wds_gap, wds_app, ie, is]
      rw [if_neg h4, if_neg h4]
      by_cases h5 : x.kind = 5
      · rw [if_pos h5, if_pos h5]
        unfold gp
        rw [wds_word (by decide), wds_gap, wds_app, ie, wds_gap, wds_app, wds_blG _ _ (ih (b + 1)), wds_elG S _ _ _ (ih b) (ih (b + 1))]
      rw [if_neg h5, if_neg h5]
      by_cases h6 : x.kind = 6
      · rw [if_pos h6, if_pos h6]
        unfold gp
        rw [wds_word (by decide), wds_gap, wds_app, ie, wds_gap, wds_blG _ _ (ih (b + 1))]
      rw [if_neg h6, if_neg h6]
      by_cases h7 : x.kind = 7
      · rw [if_pos h7, if_pos h7]; rfl
      rw [if_neg h7, if_neg h7]
      by_cases h8 : x.kind = 8
      · rw [if_pos h8, if_pos h8]; rfl
      rw [if_neg h8, if_neg h8]
      by_cases h9 : x.kind = 9
      · rw [if_pos h9, if_pos h9]
        by_cases ha : x.a < 0
        · rw [if_pos ha, if_pos ha]; rfl
        · rw [if_neg ha, if_neg ha]
          unfold gp
          rw [wds_word (by decide), wds_gap, wds_app, ie, is]
      rw [if_neg h9, if_neg h9]
      by_cases h10 : x.kind = 10
      · rw [if_pos h10, if_pos h10]
        unfold gp
        rw [wds_word (by decide), wds_gap, wds_app, ie, is]
      rw [if_neg h10, if_neg h10, wds_app, ie, is]
theorem wds_nmTail : ∀ l, wds (nmTailG l) = nmTail l
  | [] => rfl
  | a :: r => by
    unfold nmTailG nmTail gp
    rw [wds_word (by decide), wds_gap, wds_word (by decide), wds_nmTail r]
theorem wds_nm (l : List (List UInt8)) : wds (nmG l) = nmL l := by
  cases l with
  | nil => rfl
  | cons a r => unfold nmG nmL; rw [wds_word (by decide), wds_nmTail r]
theorem wds_fnG (dec : Nat → List UInt8) (E : List Ex) (S : List Sm) (f : Fu) : wds (fnG dec E S f) = fnW dec E S f := by
  unfold fnG fnW gp
  rw [wds_word (by decide), wds_gap, wds_word (by decide), wds_word (by decide), wds_app, wds_nm, wds_word (by decide), wds_gap, wds_app, wds_app, wds_blG _ _ (wds_stG dec E S S.length 1)]
  rw [show wds [nl] = [] from rfl, List.append_nil]
  by_cases h : f.ty = 1
  · rw [if_pos h, if_pos h]; rfl
  · rw [if_neg h, if_neg h]; rfl
theorem wds_progG (dec : Nat → List UInt8) (s : Sg) : wds (progG dec s) = s.fn.flatMap (fnW dec s.ex s.st) := by
  unfold progG
  induction s.fn with
  | nil => rfl
  | cons f r ih => rw [List.flatMap_cons, List.flatMap_cons, wds_app, ih, wds_fnG]

/-! ### they are laid well -/
/-- What names and numbers are good for. -/
structure NmG (nm : List UInt8 → Prop) (nu : Nat → Prop) (dec : Nat → List UInt8) : Prop where
  name : ∀ b, nm b → GN b
  num : ∀ n, nu n → GD (dec n)
theorem bq_of {k : Nat} {d : UInt8} (r : List UInt8) (hd : d ∈ bnd) (P : List Wd) (q : List UInt8) : Bq (byt ((k, d :: r) :: P) ++ q) := by
  intro e he
  rw [byt_cons] at he
  simp at he
  rw [← he]; exact hd
theorem bq_gp (P : List Wd) (q : List UInt8) : Bq (byt (gp :: P) ++ q) := bq_of [] (by decide) P q
theorem bl32 : ∀ c ∈ ([32] : List UInt8), isBl c = true := by decide
theorem bl10 : ∀ c ∈ ([10] : List UInt8), isBl c = true := by decide
theorem clf_gp {P : List Wd} {q : List UInt8} (h : ClF P q) : ClF (gp :: P) q := clf_gap bl32 h
theorem clf_nl {P : List Wd} {q : List UInt8} (h : ClF P q) : ClF (nl :: P) q := clf_gap bl10 h
theorem clf_ind {n : Nat} {P : List Wd} {q : List UInt8} (h : ClF P q) : ClF (ind n :: P) q := clf_gap (fun c hc => by rw [List.eq_of_mem_replicate hc]; decide) h
theorem wk_one {c : UInt8} (h : [c] ∈ oneL) : Wk (4, [c]) := .one c rfl rfl h
theorem wk_word {b : List UInt8} (h : b ∈ wordsL) : Wk (3, b) := .word rfl h
/-- The first byte is there, and no =. -/
def Fst (P : List Wd) : Prop := ∃ c r, byt P = c :: r ∧ c ≠ 61
theorem fst_head {P : List Wd} (h : Fst P) (q : List UInt8) : (byt P ++ q).head? ≠ some 61 := by
  obtain ⟨c, r, e, hc⟩ := h
  rw [e]
  simpa using hc
theorem fst_app {P : List Wd} (h : Fst P) (Q : List Wd) : Fst (P ++ Q) := by
  obtain ⟨c, r, e, hc⟩ := h
  exact ⟨c, r ++ byt Q, by rw [byt_app, e]; rfl, hc⟩
theorem fst_cons {k : Nat} {c : UInt8} {r : List UInt8} (hc : c ≠ 61) (P : List Wd) : Fst ((k, c :: r) :: P) := ⟨c, r ++ byt P, by rw [byt_cons]; rfl, hc⟩
theorem fst_name {b : List UInt8} (h : GN b) (P : List Wd) : Fst ((1, b) :: P) := by
  obtain ⟨⟨c, r, e, hc⟩, _⟩ := h
  rw [e]
  refine fst_cons (fun h => ?_) P
  rw [h] at hc
  revert hc; decide
theorem fst_num {b : List UInt8} (h : GD b) (P : List Wd) : Fst ((2, b) :: P) := by
  obtain ⟨h1, h2, _⟩ := h
  cases b with
  | nil => exact absurd rfl h1
  | cons c r =>
    refine fst_cons (fun h => ?_) P
    have := h2 c (by simp)
    rw [h] at this
    revert this; decide
section
variable {nm : List UInt8 → Prop} {nu : Nat → Prop} {dec : Nat → List UInt8} {E : List Ex} {S : List Sm}
/-- An expression's text, with a bound behind. -/
def Lx (P : List Wd) : Prop := Fst P ∧ ∀ q, Bq q → ClF P q
theorem lx_word {w : Wd} (hw : Wk w) (hf : Fst [w]) : Lx [w] := ⟨hf, fun q hq => clf_word hw (by simpa [byt] using hq) trivial⟩
theorem lx_bracket {P : List Wd} (h : Lx P) : Lx ((4, [40]) :: (P ++ [(4, [41])])) :=
  ⟨fst_cons (by decide) _, fun q hq => clf_open (by decide) (fst_head (fst_app h.1 _) _) ((h.2 _ (bq_of [] (by decide) [] q)).app (clf_word (wk_one (by decide)) hq trivial))⟩
theorem lx_prP {N n a : Nat} (h : Lx (prG dec E N a)) : Lx (prP E (prG dec E N) n a) := by
  unfold prP
  cases E[a]? with
  | none => exact h
  | some x =>
    dsimp only
    split
    · exact lx_bracket h
    · exact h
theorem op_wk {o : List UInt8} (h : isOp o = true) : Wk (4, o) := by
  unfold isOp at h
  simp only [Bool.or_eq_true] at h
  have key : ∀ b ∈ sgOr ++ sgAnd ++ sgCmp ++ sgAdd ++ sgMul, b ∈ twoL ∨ (b ∈ oneL ∧ b = [b.headD 0]) := by decide
  have hm : o ∈ sgOr ++ sgAnd ++ sgCmp ++ sgAdd ++ sgMul := by
    simp only [List.mem_append]
    rcases h with (((h | h) | h) | h) | h
    · exact .inl (.inl (.inl (.inl (List.contains_iff_mem.1 h))))
    · exact .inl (.inl (.inl (.inr (List.contains_iff_mem.1 h))))
    · exact .inl (.inl (.inr (List.contains_iff_mem.1 h)))
    · exact .inl (.inr (List.contains_iff_mem.1 h))
    · exact .inr (List.contains_iff_mem.1 h)
  rcases key o hm with h | ⟨h, e⟩
  · exact .two rfl h
  · exact .one (o.headD 0) rfl e (by rw [← e]; exact h)
theorem clf_ctail {N : Nat} : ∀ (l : List Nat) (q : List UInt8), Bq q → (∀ a ∈ l, Lx (prG dec E N a)) → ClF (ctailG (prG dec E N) l) q ∧ Bq (byt (ctailG (prG dec E N) l) ++ q)
  | [], q, hq, _ => ⟨trivial, hq⟩
  | a :: r, q, hq, h => by
    obtain ⟨h1, h2⟩ := clf_ctail r q hq (fun b hb => h b (by simp [hb]))
    exact ⟨clf_word (wk_one (by decide)) (bq_gp _ _) (clf_gp (((h a (by simp)).2 _ h2).app h1)), bq_of [] (by decide) _ _⟩
theorem lx_of (hn : NmG nm nu dec) {k f i : Nat} (h : Sh nm nu E k f i) : ∀ N, i < N → Lx (prG dec E N i) := by
  induction h with
  | @num k i x hx hu hb =>
    intro N hN
    obtain ⟨N, rfl⟩ : ∃ M, N = M + 1 := ⟨N - 1, by omega⟩
    have hk : x.kind = 1 := congrArg Ex.kind hb
    have e : prG dec E (N + 1) i = [(2, dec x.num)] := by simp [prG, hx, hk]
    rw [e]
    exact lx_word (.num rfl (hn.num _ hu)) (fst_num (hn.num _ hu) _)
  | @word k i x hx hw hb =>
    intro N hN
    obtain ⟨N, rfl⟩ : ∃ M, N = M + 1 := ⟨N - 1, by omega⟩
    rcases hw with hk | hk | hk
    · rw [show prG dec E (N + 1) i = [(3, kTrue)] by simp [prG, hx, hk]]
      exact lx_word (wk_word (by decide)) (fst_cons (by decide) _)
    · rw [show prG dec E (N + 1) i = [(3, kFalse)] by simp [prG, hx, hk]]
      exact lx_word (wk_word (by decide)) (fst_cons (by decide) _)
    · rw [show prG dec E (N + 1) i = [(3, kRead)] by simp [prG, hx, hk]]
      exact lx_word (wk_word (by decide)) (fst_cons (by decide) _)
  | @name k i x hx hm hb =>
    intro N hN
    obtain ⟨N, rfl⟩ : ∃ M, N = M + 1 := ⟨N - 1, by omega⟩
    have hk : x.kind = 4 := congrArg Ex.kind hb
    have e : prG dec E (N + 1) i = [(1, x.name)] := by simp [prG, hx, hk]
    rw [e]
    exact lx_word (.name rfl (hn.name _ hm)) (fst_name (hn.name _ hm) _)
  | @idx k f i x hx hm hb hi _ ih =>
    intro N hN
    obtain ⟨N, rfl⟩ : ∃ M, N = M + 1 := ⟨N - 1, by omega⟩
    have hk : x.kind = 5 := congrArg Ex.kind hb
    have e : prG dec E (N + 1) i = (1, x.name) :: (4, [91]) :: (prG dec E N x.a ++ [(4, [93])]) := by simp [prG, hx, hk]
    rw [e]
    have hP := ih N (by omega)
    exact ⟨fst_name (hn.name _ hm) _, fun q hq => clf_word (.name rfl (hn.name _ hm)) (bq_of [] (by decide) _ _) (clf_open (by decide) (fst_head (fst_app hP.1 _) _) ((hP.2 _ (bq_of [] (by decide) [] q)).app (clf_word (wk_one (by decide)) hq trivial)))⟩
  | @call k f i x hx hm hb hi hs ih =>
    intro N hN
    obtain ⟨N, rfl⟩ : ∃ M, N = M + 1 := ⟨N - 1, by omega⟩
    have hk : x.kind = 6 := congrArg Ex.kind hb
    have e : prG dec E (N + 1) i = (1, x.name) :: (4, [40]) :: (commaG (prG dec E N) x.list ++ [(4, [41])]) := by simp [prG, hx, hk]
    rw [e]
    have hlt : ∀ a ∈ x.list, a < i := by
      have hmono : ∀ j, j < x.list.length → stt f x.list (j + 1) ≤ stt f x.list x.list.length := by
        intro j hj
        have key : ∀ d, j + 1 + d ≤ x.list.length → stt f x.list (j + 1) ≤ stt f x.list (j + 1 + d) := by
          intro d
          induction d with
          | zero => intro _; exact Nat.le_refl _
          | succ d ihd =>
            intro hd
            have a1 := ihd (by omega)
            have a2 := (hs (j + 1 + d) (by omega)).lt.2
            have a3 : stt f x.list (j + 1 + (d + 1)) = x.list[j + 1 + d] + 1 := by show x.list.getD (j + 1 + d) 0 + 1 = _; rw [List.getD_eq_getElem?_getD, List.getElem?_eq_getElem (by omega)]; rfl
            omega
        have := key (x.list.length - (j + 1)) (by omega)
        rwa [show j + 1 + (x.list.length - (j + 1)) = x.list.length by omega] at this
      intro a ha
      obtain ⟨j, hj, rfl⟩ := List.mem_iff_getElem.1 ha
      have h1 := hmono j hj
      have a3 : stt f x.list (j + 1) = x.list[j] + 1 := by show x.list.getD j 0 + 1 = _; rw [List.getD_eq_getElem?_getD, List.getElem?_eq_getElem hj]; rfl
      omega
    have hP : ∀ a ∈ x.list, Lx (prG dec E N a) := fun a ha => by
      have h1 := hlt a ha
      obtain ⟨j, hj, rfl⟩ := List.mem_iff_getElem.1 ha
      exact ih j hj N (by omega)
    refine ⟨fst_name (hn.name _ hm) _, fun q hq => clf_word (.name rfl (hn.name _ hm)) (bq_of [] (by decide) _ _) ?_⟩
    have hz : ClF [((4, [41]) : Wd)] q := clf_word (wk_one (by decide)) hq trivial
    cases hl : x.list with
    | nil =>
      exact clf_open (by decide) (fst_head (P := [(4, [41])]) (fst_cons (by decide) []) q) hz
    | cons a r =>
      rw [hl] at hP
      have ha := hP a (by simp)
      obtain ⟨c1, c2⟩ := clf_ctail r (byt [((4, [41]) : Wd)] ++ q) (bq_of [] (by decide) [] q) (fun b hb => hP b (by simp [hb]))
      show ClF ((4, [40]) :: ((prG dec E N a ++ ctailG (prG dec E N) r) ++ [(4, [41])])) q
      refine clf_open (by decide) (fst_head (fst_app (fst_app ha.1 _) _) _) (ClF.app (ClF.app (ha.2 _ c2) c1) hz)
  | @un k k' f i x hx ho hb hi _ _ ih =>
    intro N hN
    obtain ⟨N, rfl⟩ : ∃ M, N = M + 1 := ⟨N - 1, by omega⟩
    have hk : x.kind = 8 := congrArg Ex.kind hb
    have e : prG dec E (N + 1) i = (4, x.op) :: prP E (prG dec E N) 5 x.a := by simp [prG, hx, hk]
    rw [e]
    have hP := lx_prP (n := 5) (ih N (by omega))
    rcases ho with ho | ho
    · rw [ho]
      exact ⟨fst_cons (by decide) _, fun q hq => clf_open (by decide) (fst_head hP.1 q) (hP.2 q hq)⟩
    · rw [ho]
      exact ⟨fst_cons (by decide) _, fun q hq => clf_open (by decide) (fst_head hP.1 q) (hP.2 q hq)⟩
  | @pair k k1 k2 f i x hx ho hb hi _ ha _ hc ih1 ih2 =>
    intro N hN
    obtain ⟨N, rfl⟩ : ∃ M, N = M + 1 := ⟨N - 1, by omega⟩
    have hk : x.kind = 9 := congrArg Ex.kind hb
    have e : prG dec E (N + 1) i = prP E (prG dec E N) (lvA x.op) x.a ++ gp :: (4, x.op) :: gp :: prP E (prG dec E N) (lvB x.op) x.b := by simp [prG, hx, hk]
    rw [e]
    have hlb := hc.lt.2
    have hA := lx_prP (n := lvA x.op) (ih1 N (by omega))
    have hB := lx_prP (n := lvB x.op) (ih2 N (by omega))
    exact ⟨fst_app hA.1 _, fun q hq => (hA.2 _ (bq_gp _ _)).app (clf_gp (clf_word (op_wk ho) (bq_gp _ _) (clf_gp (hB.2 q hq))))⟩
theorem wk_semi : Wk semi := wk_one (by decide)
/-- An expression and the semicolon. -/
theorem clf_semi {P : List Wd} (h : Lx P) {q : List UInt8} (hq : Bq q) : ClF (P ++ [semi]) q := (h.2 _ (bq_of [] (by decide) [] q)).app (clf_word wk_semi hq trivial)
theorem clf_flat {b : Nat} {g : Nat → List Wd} : ∀ (l : List Nat) (q : List UInt8), (∀ a ∈ l, ∀ q, Bq q → ClF (g a) q) → ClF (l.flatMap fun a => ind b :: (g a ++ [nl])) q
  | [], _, _ => trivial
  | a :: r, q, h => by
    rw [List.flatMap_cons]
    refine ClF.app ?_ (clf_flat r q fun c hc => h c (by simp [hc]))
    exact clf_ind ((h a (by simp) _ (bq_of [] (by decide) [] _)).app (clf_nl trivial))
theorem clf_blG {b : Nat} {g : Nat → List Wd} {l : List Nat} {q : List UInt8} (hq : Bq q) (h : ∀ a ∈ l, ∀ q, Bq q → ClF (g a) q) : ClF (blG g b l) q := by
  unfold blG
  exact clf_word (wk_one (by decide)) (bq_of [] (by decide) _ _) (clf_nl ((clf_flat l _ h).app (clf_ind (clf_word (wk_one (by decide)) hq trivial))))
/-- A statement's text. -/
theorem lS_of (hn : NmG nm nu dec) : ∀ k m0 q0 i m1, SSh nm nu E S k m0 q0 i m1 → ∀ N b, i < N → ∀ q, Bq q → ClF (stG dec E S N b i) q
  | 0, _, _, _, _, h, _, _, _, _, _ => h.elim
  | k + 1, m0, q0, i, m1, ⟨x, hx, hs⟩, N, b, hN, q, hq => by
    obtain ⟨N, rfl⟩ : ∃ M, N = M + 1 := ⟨N - 1, by omega⟩
    have hbl : ∀ (l : List Nat) (m0 q0 m1 q1 : Nat), q1 ≤ i → BL (SSh nm nu E S k) l m0 q0 m1 q1 → ∀ b, ∀ a ∈ l, ∀ q, Bq q → ClF (stG dec E S N b a) q := by
      intro l
      induction l with
      | nil => intro _ _ _ _ _ _ _ a ha; cases ha
      | cons c r ih =>
        intro m0 q0 m1 q1 h1 hb b a ha
        have hlt := (hb.lt fun _ _ _ _ h => SSh.le h).2 a ha
        obtain ⟨m, h2, h3⟩ := hb
        rcases List.mem_cons.1 ha with rfl | ha
        · exact lS_of hn k _ _ _ _ h2 N b (by omega)
        · exact ih _ _ _ _ h1 h3 b a ha
    cases hs with
    | var a h1 h2 h3 =>
      have hk : x.kind = 1 := congrArg Sm.kind h2
      have ha : x.a = (a : Int) := congrArg Sm.a h2
      rw [show stG dec E S (N + 1) b i = (3, kVar) :: gp :: (1, x.name) :: gp :: (4, [61]) :: gp :: (prG dec E E.length a ++ [semi]) by simp [stG, hx, hk, ha]]
      exact clf_word (wk_word (by decide)) (bq_gp _ _) (clf_gp (clf_word (.name rfl (hn.name _ h1)) (bq_gp _ _) (clf_gp (clf_word (wk_one (by decide)) (bq_gp _ _) (clf_gp (clf_semi (lx_of hn h3 _ h3.lt.1) hq))))))
    | arr h1 h2 h3 =>
      have hk : x.kind = 2 := congrArg Sm.kind h3
      rw [show stG dec E S (N + 1) b i = [(3, kVar), gp, (1, x.name), (4, [91]), (2, dec x.num), (4, [93]), semi] by simp [stG, hx, hk]]
      exact clf_word (wk_word (by decide)) (bq_gp _ _) (clf_gp (clf_word (.name rfl (hn.name _ h1)) (bq_of [] (by decide) _ _) (clf_open (by decide) (fst_head (fst_num (hn.num _ h2) _) _) (clf_word (.num rfl (hn.num _ h2)) (bq_of [] (by decide) _ _) (clf_word (wk_one (by decide)) (bq_of [] (by decide) _ _) (clf_word wk_semi hq trivial))))))
    | set a h1 h2 h3 =>
      have hk : x.kind = 3 := congrArg Sm.kind h2
      have ha : x.a = (a : Int) := congrArg Sm.a h2
      rw [show stG dec E S (N + 1) b i = (1, x.name) :: gp :: (4, [61]) :: gp :: (prG dec E E.length a ++ [semi]) by simp [stG, hx, hk, ha]]
      exact clf_word (.name rfl (hn.name _ h1)) (bq_gp _ _) (clf_gp (clf_word (wk_one (by decide)) (bq_gp _ _) (clf_gp (clf_semi (lx_of hn h3 _ h3.lt.1) hq))))
    | put a h1 h2 h3 h4 =>
      have hk : x.kind = 4 := congrArg Sm.kind h2
      have ha : x.a = (a : Int) := congrArg Sm.a h2
      rw [show stG dec E S (N + 1) b i = (1, x.name) :: (4, [91]) :: (prG dec E E.length a ++ (4, [93]) :: gp :: (4, [61]) :: gp :: (prG dec E E.length x.b ++ [semi])) by simp [stG, hx, hk, ha]]
      have hA := lx_of hn h3 _ h3.lt.1
      exact clf_word (.name rfl (hn.name _ h1)) (bq_of [] (by decide) _ _) (clf_open (by decide) (fst_head (fst_app hA.1 _) _) ((hA.2 _ (bq_of [] (by decide) _ _)).app (clf_word (wk_one (by decide)) (bq_gp _ _) (clf_gp (clf_word (wk_one (by decide)) (bq_gp _ _) (clf_gp (clf_semi (lx_of hn h4 _ h4.lt.1) hq)))))))
    | cond a m q2 h1 h2 _ h4 h5 =>
      have hk : x.kind = 5 := congrArg Sm.kind h1
      have ha : x.a = (a : Int) := congrArg Sm.a h1
      rw [show stG dec E S (N + 1) b i = (3, kIf) :: gp :: (prG dec E E.length a ++ gp :: (blG (stG dec E S N (b + 1)) b x.thn ++ elG S (stG dec E S N b) (stG dec E S N (b + 1)) b x.els)) by simp [stG, hx, hk, ha]]
      have hq2 := (h5.lt fun _ _ _ _ h => SSh.le h).1
      have hbE : Bq (byt (elG S (stG dec E S N b) (stG dec E S N (b + 1)) b x.els) ++ q) := by
        unfold elG
        by_cases hl : x.els = []
        · rw [if_pos hl]; exact hq
        · rw [if_neg hl]; exact bq_gp _ _
      refine clf_word (wk_word (by decide)) (bq_gp _ _) (clf_gp (((lx_of hn h2 _ h2.lt.1).2 _ (bq_gp _ _)).app (clf_gp ((clf_blG hbE (hbl _ _ _ _ _ (by omega) h4 (b + 1))).app ?_))))
      unfold elG
      by_cases hl : x.els = []
      · rw [if_pos hl]; trivial
      · rw [if_neg hl]
        refine clf_gp (clf_word (wk_word (by decide)) (bq_gp _ _) (clf_gp ?_))
        cases ho : oneIf S x.els with
        | some j =>
          obtain ⟨hj, _⟩ := one_if ho
          exact hbl _ _ _ _ _ (Nat.le_refl _) h5 b j (by rw [hj]; simp) q hq
        | none => exact clf_blG hq (hbl _ _ _ _ _ (Nat.le_refl _) h5 (b + 1))
    | loop a h1 h2 _ h4 =>
      have hk : x.kind = 6 := congrArg Sm.kind h1
      have ha : x.a = (a : Int) := congrArg Sm.a h1
      rw [show stG dec E S (N + 1) b i = (3, kWhile) :: gp :: (prG dec E E.length a ++ gp :: blG (stG dec E S N (b + 1)) b x.thn) by simp [stG, hx, hk, ha]]
      exact clf_word (wk_word (by decide)) (bq_gp _ _) (clf_gp (((lx_of hn h2 _ h2.lt.1).2 _ (bq_gp _ _)).app (clf_gp (clf_blG hq (hbl _ _ _ _ _ (Nat.le_refl _) h4 (b + 1))))))
    | jump h1 h2 =>
      rcases h1 with hk | hk
      · rw [show stG dec E S (N + 1) b i = [(3, kBreak), semi] by simp [stG, hx, hk]]
        exact clf_word (wk_word (by decide)) (bq_of [] (by decide) _ _) (clf_word wk_semi hq trivial)
      · rw [show stG dec E S (N + 1) b i = [(3, kContinue), semi] by simp [stG, hx, hk]]
        exact clf_word (wk_word (by decide)) (bq_of [] (by decide) _ _) (clf_word wk_semi hq trivial)
    | ret0 h1 =>
      have hk : x.kind = 9 := congrArg Sm.kind h1
      have ha : x.a = -1 := congrArg Sm.a h1
      rw [show stG dec E S (N + 1) b i = [(3, kReturn), semi] by simp [stG, hx, hk, ha]]
      exact clf_word (wk_word (by decide)) (bq_of [] (by decide) _ _) (clf_word wk_semi hq trivial)
    | ret a h1 h2 =>
      have hk : x.kind = 9 := congrArg Sm.kind h1
      have ha : x.a = (a : Int) := congrArg Sm.a h1
      have hz : ¬ (a : Int) < 0 := by omega
      rw [show stG dec E S (N + 1) b i = (3, kReturn) :: gp :: (prG dec E E.length a ++ [semi]) by simp [stG, hx, hk, ha, hz]]
      exact clf_word (wk_word (by decide)) (bq_gp _ _) (clf_gp (clf_semi (lx_of hn h2 _ h2.lt.1) hq))
    | print a h1 h2 =>
      have hk : x.kind = 10 := congrArg Sm.kind h1
      have ha : x.a = (a : Int) := congrArg Sm.a h1
      rw [show stG dec E S (N + 1) b i = (3, kPrint) :: gp :: (prG dec E E.length a ++ [semi]) by simp [stG, hx, hk, ha]]
      exact clf_word (wk_word (by decide)) (bq_gp _ _) (clf_gp (clf_semi (lx_of hn h2 _ h2.lt.1) hq))
    | call a h1 h2 =>
      have hk : x.kind = 11 := congrArg Sm.kind h1
      have ha : x.a = (a : Int) := congrArg Sm.a h1
      rw [show stG dec E S (N + 1) b i = prG dec E E.length a ++ [semi] by simp [stG, hx, hk, ha]]
      exact clf_semi (lx_of hn h2 _ h2.lt.1) hq
theorem clf_nmTail (hn : NmG nm nu dec) : ∀ (l : List (List UInt8)) (q : List UInt8), (∀ p ∈ l, nm p) → Bq q → ClF (nmTailG l) q ∧ Bq (byt (nmTailG l) ++ q)
  | [], q, _, hq => ⟨trivial, hq⟩
  | a :: r, q, h, hq => by
    obtain ⟨h1, h2⟩ := clf_nmTail hn r q (fun p hp => h p (by simp [hp])) hq
    exact ⟨clf_word (wk_one (by decide)) (bq_gp _ _) (clf_gp (clf_word (.name rfl (hn.name _ (h a (by simp)))) h2 h1)), bq_of [] (by decide) _ _⟩
theorem clf_fnG (hn : NmG nm nu dec) {f : Fu} {m0 q0 m1 q1 : Nat} (hq1 : q1 ≤ S.length) (hf : FSh nm nu E S f m0 q0 m1 q1) (q : List UInt8) : ClF (fnG dec E S f) q := by
  unfold fnG
  refine clf_word (wk_word (by decide)) (bq_gp _ _) (clf_gp (clf_word (.name rfl (hn.name _ hf.name)) (bq_of [] (by decide) _ _) ?_))
  have hlt := hf.body.lt fun _ _ _ _ h => SSh.le h
  have hbody : ∀ a ∈ f.body, ∀ q, Bq q → ClF (stG dec E S S.length 1 a) q := by
    have key : ∀ (l : List Nat) (m0 q0 m1 q1 : Nat), q1 ≤ S.length → BL (SSh nm nu E S 64) l m0 q0 m1 q1 → ∀ a ∈ l, ∀ q, Bq q → ClF (stG dec E S S.length 1 a) q := by
      intro l
      induction l with
      | nil => intro _ _ _ _ _ _ a ha; cases ha
      | cons c r ih =>
        intro m0 q0 m1 q1 h1 hb a ha
        have hl2 := (hb.lt fun _ _ _ _ h => SSh.le h).2 a ha
        obtain ⟨m, h2, h3⟩ := hb
        rcases List.mem_cons.1 ha with rfl | ha
        · exact lS_of hn 64 _ _ _ _ h2 S.length 1 (by omega)
        · exact ih _ _ _ _ h1 h3 a ha
    exact key _ _ _ _ _ hq1 hf.body
  have hrest : ClF ((4, [41]) :: gp :: ((if f.ty = 1 then [(3, kInt), gp] else []) ++ (blG (stG dec E S S.length 1) 0 f.body ++ [nl]))) q := by
    refine clf_word (wk_one (by decide)) (bq_gp _ _) (clf_gp ?_)
    have hb : ClF (blG (stG dec E S S.length 1) 0 f.body ++ [nl]) q := (clf_blG (bq_of [] (by decide) [] q) hbody).app (clf_nl trivial)
    by_cases h : f.ty = 1
    · rw [if_pos h]; exact clf_word (wk_word (by decide)) (bq_gp _ _) (clf_gp hb)
    · rw [if_neg h]; exact hb
  have hbr : Bq (byt ((4, [41]) :: gp :: ((if f.ty = 1 then [((3, kInt) : Wd), gp] else []) ++ (blG (stG dec E S S.length 1) 0 f.body ++ [nl]))) ++ q) := bq_of [] (by decide) _ _
  have hps := hf.params
  cases hp : f.params with
  | nil =>
    refine clf_open (by decide) ?_ hrest
    exact fst_head (fst_cons (by decide) _) q
  | cons a r =>
    rw [hp] at hps
    have ha := hn.name _ (hps a (by simp))
    obtain ⟨c1, c2⟩ := clf_nmTail hn r _ (fun p hp => hps p (by simp [hp])) hbr
    refine clf_open (by decide) ?_ (ClF.app (clf_word (.name rfl ha) c2 c1) hrest)
    exact fst_head (fst_app (fst_name ha _) _) q
theorem clf_progG (hn : NmG nm nu dec) : ∀ (F : List Fu) (m0 q0 m1 q1 : Nat), q0 ≤ S.length → FL (FSh nm nu E S) F m0 q0 m1 q1 → ∀ q, ClF (F.flatMap (fnG dec E S)) q
  | [], _, _, _, _, _, _, _ => trivial
  | f :: r, m0, q0, m1, q1, h0, ⟨m, p, h1, h2⟩, q => by
    have hp : p ≤ S.length := by
      have key : ∀ (l : List Nat) (m0 q0 m1 q1 : Nat), q0 ≤ S.length → BL (SSh nm nu E S 64) l m0 q0 m1 q1 → q1 ≤ S.length := by
        intro l
        induction l with
        | nil => intro _ _ _ _ h ⟨_, h2⟩; omega
        | cons a r ih =>
          intro m0 q0 m1 q1 _ ⟨m, h1, h2⟩
          obtain ⟨x, hx, _⟩ := h1
          exact ih m (a + 1) m1 q1 (List.getElem?_eq_some_iff.1 hx).1 h2
      exact key _ _ _ _ _ h0 h1.body
    rw [List.flatMap_cons]
    exact (clf_fnG hn hp h1 _).app (clf_progG hn r _ _ _ _ hp h2 q)
end
end Go.Proofs.YtdeflloidhbpmaaGreatDoor

namespace Go.Proofs.YtdeflloidhbpmaaGreatDoor

/-- Fuel doesn't count. -/
theorem prP_ext {E : List Ex} {g h : Nat → List Wd} {n a : Nat} (e : g a = h a) : prP E g n a = prP E h n a := by
  unfold prP
  cases E[a]? with
  | none => exact e
  | some x => dsimp only; rw [e]
theorem ctail_ext {g h : Nat → List Wd} : ∀ {l : List Nat}, (∀ a ∈ l, g a = h a) → ctailG g l = ctailG h l
  | [], _ => rfl
  | a :: r, e => by unfold ctailG; rw [e a (by simp), ctail_ext fun b hb => e b (by simp [hb])]
theorem comma_ext' {g h : Nat → List Wd} {l : List Nat} (e : ∀ a ∈ l, g a = h a) : commaG g l = commaG h l := by
  cases l with
  | nil => rfl
  | cons a r =>
    show g a ++ ctailG g r = h a ++ ctailG h r
    rw [e a (by simp), ctail_ext fun b hb => e b (by simp [hb])]
section
variable {nm : List UInt8 → Prop} {nu : Nat → Prop} {dec : Nat → List UInt8} {E : List Ex}
theorem list_lt {k f i : Nat} {l : List Nat} (hi : stt f l l.length = i) (hs : ∀ j (h : j < l.length), Sh nm nu E k (stt f l j) l[j]) : ∀ a ∈ l, a < i := by
  have hmono : ∀ j, j < l.length → stt f l (j + 1) ≤ stt f l l.length := by
    intro j hj
    have key : ∀ d, j + 1 + d ≤ l.length → stt f l (j + 1) ≤ stt f l (j + 1 + d) := by
      intro d
      induction d with
      | zero => intro _; exact Nat.le_refl _
      | succ d ihd =>
        intro hd
        have a1 := ihd (by omega)
        have a2 := (hs (j + 1 + d) (by omega)).lt.2
        have a3 : stt f l (j + 1 + (d + 1)) = l[j + 1 + d] + 1 := by show l.getD (j + 1 + d) 0 + 1 = _; rw [List.getD_eq_getElem?_getD, List.getElem?_eq_getElem (by omega)]; rfl
        omega
    have := key (l.length - (j + 1)) (by omega)
    rwa [show j + 1 + (l.length - (j + 1)) = l.length by omega] at this
  intro a ha
  obtain ⟨j, hj, rfl⟩ := List.mem_iff_getElem.1 ha
  have h1 := hmono j hj
  have a3 : stt f l (j + 1) = l[j] + 1 := by show l.getD j 0 + 1 = _; rw [List.getD_eq_getElem?_getD, List.getElem?_eq_getElem hj]; rfl
  omega
theorem prG_fuel {k f i : Nat} (h : Sh nm nu E k f i) : ∀ N M, i < N → i < M → prG dec E N i = prG dec E M i := by
  induction h with
  | @num k i x hx hu hb =>
    intro N M hN hM
    obtain ⟨N, rfl⟩ : ∃ a, N = a + 1 := ⟨N - 1, by omega⟩
    obtain ⟨M, rfl⟩ : ∃ a, M = a + 1 := ⟨M - 1, by omega⟩
    have hk : x.kind = 1 := congrArg Ex.kind hb
    simp [prG, hx, hk]
  | @word k i x hx hw hb =>
    intro N M hN hM
    obtain ⟨N, rfl⟩ : ∃ a, N = a + 1 := ⟨N - 1, by omega⟩
    obtain ⟨M, rfl⟩ : ∃ a, M = a + 1 := ⟨M - 1, by omega⟩
    rcases hw with hk | hk | hk <;> simp [prG, hx, hk]
  | @name k i x hx hm hb =>
    intro N M hN hM
    obtain ⟨N, rfl⟩ : ∃ a, N = a + 1 := ⟨N - 1, by omega⟩
    obtain ⟨M, rfl⟩ : ∃ a, M = a + 1 := ⟨M - 1, by omega⟩
    have hk : x.kind = 4 := congrArg Ex.kind hb
    simp [prG, hx, hk]
  | @idx k f i x hx hm hb hi _ ih =>
    intro N M hN hM
    obtain ⟨N, rfl⟩ : ∃ a, N = a + 1 := ⟨N - 1, by omega⟩
    obtain ⟨M, rfl⟩ : ∃ a, M = a + 1 := ⟨M - 1, by omega⟩
    have hk : x.kind = 5 := congrArg Ex.kind hb
    have e := ih N M (by omega) (by omega)
    simp [prG, hx, hk, e]
  | @call k f i x hx hm hb hi hs ih =>
    intro N M hN hM
    obtain ⟨N, rfl⟩ : ∃ a, N = a + 1 := ⟨N - 1, by omega⟩
    obtain ⟨M, rfl⟩ : ∃ a, M = a + 1 := ⟨M - 1, by omega⟩
    have hk : x.kind = 6 := congrArg Ex.kind hb
    have hlt := list_lt hi hs
    have e : commaG (prG dec E N) x.list = commaG (prG dec E M) x.list := comma_ext' fun a ha => by
      have h1 := hlt a ha
      obtain ⟨j, hj, rfl⟩ := List.mem_iff_getElem.1 ha
      exact ih j hj N M (by omega) (by omega)
    simp [prG, hx, hk, e]
  | @un k k' f i x hx ho hb hi _ _ ih =>
    intro N M hN hM
    obtain ⟨N, rfl⟩ : ∃ a, N = a + 1 := ⟨N - 1, by omega⟩
    obtain ⟨M, rfl⟩ : ∃ a, M = a + 1 := ⟨M - 1, by omega⟩
    have hk : x.kind = 8 := congrArg Ex.kind hb
    have e := prP_ext (E := E) (n := 5) (ih N M (by omega) (by omega))
    simp [prG, hx, hk, e]
  | @pair k k1 k2 f i x hx ho hb hi _ ha _ hc ih1 ih2 =>
    intro N M hN hM
    obtain ⟨N, rfl⟩ : ∃ a, N = a + 1 := ⟨N - 1, by omega⟩
    obtain ⟨M, rfl⟩ : ∃ a, M = a + 1 := ⟨M - 1, by omega⟩
    have hk : x.kind = 9 := congrArg Ex.kind hb
    have hlb := hc.lt.2
    have e1 := prP_ext (E := E) (n := lvA x.op) (ih1 N M (by omega) (by omega))
    have e2 := prP_ext (E := E) (n := lvB x.op) (ih2 N M (by omega) (by omega))
    simp [prG, hx, hk, e1, e2]
/-- An expression's text. -/
def exT (dec : Nat → List UInt8) (E : List Ex) (a : Nat) : List UInt8 := byt (prG dec E (a + 1) a)
def pcB (dec : Nat → List UInt8) (E : List Ex) : Pc → List UInt8
  | .tx b => b
  | .pt a => exT dec E a.toNat
def pcsB (dec : Nat → List UInt8) (E : List Ex) (l : List Pc) : List UInt8 := l.flatMap (pcB dec E)
theorem pcsB_app (l m : List Pc) : pcsB dec E (l ++ m) = pcsB dec E l ++ pcsB dec E m := List.flatMap_append
/-- The parts of a call. -/
def cjT : List Nat → List Pc
  | [] => []
  | a :: r => .tx [44, 32] :: .pt a :: cjT r
def cj : List Nat → List Pc
  | [] => []
  | a :: r => .pt a :: cjT r
def atP (E : List Ex) (m : Int) (a : Nat) : List Pc := match E[a]? with
  | some x => atL x m a
  | none => [.pt a]
/-- What expression answers. -/
def exP (dec : Nat → List UInt8) (E : List Ex) (x : Ex) : List Pc :=
  if x.kind = 9 then atP E (if levI x.op = 2 then levI x.op + 1 else levI x.op) x.a ++ [.tx (32 :: (x.op ++ [32]))] ++ atP E (levI x.op + 1) x.b
  else if x.kind = 8 then .tx x.op :: atP E 5 x.a
  else if x.kind = 5 then [.tx (x.name ++ [91]), .pt x.a, .tx [93]]
  else if x.kind = 6 then .tx (x.name ++ [40]) :: (cj x.list ++ [.tx [41]])
  else [.tx (sgl dec x)]
theorem cjT_B (N : Nat) : ∀ {l : List Nat}, (∀ a ∈ l, prG dec E (a + 1) a = prG dec E N a) → byt (ctailG (prG dec E N) l) = pcsB dec E (cjT l)
  | [], _ => rfl
  | a :: r, h => by
    unfold ctailG cjT gp
    rw [byt_cons, byt_cons, byt_app, cjT_B N fun b hb => h b (by simp [hb]), ← h a (by simp)]
    simp [pcsB, pcB, exT]
theorem cj_B (N : Nat) {l : List Nat} (h : ∀ a ∈ l, prG dec E (a + 1) a = prG dec E N a) : byt (commaG (prG dec E N) l) = pcsB dec E (cj l) := by
  cases l with
  | nil => rfl
  | cons a r =>
    show byt (prG dec E N a ++ ctailG (prG dec E N) r) = pcsB dec E (.pt a :: cjT r)
    rw [byt_app, cjT_B N fun b hb => h b (by simp [hb]), ← h a (by simp)]
    simp [pcsB, pcB, exT]
/-- A part, with its brackets. -/
theorem atP_B {N n a : Nat} (hn : n ≤ 5) {x : Ex} (hx : E[a]? = some x) (ho : x.kind = 9 → isOp x.op = true) (h : prG dec E (a + 1) a = prG dec E N a) : byt (prP E (prG dec E N) n a) = pcsB dec E (atP E (n : Int) a) := by
  unfold prP atP atL
  rw [hx]
  dsimp only
  by_cases hk : x.kind = 9
  · have hl : lvE x = lvl x.op := by unfold lvE; rw [if_pos hk]
    have hI : levI x.op = (lvl x.op : Int) := by unfold levI; rw [if_pos (ho hk)]
    by_cases hlt : lvl x.op < n
    · rw [if_pos (by rw [hl]; exact hlt), if_pos ⟨hk, by rw [hI]; omega⟩, byt_cons, byt_app, ← h]
      simp [pcsB, pcB, exT, byt]
    · rw [if_neg (by rw [hl]; exact hlt), if_neg (fun h => by rw [hI] at h; omega), ← h]
      simp [pcsB, pcB, exT]
  · rw [if_neg (by rw [lvE5 hk]; omega), if_neg (fun h => hk h.1), ← h]
    simp [pcsB, pcB, exT]
/-- A pair's sign is one. -/
theorem Sh.op {k f i : Nat} (h : Sh nm nu E k f i) {y : Ex} (hy : E[i]? = some y) (h9 : y.kind = 9) : isOp y.op = true := by
  have key : ∀ {x : Ex} {z : Ex}, E[i]? = some x → bare x = z → z.kind ≠ 9 → False := fun h1 h2 h3 => by
    rw [hy] at h1
    obtain rfl := Option.some.inj h1
    exact h3 (by rw [← h2]; exact h9)
  cases h with
  | num h1 _ h3 => exact (key h1 h3 (by simp)).elim
  | word h1 h2 h3 => exact (key h1 h3 (by show _ ≠ 9; rcases h2 with h | h | h <;> rw [h] <;> decide)).elim
  | name h1 _ h3 => exact (key h1 h3 (by simp)).elim
  | idx h1 _ h3 => exact (key h1 h3 (by simp)).elim
  | call h1 _ h3 => exact (key h1 h3 (by simp)).elim
  | un h1 _ h3 => exact (key h1 h3 (by simp)).elim
  | pair h1 h2 =>
    rw [hy] at h1
    obtain rfl := Option.some.inj h1
    exact h2
theorem lv_le (o : List UInt8) : lvl o ≤ 4 := by unfold lvl; split <;> (try omega); split <;> (try omega); split <;> (try omega); split <;> omega
/-- An expression's text is that of its pieces. -/
theorem exT_exp {k f i : Nat} (h : Sh nm nu E k f i) {x : Ex} (hx : E[i]? = some x) : exT dec E i = pcsB dec E (exP dec E x) := by
  cases h with
  | @num k i y hy hu hb =>
    rw [hx] at hy
    obtain rfl := Option.some.inj hy
    have hk : x.kind = 1 := congrArg Ex.kind hb
    simp [exT, prG, hx, hk, exP, sgl, pcsB, pcB, byt]
  | @word k i y hy hw hb =>
    rw [hx] at hy
    obtain rfl := Option.some.inj hy
    rcases hw with hk | hk | hk <;> simp [exT, prG, hx, hk, exP, sgl, pcsB, pcB, byt]
  | @name k i y hy hm hb =>
    rw [hx] at hy
    obtain rfl := Option.some.inj hy
    have hk : x.kind = 4 := congrArg Ex.kind hb
    simp [exT, prG, hx, hk, exP, sgl, pcsB, pcB, byt]
  | @idx k f i y hy hm hb hi hs =>
    rw [hx] at hy
    obtain rfl := Option.some.inj hy
    have hk : x.kind = 5 := congrArg Ex.kind hb
    have e := prG_fuel (dec := dec) hs (x.a + 1) i (by omega) (by omega)
    have e1 : exT dec E i = x.name ++ ([91] ++ (byt (prG dec E i x.a) ++ [93])) := by simp [exT, prG, hx, hk, byt]
    have e2 : exP dec E x = [.tx (x.name ++ [91]), .pt x.a, .tx [93]] := by simp [exP, hk]
    rw [e1, e2, ← e]
    simp [pcsB, pcB, exT]
  | @call k f i y hy hm hb hi hs =>
    rw [hx] at hy
    obtain rfl := Option.some.inj hy
    have hk : x.kind = 6 := congrArg Ex.kind hb
    have hlt := list_lt hi hs
    have e := cj_B (dec := dec) (E := E) i (l := x.list) fun a ha => by
      have h1 := hlt a ha
      obtain ⟨j, hj, rfl⟩ := List.mem_iff_getElem.1 ha
      exact prG_fuel (hs j hj) _ _ (by omega) (by omega)
    have e1 : exT dec E i = x.name ++ ([40] ++ (byt (commaG (prG dec E i) x.list) ++ [41])) := by simp [exT, prG, hx, hk, byt]
    have e2 : exP dec E x = [.tx (x.name ++ [40])] ++ (cj x.list ++ [.tx [41]]) := by simp [exP, hk]
    rw [e1, e2, e, pcsB_app, pcsB_app]
    simp [pcsB, pcB]
  | @un k k' f i y hy ho hb hi hd hs =>
    rw [hx] at hy
    obtain rfl := Option.some.inj hy
    have hk : x.kind = 8 := congrArg Ex.kind hb
    have hl := hs.lt.1
    have hz : E[x.a]? = some E[x.a] := List.getElem?_eq_getElem hl
    have e := atP_B (dec := dec) (N := i) (n := 5) (Nat.le_refl _) hz (hs.op hz) (prG_fuel hs _ _ (by omega) (by omega))
    have e1 : exT dec E i = x.op ++ byt (prP E (prG dec E i) 5 x.a) := by simp [exT, prG, hx, hk, byt]
    have e2 : exP dec E x = [.tx x.op] ++ atP E 5 x.a := by simp [exP, hk]
    rw [e1, e2, e, pcsB_app]
    simp [pcsB, pcB]
  | @pair k k1 k2 f i y hy ho hb hi hd1 h1 hd2 h2 =>
    rw [hx] at hy
    obtain rfl := Option.some.inj hy
    have hk : x.kind = 9 := congrArg Ex.kind hb
    have hlb := h2.lt
    have hla := h1.lt
    have hza : E[x.a]? = some E[x.a] := List.getElem?_eq_getElem hla.1
    have hzb : E[x.b]? = some E[x.b] := List.getElem?_eq_getElem hlb.1
    have hlv := lv_le x.op
    have hI : levI x.op = (lvl x.op : Int) := by unfold levI; rw [if_pos ho]
    have e := atP_B (dec := dec) (N := i) (n := lvA x.op) (by unfold lvA; split <;> omega) hza (h1.op hza) (prG_fuel h1 _ _ (by omega) (by omega))
    have e' := atP_B (dec := dec) (N := i) (n := lvB x.op) (by unfold lvB; omega) hzb (h2.op hzb) (prG_fuel h2 _ _ (by omega) (by omega))
    have e1 : exT dec E i = byt (prP E (prG dec E i) (lvA x.op) x.a) ++ ([32] ++ (x.op ++ ([32] ++ byt (prP E (prG dec E i) (lvB x.op) x.b)))) := by simp [exT, prG, hx, hk, byt, gp]
    have eA : (if levI x.op = 2 then levI x.op + 1 else levI x.op) = ((lvA x.op : Nat) : Int) := by
      rw [hI]; unfold lvA
      by_cases h : lvl x.op = 2
      · rw [if_pos h, if_pos (by omega), h]; rfl
      · rw [if_neg h, if_neg (by omega)]
    have eB : levI x.op + 1 = ((lvB x.op : Nat) : Int) := by rw [hI]; unfold lvB; omega
    have e2 : exP dec E x = atP E ((lvA x.op : Nat) : Int) x.a ++ [.tx (32 :: (x.op ++ [32]))] ++ atP E ((lvB x.op : Nat) : Int) x.b := by
      unfold exP
      rw [if_pos hk, eA, eB]
    rw [e1, e2, e, e', pcsB_app, pcsB_app]
    simp [pcsB, pcB]
end
end Go.Proofs.YtdeflloidhbpmaaGreatDoor

namespace Go.Proofs.YtdeflloidhbpmaaGreatDoor

section
variable {nm : List UInt8 → Prop} {nu : Nat → Prop} {dec : Nat → List UInt8} {E : List Ex}
/-- A piece that may wait: a text, or an expression ahead of a place. -/
def PcOk (nm : List UInt8 → Prop) (nu : Nat → Prop) (E : List Ex) (i : Nat) (p : Pc) : Prop := (∃ b, p = .tx b) ∨ ∃ (a k f : Nat), p = .pt (a : Int) ∧ Sh nm nu E k f a ∧ a < i
theorem atP_ok {m : Int} {a i k f : Nat} (h : Sh nm nu E k f a) (hi : a < i) : ∀ p ∈ atP E m a, PcOk nm nu E i p := by
  have hp : PcOk nm nu E i (.pt (a : Int)) := .inr ⟨a, k, f, rfl, h, hi⟩
  unfold atP atL
  rw [List.getElem?_eq_getElem h.lt.1]
  dsimp only
  split
  · intro p hp'
    simp only [List.mem_cons, List.not_mem_nil, or_false] at hp'
    rcases hp' with rfl | rfl | rfl
    · exact .inl ⟨_, rfl⟩
    · exact hp
    · exact .inl ⟨_, rfl⟩
  · intro p hp'
    simp only [List.mem_cons, List.not_mem_nil, or_false] at hp'
    rw [hp']; exact hp
theorem cjT_ok {i : Nat} : ∀ {l : List Nat}, (∀ a ∈ l, PcOk nm nu E i (.pt (a : Int))) → ∀ p ∈ cjT l, PcOk nm nu E i p
  | [], _, p, hp => by cases hp
  | a :: r, h, p, hp => by
    unfold cjT at hp
    rcases List.mem_cons.1 hp with rfl | hp
    · exact .inl ⟨_, rfl⟩
    · rcases List.mem_cons.1 hp with rfl | hp
      · exact h a (by simp)
      · exact cjT_ok (fun b hb => h b (by simp [hb])) p hp
theorem cj_ok {i : Nat} {l : List Nat} (h : ∀ a ∈ l, PcOk nm nu E i (.pt (a : Int))) : ∀ p ∈ cj l, PcOk nm nu E i p := by
  cases l with
  | nil => intro p hp; cases hp
  | cons a r =>
    intro p hp
    rcases List.mem_cons.1 (show p ∈ (.pt a :: cjT r) from hp) with rfl | hp
    · exact h a (by simp)
    · exact cjT_ok (fun b hb => h b (by simp [hb])) p hp
/-- The pieces of an expression. -/
theorem exP_ok {k f i : Nat} (h : Sh nm nu E k f i) {x : Ex} (hx : E[i]? = some x) : ∀ p ∈ exP dec E x, PcOk nm nu E i p := by
  have htx : ∀ b, PcOk nm nu E i (.tx b) := fun b => .inl ⟨b, rfl⟩
  have hone : exP dec E x = [.tx (sgl dec x)] → ∀ p ∈ exP dec E x, PcOk nm nu E i p := fun e p hp => by
    rw [e, List.mem_singleton] at hp
    rw [hp]; exact htx _
  cases h with
  | @num k i y hy hu hb =>
    rw [hx] at hy
    obtain rfl := Option.some.inj hy
    have hk : x.kind = 1 := congrArg Ex.kind hb
    exact hone (by simp [exP, hk])
  | @word k i y hy hw hb =>
    rw [hx] at hy
    obtain rfl := Option.some.inj hy
    rcases hw with hk | hk | hk <;> exact hone (by simp [exP, hk])
  | @name k i y hy hm hb =>
    rw [hx] at hy
    obtain rfl := Option.some.inj hy
    have hk : x.kind = 4 := congrArg Ex.kind hb
    exact hone (by simp [exP, hk])
  | @idx k f i y hy hm hb hi hs =>
    rw [hx] at hy
    obtain rfl := Option.some.inj hy
    have hk : x.kind = 5 := congrArg Ex.kind hb
    rw [show exP dec E x = [.tx (x.name ++ [91]), .pt x.a, .tx [93]] by simp [exP, hk]]
    intro p hp
    simp only [List.mem_cons, List.not_mem_nil, or_false] at hp
    rcases hp with rfl | rfl | rfl
    · exact htx _
    · exact .inr ⟨_, _, _, rfl, hs, by omega⟩
    · exact htx _
  | @call k f i y hy hm hb hi hs =>
    rw [hx] at hy
    obtain rfl := Option.some.inj hy
    have hk : x.kind = 6 := congrArg Ex.kind hb
    have hlt := list_lt hi hs
    rw [show exP dec E x = .tx (x.name ++ [40]) :: (cj x.list ++ [.tx [41]]) by simp [exP, hk]]
    intro p hp
    rcases List.mem_cons.1 hp with rfl | hp
    · exact htx _
    · rcases List.mem_append.1 hp with hp | hp
      · refine cj_ok (fun a ha => ?_) p hp
        have h1 := hlt a ha
        obtain ⟨j, hj, rfl⟩ := List.mem_iff_getElem.1 ha
        exact .inr ⟨_, _, _, rfl, hs j hj, h1⟩
      · rw [List.mem_singleton] at hp
        rw [hp]; exact htx _
  | @un k k' f i y hy ho hb hi hd hs =>
    rw [hx] at hy
    obtain rfl := Option.some.inj hy
    have hk : x.kind = 8 := congrArg Ex.kind hb
    rw [show exP dec E x = .tx x.op :: atP E 5 x.a by simp [exP, hk]]
    intro p hp
    rcases List.mem_cons.1 hp with rfl | hp
    · exact htx _
    · exact atP_ok hs (by omega) p hp
  | @pair k k1 k2 f i y hy ho hb hi hd1 h1 hd2 h2 =>
    rw [hx] at hy
    obtain rfl := Option.some.inj hy
    have hk : x.kind = 9 := congrArg Ex.kind hb
    have hlb := h2.lt.2
    intro p hp
    unfold exP at hp
    rw [if_pos hk] at hp
    rcases List.mem_append.1 hp with hp | hp
    · rcases List.mem_append.1 hp with hp | hp
      · exact atP_ok h1 (by omega) p hp
      · rw [List.mem_singleton] at hp
        rw [hp]; exact htx _
    · exact atP_ok h2 (by omega) p hp
/-- How often the loop goes round for a piece; for some. -/
def pwt (g : Nat → Nat) : Pc → Nat
  | .tx _ => 1
  | .pt a => 1 + g a.toNat
def pws (g : Nat → Nat) (l : List Pc) : Nat := (l.map (pwt g)).sum
def wtF (dec : Nat → List UInt8) (E : List Ex) : Nat → Nat → Nat
  | 0, _ => 0
  | n + 1, i => match E[i]? with
    | none => 0
    | some x => pws (wtF dec E n) (exP dec E x)
def wt (dec : Nat → List UInt8) (E : List Ex) (a : Nat) : Nat := wtF dec E (a + 1) a
theorem pws_ext {g h : Nat → Nat} {i : Nat} (e : ∀ a k f, Sh nm nu E k f a → a < i → g a = h a) : ∀ {l : List Pc}, (∀ p ∈ l, PcOk nm nu E i p) → pws g l = pws h l
  | [], _ => rfl
  | p :: r, hl => by
    have h1 := pws_ext (l := r) e fun q hq => hl q (List.mem_cons_of_mem _ hq)
    unfold pws at h1 ⊢
    rw [List.map_cons, List.map_cons, List.sum_cons, List.sum_cons, h1]
    rcases hl p (by simp) with ⟨b, rfl⟩ | ⟨a, k, f, rfl, hs, ha⟩
    · rfl
    · show 1 + g a + _ = 1 + h a + _
      rw [e a k f hs ha]
theorem wtF_fuel : ∀ (i k f N M : Nat), Sh nm nu E k f i → i < N → i < M → wtF dec E N i = wtF dec E M i := by
  intro i
  induction i using Nat.strongRecOn with
  | ind i ih =>
    intro k f N M h hN hM
    obtain ⟨N, rfl⟩ : ∃ a, N = a + 1 := ⟨N - 1, by omega⟩
    obtain ⟨M, rfl⟩ : ∃ a, M = a + 1 := ⟨M - 1, by omega⟩
    have hil := h.lt.1
    have hx : E[i]? = some E[i] := List.getElem?_eq_getElem hil
    unfold wtF
    rw [hx]
    exact pws_ext (nm := nm) (nu := nu) (fun a k' f' hs ha => ih a ha k' f' N M hs (by omega) (by omega)) (exP_ok h hx)
/-- An expression's is that of its pieces. -/
theorem wt_exp {k f i : Nat} (h : Sh nm nu E k f i) {x : Ex} (hx : E[i]? = some x) : wt dec E i = pws (wt dec E) (exP dec E x) := by
  unfold wt
  rw [wtF, hx]
  exact pws_ext (nm := nm) (nu := nu) (fun a k' f' hs ha => wtF_fuel a k' f' _ _ hs (by omega) (by omega)) (exP_ok h hx)
theorem pws_app (g : Nat → Nat) (l m : List Pc) : pws g (l ++ m) = pws g l + pws g m := by simp [pws]
theorem pws_cons (g : Nat → Nat) (p : Pc) (l : List Pc) : pws g (p :: l) = pwt g p + pws g l := by simp [pws]
theorem atP_wt (g : Nat → Nat) (m : Int) {a : Nat} (h : a < E.length) : pws g (atP E m a) ≤ 3 + g a := by
  unfold atP atL
  rw [List.getElem?_eq_getElem h]
  dsimp only
  split
  · simp only [pws, pwt, List.map_cons, List.map_nil, List.sum_cons, List.sum_nil, Int.toNat_natCast]; omega
  · simp only [pws, pwt, List.map_cons, List.map_nil, List.sum_cons, List.sum_nil, Int.toNat_natCast]; omega
theorem cjT_wt (g : Nat → Nat) : ∀ l : List Nat, pws g (cjT l) = (l.map fun a => 2 + g a).sum
  | [] => rfl
  | a :: r => by
    unfold cjT
    rw [pws_cons, pws_cons, cjT_wt g r]
    simp [pwt]; omega
theorem cj_wt (g : Nat → Nat) (l : List Nat) : pws g (cj l) ≤ (l.map fun a => 2 + g a).sum := by
  cases l with
  | nil => exact Nat.le_refl _
  | cons a r =>
    show pws g (.pt a :: cjT r) ≤ _
    rw [pws_cons, cjT_wt]
    simp only [pwt, List.map_cons, List.sum_cons, Int.toNat_natCast]; omega
theorem stt_le {k i : Nat} : ∀ {l : List Nat} {f : Nat}, stt f l l.length = i → (∀ j (h : j < l.length), Sh nm nu E k (stt f l j) l[j]) → ∀ g : Nat → Nat, (∀ j (h : j < l.length), g l[j] + 2 ≤ 6 * (l[j] + 1 - stt f l j)) → f ≤ i ∧ (l.map fun a => 2 + g a).sum ≤ 6 * (i - f)
  | [], f, hi, _, _, _ => by
    have : f = i := hi
    subst this
    simp
  | a :: r, f, hi, hs, g, hg => by
    have hsh : ∀ j, stt f (a :: r) (j + 1) = stt (a + 1) r j := fun j => by
      cases j with
      | zero => rfl
      | succ j => rfl
    have h0 := hg 0 (by simp)
    have hle := (hs 0 (by simp)).lt.2
    have e0 : stt f (a :: r) 0 = f := rfl
    rw [e0] at h0 hle
    simp only [List.getElem_cons_zero] at h0 hle
    obtain ⟨h1, h2⟩ := stt_le (i := i) (l := r) (f := a + 1) (by rw [← hi, ← hsh]; rfl) (fun j hj => by
      have := hs (j + 1) (by simpa using hj)
      rw [hsh] at this
      simpa using this) g (fun j hj => by
      have := hg (j + 1) (by simpa using hj)
      rw [hsh] at this
      simpa using this)
    rw [List.map_cons, List.sum_cons]
    exact ⟨by omega, by omega⟩
/-- So it is small. -/
theorem wt_le {k f i : Nat} (h : Sh nm nu E k f i) : wt dec E i + 2 ≤ 6 * (i + 1 - f) := by
  induction h with
  | @num k i x hx hu hb =>
    have hk : x.kind = 1 := congrArg Ex.kind hb
    rw [wt_exp (Sh.num (nm := nm) (k := k) hx hu hb) hx, show exP dec E x = [.tx (sgl dec x)] by simp [exP, hk]]
    simp only [pws, pwt, List.map_cons, List.map_nil, List.sum_cons, List.sum_nil]; omega
  | @word k i x hx hw hb =>
    rw [wt_exp (Sh.word (nm := nm) (nu := nu) (k := k) hx hw hb) hx, show exP dec E x = [.tx (sgl dec x)] by rcases hw with hk | hk | hk <;> simp [exP, hk]]
    simp only [pws, pwt, List.map_cons, List.map_nil, List.sum_cons, List.sum_nil]; omega
  | @name k i x hx hm hb =>
    have hk : x.kind = 4 := congrArg Ex.kind hb
    rw [wt_exp (Sh.name (nu := nu) (k := k) hx hm hb) hx, show exP dec E x = [.tx (sgl dec x)] by simp [exP, hk]]
    simp only [pws, pwt, List.map_cons, List.map_nil, List.sum_cons, List.sum_nil]; omega
  | @idx k f i x hx hm hb hi hs ih =>
    have hk : x.kind = 5 := congrArg Ex.kind hb
    rw [wt_exp (.idx hx hm hb hi hs) hx, show exP dec E x = [.tx (x.name ++ [91]), .pt x.a, .tx [93]] by simp [exP, hk]]
    have := hs.lt.2
    simp [pws, pwt]; omega
  | @call k f i x hx hm hb hi hs ih =>
    have hk : x.kind = 6 := congrArg Ex.kind hb
    rw [wt_exp (.call hx hm hb hi hs) hx, show exP dec E x = .tx (x.name ++ [40]) :: (cj x.list ++ [.tx [41]]) by simp [exP, hk], pws_cons, pws_app]
    have h1 := cj_wt (wt dec E) x.list
    obtain ⟨h2, h3⟩ := stt_le hi hs (wt dec E) ih
    simp only [pwt, pws_cons, show pws (wt dec E) [] = 0 from rfl]
    omega
  | @un k k' f i x hx ho hb hi hd hs ih =>
    have hk : x.kind = 8 := congrArg Ex.kind hb
    rw [wt_exp (.un hx ho hb hi hd hs) hx, show exP dec E x = .tx x.op :: atP E 5 x.a by simp [exP, hk], pws_cons]
    have h1 := atP_wt (E := E) (wt dec E) 5 hs.lt.1
    have := hs.lt.2
    simp only [pwt]
    omega
  | @pair k k1 k2 f i x hx ho hb hi hd1 h1 hd2 h2 ih1 ih2 =>
    have hk : x.kind = 9 := congrArg Ex.kind hb
    rw [wt_exp (.pair hx ho hb hi hd1 h1 hd2 h2) hx]
    unfold exP
    rw [if_pos hk, pws_app, pws_app]
    have e1 := atP_wt (E := E) (wt dec E) (if levI x.op = 2 then levI x.op + 1 else levI x.op) h1.lt.1
    have e2 := atP_wt (E := E) (wt dec E) (levI x.op + 1) h2.lt.1
    have l1 := h1.lt.2
    have l2 := h2.lt.2
    simp only [pwt, pws_cons, show pws (wt dec E) [] = 0 from rfl]
    omega
end
end Go.Proofs.YtdeflloidhbpmaaGreatDoor
