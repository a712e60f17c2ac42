/-
  How long what is printed may be.
  A writer's program in memory; expression, of whatever kind.
-/
import Derived.Test.YtdeflloidhbpmaaGreatDoorK31
import Derived.Test.YtdeflloidhbpmaaGreatDoorK36
namespace Go.Proofs.YtdeflloidhbpmaaGreatDoor

section
variable {nm : List UInt8 → Prop} {nu : Nat → Prop} {dec : Nat → List UInt8} {E : List Ex} {S : List Sm}
/-- A piece that is no part is short. -/
def TxLe (M : Nat) (p : Pc) : Prop := match p with
  | .tx b => b.length ≤ M
  | .pt _ => True
theorem atP_tx {M : Nat} (hM : 1 ≤ M) {m : Int} {a : Nat} : ∀ p ∈ atP E m a, TxLe M p := by
  unfold atP
  cases E[a]? with
  | none =>
    intro p hp
    dsimp only at hp
    rw [List.mem_singleton] at hp
    rw [hp]; trivial
  | some x =>
    dsimp only
    unfold atL
    split
    · intro p hp
      simp only [List.mem_cons, List.not_mem_nil, or_false] at hp
      rcases hp with rfl | rfl | rfl
      · exact hM
      · trivial
      · exact hM
    · intro p hp
      rw [List.mem_singleton] at hp
      rw [hp]; trivial
theorem cjT_tx {M : Nat} (hM : 2 ≤ M) : ∀ {l : List Nat}, ∀ p ∈ cjT l, TxLe M p
  | [], p, hp => by cases hp
  | a :: r, p, hp => by
    unfold cjT at hp
    rcases List.mem_cons.1 hp with rfl | hp
    · exact hM
    · rcases List.mem_cons.1 hp with rfl | hp
      · trivial
      · exact cjT_tx hM p hp
theorem cj_tx {M : Nat} (hM : 2 ≤ M) {l : List Nat} : ∀ p ∈ cj l, TxLe M p := by
  cases l with
  | nil => intro p hp; cases hp
  | cons a r =>
    intro p hp
    rcases List.mem_cons.1 (show p ∈ (.pt a :: cjT r) from hp) with rfl | hp
    · trivial
    · exact cjT_tx hM p hp
theorem op_short {o : List UInt8} (h : isOp o = true) : o.length ≤ 2 := by
  have key : ∀ (T : List (List UInt8)), (∀ a ∈ T, a.length ≤ 2) → T.contains o = true → o.length ≤ 2 := fun T hT hc => hT o (List.contains_iff_mem.1 hc)
  unfold isOp at h
  simp only [Bool.or_eq_true] at h
  rcases h with (((h | h) | h) | h) | h
  · exact key sgOr (by decide) h
  · exact key sgAnd (by decide) h
  · exact key sgCmp (by decide) h
  · exact key sgAdd (by decide) h
  · exact key sgMul (by decide) h
theorem exP_tx {L k f i : Nat} (hnm : ∀ b, nm b → b.length ≤ L) (hnu : ∀ n, nu n → (dec n).length ≤ 18) (h : Sh nm nu E k f i) {x : Ex} (hx : E[i]? = some x) : ∀ p ∈ exP dec E x, TxLe (L + 20) p := by
  have hone : (sgl dec x).length ≤ L + 20 → exP dec E x = [.tx (sgl dec x)] → ∀ p ∈ exP dec E x, TxLe (L + 20) p := fun h e p hp => by
    rw [e, List.mem_singleton] at hp
    rw [hp]; exact h
  cases h with
  | @num k i y hy hu hb =>
    rw [hx] at hy
    obtain rfl := Option.some.inj hy
    have hk : x.kind = 1 := congrArg Ex.kind hb
    have := hnu _ hu
    exact hone (by simp [sgl, hk]; omega) (by simp [exP, hk])
  | @word k i y hy hw hb =>
    rw [hx] at hy
    obtain rfl := Option.some.inj hy
    rcases hw with hk | hk | hk <;> exact hone (by simp [sgl, hk, kTrue, kFalse, kRead]) (by simp [exP, hk])
  | @name k i y hy hm hb =>
    rw [hx] at hy
    obtain rfl := Option.some.inj hy
    have hk : x.kind = 4 := congrArg Ex.kind hb
    have := hnm _ hm
    exact hone (by simp [sgl, hk]; omega) (by simp [exP, hk])
  | @idx k f i y hy hm hb hi hs =>
    rw [hx] at hy
    obtain rfl := Option.some.inj hy
    have hk : x.kind = 5 := congrArg Ex.kind hb
    have := hnm _ hm
    rw [show exP dec E x = [.tx (x.name ++ [91]), .pt x.a, .tx [93]] by simp [exP, hk]]
    intro p hp
    simp only [List.mem_cons, List.not_mem_nil, or_false] at hp
    rcases hp with rfl | rfl | rfl
    · show (x.name ++ [91]).length ≤ _; rw [List.length_append]; simp; omega
    · trivial
    · show 1 ≤ _; omega
  | @call k f i y hy hm hb hi hs =>
    rw [hx] at hy
    obtain rfl := Option.some.inj hy
    have hk : x.kind = 6 := congrArg Ex.kind hb
    have := hnm _ hm
    rw [show exP dec E x = .tx (x.name ++ [40]) :: (cj x.list ++ [.tx [41]]) by simp [exP, hk]]
    intro p hp
    rcases List.mem_cons.1 hp with rfl | hp
    · show (x.name ++ [40]).length ≤ _; rw [List.length_append]; simp; omega
    · rcases List.mem_append.1 hp with hp | hp
      · exact cj_tx (by omega) p hp
      · rw [List.mem_singleton] at hp
        rw [hp]
        show 1 ≤ _; omega
  | @un k k' f i y hy ho hb hi hd hs =>
    rw [hx] at hy
    obtain rfl := Option.some.inj hy
    have hk : x.kind = 8 := congrArg Ex.kind hb
    rw [show exP dec E x = .tx x.op :: atP E 5 x.a by simp [exP, hk]]
    intro p hp
    rcases List.mem_cons.1 hp with rfl | hp
    · show x.op.length ≤ _
      rcases ho with ho | ho <;> rw [ho] <;> show 1 ≤ _ <;> omega
    · exact atP_tx (by omega) p hp
  | @pair k k1 k2 f i y hy ho hb hi hd1 h1 hd2 h2 =>
    rw [hx] at hy
    obtain rfl := Option.some.inj hy
    have hk : x.kind = 9 := congrArg Ex.kind hb
    have hol := op_short ho
    unfold exP
    rw [if_pos hk]
    intro p hp
    rcases List.mem_append.1 hp with hp | hp
    · rcases List.mem_append.1 hp with hp | hp
      · exact atP_tx (by omega) p hp
      · rw [List.mem_singleton] at hp
        rw [hp]
        show (32 :: (x.op ++ [32])).length ≤ _
        simp; omega
    · exact atP_tx (by omega) p hp
theorem pcs_len_le {M i : Nat} (hM : ∀ a k f, Sh nm nu E k f a → a < i → (exT dec E a).length ≤ M * wt dec E a) : ∀ {l : List Pc}, (∀ p ∈ l, PcOk nm nu E i p) → (∀ p ∈ l, TxLe M p) → (pcsB dec E l).length ≤ M * pws (wt dec E) l
  | [], _, _ => Nat.zero_le _
  | p :: r, hl, ht => by
    have h1 := pcs_len_le hM (l := r) (fun q hq => hl q (List.mem_cons_of_mem _ hq)) (fun q hq => ht q (List.mem_cons_of_mem _ hq))
    have h2 := ht p (by simp)
    rw [pws_cons, Nat.mul_add]
    show (pcB dec E p ++ pcsB dec E r).length ≤ _
    rw [List.length_append]
    rcases hl p (by simp) with ⟨b, rfl⟩ | ⟨a, k, f, rfl, hs, ha⟩
    · have h3 : b.length ≤ M := h2
      show b.length + _ ≤ M * 1 + _
      omega
    · have h3 := hM a k f hs ha
      show (exT dec E a).length + _ ≤ M * (1 + wt dec E a) + _
      rw [Nat.mul_add]; omega
/-- An expression's text is short. -/
theorem exT_len {L : Nat} (hnm : ∀ b, nm b → b.length ≤ L) (hnu : ∀ n, nu n → (dec n).length ≤ 18) : ∀ (i k f : Nat), Sh nm nu E k f i → (exT dec E i).length ≤ (L + 20) * wt dec E i := by
  intro i
  induction i using Nat.strongRecOn with
  | ind i ih =>
    intro k f h
    have hil := h.lt.1
    have hx : E[i]? = some E[i] := List.getElem?_eq_getElem hil
    rw [exT_exp h hx, wt_exp h hx]
    exact pcs_len_le (fun a k f hs ha => ih a ha k f hs) (exP_ok h hx) (exP_tx hnm hnu h hx)
theorem prG_exT {k f a : Nat} (h : Sh nm nu E k f a) : byt (prG dec E E.length a) = exT dec E a := by
  unfold exT
  rw [prG_fuel h E.length (a + 1) h.lt.1 (Nat.lt_succ_self _)]
theorem ex_len {L : Nat} (hnm : ∀ b, nm b → b.length ≤ L) (hnu : ∀ n, nu n → (dec n).length ≤ 18) {k f a : Nat} (h : Sh nm nu E k f a) : (byt (prG dec E E.length a)).length ≤ 6 * (L + 20) * (a + 1 - f) := by
  rw [prG_exT h, Nat.mul_comm 6, Nat.mul_assoc]
  exact Nat.le_trans (exT_len hnm hnu a k f h) (Nat.mul_le_mul_left _ (by have := wt_le h (dec := dec); omega))
theorem flat_len {b M D : Nat} {P : Nat → Nat → Nat → Nat → Prop} {g : Nat → List Wd} (hb : b ≤ 66) (hP : ∀ m0 q0 i m1, P m0 q0 i m1 → m0 ≤ m1 ∧ q0 ≤ i) : ∀ (l : List Nat) (m0 q0 m1 q1 : Nat), BL P l m0 q0 m1 q1 → (∀ m0 q0 i m1, i ∈ l → P m0 q0 i m1 → (byt (g i)).length + 133 ≤ M * (m1 - m0) + D * (i + 1 - q0)) →
    m0 ≤ m1 ∧ q0 ≤ q1 ∧ (byt (l.flatMap fun a => ind b :: (g a ++ [nl]))).length ≤ M * (m1 - m0) + D * (q1 - q0)
  | [], m0, q0, m1, q1, ⟨h1, h2⟩, _ => ⟨by omega, by omega, Nat.zero_le _⟩
  | a :: r, m0, q0, m1, q1, ⟨m, h1, h2⟩, hg => by
    have e1 := hg _ _ _ _ (by simp) h1
    obtain ⟨e2, e3, e4⟩ := flat_len hb hP r _ _ _ _ h2 fun m0 q0 i m1 hi => hg m0 q0 i m1 (by simp [hi])
    obtain ⟨e5, e6⟩ := hP _ _ _ _ h1
    refine ⟨by omega, by omega, ?_⟩
    rw [List.flatMap_cons, byt_app, List.length_append, byt_cons, byt_app, List.length_append, List.length_append]
    have e7 : (ind b).2.length ≤ 132 := by show (List.replicate (2 * b) (32 : UInt8)).length ≤ _; rw [List.length_replicate]; omega
    have e8 : (byt [nl]).length = 1 := rfl
    have e9 : M * (m1 - m0) = M * (m - m0) + M * (m1 - m) := by rw [← Nat.mul_add]; congr 1; omega
    have e10 : D * (q1 - q0) = D * (a + 1 - q0) + D * (q1 - (a + 1)) := by rw [← Nat.mul_add]; congr 1; omega
    omega
theorem blG_len {b X : Nat} {g : Nat → List Wd} {l : List Nat} (hb : b ≤ 66) (h : (byt (l.flatMap fun a => ind (b + 1) :: (g a ++ [nl]))).length ≤ X) : (byt (blG g b l)).length ≤ X + 140 := by
  unfold blG
  rw [byt_cons, byt_cons, byt_app, List.length_append, List.length_append, List.length_append]
  have e1 : (byt [ind b, ((4, [125]) : Wd)]).length ≤ 133 := by
    rw [byt_cons, List.length_append]
    show (List.replicate (2 * b) (32 : UInt8)).length + 1 ≤ _
    rw [List.length_replicate]; omega
  have e2 : ((4, [123]) : Wd).2.length = 1 := rfl
  have e3 : nl.2.length = 1 := rfl
  omega
/-- A statement's text is short. -/
theorem stG_len {L : Nat} (hnm : ∀ b, nm b → b.length ≤ L) (hnu : ∀ n, nu n → (dec n).length ≤ 18) : ∀ k m0 q0 i m1, SSh nm nu E S k m0 q0 i m1 → ∀ N b, i < N → b + k ≤ 66 →
    m0 ≤ m1 ∧ q0 ≤ i ∧ (byt (stG dec E S N b i)).length + 133 ≤ 6 * (L + 20) * (m1 - m0) + (L + 1000) * (i + 1 - q0)
  | 0, _, _, _, _, h, _, _, _, _ => h.elim
  | k + 1, m0, q0, i, m1, ⟨x, hx, hs⟩, N, b, hN, hb => by
    obtain ⟨N, rfl⟩ : ∃ M, N = M + 1 := ⟨N - 1, by omega⟩
    have hD : (L + 1000) * (q0 + 1 - q0) = L + 1000 := by rw [Nat.add_sub_cancel_left, Nat.mul_one]
    have hPP : ∀ m0 q0 i m1, SSh nm nu E S k m0 q0 i m1 → m0 ≤ m1 ∧ q0 ≤ i := fun m0 q0 i m1 h => by
      cases k with
      | zero => exact h.elim
      | succ k => exact ⟨(stG_len hnm hnu _ _ _ _ _ h (i + 1) 0 (by omega) (by omega)).1, (stG_len hnm hnu _ _ _ _ _ h (i + 1) 0 (by omega) (by omega)).2.1⟩
    have hbl : ∀ (l : List Nat) (m0 q0 m1 q1 : Nat), q1 ≤ i → BL (SSh nm nu E S k) l m0 q0 m1 q1 → ∀ b, b + k ≤ 66 → ∀ m2 q2 a m3, a ∈ l → SSh nm nu E S k m2 q2 a m3 → (byt (stG dec E S N b a)).length + 133 ≤ 6 * (L + 20) * (m3 - m2) + (L + 1000) * (a + 1 - q2) := by
      intro l m0 q0 m1 q1 h1 hb b hb2 m2 q2 a m3 ha h2
      have hlt := (hb.lt fun _ _ _ _ h => SSh.le h).2 a ha
      exact (stG_len hnm hnu _ _ _ _ _ h2 N b (by omega) hb2).2.2
    have l1 : (byt [semi]).length = 1 := rfl
    have l3 : semi.2.length = 1 := rfl
    have l4 : (byt []).length = 0 := rfl
    have l2 : gp.2.length = 1 := rfl
    have one : ∀ c : UInt8, ([c] : List UInt8).length = 1 := fun _ => rfl
    cases hs with
    | var a h1 h2 h3 h4 h5 =>
      have hk : x.kind = 1 := congrArg Sm.kind h2
      have ha : x.a = (a : Int) := congrArg Sm.a h2
      rw [show stG dec E S (N + 1) b i = (3, kVar) :: gp :: (1, x.name) :: gp :: (4, [61]) :: gp :: (prG dec E E.length a ++ [semi]) by simp [stG, hx, hk, ha]]
      have := hnm _ h1
      have := ex_len hnm hnu h3 (dec := dec)
      have := h3.lt.2
      have : kVar.length = 3 := rfl
      subst h4 h5
      simp only [byt_cons, byt_app, List.length_append, one]
      refine ⟨by omega, by omega, ?_⟩
      omega
    | arr h1 h2 h3 h4 h5 =>
      have hk : x.kind = 2 := congrArg Sm.kind h3
      rw [show stG dec E S (N + 1) b i = [(3, kVar), gp, (1, x.name), (4, [91]), (2, dec x.num), (4, [93]), semi] by simp [stG, hx, hk]]
      have := hnm _ h1
      have := hnu _ h2
      have : kVar.length = 3 := rfl
      subst h4 h5
      simp only [byt_cons, List.length_append, one]
      simp only [byt_cons] at l1
      refine ⟨by omega, by omega, ?_⟩
      simp only [List.length_append] at l1
      omega
    | set a h1 h2 h3 h4 h5 =>
      have hk : x.kind = 3 := congrArg Sm.kind h2
      have ha : x.a = (a : Int) := congrArg Sm.a h2
      rw [show stG dec E S (N + 1) b i = (1, x.name) :: gp :: (4, [61]) :: gp :: (prG dec E E.length a ++ [semi]) by simp [stG, hx, hk, ha]]
      have := hnm _ h1
      have := ex_len hnm hnu h3 (dec := dec)
      have := h3.lt.2
      subst h4 h5
      simp only [byt_cons, byt_app, List.length_append, one]
      refine ⟨by omega, by omega, ?_⟩
      omega
    | put a h1 h2 h3 h4 h5 h6 =>
      have hk : x.kind = 4 := congrArg Sm.kind h2
      have ha : x.a = (a : Int) := congrArg Sm.a h2
      rw [show stG dec E S (N + 1) b i = (1, x.name) :: (4, [91]) :: (prG dec E E.length a ++ (4, [93]) :: gp :: (4, [61]) :: gp :: (prG dec E E.length x.b ++ [semi])) by simp [stG, hx, hk, ha]]
      have := hnm _ h1
      have := ex_len hnm hnu h3 (dec := dec)
      have := ex_len hnm hnu h4 (dec := dec)
      have := h3.lt.2
      have := h4.lt.2
      have e : 6 * (L + 20) * (x.b + 1 - m0) = 6 * (L + 20) * (a + 1 - m0) + 6 * (L + 20) * (x.b + 1 - (a + 1)) := by rw [← Nat.mul_add]; congr 1; omega
      subst h5 h6
      simp only [byt_cons, byt_app, List.length_append, one]
      refine ⟨by omega, by omega, ?_⟩
      omega
    | cond a m q2 h1 h2 _ h4 h5 =>
      have hk : x.kind = 5 := congrArg Sm.kind h1
      have ha : x.a = (a : Int) := congrArg Sm.a h1
      rw [show stG dec E S (N + 1) b i = (3, kIf) :: gp :: (prG dec E E.length a ++ gp :: (blG (stG dec E S N (b + 1)) b x.thn ++ elG S (stG dec E S N b) (stG dec E S N (b + 1)) b x.els)) by simp [stG, hx, hk, ha]]
      have hq2 := (h5.lt fun _ _ _ _ h => SSh.le h).1
      obtain ⟨f1, f2, f3⟩ := flat_len (b := b + 1) (M := 6 * (L + 20)) (D := L + 1000) (g := stG dec E S N (b + 1)) (by omega) hPP _ _ _ _ _ h4 (fun m0 q0 i' m1 hi hh => hbl _ _ _ _ _ (by omega) h4 (b + 1) (by omega) _ _ _ _ hi hh)
      obtain ⟨g1, g2, g3⟩ := flat_len (b := b + 1) (M := 6 * (L + 20)) (D := L + 1000) (g := stG dec E S N (b + 1)) (by omega) hPP _ _ _ _ _ h5 (fun m0 q0 i' m1 hi hh => hbl _ _ _ _ _ (by omega) h5 (b + 1) (by omega) _ _ _ _ hi hh)
      have f4 := blG_len (b := b) (by omega) f3
      have g4 := blG_len (b := b) (by omega) g3
      have hE : (byt (elG S (stG dec E S N b) (stG dec E S N (b + 1)) b x.els)).length ≤ 6 * (L + 20) * (m1 - m) + (L + 1000) * (i - q2) + 146 := by
        unfold elG
        by_cases hl : x.els = []
        · rw [if_pos hl]; exact Nat.zero_le _
        · rw [if_neg hl]
          have : kElse.length = 4 := rfl
          simp only [byt_cons, List.length_append]
          cases ho : oneIf S x.els with
          | some j =>
            obtain ⟨hj, _⟩ := one_if ho
            rw [hj] at h5
            obtain ⟨m', h6, h7, h8⟩ := h5
            have := hbl [j] m q2 m1 i (Nat.le_refl _) ⟨m', h6, h7, h8⟩ b (by omega) _ _ _ _ (by simp) h6
            subst h7 h8
            dsimp only
            omega
          | none => dsimp only; omega
      have := ex_len hnm hnu h2 (dec := dec)
      have := h2.lt.2
      have : kIf.length = 2 := rfl
      have e1 : 6 * (L + 20) * (m1 - m0) = 6 * (L + 20) * (a + 1 - m0) + 6 * (L + 20) * (m - (a + 1)) + 6 * (L + 20) * (m1 - m) := by rw [← Nat.mul_add, ← Nat.mul_add]; congr 1; omega
      have e2 : (L + 1000) * (i + 1 - q0) = (L + 1000) * (q2 - q0) + (L + 1000) * (i - q2) + (L + 1000) := by
        rw [show i + 1 - q0 = (q2 - q0) + (i - q2) + 1 by omega, Nat.mul_add, Nat.mul_add, Nat.mul_one]
      simp only [byt_cons, byt_app, List.length_append]
      refine ⟨by omega, by omega, ?_⟩
      omega
    | loop a h1 h2 _ h4 =>
      have hk : x.kind = 6 := congrArg Sm.kind h1
      have ha : x.a = (a : Int) := congrArg Sm.a h1
      rw [show stG dec E S (N + 1) b i = (3, kWhile) :: gp :: (prG dec E E.length a ++ gp :: blG (stG dec E S N (b + 1)) b x.thn) by simp [stG, hx, hk, ha]]
      obtain ⟨f1, f2, f3⟩ := flat_len (b := b + 1) (M := 6 * (L + 20)) (D := L + 1000) (g := stG dec E S N (b + 1)) (by omega) hPP _ _ _ _ _ h4 (fun m0 q0 i' m1 hi hh => hbl _ _ _ _ _ (Nat.le_refl _) h4 (b + 1) (by omega) _ _ _ _ hi hh)
      have f4 := blG_len (b := b) (by omega) f3
      have := ex_len hnm hnu h2 (dec := dec)
      have := h2.lt.2
      have : kWhile.length = 5 := rfl
      have e1 : 6 * (L + 20) * (m1 - m0) = 6 * (L + 20) * (a + 1 - m0) + 6 * (L + 20) * (m1 - (a + 1)) := by rw [← Nat.mul_add]; congr 1; omega
      have e2 : (L + 1000) * (i + 1 - q0) = (L + 1000) * (i - q0) + (L + 1000) := by
        rw [show i + 1 - q0 = (i - q0) + 1 by omega, Nat.mul_add, Nat.mul_one]
      simp only [byt_cons, byt_app, List.length_append]
      refine ⟨by omega, by omega, ?_⟩
      omega
    | jump h1 h2 h3 h4 =>
      have hlen : (byt (stG dec E S (N + 1) b i)).length ≤ 10 := by
        rcases h1 with hk | hk
        · rw [show stG dec E S (N + 1) b i = [(3, kBreak), semi] by simp [stG, hx, hk]]; decide
        · rw [show stG dec E S (N + 1) b i = [(3, kContinue), semi] by simp [stG, hx, hk]]; decide
      subst h3 h4
      exact ⟨by omega, by omega, by omega⟩
    | ret0 h1 h2 h3 =>
      have hk : x.kind = 9 := congrArg Sm.kind h1
      have ha : x.a = -1 := congrArg Sm.a h1
      have hlen : (byt (stG dec E S (N + 1) b i)).length ≤ 10 := by
        rw [show stG dec E S (N + 1) b i = [(3, kReturn), semi] by simp [stG, hx, hk, ha]]; decide
      subst h2 h3
      exact ⟨by omega, by omega, by omega⟩
    | ret a h1 h2 h3 h4 =>
      have hk : x.kind = 9 := congrArg Sm.kind h1
      have ha : x.a = (a : Int) := congrArg Sm.a h1
      have hz : ¬ (a : Int) < 0 := by omega
      rw [show stG dec E S (N + 1) b i = (3, kReturn) :: gp :: (prG dec E E.length a ++ [semi]) by simp [stG, hx, hk, ha, hz]]
      have := ex_len hnm hnu h2 (dec := dec)
      have := h2.lt.2
      have : kReturn.length = 6 := rfl
      subst h3 h4
      simp only [byt_cons, byt_app, List.length_append]
      refine ⟨by omega, by omega, ?_⟩
      omega
    | print a h1 h2 h3 h4 =>
      have hk : x.kind = 10 := congrArg Sm.kind h1
      have ha : x.a = (a : Int) := congrArg Sm.a h1
      rw [show stG dec E S (N + 1) b i = (3, kPrint) :: gp :: (prG dec E E.length a ++ [semi]) by simp [stG, hx, hk, ha]]
      have := ex_len hnm hnu h2 (dec := dec)
      have := h2.lt.2
      have : kPrint.length = 5 := rfl
      subst h3 h4
      simp only [byt_cons, byt_app, List.length_append]
      refine ⟨by omega, by omega, ?_⟩
      omega
    | call a h1 h2 h3 h4 h5 =>
      have hk : x.kind = 11 := congrArg Sm.kind h1
      have ha : x.a = (a : Int) := congrArg Sm.a h1
      rw [show stG dec E S (N + 1) b i = prG dec E E.length a ++ [semi] by simp [stG, hx, hk, ha]]
      have := ex_len hnm hnu h2 (dec := dec)
      have := h2.lt.2
      subst h4 h5
      simp only [byt_app, List.length_append]
      refine ⟨by omega, by omega, ?_⟩
      omega
theorem nmTail_blen {L : Nat} : ∀ (l : List (List UInt8)), (∀ p ∈ l, p.length ≤ L) → (byt (nmTailG l)).length ≤ (L + 2) * l.length
  | [], _ => Nat.zero_le _
  | a :: r, h => by
    have h1 := nmTail_blen r fun p hp => h p (by simp [hp])
    have h2 := h a (by simp)
    unfold nmTailG gp
    simp only [byt_cons, List.length_append, List.length_cons, List.length_nil]
    rw [Nat.mul_add, Nat.mul_one]; omega
theorem nmG_len {L : Nat} (l : List (List UInt8)) (h : ∀ p ∈ l, p.length ≤ L) : (byt (nmG l)).length ≤ (L + 2) * l.length := by
  cases l with
  | nil => exact Nat.zero_le _
  | cons a r =>
    have h1 := nmTail_blen r fun p hp => h p (by simp [hp])
    have h2 := h a (by simp)
    show (a ++ byt (nmTailG r)).length ≤ _
    rw [List.length_append, List.length_cons, Nat.mul_add, Nat.mul_one]; omega
theorem fnG_len {L K : Nat} (hnm : ∀ b, nm b → b.length ≤ L) (hnu : ∀ n, nu n → (dec n).length ≤ 18) {f : Fu} {m0 q0 m1 q1 : Nat} (hK : f.params.length ≤ K) (hq1 : q1 ≤ S.length) (hf : FSh nm nu E S f m0 q0 m1 q1) :
    m0 ≤ m1 ∧ q0 ≤ q1 ∧ (byt (fnG dec E S f)).length ≤ 6 * (L + 20) * (m1 - m0) + (L + 1000) * (q1 - q0) + ((L + 2) * K + L + 200) := by
  have hPP : ∀ m0 q0 i m1, SSh nm nu E S 64 m0 q0 i m1 → m0 ≤ m1 ∧ q0 ≤ i := fun m0 q0 i m1 h => ⟨(stG_len hnm hnu _ _ _ _ _ h (i + 1) 0 (by omega) (by omega)).1, (stG_len hnm hnu _ _ _ _ _ h (i + 1) 0 (by omega) (by omega)).2.1⟩
  obtain ⟨f1, f2, f3⟩ := flat_len (b := 1) (M := 6 * (L + 20)) (D := L + 1000) (g := stG dec E S S.length 1) (by omega) hPP _ _ _ _ _ hf.body (fun m0 q0 i' m1 hi hh => (stG_len hnm hnu _ _ _ _ _ hh S.length 1 (by
    have := (hf.body.lt fun _ _ _ _ h => SSh.le h).2 i' hi; omega) (by omega)).2.2)
  have f4 := blG_len (b := 0) (by omega) f3
  have h1 := hnm _ hf.name
  have h2 := nmG_len (L := L) f.params fun p hp => hnm _ (hf.params p hp)
  have h3 : (L + 2) * f.params.length ≤ (L + 2) * K := Nat.mul_le_mul_left _ hK
  have h4 : (byt (if f.ty = 1 then [((3, kInt) : Wd), gp] else [])).length ≤ 4 := by split <;> decide
  have h5 : kFunc.length = 4 := rfl
  have h6 : gp.2.length = 1 := rfl
  have h7 : (byt [nl]).length = 1 := rfl
  have h8 : nl.2.length = 1 := rfl
  have h9 : (byt []).length = 0 := rfl
  have one : ∀ c : UInt8, ([c] : List UInt8).length = 1 := fun _ => rfl
  refine ⟨f1, f2, ?_⟩
  unfold fnG
  simp only [byt_cons, byt_app, List.length_append, one]
  omega
theorem progG_len {L K : Nat} (hnm : ∀ b, nm b → b.length ≤ L) (hnu : ∀ n, nu n → (dec n).length ≤ 18) : ∀ (F : List Fu) (m0 q0 m1 q1 : Nat), (∀ f ∈ F, f.params.length ≤ K) → q1 ≤ S.length → FL (FSh nm nu E S) F m0 q0 m1 q1 →
    m0 ≤ m1 ∧ q0 ≤ q1 ∧ (byt (F.flatMap (fnG dec E S))).length ≤ 6 * (L + 20) * (m1 - m0) + (L + 1000) * (q1 - q0) + ((L + 2) * K + L + 200) * F.length
  | [], _, _, _, _, _, _, ⟨h1, h2⟩ => ⟨by omega, by omega, Nat.zero_le _⟩
  | f :: r, m0, q0, m1, q1, hK, hq1, ⟨m, q, h1, h2⟩ => by
    obtain ⟨e1, e2, e3⟩ := progG_len hnm hnu r _ _ _ _ (fun g hg => hK g (by simp [hg])) hq1 h2
    obtain ⟨g1, g2, g3⟩ := fnG_len hnm hnu (K := K) (dec := dec) (hK f (by simp)) (by omega) h1
    have e4 : 6 * (L + 20) * (m1 - m0) = 6 * (L + 20) * (m - m0) + 6 * (L + 20) * (m1 - m) := by rw [← Nat.mul_add]; congr 1; omega
    have e5 : (L + 1000) * (q1 - q0) = (L + 1000) * (q - q0) + (L + 1000) * (q1 - q) := by rw [← Nat.mul_add]; congr 1; omega
    refine ⟨by omega, by omega, ?_⟩
    have e6 : ((L + 2) * K + L + 200) * (r.length + 1) = ((L + 2) * K + L + 200) * r.length + ((L + 2) * K + L + 200) := by rw [Nat.mul_add, Nat.mul_one]
    rw [List.flatMap_cons, byt_app, List.length_append, List.length_cons, e6]
    omega
end
end Go.Proofs.YtdeflloidhbpmaaGreatDoor

namespace Go.Proofs.YtdeflloidhbpmaaGreatDoor
open Go.RowKit

/-- A program in memory, all of it below a writer. -/
def TrB (wb : Nat) (w : World) (v : Value) (s : Sg) : Prop :=
  ∃ ve vs vf ce cs cf, v = .agg #[ve, vs, vf] ∧ (ArrAt w 9 ve s.ex.length ce ∧ (0 < s.ex.length → ∀ g, ve.ownBlock = some g → g < wb)) ∧ (ArrAt w 9 vs s.st.length cs ∧ (0 < s.st.length → ∀ g, vs.ownBlock = some g → g < wb)) ∧ (ArrAt w 6 vf s.fn.length cf ∧ (0 < s.fn.length → ∀ g, vf.ownBlock = some g → g < wb)) ∧
    RowsOf (ExC w fun g => g < w.heap.size ∧ g < wb) s.ex ce ∧ RowsOf (SmC w fun g => g < w.heap.size ∧ g < wb) s.st cs ∧ RowsOf (FuC w fun g => g < w.heap.size ∧ g < wb) s.fn cf
theorem arr_keepB {w w' : World} {sz n wb : Nat} {v : Value} {cs : List Value} (h : ArrAt w sz v n cs) (hl : 0 < n → ∀ g, v.ownBlock = some g → g < wb) (hB : Below wb w w') : ArrAt w' sz v n cs := by
  obtain ⟨A, c, rfl, h1, h2⟩ := h
  refine ⟨A, c, rfl, h1, fun h0 => ?_⟩
  obtain ⟨g, rfl, h3, h4⟩ := h2 h0
  exact ⟨g, rfl, Nat.lt_of_lt_of_le h3 hB.size, fun j u hu => (World.cell?_of_block (a := ⟨g, j, none⟩) (hB.block g (hl h0 g rfl))).trans (h4 j u hu)⟩
theorem TrB.keep {wb : Nat} {w w' : World} {v : Value} {s : Sg} (h : TrB wb w v s) (hB : Below wb w w') : TrB wb w' v s := by
  obtain ⟨ve, vs, vf, ce, cs, cf, e, h1, h2, h3, h4, h5, h6⟩ := h
  have hk : KeptOn (fun g => g < w.heap.size ∧ g < wb) (fun g => g < w'.heap.size ∧ g < wb) w w' := ⟨hB.size, fun g hg hl => ⟨⟨Nat.lt_of_lt_of_le hl hB.size, hg.2⟩, hB.block g hg.2⟩⟩
  exact ⟨ve, vs, vf, ce, cs, cf, e, ⟨arr_keepB h1.1 h1.2 hB, h1.2⟩, ⟨arr_keepB h2.1 h2.2 hB, h2.2⟩, ⟨arr_keepB h3.1 h3.2 hB, h3.2⟩, h4.mono (ExC.keep hk), h5.mono (SmC.keep hk), h6.mono (FuC.keep hk)⟩
theorem TrB.up {wb wb' : Nat} {w : World} {v : Value} {s : Sg} (h : TrB wb w v s) (hw : wb ≤ wb') : TrB wb' w v s := by
  obtain ⟨ve, vs, vf, ce, cs, cf, e, h1, h2, h3, h4, h5, h6⟩ := h
  have hk : KeptOn (fun g => g < w.heap.size ∧ g < wb) (fun g => g < w.heap.size ∧ g < wb') w w := ⟨Nat.le_refl _, fun g hg hl => ⟨⟨hl, Nat.lt_of_lt_of_le hg.2 hw⟩, rfl⟩⟩
  exact ⟨ve, vs, vf, ce, cs, cf, e, ⟨h1.1, fun h g hg => Nat.lt_of_lt_of_le (h1.2 h g hg) hw⟩, ⟨h2.1, fun h g hg => Nat.lt_of_lt_of_le (h2.2 h g hg) hw⟩, ⟨h3.1, fun h g hg => Nat.lt_of_lt_of_le (h3.2 h g hg) hw⟩, h4.mono (ExC.keep hk), h5.mono (SmC.keep hk), h6.mono (FuC.keep hk)⟩
theorem arr_lt {w : World} {sz n : Nat} {v : Value} {cs : List Value} (h : ArrAt w sz v n cs) : 0 < n → ∀ g, v.ownBlock = some g → g < w.heap.size := by
  obtain ⟨A, c, rfl, _, h2⟩ := h
  intro h0 g hg
  obtain ⟨g', rfl, h3, _⟩ := h2 h0
  obtain rfl : g' = g := by simpa [Value.ownBlock] using hg
  exact h3
theorem TrB.of {L : Nat → Prop} {w : World} {v : Value} {s : Sg} (h : TrIn L w v s) : TrB w.heap.size w v s := by
  obtain ⟨ve, vs, vf, ce, cs, cf, e, h1, h2, h3, h4, h5, h6⟩ := h
  have hk : KeptOn (fun g => g < w.heap.size ∧ L g) (fun g => g < w.heap.size ∧ g < w.heap.size) w w := ⟨Nat.le_refl _, fun g hg hl => ⟨⟨hl, hl⟩, rfl⟩⟩
  exact ⟨ve, vs, vf, ce, cs, cf, e, ⟨h1.1, arr_lt h1.1⟩, ⟨h2.1, arr_lt h2.1⟩, ⟨h3.1, arr_lt h3.1⟩, h4.mono (ExC.keep hk), h5.mono (SmC.keep hk), h6.mono (FuC.keep hk)⟩
theorem TrB.form {wb : Nat} {w : World} {v : Value} {s : Sg} (h : TrB wb w v s) : ∃ A1 c1 A2 c2 A3 c3, v = .agg #[.slice A1 s.ex.length c1, .slice A2 s.st.length c2, .slice A3 s.fn.length c3] := by
  obtain ⟨ve, vs, vf, ce, cs, cf, rfl, ⟨⟨A1, c1, rfl, _⟩, _⟩, ⟨⟨A2, c2, rfl, _⟩, _⟩, ⟨⟨A3, c3, rfl, _⟩, _⟩, _⟩ := h
  exact ⟨A1, c1, A2, c2, A3, c3, rfl⟩
/-- What lies below a writer: a program, and the table of levels; and strconv.Itoa. -/
structure TreeB (nu : Nat → Prop) (dec : Nat → List UInt8) (g cl : Nat → Nat) (wb : Nat) (e s f : Value) (sg : Sg) (w : World) : Prop where
  lev : Levs g cl w
  lo : 0 < wb ∧ ∀ i, i < 5 → g i < wb
  tree : TrB wb w (.agg #[e, s, f]) sg
  ito : ∀ n, nu n → ∀ w1, Below wb w w1 → wb ≤ w1.heap.size → Calls Tryz.prog 86 #[.int .i64 (n : Int)] w1 fun e w' => e = .returned (.string (bs (dec n))) ∧ Below w1.heap.size w1 w'
  num : ∀ x ∈ sg.ex, x.kind = 1 → nu x.num
  lens : ∀ x ∈ sg.ex, x.list.length ≤ 10000
section
variable {nm : List UInt8 → Prop} {nu : Nat → Prop} {dec : Nat → List UInt8} {g cl : Nat → Nat} {wb : Nat} {e s f : Value} {sg : Sg}
theorem TreeB.below {w w' : World} (h : TreeB nu dec g cl wb e s f sg w) (hB : Below wb w w') : TreeB nu dec g cl wb e s f sg w' where
  lev := ⟨fun i hi => (hB.cell (p := ⟨0, i, none⟩) h.lo.1).trans (h.lev.cell i hi), fun i hi => (h.lev.rows i hi).keep hB.size (hB.block _ (h.lo.2 i hi))⟩
  lo := h.lo
  tree := h.tree.keep hB
  ito := fun n hn w1 h1 => h.ito n hn w1 (hB.trans h1)
  num := h.num
  lens := h.lens
theorem rwAt_oneB {w : World} {L : Nat → Prop} {l : Value} {vs : List Value} (h : RwAt w L l vs) : l.oneCell' = true := by
  obtain ⟨A, c, rfl, _⟩ := h
  rfl
theorem rwAt_true {w : World} {L : Nat → Prop} {l : Value} {vs : List Value} (h : RwAt w L l vs) : RwAt w (fun _ => True) l vs := by
  obtain ⟨A, c, h1, h2, h3⟩ := h
  exact ⟨A, c, h1, fun g hg => ⟨trivial, (h2 g hg).2⟩, h3⟩
/-- The expression of a place. -/
theorem TreeB.exAt {w : World} (h : TreeB nu dec g cl wb e s f sg w) {v : Value} {p : Option Addr} {out : List UInt8} (hw : WrAt wb e s f v p out w) : ∃ ge c, ∀ i y, sg.ex[i]? = some y → ∃ l, EIn w wb ge sg.ex.length c i y l ∧ RwAt w (fun _ => True) l (intsV y.list) := by
  obtain ⟨A1, c1, A2, c2, A3, c3, he⟩ := h.tree.form
  obtain ⟨rfl, rfl, rfl⟩ : e = .slice A1 sg.ex.length c1 ∧ s = .slice A2 sg.st.length c2 ∧ f = .slice A3 sg.fn.length c3 := by
    injection he with he; simp at he; exact he
  rcases Nat.eq_zero_or_pos sg.ex.length with h0 | h0
  · refine ⟨0, c1, fun i y hy => ?_⟩
    have := (List.getElem?_eq_some_iff.1 hy).1
    omega
  · obtain ⟨ve, vs, vf, ce, cs, cf, e0, ⟨ha, _⟩, _, _, hr, _, _⟩ := h.tree
    obtain ⟨rfl, rfl, rfl⟩ : ve = .slice A1 sg.ex.length c1 ∧ vs = .slice A2 sg.st.length c2 ∧ vf = .slice A3 sg.fn.length c3 := by
      injection e0 with e0; simp at e0; obtain ⟨a, b, c⟩ := e0; exact ⟨a.symm, b.symm, c.symm⟩
    obtain ⟨ge, rfl, hg, hc⟩ := arr_get ha h0
    refine ⟨ge, c1, fun i y hy => ?_⟩
    obtain ⟨hi, rfl⟩ := List.getElem?_eq_some_iff.1 hy
    obtain ⟨hh, ⟨l, rfl, hl⟩, hget⟩ := hr.get ExC.len i hi
    exact ⟨l, ⟨cellK hw.blk 0, hi, rwAt_oneB hl, fun j u hj hu => hc _ _ ((hget j hj).trans hu)⟩, rwAt_true hl⟩
theorem Sh.partB {E : List Ex} {k f i : Nat} (h : Sh nm nu E k f i) {x : Ex} (hx : E[i]? = some x) :
    (x.kind = 9 → ∃ y z, E[x.a]? = some y ∧ E[x.b]? = some z ∧ x.op.length ≤ 2) ∧ (x.kind = 8 → ∃ y, E[x.a]? = some y) ∧ (x.kind = 5 → nm x.name) ∧ (x.kind = 6 → nm x.name) := by
  have key : ∀ {y z : Ex}, E[i]? = some y → bare y = z → x.kind = z.kind := fun h1 h2 => by
    rw [hx] at h1
    obtain rfl := Option.some.inj h1
    rw [← h2]; rfl
  cases h with
  | num h1 _ h3 => have := key h1 h3; simp at this; exact ⟨fun h => by omega, fun h => by omega, fun h => by omega, fun h => by omega⟩
  | word h1 h2 h3 => have := key h1 h3; simp at this; exact ⟨fun h => by omega, fun h => by omega, fun h => by omega, fun h => by omega⟩
  | name h1 _ h3 => have := key h1 h3; simp at this; exact ⟨fun h => by omega, fun h => by omega, fun h => by omega, fun h => by omega⟩
  | idx h1 h2 h3 =>
    have := key h1 h3; simp at this
    rw [hx] at h1
    obtain rfl := Option.some.inj h1
    exact ⟨fun h => by omega, fun h => by omega, fun _ => h2, fun h => by omega⟩
  | call h1 h2 h3 =>
    have := key h1 h3; simp at this
    rw [hx] at h1
    obtain rfl := Option.some.inj h1
    exact ⟨fun h => by omega, fun h => by omega, fun h => by omega, fun _ => h2⟩
  | un h1 _ h3 _ _ h6 =>
    have := key h1 h3; simp at this
    rw [hx] at h1
    obtain rfl := Option.some.inj h1
    have hl := h6.lt.1
    exact ⟨fun h => by omega, fun _ => ⟨_, List.getElem?_eq_getElem hl⟩, fun h => by omega, fun h => by omega⟩
  | pair h1 h2 h3 _ _ h6 _ h8 =>
    have := key h1 h3; simp at this
    rw [hx] at h1
    obtain rfl := Option.some.inj h1
    have hl := h6.lt.1
    have hl2 := h8.lt.1
    exact ⟨fun _ => ⟨_, _, List.getElem?_eq_getElem hl, List.getElem?_eq_getElem hl2, op_short h2⟩, fun h => by omega, fun h => by omega, fun h => by omega⟩
/-- expression, at any place. -/
theorem wexpression_calls {v : Value} {p : Option Addr} {out : List UInt8} {w : World} (hT : TreeB nu dec g cl wb e s f sg w) (hw : WrAt wb e s f v p out w) (hwb : wb ≤ w.heap.size) (hnm : ∀ b, nm b → b.length ≤ 1000000) {k fi i : Nat} {x : Ex} (hs : Sh nm nu sg.ex k fi i) (hx : sg.ex[i]? = some x) :
    Calls Tryz.prog 38 #[.pointer (some ⟨wb, 0, none⟩), .int .i64 (i : Int)] w (PcsPost (exP dec sg.ex x) w) := by
  obtain ⟨ge, c, hE⟩ := hT.exAt hw
  obtain ⟨l, h1, h2⟩ := hE i x hx
  obtain ⟨p9, p8, p5, p6⟩ := hs.partB hx
  have hm : x ∈ sg.ex := List.mem_of_getElem? hx
  unfold exP
  by_cases k9 : x.kind = 9
  · rw [if_pos k9]
    obtain ⟨y, z, hy, hz, ho⟩ := p9 k9
    obtain ⟨ly, hy1, _⟩ := hE _ _ hy
    obtain ⟨lz, hz1, _⟩ := hE _ _ hz
    have e1 : ∀ m, atP sg.ex m x.a = atL y m x.a := fun m => by unfold atP; rw [hy]
    have e2 : ∀ m, atP sg.ex m x.b = atL z m x.b := fun m => by unfold atP; rw [hz]
    rw [e1, e2]
    exact wexp_pair wb ge _ c i x l w h1 k9 g cl y z ly lz hT.lev hy1 hz1 (by omega)
  rw [if_neg k9]
  by_cases k8 : x.kind = 8
  · rw [if_pos k8]
    obtain ⟨y, hy⟩ := p8 k8
    obtain ⟨ly, hy1, _⟩ := hE _ _ hy
    have e1 : ∀ m, atP sg.ex m x.a = atL y m x.a := fun m => by unfold atP; rw [hy]
    rw [e1]
    exact wexp_un wb ge _ c i x l w h1 k8 g cl y ly hT.lev hy1
  rw [if_neg k8]
  by_cases k5 : x.kind = 5
  · rw [if_pos k5]
    exact wexp_idx wb ge _ c i x l w h1 k5 (hnm _ (p5 k5))
  rw [if_neg k5]
  by_cases k6 : x.kind = 6
  · rw [if_pos k6]
    exact wexp_call wb ge _ c i x l w h1 k6 (hnm _ (p6 k6)) (hT.lens x hm) h2
  rw [if_neg k6]
  exact wexp_single wb ge _ c i x l w h1 ⟨k9, k8, k5, k6⟩ fun k1 w1 hB1 => hT.ito x.num (hT.num x hm k1) w1 (hB1.mono hwb) (Nat.le_trans hwb hB1.size)
end
end Go.Proofs.YtdeflloidhbpmaaGreatDoor
