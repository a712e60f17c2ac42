/-
  The same tokens elsewhere: what is made of them is the same, but for where it stands.
  Plain facts on tokens: a text, a line end, and another text behind.
  A comment behind a text changes nothing; two texts, one behind the other, have what both have.
  Two programs' texts, one behind the other.
  A program's text is parsed as the program was, but for where its things stand.
-/
import Derived.Test.YtdeflloidhbpmaaGreatDoorK04
import Derived.Test.YtdeflloidhbpmaaGreatDoorK19
import Derived.Test.YtdeflloidhbpmaaGreatDoorK27
import Derived.Test.YtdeflloidhbpmaaGreatDoorK31
namespace Go.Proofs.YtdeflloidhbpmaaGreatDoor

/-- Two lists, thing by thing. -/
inductive All2 {α β : Type} (R : α → β → Prop) : List α → List β → Prop where
  | nil : All2 R [] []
  | cons {a : α} {b : β} {l : List α} {m : List β} : R a b → All2 R l m → All2 R (a :: l) (b :: m)
theorem All2.len {α β : Type} {R : α → β → Prop} {l : List α} {m : List β} (h : All2 R l m) : m.length = l.length := by
  induction h with
  | nil => rfl
  | cons _ _ ih => simp [ih]
theorem All2.snoc {α β : Type} {R : α → β → Prop} {l : List α} {m : List β} (h : All2 R l m) {a : α} {b : β} (hab : R a b) : All2 R (l ++ [a]) (m ++ [b]) := by
  induction h with
  | nil => exact .cons hab .nil
  | cons h1 _ ih => exact .cons h1 ih
theorem All2.get {α β : Type} {R : α → β → Prop} {l : List α} {m : List β} (h : All2 R l m) : ∀ (i : Nat) (h1 : i < l.length) (h2 : i < m.length), R l[i] m[i] := by
  induction h with
  | nil => intro i h1; exact absurd h1 (Nat.not_lt_zero _)
  | cons h1 _ ih =>
    intro i h2 h3
    cases i with
    | zero => exact h1
    | succ i => exact ih i (by simpa using h2) (by simpa using h3)
theorem All2.eq {α : Type} {R : α → α → Prop} (hR : ∀ a b, R a b → b = a) {l m : List α} (h : All2 R l m) : m = l := by
  induction h with
  | nil => rfl
  | cons h1 _ ih => rw [hR _ _ h1, ih]

/-- How many tokens stand ahead, by how many bytes they move, what was put ahead; z: nothing moves. -/
structure Mv where
  m : Nat
  c : Nat
  E : List Ex
  S : List Sm
  F : List Fu
  z : Bool
def RE (M : Mv) (x y : Ex) : Prop := y.kind = x.kind ∧ y.lo = x.lo + M.c ∧ y.hi = x.hi + M.c ∧ (M.z = true → y = x)
def RT (M : Mv) (x y : Sm) : Prop := y.kind = x.kind ∧ y.lo = x.lo + M.c ∧ y.hi = x.hi + M.c ∧ (M.z = true → y = x)
def RF (M : Mv) (x y : Fu) : Prop := y.lo = x.lo + M.c ∧ y.hi = x.hi + M.c ∧ (M.z = true → y = x)
/-- Of two states. -/
structure RS (M : Mv) (s s' : Sg) : Prop where
  at_ : s'.at_ = M.m + s.at_
  ex : ∃ X, s'.ex = M.E ++ X ∧ All2 (RE M) s.ex X
  st : ∃ X, s'.st = M.S ++ X ∧ All2 (RT M) s.st X
  fn : ∃ X, s'.fn = M.F ++ X ∧ All2 (RF M) s.fn X
/-- The tokens ahead of the n-th are those elsewhere; the n-th is the End, there the End or the word func. -/
structure MvOk (M : Mv) (T T' : List Tk) (n : Nat) : Prop where
  z0 : M.z = true → M.c = 0 ∧ M.E = [] ∧ M.S = []
  ok : TkOk T
  len : T.length = n + 1
  len' : T.length ≤ T'.length
  tok : ∀ i, i < n → T'.getD (M.m + i) ⟨0, 0, 0, []⟩ = { T.getD i ⟨0, 0, 0, []⟩ with lo := (T.getD i ⟨0, 0, 0, []⟩).lo + M.c, hi := (T.getD i ⟨0, 0, 0, []⟩).hi + M.c }
  last : (T.getD n ⟨0, 0, 0, []⟩).kind = 0 ∧ (T.getD n ⟨0, 0, 0, []⟩).txt = []
  last' : ((T'.getD (M.m + n) ⟨0, 0, 0, []⟩).kind ≠ 1 ∧ (T'.getD (M.m + n) ⟨0, 0, 0, []⟩).kind ≠ 2) ∧ ((T'.getD (M.m + n) ⟨0, 0, 0, []⟩).txt = [] ∨ (T'.getD (M.m + n) ⟨0, 0, 0, []⟩).txt = kFunc)
  few : M.S.length + n ≤ 1000

/-- If the one goes on, so does the other, to what is the same. -/
def SimR (M : Mv) (n : Nat) {α β : Type} (R : α → β → Prop) (d : Nat) (s : Sg) (r : Rs α) (r' : Rs β) : Prop :=
  ∀ a s1, r = .ok a s1 → ∃ b s1', r' = .ok b s1' ∧ R a b ∧ RS M s1 s1' ∧ s1.at_ ≤ n ∧ s.st.length ≤ s1.st.length ∧ s.at_ + s1.st.length + d ≤ s1.at_ + s.st.length ∧ s1.fn = s.fn
def Sim (M : Mv) (n : Nat) {α β : Type} (R : α → β → Prop) (d : Nat) (x : Ps α) (y : Ps β) : Prop :=
  ∀ s s', RS M s s' → 0 < s.at_ → s.at_ ≤ n → s.st.length ≤ s.at_ → SimR M n R d s (x s) (y s')
theorem simR_bd {M : Mv} {n : Nat} {α β γ δ : Type} {R : α → β → Prop} {Q : γ → δ → Prop} {d d' : Nat} {x : Ps α} {y : Ps β} {f : α → Ps γ} {g : β → Ps δ} {s s' : Sg} (hl : s.st.length ≤ s.at_)
    (h : SimR M n R d s (x s) (y s')) (hf : ∀ a b s1 s1', R a b → RS M s1 s1' → s.at_ + d ≤ s1.at_ → s1.at_ ≤ n → s1.st.length ≤ s1.at_ → SimR M n Q d' s1 (f a s1) (g b s1')) : SimR M n Q (d + d') s (bd x f s) (bd y g s') := by
  intro c s2 hc
  cases hx : x s with
  | no c i => rw [bd_no hx] at hc; cases hc
  | ok a s1 =>
    rw [bd_ok hx] at hc
    obtain ⟨b, s1', hy, hR, hS, h1, h2, h3, h4⟩ := h a s1 hx
    obtain ⟨e, s2', hg, hQ, hS2, h5, h6, h7, h8⟩ := hf a b s1 s1' hR hS (by omega) h1 (by omega) c s2 hc
    exact ⟨e, s2', by rw [bd_ok hy]; exact hg, hQ, hS2, h5, by omega, by omega, h8.trans h4⟩
theorem sim_bd {M : Mv} {n : Nat} {α β γ δ : Type} {R : α → β → Prop} {Q : γ → δ → Prop} {d d' : Nat} {x : Ps α} {y : Ps β} {f : α → Ps γ} {g : β → Ps δ}
    (h : Sim M n R d x y) (hf : ∀ a b, R a b → Sim M n Q d' (f a) (g b)) : Sim M n Q (d + d') (bd x f) (bd y g) :=
  fun s s' hS h0 hn hl => simR_bd hl (h s s' hS h0 hn hl) fun a b s1 s1' hR hS1 hd h1 h2 => hf a b hR s1 s1' hS1 (by omega) h1 h2
theorem sim_ok {M : Mv} {n : Nat} {α β : Type} {R : α → β → Prop} {a : α} {b : β} (h : R a b) : Sim M n R 0 (okP a) (okP b) := by
  intro s s' hS h0 hn hl c s1 hc
  injection hc with h1 h2
  subst h1 h2
  exact ⟨b, s', rfl, h, hS, hn, Nat.le_refl _, by omega, rfl⟩
theorem Sim.mono {M : Mv} {n : Nat} {α β : Type} {R : α → β → Prop} {d d' : Nat} {x : Ps α} {y : Ps β} (h : Sim M n R d x y) (hd : d' ≤ d) : Sim M n R d' x y := by
  intro s s' hS h0 hn hl a s1 ha
  obtain ⟨b, s1', h1, h2, h3, h4, h5, h6, h7⟩ := h s s' hS h0 hn hl a s1 ha
  exact ⟨b, s1', h1, h2, h3, h4, h5, by omega, h7⟩
theorem sim_no {M : Mv} {n : Nat} {α β : Type} {R : α → β → Prop} {d : Nat} {c : Sg → Nat} {i : Sg → Nat} {y : Ps β} : Sim M n R d (fun s => .no (c s) (i s) : Ps α) y := by
  intro s s' _ _ _ _ a s1 ha
  cases ha
theorem sim_if {M : Mv} {n : Nat} {α β : Type} {R : α → β → Prop} {d : Nat} {b b' : Sg → Bool} {x y : Ps α} {x' y' : Ps β} (hb : ∀ s s', RS M s s' → s.at_ ≤ n → b' s' = b s)
    (hx : ∀ s s', RS M s s' → 0 < s.at_ → s.at_ ≤ n → s.st.length ≤ s.at_ → b s = true → SimR M n R d s (x s) (x' s')) (hy : Sim M n R d y y') : Sim M n R d (fun s => if b s then x s else y s) (fun s => if b' s then x' s else y' s) := by
  intro s s' hS h0 hn hl
  show SimR M n R d s (if b s then x s else y s) (if b' s' then x' s' else y' s')
  rw [hb s s' hS hn]
  by_cases h : b s = true
  · rw [if_pos h, if_pos h]; exact hx s s' hS h0 hn hl h
  · rw [if_neg h, if_neg h]; exact hy s s' hS h0 hn hl

theorem sim_if' {M : Mv} {n : Nat} {α β : Type} {R : α → β → Prop} {d : Nat} {b b' : Sg → Bool} {x y : Ps α} {x' y' : Ps β} (hb : ∀ s s', RS M s s' → s.at_ ≤ n → b' s' = b s)
    (hx : Sim M n R d x x') (hy : Sim M n R d y y') : Sim M n R d (fun s => if b s then x s else y s) (fun s => if b' s then x' s else y' s) :=
  sim_if hb (fun s s' hS hp hn hl _ => hx s s' hS hp hn hl) hy
section
variable {M : Mv} {T T' : List Tk} {n : Nat}
theorem RS.cur {s s' : Sg} (hM : MvOk M T T' n) (h : RS M s s') (hn : s.at_ < n) : cur T' s' = { cur T s with lo := (cur T s).lo + M.c, hi := (cur T s).hi + M.c } := by
  unfold Go.Proofs.YtdeflloidhbpmaaGreatDoor.cur
  rw [h.at_, hM.tok _ hn]
theorem RS.isP {s s' : Sg} (hM : MvOk M T T' n) (h : RS M s s') (hn : s.at_ ≤ n) {l : List (List UInt8)} (h0 : [] ∉ l) (h1 : kFunc ∉ l) : isP T' l s' = isP T l s := by
  unfold Go.Proofs.YtdeflloidhbpmaaGreatDoor.isP
  rcases Nat.lt_or_ge s.at_ n with hlt | hge
  · rw [h.cur hM hlt]
  · have he : s.at_ = n := by omega
    have e1 : Go.Proofs.YtdeflloidhbpmaaGreatDoor.cur T s = T.getD n ⟨0, 0, 0, []⟩ := by unfold Go.Proofs.YtdeflloidhbpmaaGreatDoor.cur; rw [he]
    have e2 : Go.Proofs.YtdeflloidhbpmaaGreatDoor.cur T' s' = T'.getD (M.m + n) ⟨0, 0, 0, []⟩ := by unfold Go.Proofs.YtdeflloidhbpmaaGreatDoor.cur; rw [h.at_, he]
    rw [e1, e2, hM.last.2]
    have hc : ∀ x : List UInt8, x ∉ l → l.contains x = false := fun x hx => by
      cases hh : l.contains x with
      | false => rfl
      | true => exact absurd (List.contains_iff_mem.1 hh) hx
    rw [hc _ h0]
    rcases hM.last'.2 with h2 | h2
    · rw [h2, hc _ h0]
    · rw [h2, hc _ h1]
theorem RS.isK {s s' : Sg} (hM : MvOk M T T' n) (h : RS M s s') (hn : s.at_ ≤ n) {k : Nat} (hk : k = 1 ∨ k = 2) : isK T' k s' = isK T k s := by
  unfold Go.Proofs.YtdeflloidhbpmaaGreatDoor.isK
  rcases Nat.lt_or_ge s.at_ n with hlt | hge
  · rw [h.cur hM hlt]
  · have he : s.at_ = n := by omega
    have e1 : Go.Proofs.YtdeflloidhbpmaaGreatDoor.cur T s = T.getD n ⟨0, 0, 0, []⟩ := by unfold Go.Proofs.YtdeflloidhbpmaaGreatDoor.cur; rw [he]
    have e2 : Go.Proofs.YtdeflloidhbpmaaGreatDoor.cur T' s' = T'.getD (M.m + n) ⟨0, 0, 0, []⟩ := by unfold Go.Proofs.YtdeflloidhbpmaaGreatDoor.cur; rw [h.at_, he]
    rw [e1, e2, hM.last.1]
    obtain ⟨h2, h3⟩ := hM.last'.1
    rcases hk with rfl | rfl
    · rw [beq_eq_false_iff_ne.2 h2]; rfl
    · rw [beq_eq_false_iff_ne.2 h3]; rfl
theorem RS.st_len {s s' : Sg} (h : RS M s s') : s'.st.length = M.S.length + s.st.length := by
  obtain ⟨X, h1, h2⟩ := h.st
  rw [h1, List.length_append, h2.len]
theorem RS.ex_len {s s' : Sg} (h : RS M s s') : s'.ex.length = M.E.length + s.ex.length := by
  obtain ⟨X, h1, h2⟩ := h.ex
  rw [h1, List.length_append, h2.len]
theorem RS.fn_len {s s' : Sg} (h : RS M s s') : s'.fn.length = M.F.length + s.fn.length := by
  obtain ⟨X, h1, h2⟩ := h.fn
  rw [h1, List.length_append, h2.len]
theorem simR_next (hM : MvOk M T T' n) {s s' : Sg} (h : RS M s s') (hn : s.at_ < n) (hl : s.st.length ≤ s.at_) : SimR M n Eq 1 s (nextP T s) (nextP T' s') := by
  intro a s1 ha
  have hf := hM.few
  have h1 : ¬ 1000 < s.st.length := by omega
  have h2 : ¬ 1000 < s'.st.length := by rw [h.st_len]; omega
  unfold nextP at ha ⊢
  rw [if_neg h1] at ha
  rw [if_neg h2]
  injection ha with e1 e2
  subst e1 e2
  refine ⟨_, _, rfl, by rw [h.cur hM hn], ⟨?_, h.ex, h.st, h.fn⟩, ?_, Nat.le_refl _, ?_, rfl⟩
  · show s'.at_ + 1 = M.m + (s.at_ + 1)
    rw [h.at_]; omega
  · show s.at_ + 1 ≤ n
    omega
  · show s.at_ + s.st.length + 1 ≤ s.at_ + 1 + s.st.length
    omega
theorem isP_lt (hM : MvOk M T T' n) {s : Sg} (hn : s.at_ ≤ n) {l : List (List UInt8)} (h0 : [] ∉ l) (hi : isP T l s = true) : s.at_ < n := by
  have := hM.ok.isP h0 (by rw [hM.len]; omega) hi
  rw [hM.len] at this
  omega
theorem isK_lt (hM : MvOk M T T' n) {s : Sg} (hn : s.at_ ≤ n) {k : Nat} (h0 : k ≠ 0) (hi : isK T k s = true) : s.at_ < n := by
  have := hM.ok.isK h0 (by rw [hM.len]; omega) hi
  rw [hM.len] at this
  omega
theorem sim_takeP (hM : MvOk M T T' n) {l : List (List UInt8)} (h0 : [] ∉ l) : Sim M n Eq 1 (takeP T l) (takeP T' l) := by
  intro s s' hS hp hn hl
  by_cases h : Go.Proofs.YtdeflloidhbpmaaGreatDoor.isP T l s = true
  · have hlt := isP_lt hM hn h0 h
    have h' : Go.Proofs.YtdeflloidhbpmaaGreatDoor.isP T' l s' = true := by
      unfold Go.Proofs.YtdeflloidhbpmaaGreatDoor.isP at h ⊢
      rw [hS.cur hM hlt]; exact h
    have e1 : takeP T l s = nextP T s := by unfold takeP; rw [if_pos h]
    have e2 : takeP T' l s' = nextP T' s' := by unfold takeP; rw [if_pos h']
    rw [e1, e2]
    exact simR_next hM hS hlt hl
  · intro a s1 ha
    unfold takeP at ha
    rw [if_neg h] at ha
    cases ha
theorem sim_takeK (hM : MvOk M T T' n) {k : Nat} (h0 : k ≠ 0) : Sim M n Eq 1 (takeK T k) (takeK T' k) := by
  intro s s' hS hp hn hl
  by_cases h : Go.Proofs.YtdeflloidhbpmaaGreatDoor.isK T k s = true
  · have hlt := isK_lt hM hn h0 h
    have h' : Go.Proofs.YtdeflloidhbpmaaGreatDoor.isK T' k s' = true := by
      unfold Go.Proofs.YtdeflloidhbpmaaGreatDoor.isK at h ⊢
      rw [hS.cur hM hlt]; exact h
    have e1 : takeK T k s = nextP T s := by unfold takeK; rw [if_pos h]
    have e2 : takeK T' k s' = nextP T' s' := by unfold takeK; rw [if_pos h']
    rw [e1, e2]
    exact simR_next hM hS hlt hl
  · intro a s1 ha
    unfold takeK at ha
    rw [if_neg h] at ha
    cases ha
theorem RS.lastHi {s s' : Sg} (hM : MvOk M T T' n) (h : RS M s s') (h0 : 0 < s.at_) (hn : s.at_ ≤ n) : lastHi T' s' = lastHi T s + M.c := by
  unfold Go.Proofs.YtdeflloidhbpmaaGreatDoor.lastHi
  rw [h.at_, show M.m + s.at_ - 1 = M.m + (s.at_ - 1) by omega, hM.tok _ (by omega)]
/-- Where a part begins. -/
theorem sim_lo (hM : MvOk M T T' n) {α β : Type} {R : α → β → Prop} {d : Nat} {x : Ps α} {y : Ps β} (hf : Fine T 1 x)
    (h : ∀ s s', RS M s s' → 0 < s.at_ → s.at_ < n → s.st.length ≤ s.at_ → (Go.Proofs.YtdeflloidhbpmaaGreatDoor.cur T' s').lo = (Go.Proofs.YtdeflloidhbpmaaGreatDoor.cur T s).lo + M.c → SimR M n R d s (x s) (y s')) : Sim M n R d x y := by
  intro s s' hS h0 hn hl a s1 ha
  have h1 := hf s (by rw [hM.len]; omega)
  rw [ha] at h1
  obtain ⟨h2, h3⟩ := h1
  rw [hM.len] at h3
  have hlt : s.at_ < n := by omega
  exact h s s' hS h0 hlt hl (by rw [hS.cur hM hlt]) a s1 ha
/-- What is known of places: nothing but that they are the same where nothing moves. -/
def VR (M : Mv) {α : Type} (x y : α) : Prop := M.z = true → y = x
def VL (M : Mv) {α : Type} (x y : List α) : Prop := (M.z = true → y = x) ∧ y.length = x.length
theorem VL.snoc {α : Type} {x y : List α} {a b : α} (h : VL M x y) (hab : VR M a b) : VL M (x ++ [a]) (y ++ [b]) := ⟨fun hz => by rw [h.1 hz, hab hz], by simp [h.2]⟩
theorem simR_putE (hM : MvOk M T T' n) {lo lo' : Nat} (hlo : lo' = lo + M.c) {x y : Ex} (hk : y.kind = x.kind) (hz : M.z = true → y = x) {s s' : Sg} (hS : RS M s s') (hn : s.at_ ≤ n) (h0 : 0 < s.at_) :
    SimR M n (VR M) 0 s (putE T lo x s) (putE T' lo' y s') := by
  intro a s1 ha
  unfold putE at ha ⊢
  injection ha with e1 e2
  subst e1 e2
  obtain ⟨X, hX, hA⟩ := hS.ex
  refine ⟨_, _, rfl, fun z => ?_, ⟨hS.at_, ⟨X ++ [{ y with lo := lo', hi := Go.Proofs.YtdeflloidhbpmaaGreatDoor.lastHi T' s' }], ?_, hA.snoc ⟨hk, hlo, hS.lastHi hM h0 hn, fun z => ?_⟩⟩, hS.st, hS.fn⟩, hn, Nat.le_refl _, Nat.le_refl _, rfl⟩
  · rw [hS.ex_len, (hM.z0 z).2.1]; simp
  · show s'.ex ++ _ = _
    rw [hX, List.append_assoc]
  · rw [hz z, hS.lastHi hM h0 hn, hlo, (hM.z0 z).1]; simp
theorem simR_putS (hM : MvOk M T T' n) {lo lo' : Nat} (hlo : lo' = lo + M.c) {x y : Sm} (hk : y.kind = x.kind) (hz : M.z = true → y = x) {s s' : Sg} (hS : RS M s s') (hn : s.at_ ≤ n) (h0 : 0 < s.at_) :
    ∀ a s1, putS T lo x s = .ok a s1 → ∃ b s1', putS T' lo' y s' = .ok b s1' ∧ VR M a b ∧ RS M s1 s1' ∧ s1.at_ = s.at_ ∧ s1.st.length = s.st.length + 1 ∧ s1.fn = s.fn := by
  intro a s1 ha
  unfold putS at ha ⊢
  injection ha with e1 e2
  subst e1 e2
  obtain ⟨X, hX, hA⟩ := hS.st
  refine ⟨_, _, rfl, fun z => ?_, ⟨hS.at_, hS.ex, ⟨X ++ [{ y with lo := lo', hi := Go.Proofs.YtdeflloidhbpmaaGreatDoor.lastHi T' s' }], ?_, hA.snoc ⟨hk, hlo, hS.lastHi hM h0 hn, fun z => ?_⟩⟩, hS.fn⟩, rfl, by simp, rfl⟩
  · rw [hS.st_len, (hM.z0 z).2.2]; simp
  · show s'.st ++ _ = _
    rw [hX, List.append_assoc]
  · rw [hz z, hS.lastHi hM h0 hn, hlo, (hM.z0 z).1]; simp
theorem sim_listL (hM : MvOk M T T' n) {α : Type} {R : α → α → Prop} (hR : ∀ a b, R a b → VR M a b) {one one' : Ps α} (h1 : Sim M n R 1 one one') : ∀ k k' out out', k ≤ k' → VL M out out' → Sim M n (VL M) 0 (listL T one k out) (listL T' one' k' out')
  | 0, _, _, _, _, _ => sim_no (c := fun _ => 0) (i := fun _ => 0)
  | k + 1, 0, _, _, h, _ => absurd h (Nat.not_succ_le_zero _)
  | k + 1, k' + 1, out, out', hk, ho => by
    have ih := fun a b (hab : R a b) => sim_listL hM hR h1 k k' (out ++ [a]) (out' ++ [b]) (by omega) (ho.snoc (hR _ _ hab))
    refine sim_if (x := Rs.ok out) (x' := Rs.ok out') (fun s s' hS hn => hS.isP hM hn (by decide) (by decide)) (fun s s' hS hp hn hl _ => sim_ok ho s s' hS hp hn hl) ?_
    have h2 : Sim M n Eq 0 (if out.length = 0 then okP [] else takeP T [[44]]) (if out'.length = 0 then okP [] else takeP T' [[44]]) := by
      rw [ho.2]
      by_cases h : out.length = 0
      · rw [if_pos h, if_pos h]; exact sim_ok rfl
      · rw [if_neg h, if_neg h]; exact (sim_takeP hM (by decide)).mono (by omega)
    exact (sim_bd h2 fun _ _ _ => sim_bd h1 ih).mono (Nat.zero_le _)
theorem sim_list (hM : MvOk M T T' n) {α : Type} {R : α → α → Prop} (hR : ∀ a b, R a b → VR M a b) {one one' : Ps α} (h1 : Sim M n R 1 one one') : Sim M n (VL M) 2 (listM T one) (listM T' one') := by
  have hl := hM.len'
  refine (sim_bd (sim_takeP hM (by decide)) fun _ _ _ => sim_bd (sim_listL hM hR h1 _ _ [] [] (by omega) ⟨fun _ => rfl, rfl⟩) fun l l' h => sim_bd (sim_takeP hM (by decide)) fun _ _ _ => sim_ok h).mono (by omega)
theorem sim_putE (hM : MvOk M T T' n) {lo lo' : Nat} (hlo : lo' = lo + M.c) {x y : Ex} (hk : y.kind = x.kind) (hz : M.z = true → y = x) : Sim M n (VR M) 0 (putE T lo x) (putE T' lo' y) :=
  fun _ _ hS h0 hn _ => simR_putE hM hlo hk hz hS hn h0
theorem simR_pair (hM : MvOk M T T' n) {part part' : Ps Nat} (hp : Sim M n (VR M) 1 part part') {lo lo' a a' : Nat} (hlo : lo' = lo + M.c) (ha : VR M a a') {s s' : Sg} (hS : RS M s s') (hn : s.at_ < n) (hl : s.st.length ≤ s.at_) : SimR M n (VR M) 2 s (pairM T part lo a s) (pairM T' part' lo' a' s') := by
  refine simR_bd (d := 1) (d' := 1) hl (simR_next hM hS hn hl) fun o o' s1 s1' ho hS1 hd h1 h2 => ?_
  subst ho
  exact (sim_bd (d := 1) (d' := 0) hp fun b b' hb => sim_putE hM hlo (x := { kind := 9, op := o, a := a, b := b }) (y := { kind := 9, op := o, a := a', b := b' }) rfl fun z => by rw [ha z, hb z]) s1 s1' hS1 (by omega) h1 h2
theorem sim_rowL (hM : MvOk M T T' n) {part part' : Ps Nat} (hp : Sim M n (VR M) 1 part part') {signs : List (List UInt8)} (h0 : [] ∉ signs) (h1 : kFunc ∉ signs) {lo lo' : Nat} (hlo : lo' = lo + M.c) : ∀ k k' a a', k ≤ k' → VR M a a' → Sim M n (VR M) 0 (rowL T part signs lo k a) (rowL T' part' signs lo' k' a')
  | 0, _, _, _, _, _ => sim_no (c := fun _ => 0) (i := fun _ => 0)
  | k + 1, 0, _, _, h, _ => absurd h (Nat.not_succ_le_zero _)
  | k + 1, k' + 1, a, a', hk, ha => by
    refine sim_if (x := bd (pairM T part lo a) (rowL T part signs lo k)) (x' := bd (pairM T' part' lo' a') (rowL T' part' signs lo' k')) (y := Rs.ok a) (y' := Rs.ok a') (fun s s' hS hn => hS.isP hM hn h0 h1) (fun s s' hS hs hn hl hi => ?_) (sim_ok ha)
    have hlt := isP_lt hM hn h0 hi
    intro c s1 hc
    obtain ⟨b, s1', e1, e2, e3, e4, e5, e6, e7⟩ := simR_bd (d := 2) (d' := 0) hl (simR_pair hM hp hlo ha hS hlt hl) (fun b b' s1 s1' hb hS1 hd h3 h4 => sim_rowL hM hp h0 h1 hlo k k' b b' (by omega) hb s1 s1' hS1 (by omega) h3 h4) c s1 hc
    exact ⟨b, s1', e1, e2, e3, e4, e5, by omega, e7⟩
theorem sim_row (hM : MvOk M T T' n) {part part' : Ps Nat} (hp : Sim M n (VR M) 1 part part') (hf : Fine T 1 part) {signs : List (List UInt8)} (h0 : [] ∉ signs) (h1 : kFunc ∉ signs) : Sim M n (VR M) 1 (rowM T part signs) (rowM T' part' signs) := by
  refine sim_lo hM (fine_row hM.ok hf h0) fun s s' hS hs hn hl hlo => ?_
  have hl' := hM.len'
  exact simR_bd (d := 1) (d' := 0) hl (hp s s' hS hs (by omega) hl) fun a a' s1 s1' ha hS1 hd h3 h4 => sim_rowL hM hp h0 h1 hlo _ _ a a' (by omega) ha s1 s1' hS1 (by omega) h3 h4
theorem sim_sum (hM : MvOk M T T' n) {op op' : Ps Nat} (h : Sim M n (VR M) 1 op op') (hf : Fine T 1 op) : Sim M n (VR M) 1 (sumM T op) (sumM T' op') :=
  sim_row hM (sim_row hM h hf (by decide) (by decide)) (fine_row hM.ok hf (by decide)) (by decide) (by decide)
theorem sim_comparison (hM : MvOk M T T' n) {op op' : Ps Nat} (h : Sim M n (VR M) 1 op op') (hf : Fine T 1 op) : Sim M n (VR M) 1 (comparisonM T op) (comparisonM T' op') := by
  refine sim_lo hM (fine_comparison hM.ok hf) fun s s' hS hs hn hl hlo => ?_
  refine simR_bd (d := 1) (d' := 0) hl (sim_sum hM h hf s s' hS hs (by omega) hl) fun a a' s1 s1' ha hS1 hd h3 h4 => ?_
  exact sim_if (x := pairM T (sumM T op) (cur T s).lo a) (x' := pairM T' (sumM T' op') (cur T' s').lo a') (y := Rs.ok a) (y' := Rs.ok a') (fun s s' hS hn => hS.isP hM hn (by decide) (by decide)) (fun s2 s2' hS2 hs2 hn2 hl2 hi => fun c s3 hc => by
    obtain ⟨b, s1', e1, e2, e3, e4, e5, e6, e7⟩ := simR_pair hM (sim_sum hM h hf) hlo ha hS2 (isP_lt hM hn2 (by decide) hi) hl2 c s3 hc
    exact ⟨b, s1', e1, e2, e3, e4, e5, by omega, e7⟩) (sim_ok ha) s1 s1' hS1 (by omega) h3 h4
theorem sim_expression (hM : MvOk M T T' n) {op op' : Ps Nat} (h : Sim M n (VR M) 1 op op') (hf : Fine T 1 op) : Sim M n (VR M) 1 (expressionM T op) (expressionM T' op') :=
  sim_row hM (sim_row hM (sim_comparison hM h hf) (fine_comparison hM.ok hf) (by decide) (by decide)) (fine_row hM.ok (fine_comparison hM.ok hf) (by decide)) (by decide) (by decide)
theorem sim_number (hM : MvOk M T T' n) : Sim M n Eq 1 (numberM T) (numberM T') := sim_bd (d := 1) (d' := 0) (sim_takeK hM (by decide)) fun a b h => sim_ok (by rw [h])
theorem sim_index (hM : MvOk M T T' n) {e e' : Ps Nat} (h : Sim M n (VR M) 1 e e') : Sim M n (VR M) 1 (indexM T e) (indexM T' e') :=
  Sim.mono (d := 3) (sim_bd (d := 1) (d' := 2) (sim_takeP hM (by decide)) fun _ _ _ => sim_bd (d := 1) (d' := 1) h fun _ _ ha => sim_bd (d := 1) (d' := 0) (sim_takeP hM (by decide)) fun _ _ _ => sim_ok ha) (by omega)
theorem sim_call (hM : MvOk M T T' n) {sub sub' : Ps Nat} (h : Sim M n (VR M) 1 sub sub') (hf : Fine T 1 sub) {lo lo' : Nat} (hlo : lo' = lo + M.c) (name : List UInt8) : Sim M n (VR M) 1 (callM T sub lo name) (callM T' sub' lo' name) :=
  Sim.mono (d := 2) (sim_bd (d := 2) (d' := 0) (sim_list hM (fun _ _ h => h) (sim_expression hM h hf)) fun l l' hl => sim_putE hM hlo (x := { kind := 6, name := name, list := l }) (y := { kind := 6, name := name, list := l' }) rfl fun z => by rw [hl.1 z]) (by omega)
theorem sim_reference (hM : MvOk M T T' n) {sub sub' : Ps Nat} (h : Sim M n (VR M) 1 sub sub') (hf : Fine T 1 sub) : Sim M n (VR M) 1 (referenceM T sub) (referenceM T' sub') := by
  refine sim_lo hM (fine_reference hM.ok hf) fun s s' hS hs hn hl hlo => ?_
  refine simR_bd (d := 1) (d' := 0) hl (sim_takeK hM (by decide) s s' hS hs (by omega) hl) fun a a' s1 s1' ha hS1 hd h3 h4 => ?_
  subst ha
  exact sim_if' (x := callM T sub (cur T s).lo a) (x' := callM T' sub' (cur T' s').lo a) (fun s s' hS hn => hS.isP hM hn (by decide) (by decide))
    ((sim_call hM h hf hlo a).mono (Nat.zero_le _))
    (sim_if' (x := bd (indexM T (expressionM T sub)) (fun b => putE T (cur T s).lo { kind := 5, name := a, a := b })) (x' := bd (indexM T' (expressionM T' sub')) (fun b => putE T' (cur T' s').lo { kind := 5, name := a, a := b })) (fun s s' hS hn => hS.isP hM hn (by decide) (by decide))
      (Sim.mono (d := 1) (sim_bd (d := 1) (d' := 0) (sim_index hM (sim_expression hM h hf)) fun b b' hb => sim_putE hM hlo (x := { kind := 5, name := a, a := b }) (y := { kind := 5, name := a, a := b' }) rfl fun z => by rw [hb z]) (Nat.zero_le _))
      (sim_putE hM hlo rfl fun _ => rfl)) s1 s1' hS1 (by omega) h3 h4
theorem sim_word (hM : MvOk M T T' n) : Sim M n (VR M) 1 (wordM T) (wordM T') := by
  refine sim_lo hM (fine_word hM.ok) fun s s' hS hs hn hl hlo => ?_
  refine simR_bd (d := 1) (d' := 0) hl (sim_takeP hM (by decide) s s' hS hs (by omega) hl) fun a a' s1 s1' ha hS1 hd h3 h4 => ?_
  subst ha
  exact sim_putE hM hlo rfl (fun _ => rfl) s1 s1' hS1 (by omega) h3 h4
theorem sim_operandS (hM : MvOk M T T' n) {sub sub' : Ps Nat} (h : Sim M n (VR M) 1 sub sub') (hf : Fine T 1 sub) : Sim M n (VR M) 1 (operandS T sub) (operandS T' sub') := by
  refine sim_lo hM (fine_operandS hM.ok hf) fun s s' hS hs hn hl hlo => ?_
  exact sim_if (x := bd (nextP T) (fun o => bd sub fun a => putE T (cur T s).lo { kind := 8, op := o, a := a })) (x' := bd (nextP T') (fun o => bd sub' fun a => putE T' (cur T' s').lo { kind := 8, op := o, a := a })) (fun s s' hS hn => hS.isP hM hn (by decide) (by decide))
    (fun s2 s2' hS2 hs2 hn2 hl2 hi => fun c s3 hc => by
      obtain ⟨b, s1', e1, e2, e3, e4, e5, e6, e7⟩ := simR_bd (Q := VR M) (d := 1) (d' := 1) hl2 (simR_next hM hS2 (isP_lt hM hn2 (by decide) hi) hl2) (fun o o' s4 s4' ho hS4 hd h3 h4 => by
        subst ho
        exact (sim_bd (d := 1) (d' := 0) h fun b b' hb => sim_putE hM hlo (x := { kind := 8, op := o, a := b }) (y := { kind := 8, op := o, a := b' }) rfl fun z => by rw [hb z]) s4 s4' hS4 (by omega) h3 h4) c s3 hc
      exact ⟨b, s1', e1, e2, e3, e4, e5, by omega, e7⟩)
    (sim_if' (x := bd (takeP T [[40]]) (fun _ => bd (expressionM T sub) fun a => bd (takeP T [[41]]) fun _ => okP a)) (x' := bd (takeP T' [[40]]) (fun _ => bd (expressionM T' sub') fun a => bd (takeP T' [[41]]) fun _ => okP a)) (fun s s' hS hn => hS.isP hM hn (by decide) (by decide))
      (Sim.mono (d := 3) (sim_bd (d := 1) (d' := 2) (sim_takeP hM (by decide)) fun _ _ _ => sim_bd (d := 1) (d' := 1) (sim_expression hM h hf) fun _ _ ha => sim_bd (d := 1) (d' := 0) (sim_takeP hM (by decide)) fun _ _ _ => sim_ok ha) (by omega))
      (sim_if' (x := referenceM T sub) (x' := referenceM T' sub') (fun s s' hS hn => hS.isK hM hn (.inl rfl)) (sim_reference hM h hf)
        (sim_if' (x := bd (numberM T) (fun n => putE T (cur T s).lo { kind := 1, num := n })) (x' := bd (numberM T') (fun n => putE T' (cur T' s').lo { kind := 1, num := n })) (fun s s' hS hn => hS.isK hM hn (.inr rfl))
          ((sim_bd (d := 1) (d' := 0) (sim_number hM) fun b b' hb => sim_putE hM hlo (x := { kind := 1, num := b }) (y := { kind := 1, num := b' }) rfl fun z => by rw [hb]))
          (sim_word hM)))) s s' hS hs (by omega) hl
theorem sim_operand (hM : MvOk M T T' n) : ∀ k, Sim M n (VR M) 1 (operandM T k) (operandM T' k)
  | 0 => sim_no (c := fun _ => 4) (i := fun s => s.at_)
  | k + 1 => sim_operandS hM (sim_operand hM k) (fine_operand hM.ok k)
theorem sim_blockL (hM : MvOk M T T' n) {one one' : Ps Nat} (h1 : Sim M n (VR M) 1 one one') : ∀ k k' out out', k ≤ k' → VL M out out' → Sim M n (VL M) 0 (blockL T one k out) (blockL T' one' k' out')
  | 0, _, _, _, _, _ => sim_no (c := fun _ => 0) (i := fun _ => 0)
  | k + 1, 0, _, _, h, _ => absurd h (Nat.not_succ_le_zero _)
  | k + 1, k' + 1, out, out', hk, ho => by
    have ih := fun a b (hab : VR M a b) => sim_blockL hM h1 k k' (out ++ [a]) (out' ++ [b]) (by omega) (ho.snoc hab)
    exact sim_if (x := Rs.ok out) (x' := Rs.ok out') (fun s s' hS hn => hS.isP hM hn (by decide) (by decide)) (fun s s' hS hp hn hl _ => sim_ok ho s s' hS hp hn hl) ((sim_bd h1 ih).mono (Nat.zero_le _))
theorem sim_blockS (hM : MvOk M T T' n) {one one' : Ps Nat} (h1 : Sim M n (VR M) 1 one one') : Sim M n (VL M) 2 (blockS T one) (blockS T' one') := by
  have hl := hM.len'
  exact (sim_bd (d := 1) (d' := 1) (sim_takeP hM (by decide)) fun _ _ _ => sim_bd (d := 0) (d' := 1) (sim_blockL hM h1 _ _ [] [] (by omega) ⟨fun _ => rfl, rfl⟩) fun l l' h => sim_bd (d := 1) (d' := 0) (sim_takeP hM (by decide)) fun _ _ _ => sim_ok h)
theorem sim_blkOf (hM : MvOk M T T' n) {one one' : Ps Nat} (h1 : Sim M n (VR M) 1 one one') (k : Nat) : Sim M n (VL M) 2 (blkOf T k one) (blkOf T' k one') := by
  unfold blkOf
  by_cases h : k = 0
  · rw [if_pos h, if_pos h]; exact sim_no (c := fun _ => 4) (i := fun s => s.at_)
  · rw [if_neg h, if_neg h]; exact sim_blockS hM h1
theorem sim_otherwise (hM : MvOk M T T' n) {blk blk' : Ps (List Nat)} {stm stm' : Ps Nat} (hb : Sim M n (VL M) 2 blk blk') (hs : Sim M n (VR M) 1 stm stm') : Sim M n (VL M) 0 (otherwiseM T blk stm) (otherwiseM T' blk' stm') :=
  sim_if' (x := bd stm (fun i => okP [i])) (x' := bd stm' (fun i => okP [i])) (fun s s' hS hn => hS.isP hM hn (by decide) (by decide))
    (Sim.mono (d := 1) (sim_bd (d := 1) (d' := 0) (Q := VL M) hs fun a b h => sim_ok ⟨fun z => by rw [h z], rfl⟩) (Nat.zero_le _)) (hb.mono (Nat.zero_le _))
/-- Two statements that are not put yet. -/
def VS (M : Mv) (x y : Sm) : Prop := y.kind = x.kind ∧ (M.z = true → y = x)
theorem sim_choice (hM : MvOk M T T' n) {ex ex' : Ps Nat} {blk blk' : Ps (List Nat)} {stm stm' : Ps Nat} (he : Sim M n (VR M) 1 ex ex') (hb : Sim M n (VL M) 2 blk blk') (hs : Sim M n (VR M) 1 stm stm') : Sim M n (VS M) 2 (choiceM T ex blk stm) (choiceM T' ex' blk' stm') := by
  refine Sim.mono (d := 4) (sim_bd (d := 1) (d' := 3) (sim_takeP hM (by decide)) fun _ _ _ => sim_bd (d := 1) (d' := 2) he fun a a' ha => sim_bd (d := 2) (d' := 0) hb fun l l' hl => ?_) (by omega)
  exact sim_if' (x := bd (takeP T [kElse]) (fun _ => bd (otherwiseM T blk stm) fun m => okP { kind := 5, a := a, thn := l, els := m })) (x' := bd (takeP T' [kElse]) (fun _ => bd (otherwiseM T' blk' stm') fun m => okP { kind := 5, a := a', thn := l', els := m }))
    (y := Rs.ok { kind := 5, a := a, thn := l }) (y' := Rs.ok { kind := 5, a := a', thn := l' }) (fun s s' hS hn => hS.isP hM hn (l := [kElse]) (by decide) (by decide))
    (Sim.mono (d := 1) (sim_bd (d := 1) (d' := 0) (sim_takeP hM (by decide)) fun _ _ _ => sim_bd (d := 0) (d' := 0) (Q := VS M) (sim_otherwise hM hb hs) fun m m' hm => sim_ok ⟨rfl, fun z => by rw [ha z, hl.1 z, hm.1 z]⟩) (Nat.zero_le _))
    (sim_ok ⟨rfl, fun z => by rw [ha z, hl.1 z]⟩)
theorem sim_loopM (hM : MvOk M T T' n) {ex ex' : Ps Nat} {blk blk' : Ps (List Nat)} (he : Sim M n (VR M) 1 ex ex') (hb : Sim M n (VL M) 2 blk blk') : Sim M n (VS M) 2 (loopM T ex blk) (loopM T' ex' blk') :=
  Sim.mono (d := 4) (sim_bd (d := 1) (d' := 3) (sim_takeP hM (by decide)) fun _ _ _ => sim_bd (d := 1) (d' := 2) he fun a a' ha => sim_bd (d := 2) (d' := 0) (Q := VS M) hb fun l l' hl => sim_ok ⟨rfl, fun z => by rw [ha z, hl.1 z]⟩) (by omega)
theorem sim_named (hM : MvOk M T T' n) {ex ex' sub sub' : Ps Nat} (he : Sim M n (VR M) 1 ex ex') (hs : Sim M n (VR M) 1 sub sub') (hf : Fine T 1 sub) (hfe : Fine T 1 ex) : Sim M n (VS M) 1 (namedM T ex sub) (namedM T' ex' sub') := by
  refine sim_lo hM (fine_named hM.ok hfe hf) fun s s' hS hs0 hn hl hlo => ?_
  refine simR_bd (d := 1) (d' := 0) hl (sim_takeK hM (by decide) s s' hS hs0 (by omega) hl) fun a a' s1 s1' ha hS1 hd h3 h4 => ?_
  subst ha
  exact sim_if' (x := bd (callM T sub (cur T s).lo a) (fun b => okP { kind := 11, a := b })) (x' := bd (callM T' sub' (cur T' s').lo a) (fun b => okP { kind := 11, a := b })) (fun s s' hS hn => hS.isP hM hn (l := [[40]]) (by decide) (by decide))
    (Sim.mono (d := 1) (sim_bd (d := 1) (d' := 0) (Q := VS M) (sim_call hM hs hf hlo a) fun b b' hb => sim_ok ⟨rfl, fun z => by rw [hb z]⟩) (Nat.zero_le _))
    (sim_if' (x := bd (indexM T ex) (fun b => bd (takeP T [[61]]) fun _ => bd ex fun c => okP { kind := 4, name := a, a := b, b := c })) (x' := bd (indexM T' ex') (fun b => bd (takeP T' [[61]]) fun _ => bd ex' fun c => okP { kind := 4, name := a, a := b, b := c })) (fun s s' hS hn => hS.isP hM hn (l := [[91]]) (by decide) (by decide))
      (Sim.mono (d := 3) (sim_bd (d := 1) (d' := 2) (sim_index hM he) fun b b' hb => sim_bd (d := 1) (d' := 1) (sim_takeP hM (by decide)) fun _ _ _ => sim_bd (d := 1) (d' := 0) (Q := VS M) he fun c c' hc => sim_ok ⟨rfl, fun z => by rw [hb z, hc z]⟩) (Nat.zero_le _))
      (Sim.mono (d := 2) (sim_bd (d := 1) (d' := 1) (sim_takeP hM (l := [[61]]) (by decide)) fun _ _ _ => sim_bd (d := 1) (d' := 0) (Q := VS M) he fun c c' hc => sim_ok (a := ({ kind := 3, name := a, a := (c : Int) } : Sm)) (b := ({ kind := 3, name := a, a := (c' : Int) } : Sm)) ⟨rfl, fun z => by rw [hc z]⟩) (Nat.zero_le _))) s1 s1' hS1 (by omega) h3 h4
theorem sim_variable (hM : MvOk M T T' n) {ex ex' : Ps Nat} (he : Sim M n (VR M) 1 ex ex') : Sim M n (VS M) 1 (variableM T ex) (variableM T' ex') := by
  refine Sim.mono (d := 3) (sim_bd (d := 1) (d' := 2) (sim_takeP hM (by decide)) fun _ _ _ => sim_bd (d := 1) (d' := 1) (sim_takeK hM (by decide)) fun name name' hn => sim_bd (d := 1) (d' := 0) (sim_takeP hM (by decide)) fun x x' hx => ?_) (by omega)
  subst hn hx
  by_cases h : x = [61]
  · rw [if_pos h, if_pos h]
    exact Sim.mono (d := 1) (sim_bd (d := 1) (d' := 0) (Q := VS M) he fun a a' ha => sim_ok ⟨rfl, fun z => by rw [ha z]⟩) (Nat.zero_le _)
  · rw [if_neg h, if_neg h]
    exact Sim.mono (d := 2) (sim_bd (d := 1) (d' := 1) (sim_number hM) fun a a' ha => sim_bd (d := 1) (d' := 0) (Q := VS M) (sim_takeP hM (by decide)) fun _ _ _ => sim_ok ⟨rfl, fun z => by rw [ha]⟩) (Nat.zero_le _)
theorem sim_answer (hM : MvOk M T T' n) {ex ex' : Ps Nat} (he : Sim M n (VR M) 1 ex ex') : Sim M n (VS M) 1 (answerM T ex) (answerM T' ex') :=
  sim_bd (d := 1) (d' := 0) (sim_takeP hM (by decide)) fun _ _ _ =>
    sim_if' (x := Rs.ok { kind := 9, a := -1 }) (x' := Rs.ok { kind := 9, a := -1 }) (fun s s' hS hn => hS.isP hM hn (l := [[59]]) (by decide) (by decide)) (sim_ok ⟨rfl, fun _ => rfl⟩)
      (Sim.mono (d := 1) (sim_bd (d := 1) (d' := 0) (Q := VS M) he fun a a' ha => sim_ok (a := ({ kind := 9, a := (a : Int) } : Sm)) (b := ({ kind := 9, a := (a' : Int) } : Sm)) ⟨rfl, fun z => by rw [ha z]⟩) (Nat.zero_le _))
theorem sim_simple (hM : MvOk M T T' n) {ex ex' sub sub' : Ps Nat} (he : Sim M n (VR M) 1 ex ex') (hs : Sim M n (VR M) 1 sub sub') (hf : Fine T 1 sub) (hfe : Fine T 1 ex) : Sim M n (VS M) 1 (simpleM T ex sub) (simpleM T' ex' sub') :=
  sim_if' (x := namedM T ex sub) (x' := namedM T' ex' sub') (fun s s' hS hn => hS.isK hM hn (.inl rfl)) (sim_named hM he hs hf hfe)
    (sim_if' (x := variableM T ex) (x' := variableM T' ex') (fun s s' hS hn => hS.isP hM hn (by decide) (by decide)) (sim_variable hM he)
      (sim_if' (x := answerM T ex) (x' := answerM T' ex') (fun s s' hS hn => hS.isP hM hn (by decide) (by decide)) (sim_answer hM he)
        (sim_if' (x := bd (takeP T [kPrint]) (fun _ => bd ex fun a => okP { kind := 10, a := a })) (x' := bd (takeP T' [kPrint]) (fun _ => bd ex' fun a => okP { kind := 10, a := a })) (fun s s' hS hn => hS.isP hM hn (by decide) (by decide))
          (Sim.mono (d := 2) (sim_bd (d := 1) (d' := 1) (sim_takeP hM (by decide)) fun _ _ _ => sim_bd (d := 1) (d' := 0) (Q := VS M) he fun a a' ha => sim_ok ⟨rfl, fun z => by rw [ha z]⟩) (by omega))
          (sim_bd (d := 1) (d' := 0) (Q := VS M) (sim_takeP hM (by decide)) fun x x' hx => sim_ok ⟨by rw [hx], fun _ => by rw [hx]⟩))))
theorem sim_fields (hM : MvOk M T T' n) {ex ex' sub sub' : Ps Nat} {blk blk' : Ps (List Nat)} {stm stm' : Ps Nat} (he : Sim M n (VR M) 1 ex ex') (hs : Sim M n (VR M) 1 sub sub') (hf : Fine T 1 sub) (hfe : Fine T 1 ex) (hb : Sim M n (VL M) 2 blk blk') (hm : Sim M n (VR M) 1 stm stm') : Sim M n (VS M) 2 (fieldsM T ex sub blk stm) (fieldsM T' ex' sub' blk' stm') :=
  sim_if' (x := choiceM T ex blk stm) (x' := choiceM T' ex' blk' stm') (fun s s' hS hn => hS.isP hM hn (by decide) (by decide)) (sim_choice hM he hb hm)
    (sim_if' (x := loopM T ex blk) (x' := loopM T' ex' blk') (fun s s' hS hn => hS.isP hM hn (by decide) (by decide)) (sim_loopM hM he hb)
      (sim_bd (d := 1) (d' := 1) (Q := VS M) (sim_simple hM he hs hf hfe) fun x x' hx => sim_bd (d := 1) (d' := 0) (sim_takeP hM (by decide)) fun _ _ _ => sim_ok hx))
theorem sim_stmtS (hM : MvOk M T T' n) {ex ex' sub sub' : Ps Nat} {blk blk' : Ps (List Nat)} {stm stm' : Ps Nat} (he : Sim M n (VR M) 1 ex ex') (hs : Sim M n (VR M) 1 sub sub') (hf : Fine T 1 sub) (hfe : Fine T 1 ex) (hfb : Fine T 1 blk) (hfm : Fine T 1 stm) (hb : Sim M n (VL M) 2 blk blk') (hm : Sim M n (VR M) 1 stm stm') : Sim M n (VR M) 1 (stmtS T ex sub blk stm) (stmtS T' ex' sub' blk' stm') := by
  refine sim_lo hM (fine_stmtS hM.ok hfe hf hfb hfm) fun s s' hS hs0 hn hl hlo => ?_
  intro c s2 hc
  unfold stmtS at hc ⊢
  obtain ⟨x, s1, h1, h2⟩ := (show ∃ x s1, fieldsM T ex sub blk stm s = .ok x s1 ∧ putS T (cur T s).lo x s1 = .ok c s2 by
    unfold bd at hc
    cases hx : fieldsM T ex sub blk stm s with
    | no c i => rw [hx] at hc; cases hc
    | ok a s1 => rw [hx] at hc; exact ⟨a, s1, rfl, hc⟩)
  obtain ⟨y, s1', e1, e2, e3, e4, e5, e6, e7⟩ := sim_fields hM he hs hf hfe hb hm s s' hS hs0 (by omega) hl x s1 h1
  obtain ⟨b, s2', f1, f2, f3, f4, f5, f6⟩ := simR_putS hM hlo e2.1 e2.2 e3 e4 (by omega) c s2 h2
  exact ⟨b, s2', by rw [bd_ok e1]; exact f1, f2, f3, by omega, by omega, by omega, f6.trans e7⟩
theorem sim_stmt (hM : MvOk M T T' n) : ∀ k, Sim M n (VR M) 1 (stmtM T k) (stmtM T' k)
  | 0 => sim_no (c := fun _ => 4) (i := fun s => s.at_)
  | k + 1 => sim_stmtS hM (sim_expression hM (sim_operand hM (k + 1)) (fine_operand hM.ok (k + 1))) (sim_operand hM k) (fine_operand hM.ok k) (fine_expression hM.ok (fine_operand hM.ok (k + 1))) (fine_blkOf hM.ok (fine_stmt hM.ok k) k) (fine_stmt hM.ok k) (sim_blkOf hM (sim_stmt hM k) k) (sim_stmt hM k)
theorem sim_block (hM : MvOk M T T' n) (k : Nat) : Sim M n (VL M) 2 (blockM T k) (blockM T' k) := sim_blkOf hM (sim_stmt hM k) k

/-- What a function has ahead of its body, and its body. -/
def tyM (T : List Tk) : Ps Nat := fun s1 => if isP T [kInt] s1 then bd (takeP T [kInt]) (fun _ => okP 1) s1 else .ok 4 s1
def restM (T : List Tk) : Ps (List UInt8 × List (List UInt8) × Nat × List Nat) := bd (takeK T 1) fun name => bd (listM T (takeK T 1)) fun ps => bd (tyM T) fun ty => bd (blockM T 64) fun body => okP (name, ps, ty, body)
theorem function_ty (T : List Tk) (s : Sg) : functionM T s = if isP T [kFunc] s && s.fn.length == 32 then .no 5 s.at_
    else bd (takeP T [kFunc]) (fun _ => bd (takeK T 1) fun name => bd (listM T (takeK T 1)) fun ps => bd (tyM T) fun ty => bd (blockM T 64) fun body => putF T (cur T s).lo { name := name, params := ps, ty := ty, body := body }) s := rfl
theorem function_rest (T : List Tk) (s : Sg) : functionM T s = if isP T [kFunc] s && s.fn.length == 32 then .no 5 s.at_
    else bd (takeP T [kFunc]) (fun _ => bd (restM T) fun r => putF T (cur T s).lo { name := r.1, params := r.2.1, ty := r.2.2.1, body := r.2.2.2 }) s := by
  rw [function_ty]
  unfold restM
  congr 1
  unfold bd okP
  cases takeP T [kFunc] s with
  | no c i => rfl
  | ok a s1 =>
    dsimp only
    cases takeK T 1 s1 with
    | no c i => rfl
    | ok a s1 =>
      dsimp only
      cases listM T (takeK T 1) s1 with
      | no c i => rfl
      | ok a s1 =>
        dsimp only
        cases tyM T s1 with
        | no c i => rfl
        | ok a s1 =>
          dsimp only
          cases blockM T 64 s1 <;> rfl
def VF (M : Mv) (x y : List UInt8 × List (List UInt8) × Nat × List Nat) : Prop := M.z = true → y = x
theorem sim_rest (hM : MvOk M T T' n) : Sim M n (VF M) 1 (restM T) (restM T') := by
  refine Sim.mono (d := 5) (sim_bd (d := 1) (d' := 4) (sim_takeK hM (by decide)) fun name name' hn => sim_bd (d := 2) (d' := 2) (sim_list hM (fun _ _ h _ => h.symm) (sim_takeK hM (by decide))) fun ps ps' hp => sim_bd (d := 0) (d' := 2) (R := Eq) ?_ fun ty ty' ht => sim_bd (d := 2) (d' := 0) (sim_block hM 64) fun l l' hl => sim_ok fun z => ?_) (by omega)
  · exact sim_if' (x := bd (takeP T [kInt]) (fun _ => okP 1)) (x' := bd (takeP T' [kInt]) (fun _ => okP 1)) (y := Rs.ok 4) (y' := Rs.ok 4) (fun s s' hS hn => hS.isP hM hn (by decide) (by decide))
      (Sim.mono (d := 1) (sim_bd (d := 1) (d' := 0) (sim_takeP hM (by decide)) fun _ _ _ => sim_ok rfl) (Nat.zero_le _)) (sim_ok rfl)
  · rw [hn, hp.1 z, ht, hl.1 z]
/-- A function; if there may be no more, it is told. -/
theorem sim_function (hM : MvOk M T T' n) {s s' : Sg} (hS : RS M s s') (hn : s.at_ ≤ n) (hl : s.st.length ≤ s.at_) {s1 : Sg} (h : functionM T s = .ok () s1) :
    (s'.fn.length = 32 → ∃ i, functionM T' s' = .no 5 i) ∧ (s'.fn.length ≠ 32 → ∃ s1', functionM T' s' = .ok () s1' ∧ RS M s1 s1') ∧ s1.at_ ≤ n ∧ s1.st.length ≤ s1.at_ ∧ s.at_ < s1.at_ ∧ s1.fn.length = s.fn.length + 1 ∧ s.at_ < n ∧ isP T [kFunc] s = true := by
  rw [function_rest] at h
  by_cases hc : (Go.Proofs.YtdeflloidhbpmaaGreatDoor.isP T [kFunc] s && s.fn.length == 32) = true
  · rw [if_pos hc] at h; cases h
  rw [if_neg hc] at h
  have hi : Go.Proofs.YtdeflloidhbpmaaGreatDoor.isP T [kFunc] s = true := by
    cases hi : Go.Proofs.YtdeflloidhbpmaaGreatDoor.isP T [kFunc] s with
    | true => rfl
    | false =>
      rw [bd_no (show takeP T [kFunc] s = .no 3 s.at_ by unfold takeP; rw [hi]; rfl)] at h
      cases h
  have hlt := isP_lt hM hn (by decide) hi
  have hi' : Go.Proofs.YtdeflloidhbpmaaGreatDoor.isP T' [kFunc] s' = true := by
    unfold Go.Proofs.YtdeflloidhbpmaaGreatDoor.isP at hi ⊢
    rw [hS.cur hM hlt]; exact hi
  have e1 : takeP T [kFunc] s = nextP T s := by unfold takeP; rw [if_pos hi]
  have e2 : takeP T' [kFunc] s' = nextP T' s' := by unfold takeP; rw [if_pos hi']
  obtain ⟨a, s2, h1, h2⟩ := (show ∃ a s2, nextP T s = .ok a s2 ∧ bd (restM T) (fun r => putF T (cur T s).lo { name := r.1, params := r.2.1, ty := r.2.2.1, body := r.2.2.2 }) s2 = .ok () s1 by
    unfold bd at h ⊢
    rw [e1] at h
    cases hx : nextP T s with
    | no c i => rw [hx] at h; cases h
    | ok a s2 => rw [hx] at h; exact ⟨a, s2, rfl, h⟩)
  obtain ⟨b, s2', f1, _, f3, f4, f5, f6, f7⟩ := simR_next hM hS hlt hl a s2 h1
  obtain ⟨r, s3, h3, h4⟩ := (show ∃ r s3, restM T s2 = .ok r s3 ∧ putF T (cur T s).lo { name := r.1, params := r.2.1, ty := r.2.2.1, body := r.2.2.2 } s3 = .ok () s1 by
    unfold bd at h2
    cases hx : restM T s2 with
    | no c i => rw [hx] at h2; cases h2
    | ok a s3 => rw [hx] at h2; exact ⟨a, s3, rfl, h2⟩)
  obtain ⟨r', s3', g1, g2, g3, g4, g5, g6, g7⟩ := sim_rest hM s2 s2' f3 (by omega) f4 (by omega) r s3 h3
  unfold putF at h4
  injection h4 with _ h5
  subst h5
  refine ⟨fun h32 => ⟨s'.at_, ?_⟩, fun h32 => ⟨{ s3' with fn := s3'.fn ++ [{ name := r'.1, params := r'.2.1, ty := r'.2.2.1, body := r'.2.2.2, lo := (cur T' s').lo, hi := Go.Proofs.YtdeflloidhbpmaaGreatDoor.lastHi T' s3' }] }, ?_, ?_⟩, g4, ?_, ?_, ?_, hlt, hi⟩
  · unfold functionM
    rw [if_pos (by rw [hi', h32]; rfl)]
  · rw [function_rest, if_neg (by rw [hi']; simpa using h32), bd_ok (e2.trans f1), bd_ok g1]
    rfl
  · obtain ⟨X, hX, hA⟩ := g3.fn
    refine ⟨g3.at_, g3.ex, g3.st, X ++ [{ name := r'.1, params := r'.2.1, ty := r'.2.2.1, body := r'.2.2.2, lo := (Go.Proofs.YtdeflloidhbpmaaGreatDoor.cur T' s').lo, hi := Go.Proofs.YtdeflloidhbpmaaGreatDoor.lastHi T' s3' }], ?_, hA.snoc ⟨?_, g3.lastHi hM (by omega) g4, fun z => ?_⟩⟩
    · show s3'.fn ++ _ = _
      rw [hX, List.append_assoc]
    · show (cur T' s').lo = (cur T s).lo + M.c
      rw [hS.cur hM hlt]
    · rw [g2 z, g3.lastHi hM (by omega) g4, hS.cur hM hlt, (hM.z0 z).1]; simp
  · show s3.st.length ≤ s3.at_
    omega
  · show s.at_ < s3.at_
    omega
  · show (s3.fn ++ [_]).length = _
    rw [List.length_append, g7, f7]; rfl
def idM : Mv := ⟨0, 0, [], [], [], false⟩
theorem all2_refl {α : Type} {R : α → α → Prop} (h : ∀ a, R a a) : ∀ l : List α, All2 R l l
  | [] => .nil
  | a :: l => .cons (h a) (all2_refl h l)
theorem rs_refl (s : Sg) : RS idM s s := ⟨by simp [idM], ⟨_, rfl, all2_refl (fun _ => ⟨rfl, rfl, rfl, fun h => by cases h⟩) _⟩, ⟨_, rfl, all2_refl (fun _ => ⟨rfl, rfl, rfl, fun h => by cases h⟩) _⟩, ⟨_, rfl, all2_refl (fun _ => ⟨rfl, rfl, fun h => by cases h⟩) _⟩⟩
theorem mv_refl (hM : MvOk M T T' n) : MvOk idM T T n where
  z0 h := by cases h
  ok := hM.ok
  len := hM.len
  len' := Nat.le_refl _
  tok i _ := by simp [idM]
  last := hM.last
  last' := by
    rw [show idM.m + n = n by simp [idM], hM.last.1, hM.last.2]
    exact ⟨⟨by decide, by decide⟩, .inl rfl⟩
  few := by have := hM.few; simp only [idM, List.length_nil]; omega
theorem fun_facts (hM : MvOk M T T' n) {s : Sg} (hn : s.at_ ≤ n) (hl : s.st.length ≤ s.at_) {s1 : Sg} (h : functionM T s = .ok () s1) :
    s1.at_ ≤ n ∧ s1.st.length ≤ s1.at_ ∧ s.at_ < s1.at_ ∧ s1.fn.length = s.fn.length + 1 ∧ s.at_ < n := by
  obtain ⟨_, _, h1, h2, h3, h4, h5, _⟩ := sim_function (mv_refl hM) (rs_refl s) hn hl h
  exact ⟨h1, h2, h3, h4, h5⟩
theorem programL_inv {k : Nat} {s s1 : Sg} (h : programL T (k + 1) s = .ok () s1) : (isK T 0 s = true ∧ s1 = s) ∨ (isK T 0 s = false ∧ ∃ s2, functionM T s = .ok () s2 ∧ programL T k s2 = .ok () s1) := by
  unfold programL at h
  cases hc : isK T 0 s with
  | true =>
    rw [hc] at h
    injection h with _ h1
    exact .inl ⟨rfl, h1.symm⟩
  | false =>
    rw [hc] at h
    unfold bd at h
    cases hx : functionM T s with
    | no c i => rw [if_neg (by decide), hx] at h; cases h
    | ok a s2 => rw [if_neg (by decide), hx] at h; exact .inr ⟨rfl, s2, rfl, h⟩
theorem prog_facts (hM : MvOk M T T' n) (h0 : ∀ i, i < n → (T.getD i ⟨0, 0, 0, []⟩).kind ≠ 0) : ∀ k s s1, s.at_ ≤ n → s.st.length ≤ s.at_ → programL T k s = .ok () s1 → s1.at_ = n ∧ s1.st.length ≤ s1.at_ ∧ s.at_ ≤ s1.at_ ∧ s.fn.length ≤ s1.fn.length
  | 0, _, _, _, _, h => by unfold programL at h; cases h
  | k + 1, s, s1, hn, hl, h => by
    rcases programL_inv h with ⟨hc, rfl⟩ | ⟨_, s2, h1, h2⟩
    · have he : s1.at_ = n := by
        rcases Nat.lt_or_ge s1.at_ n with hlt | hge
        · exact absurd (by unfold Go.Proofs.YtdeflloidhbpmaaGreatDoor.isK at hc; exact beq_iff_eq.1 hc) (h0 _ hlt)
        · omega
      exact ⟨he, hl, Nat.le_refl _, Nat.le_refl _⟩
    · obtain ⟨f1, f2, f3, f4, f5⟩ := fun_facts hM hn hl h1
      obtain ⟨i1, i2, i3, i4⟩ := prog_facts hM h0 k s2 s1 f1 f2 h2
      exact ⟨i1, i2, by omega, by omega⟩
/-- Functions up to the End. -/
theorem sim_programL (hM : MvOk M T T' n) (h0 : ∀ i, i < n → (T.getD i ⟨0, 0, 0, []⟩).kind ≠ 0) : ∀ k s s' s1, RS M s s' → s.at_ ≤ n → s.st.length ≤ s.at_ → programL T k s = .ok () s1 → ∀ k', s1.at_ - s.at_ < k' → s'.fn.length ≤ 32 →
    (M.F.length + s1.fn.length ≤ 32 → ∃ s1' k'', RS M s1 s1' ∧ k' ≤ k'' + (s1.at_ - s.at_) ∧ 0 < k'' ∧ programL T' k' s' = programL T' k'' s1') ∧ (32 < M.F.length + s1.fn.length → ∃ i, programL T' k' s' = .no 5 i)
  | 0, _, _, _, _, _, _, h, _, _, _ => by unfold programL at h; cases h
  | k + 1, s, s', s1, hS, hn, hl, h, k', hk, h32 => by
    have hfl := hS.fn_len
    have hpf := prog_facts hM h0 (k + 1) s s1 hn hl h
    rcases programL_inv h with ⟨hc, rfl⟩ | ⟨_, s2, h1, h2⟩
    · exact ⟨fun _ => ⟨s', k', hS, by omega, by omega, rfl⟩, fun hh => by omega⟩
    · obtain ⟨f1, f2, f3, f4, f5, f6, f7, f8⟩ := sim_function hM hS hn hl h1
      have hpf2 := prog_facts hM h0 k s2 s1 f3 f4 h2
      have hk0 : Go.Proofs.YtdeflloidhbpmaaGreatDoor.isK T' 0 s' = false := by
        unfold Go.Proofs.YtdeflloidhbpmaaGreatDoor.isK
        rw [hS.cur hM f7]
        exact beq_eq_false_iff_ne.2 (h0 _ f7)
      obtain ⟨k', rfl⟩ : ∃ j, k' = j + 1 := ⟨k' - 1, by omega⟩
      have hgo : programL T' (k' + 1) s' = bd (functionM T') (fun _ => programL T' k') s' := by
        conv => lhs; unfold programL
        rw [hk0]; rfl
      rw [hgo]
      by_cases hf : s'.fn.length = 32
      · obtain ⟨i, hi⟩ := f1 hf
        rw [bd_no hi]
        exact ⟨fun hh => by omega, fun _ => ⟨i, rfl⟩⟩
      · obtain ⟨s2', g1, g2⟩ := f2 hf
        rw [bd_ok g1]
        have hfl2 := g2.fn_len
        obtain ⟨i4, i5⟩ := sim_programL hM h0 k s2 s2' s1 g2 f3 f4 h2 k' (by omega) (by omega)
        refine ⟨fun hh => ?_, i5⟩
        obtain ⟨s1', k'', j1, j2, j3, j4⟩ := i4 hh
        have j5 : k' + 1 ≤ k'' + (s1.at_ - s.at_) := by clear i4 i5 f1 f2; omega
        exact ⟨s1', k'', j1, j5, j3, j4⟩
end
end Go.Proofs.YtdeflloidhbpmaaGreatDoor

namespace Go.Proofs.YtdeflloidhbpmaaGreatDoor

theorem skipL_nl (q : List UInt8) (b : Bool) (r : List UInt8) : (skipL b r < r.length → skipL b (r ++ 10 :: q) = skipL b r) ∧ (skipL b r = r.length → skipL b (r ++ 10 :: q) = r.length + (1 + skipL false q)) := by
  induction r generalizing b with
  | nil =>
    refine ⟨fun h => by simp at h, fun _ => ?_⟩
    rw [List.nil_append]
    cases b
    · rw [skipL_f, if_pos (by decide)]; simp; omega
    · rw [skipL_t, if_pos rfl]; simp; omega
  | cons d r ih =>
    have h1 := ih true
    have h2 := ih false
    rw [List.cons_append]
    cases b
    · rw [skipL_f, skipL_f, List.length_cons]
      by_cases hb : isBl d = true
      · rw [if_pos hb, if_pos hb]
        exact ⟨fun h => by rw [h2.1 (by omega)], fun h => by rw [h2.2 (by omega)]; omega⟩
      · rw [if_neg hb, if_neg hb]
        by_cases hh : d = 35
        · rw [if_pos hh, if_pos hh]
          exact ⟨fun h => by rw [h1.1 (by omega)], fun h => by rw [h1.2 (by omega)]; omega⟩
        · rw [if_neg hh, if_neg hh]
          exact ⟨fun _ => rfl, fun h => by omega⟩
    · rw [skipL_t, skipL_t, List.length_cons]
      by_cases hn : d = 10
      · rw [if_pos hn, if_pos hn]
        exact ⟨fun h => by rw [h2.1 (by omega)], fun h => by rw [h2.2 (by omega)]; omega⟩
      · rw [if_neg hn, if_neg hn]
        exact ⟨fun h => by rw [h1.1 (by omega)], fun h => by rw [h1.2 (by omega)]; omega⟩
theorem tokL_nl (r q : List UInt8) (hr : r ≠ []) : tokL (r ++ 10 :: q) = tokL r := by
  cases r with
  | nil => exact absurd rfl hr
  | cons d r =>
    have ha : run isAl (d :: r ++ 10 :: q) = run isAl (d :: r) := run_tail isAl _ _ (by simp [run_cons, isAl_10])
    have hd : run isDig (d :: r ++ 10 :: q) = run isDig (d :: r) := run_tail isDig _ _ (by simp [run_cons, show isDig 10 = false from by decide])
    have hla := run_le isAl (d :: r)
    have hld := run_le isDig (d :: r)
    have hta : (d :: r ++ 10 :: q).take (run isAl (d :: r)) = (d :: r).take (run isAl (d :: r)) := by
      rw [List.take_append, show run isAl (d :: r) - (d :: r).length = 0 from by omega, List.take_zero, List.append_nil]
    have hnb : numBad (d :: r ++ 10 :: q) (run isDig (d :: r)) = numBad (d :: r) (run isDig (d :: r)) := by
      unfold numBad
      have hh : (d :: r ++ 10 :: q).head? = (d :: r).head? := by simp
      rw [hh]
      congr 1
      rcases Nat.lt_or_ge (run isDig (d :: r)) (d :: r).length with h | h
      · rw [List.getElem?_append_left h]
      · have e : run isDig (d :: r) = (d :: r).length := by omega
        have e5 : (d :: r)[run isDig (d :: r)]? = none := List.getElem?_eq_none (by omega)
        rw [List.getElem?_append_right h, e5, e, Nat.sub_self]
        rfl
    have hsg : signL (d :: r ++ 10 :: q) = signL (d :: r) := by
      unfold signL
      have e1 : (d :: r ++ 10 :: q).take 1 = (d :: r).take 1 := by simp
      cases r with
      | nil =>
        have e2 : isTwo (([d] ++ 10 :: q).take 2) = false := two_ne d 10 (.inr rfl)
        have e3 : isTwo ([d].take 2) = false := by rw [Bool.eq_false_iff]; intro h; have := two_len _ h; simp at this
        rw [e1, e2, e3]
      | cons e r =>
        have e2 : (d :: e :: r ++ 10 :: q).take 2 = (d :: e :: r).take 2 := by simp
        rw [e1, e2]
    rw [List.cons_append] at ha hd hta hnb hsg ⊢
    simp only [tokL]
    rw [ha, hd, hta, hnb, hsg]
/-- A text's tokens but for the End, and then those behind the line end. -/
theorem toks_nl (t q : List UInt8) : ∀ n k, t.length - k = n → k ≤ t.length → (toks t k).2 = none → ∃ pre, (toks t k).1 = pre ++ [⟨0, t.length, t.length⟩] ∧ toks (t ++ 10 :: q) k = (pre ++ (toks (t ++ 10 :: q) (t.length + 1)).1, (toks (t ++ 10 :: q) (t.length + 1)).2) := by
  intro n
  induction n using Nat.strongRecOn with
  | ind n ih =>
    intro k hn hk hnone
    have hle := nextT_le t k hk
    have hlo : skipTo false t k = (nextT t k).lo := rfl
    have hdr : (t ++ 10 :: q).drop k = t.drop k ++ 10 :: q := by rw [List.drop_append, show k - t.length = 0 from by omega, List.drop_zero]
    have hsk := skipL_nl q false (t.drop k)
    cases hb : nextBad t k
    · by_cases h0 : (nextT t k).kind = 0
      · have hend := nextT_end t k hk hb h0
        rw [hend] at hlo
        have hs : skipL false (t.drop k) = (t.drop k).length := by
          unfold skipTo at hlo; dsimp only at hlo; rw [List.length_drop]; omega
        have hsk := hsk.2 hs
        have hd2 : (t ++ 10 :: q).drop (t.length + 1) = q := by
          rw [List.drop_append, List.drop_eq_nil_of_le (by omega), show t.length + 1 - t.length = 1 by omega]; rfl
        have e1 : toks (t ++ 10 :: q) k = toks (t ++ 10 :: q) (t.length + 1) := by
          refine toks_from _ _ _ (by simp; omega) (by simp) ?_
          unfold skipTo
          rw [hdr, hsk, hd2, List.length_drop]
          omega
        refine ⟨[], ?_, ?_⟩
        · rw [toks_end t k hb h0, hend]; rfl
        · rw [e1]; rfl
      · have hkd := nextT_kind t k h0
        have hs : skipL false (t.drop k) < (t.drop k).length := by
          unfold skipTo at hlo; rw [List.length_drop]; omega
        have hsk := hsk.1 hs
        have e1 : skipTo false (t ++ 10 :: q) k = skipTo false t k := by
          unfold skipTo; rw [hdr, hsk]
        have e2 : nextT (t ++ 10 :: q) k = nextT t k := by
          simp only [nextT, e1]
          have e4 : (t ++ 10 :: q).drop (skipTo false t k) = t.drop (skipTo false t k) ++ 10 :: q := by
            rw [List.drop_append, show skipTo false t k - t.length = 0 from by omega, List.drop_zero]
          rw [e4, tokL_nl _ q (by intro e; have := congrArg List.length e; simp at this; omega)]
        have e3 : nextBad (t ++ 10 :: q) k = false := by
          unfold nextBad; rw [e2]
          have : ((nextT t k).hi == (nextT t k).lo) = false := by rw [beq_eq_false_iff_ne]; omega
          rw [this]; rfl
        have hm := toks_more t k hk hb h0
        rw [hm] at hnone
        obtain ⟨pre, hp, hq⟩ := ih (t.length - (nextT t k).hi) (by omega) (nextT t k).hi rfl hle.2.2.1 hnone
        refine ⟨nextT t k :: pre, ?_, ?_⟩
        · rw [hm, hp]; rfl
        · rw [toks_more _ k (by simp; omega) e3 (by rw [e2]; exact h0), e2, hq]; rfl
    · rw [toks_bad t k hb] at hnone
      simp at hnone
/-- Two texts that have tokens: one behind the other they have both's. -/
theorem toks_two (a b : List UInt8) (ha : (toks a 0).2 = none) (hb : (toks b 0).2 = none) : ∃ pre, (toks a 0).1 = pre ++ [⟨0, a.length, a.length⟩] ∧ toks (a ++ 10 :: b) 0 = (pre ++ (toks b 0).1.map (shift (a.length + 1)), none) := by
  obtain ⟨pre, hp, hq⟩ := toks_nl a b _ 0 rfl (Nat.zero_le _) ha
  refine ⟨pre, hp, ?_⟩
  have h := toks_shift (a ++ [10]) b _ 0 rfl (Nat.zero_le _)
  rw [List.append_assoc, show [10] ++ b = 10 :: b from rfl, List.length_append, show ([10] : List UInt8).length = 1 from rfl, Nat.add_zero, hb] at h
  rw [hq, h]
  rfl
end Go.Proofs.YtdeflloidhbpmaaGreatDoor

namespace Go.Proofs.YtdeflloidhbpmaaGreatDoor

theorem inner_kind {t : List UInt8} {pre : List Tok} (hq : ∀ x ∈ pre, Inner t 0 x) (i : Nat) (hi : i < pre.length) : pre[i].kind ≠ 0 := (hq _ (List.getElem_mem hi)).1
theorem getD_pre {α : Type} (d : α) (p q : List α) (i : Nat) (h : i < p.length) : (p ++ q).getD i d = p[i] := by
  rw [List.getD_eq_getElem?_getD, List.getElem?_append_left h, List.getElem?_eq_getElem h]; rfl
theorem getD_suf {α : Type} (d : α) (p q : List α) (i : Nat) : (p ++ q).getD (p.length + i) d = q.getD i d := by
  rw [List.getD_eq_getElem?_getD, List.getElem?_append_right (by omega), Nat.add_sub_cancel_left, List.getD_eq_getElem?_getD]
theorem programM_inv {T : List Tk} {s1 : Sg} (h : programM T start = .ok () s1) : ∃ s2, functionM T start = .ok () s2 ∧ programL T (T.length + 1) s2 = .ok () s1 := by
  unfold programM bd at h
  cases hx : functionM T start with
  | no c i => rw [hx] at h; cases h
  | ok a s2 => rw [hx] at h; exact ⟨s2, rfl, h⟩
/-- A program, from a state that lies elsewhere. -/
theorem sim_program {M : Mv} {T T' : List Tk} {n : Nat} (hM : MvOk M T T' n) (h0 : ∀ i, i < n → (T.getD i ⟨0, 0, 0, []⟩).kind ≠ 0) {s1 : Sg} (h : programM T start = .ok () s1) {s' : Sg} (hS : RS M start s') (hf : s'.fn.length ≤ 32) (k' : Nat) (hk : n < k') :
    s1.at_ = n ∧ s1.st.length ≤ n ∧ (M.F.length + s1.fn.length ≤ 32 → ∃ s1' k'', RS M s1 s1' ∧ k' + 1 ≤ k'' + n ∧ 0 < k'' ∧ bd (functionM T') (fun _ => programL T' k') s' = programL T' k'' s1') ∧ (32 < M.F.length + s1.fn.length → ∃ i, bd (functionM T') (fun _ => programL T' k') s' = .no 5 i) := by
  obtain ⟨s2, h1, h2⟩ := programM_inv h
  have ha : start.at_ = 0 := rfl
  have hst : start.st.length = 0 := rfl
  obtain ⟨f1, f2, f3, f4, f5, f6, f7, f8⟩ := sim_function hM hS (by omega) (by omega) h1
  obtain ⟨p1, p2, p3, p4⟩ := prog_facts hM h0 _ s2 s1 f3 f4 h2
  have hfl := hS.fn_len
  have hfs : start.fn.length = 0 := rfl
  refine ⟨p1, by omega, ?_⟩
  by_cases hx : s'.fn.length = 32
  · obtain ⟨i, hi⟩ := f1 hx
    rw [bd_no hi]
    exact ⟨fun hh => by omega, fun _ => ⟨i, rfl⟩⟩
  · obtain ⟨s2', g1, g2⟩ := f2 hx
    rw [bd_ok g1]
    have hfl2 := g2.fn_len
    obtain ⟨i4, i5⟩ := sim_programL hM h0 _ s2 s2' s1 g2 f3 f4 h2 k' (by omega) (by omega)
    refine ⟨fun hh => ?_, i5⟩
    obtain ⟨s1', k'', j1, j2, j3, j4⟩ := i4 hh
    have j5 : k' + 1 ≤ k'' + n := by clear i4 i5 f1 f2; omega
    exact ⟨s1', k'', j1, j5, j3, j4⟩
theorem rs_z {M : Mv} {s s' : Sg} (h : RS M s s') (hz : M.z = true) (hm : M.m = 0) (hE : M.E = []) (hS : M.S = []) (hF : M.F = []) : s' = s := by
  obtain ⟨X, h1, h2⟩ := h.ex
  obtain ⟨Y, h3, h4⟩ := h.st
  obtain ⟨Z, h5, h6⟩ := h.fn
  have e1 := h2.eq fun a b hab => hab.2.2.2 hz
  have e2 := h4.eq fun a b hab => hab.2.2.2 hz
  have e3 := h6.eq fun a b hab => hab.2.2 hz
  have ha := h.at_
  rw [hE, e1] at h1
  rw [hS, e2] at h3
  rw [hF, e3] at h5
  rw [hm] at ha
  cases s; cases s'
  simp_all
/-- A text's tokens and their bytes. -/
theorem tks_form (t : List UInt8) (h : (toks t 0).2 = none) : ∃ pre, (toks t 0).1 = pre ++ [⟨0, t.length, t.length⟩] ∧ (∀ x ∈ pre, Inner t 0 x) ∧ tksL t = pre.map (tkOf t) ++ [⟨0, t.length, t.length, []⟩] := by
  obtain ⟨pre, hp, hq⟩ := toks_tk t h
  refine ⟨pre, hp, hq, ?_⟩
  unfold tksL
  rw [hp, List.map_append]
  congr 1
  simp [tkOf, bytesOf]
theorem bytes_ahead (t q : List UInt8) (x : Tok) (h : x.hi ≤ t.length) : tkOf (t ++ q) x = tkOf t x := by
  unfold tkOf bytesOf
  rw [List.drop_append, List.take_append]
  have : x.hi - x.lo - (t.drop x.lo).length = 0 := by simp; omega
  rw [this, List.take_zero, List.append_nil]
theorem bytes_behind (p t : List UInt8) (x : Tok) : tkOf (p ++ t) (shift p.length x) = { tkOf t x with lo := (tkOf t x).lo + p.length, hi := (tkOf t x).hi + p.length } := by
  unfold tkOf bytesOf shift
  dsimp only
  rw [List.drop_append, List.drop_eq_nil_of_le (by omega), List.nil_append, show p.length + x.lo - p.length = x.lo by omega, show p.length + x.hi - (p.length + x.lo) = x.hi - x.lo by omega, Nat.add_comm p.length, Nat.add_comm p.length]
theorem parse_ok {t : List UInt8} {s : Sg} (h : parseT t = .good s) : (toks t 0).2 = none ∧ programM (tksL t) start = .ok () s := by
  unfold parseT at h
  cases hp : (toks t 0).2 with
  | some p => rw [hp] at h; cases h
  | none =>
    rw [hp] at h
    dsimp only at h
    cases hr : programM (tksL t) start with
    | no c i => rw [hr] at h; cases h
    | ok u s' =>
      rw [hr] at h
      injection h with h1
      subst h1
      exact ⟨rfl, rfl⟩
theorem start_rs (M : Mv) (hE : M.E = []) (hS : M.S = []) (hF : M.F = []) (hm : M.m = 0) : RS M start start :=
  ⟨by rw [hm]; rfl, ⟨[], by rw [hE]; rfl, .nil⟩, ⟨[], by rw [hS]; rfl, .nil⟩, ⟨[], by rw [hF]; rfl, .nil⟩⟩

/-- A comment behind. -/
theorem parse_tail (t c : List UInt8) (hc : ∀ d ∈ c, d ≠ 10) (hl : t.length ≤ 900) {s : Sg} (h : parseT t = .good s) (h32 : s.fn.length ≤ 32) : parseT (t ++ tailC c) = .good s := by
  obtain ⟨hn, hp⟩ := parse_ok h
  obtain ⟨pre, e1, hin, e2⟩ := tks_form t hn
  have ht := toks_tail t c hc _ 0 rfl (Nat.zero_le _) hn
  have hn' : (toks (t ++ tailC c) 0).2 = none := by rw [ht]
  have e3 : tksL (t ++ tailC c) = pre.map (tkOf t) ++ [⟨0, (t ++ tailC c).length, (t ++ tailC c).length, []⟩] := by
    unfold tksL
    rw [ht, e1, List.map_append, List.map_append]
    congr 1
    · rw [List.map_map]
      refine List.map_congr_left fun x hx => ?_
      obtain ⟨a1, a2, a3, _⟩ := hin x hx
      show tkOf (t ++ tailC c) (endTo _ x) = tkOf t x
      unfold endTo
      rw [if_neg a1, bytes_ahead _ _ _ a3]
    · simp [endTo, tkOf, bytesOf]
  have hlen := toks_len' t
  rw [e1] at hlen
  simp only [List.length_append, List.length_singleton] at hlen
  have hok := tksL_ok t hn
  rw [e2] at hp hok
  have hM : MvOk ⟨0, 0, [], [], [], true⟩ (pre.map (tkOf t) ++ [⟨0, t.length, t.length, []⟩]) (tksL (t ++ tailC c)) pre.length := by
    rw [e3]
    refine ⟨fun _ => ⟨rfl, rfl, rfl⟩, hok, by simp, by simp, fun i hi => ?_, ?_, ?_, by simp; omega⟩
    · rw [show (⟨0, 0, [], [], [], true⟩ : Mv).m + i = i from Nat.zero_add i, getD_pre _ _ _ i (by simpa using hi), getD_pre _ _ _ i (by simpa using hi)]
      rfl
    · have := getD_suf ⟨0, 0, 0, []⟩ (pre.map (tkOf t)) [⟨0, t.length, t.length, []⟩] 0
      rw [List.length_map, Nat.add_zero] at this
      rw [this]
      exact ⟨rfl, rfl⟩
    · have := getD_suf ⟨0, 0, 0, []⟩ (pre.map (tkOf t)) [⟨0, (t ++ tailC c).length, (t ++ tailC c).length, []⟩] 0
      rw [List.length_map, Nat.add_zero] at this
      rw [show (⟨0, 0, [], [], [], true⟩ : Mv).m + pre.length = pre.length from Nat.zero_add _, this]
      exact ⟨⟨Nat.zero_ne_one, Nat.ne_of_lt (Nat.zero_lt_succ 1)⟩, .inl rfl⟩
  have h0 : ∀ i, i < pre.length → ((pre.map (tkOf t) ++ [(⟨0, t.length, t.length, []⟩ : Tk)]).getD i ⟨0, 0, 0, []⟩).kind ≠ 0 := fun i hi => by
    rw [getD_pre _ _ _ i (by simpa using hi), List.getElem_map]
    exact inner_kind hin i hi
  have hTl : (tksL (t ++ tailC c)).length = pre.length + 1 := by rw [e3]; simp
  obtain ⟨p1, p2, p3, _⟩ := sim_program hM h0 hp (start_rs _ rfl rfl rfl rfl) (by decide) ((tksL (t ++ tailC c)).length + 1) (by omega)
  obtain ⟨s1', k'', j1, j2, j3, j4⟩ := p3 (by simpa using h32)
  have hs := rs_z j1 rfl rfl rfl rfl rfl
  subst hs
  have hend : isK (tksL (t ++ tailC c)) 0 s1' = true := by
    have := getD_suf ⟨0, 0, 0, []⟩ (pre.map (tkOf t)) [⟨0, (t ++ tailC c).length, (t ++ tailC c).length, []⟩] 0
    rw [List.length_map, Nat.add_zero] at this
    unfold isK cur
    rw [p1, e3, this]
    rfl
  have hpr : programM (tksL (t ++ tailC c)) start = .ok () s1' := by
    unfold programM
    rw [j4]
    obtain ⟨k, rfl⟩ : ∃ k, k'' = k + 1 := ⟨k'' - 1, by omega⟩
    unfold programL
    rw [if_pos hend]
  unfold parseT
  rw [hn', hpr]
end Go.Proofs.YtdeflloidhbpmaaGreatDoor

namespace Go.Proofs.YtdeflloidhbpmaaGreatDoor

theorem tok_func (r : List UInt8) (h : r.take (tokL r).2 = kFunc) : (tokL r).1 = 3 := by
  cases r with
  | nil => simp [kFunc] at h
  | cons c q =>
    simp only [tokL] at h ⊢
    by_cases h1 : isLet c = true
    · rw [if_pos h1] at h ⊢
      dsimp only at h ⊢
      rw [h]
      decide
    · rw [if_neg h1] at h ⊢
      have hc : ∀ n, n ≠ 0 → (c :: q).take n = kFunc → False := fun n hn he => by
        obtain ⟨m, rfl⟩ : ∃ m, n = m + 1 := ⟨n - 1, by omega⟩
        rw [List.take_succ_cons] at he
        have : c = 102 := (List.cons.inj he).1
        subst this
        exact h1 (by decide)
      exfalso
      by_cases h2 : isDig c = true
      · rw [if_pos h2] at h
        by_cases h3 : numBad (c :: q) (run isDig (c :: q)) = true
        · rw [if_pos h3] at h; simp [kFunc] at h
        · rw [if_neg h3] at h
          refine hc _ (fun e => ?_) h
          dsimp only at e h
          rw [e] at h
          simp [kFunc] at h
      · rw [if_neg h2] at h
        by_cases h3 : signL (c :: q) = 0
        · rw [if_pos h3] at h; simp [kFunc] at h
        · rw [if_neg h3] at h
          exact hc _ h3 h
/-- The first token of a program. -/
theorem first_func (t : List UInt8) (hn : (toks t 0).2 = none) (h : (cur (tksL t) start).txt = kFunc) : (cur (tksL t) start).kind = 3 := by
  have e : ∃ r, (toks t 0).1 = nextT t 0 :: r := by
    unfold toks at hn ⊢
    simp only [toksF] at hn ⊢
    by_cases h1 : nextBad t 0 = true
    · rw [if_pos h1] at hn; simp at hn
    · rw [if_neg h1]
      by_cases h0 : (nextT t 0).kind = 0
      · rw [if_pos h0]; exact ⟨[], rfl⟩
      · rw [if_neg h0]; exact ⟨_, rfl⟩
  obtain ⟨r, hr⟩ := e
  have e2 : cur (tksL t) start = tkOf t (nextT t 0) := by
    unfold cur tksL
    rw [hr]
    rfl
  rw [e2] at h ⊢
  refine tok_func (t.drop (skipTo false t 0)) ?_
  rw [← h]
  simp only [tkOf, bytesOf, nextT, Nat.add_sub_cancel_left]
theorem few_fun {T : List Tk} {s s1 : Sg} (h : functionM T s = .ok () s1) : s.fn.length ≠ 32 := by
  intro h32
  unfold functionM at h
  by_cases hc : isP T [kFunc] s = true
  · rw [hc, h32] at h; simp at h
  · rw [Bool.not_eq_true] at hc
    rw [hc] at h
    rw [if_neg (by simp), bd_no (show takeP T [kFunc] s = .no 3 s.at_ by unfold takeP; rw [hc]; rfl)] at h
    cases h
theorem few_prog {M : Mv} {T T' : List Tk} {n : Nat} (hM : MvOk M T T' n) : ∀ k s s1, s.at_ ≤ n → s.st.length ≤ s.at_ → s.fn.length ≤ 32 → programL T k s = .ok () s1 → s1.fn.length ≤ 32
  | 0, _, _, _, _, _, h => by unfold programL at h; cases h
  | k + 1, s, s1, hn, hl, h3, h => by
    rcases programL_inv h with ⟨_, rfl⟩ | ⟨_, s2, h1, h2⟩
    · exact h3
    · obtain ⟨f1, f2, f3, f4, f5⟩ := fun_facts hM hn hl h1
      have := few_fun h1
      exact few_prog hM k s2 s1 f1 f2 (by omega) h2
/-- A text's tokens, as they lie in a list of tokens. -/
theorem mv_self (t : List UInt8) (hn : (toks t 0).2 = none) (pre : List Tok) (e2 : tksL t = pre.map (tkOf t) ++ [⟨0, t.length, t.length, []⟩]) (M : Mv) (hz : M.z = true → M.c = 0 ∧ M.E = [] ∧ M.S = []) (T' : List Tk) (hl : pre.length < T'.length) (hf : M.S.length + pre.length ≤ 1000)
    (ht : ∀ i (h : i < pre.length), T'.getD (M.m + i) ⟨0, 0, 0, []⟩ = { tkOf t pre[i] with lo := (tkOf t pre[i]).lo + M.c, hi := (tkOf t pre[i]).hi + M.c })
    (hl' : ((T'.getD (M.m + pre.length) ⟨0, 0, 0, []⟩).kind ≠ 1 ∧ (T'.getD (M.m + pre.length) ⟨0, 0, 0, []⟩).kind ≠ 2) ∧ ((T'.getD (M.m + pre.length) ⟨0, 0, 0, []⟩).txt = [] ∨ (T'.getD (M.m + pre.length) ⟨0, 0, 0, []⟩).txt = kFunc)) :
    MvOk M (tksL t) T' pre.length := by
  have hok := tksL_ok t hn
  refine ⟨hz, hok, by rw [e2]; simp, by rw [e2]; simp; omega, fun i hi => ?_, ?_, hl', hf⟩
  · rw [ht i hi, e2, getD_pre _ _ _ i (by simpa using hi), List.getElem_map]
  · have := getD_suf ⟨0, 0, 0, []⟩ (pre.map (tkOf t)) [⟨0, t.length, t.length, []⟩] 0
    rw [List.length_map, Nat.add_zero] at this
    rw [e2, this]
    exact ⟨rfl, rfl⟩
theorem kind_ne (t : List UInt8) (pre : List Tok) (hin : ∀ x ∈ pre, Inner t 0 x) (e2 : tksL t = pre.map (tkOf t) ++ [⟨0, t.length, t.length, []⟩]) : ∀ i, i < pre.length → ((tksL t).getD i ⟨0, 0, 0, []⟩).kind ≠ 0 := fun i hi => by
  rw [e2, getD_pre _ _ _ i (by simpa using hi), List.getElem_map]
  exact inner_kind hin i hi
theorem pre_len (t : List UInt8) (pre : List Tok) (e1 : (toks t 0).1 = pre ++ [⟨0, t.length, t.length⟩]) : pre.length ≤ t.length := by
  have hlen := toks_len' t
  rw [e1] at hlen
  simp only [List.length_append, List.length_singleton] at hlen
  omega
theorem parse_few (t : List UInt8) (hl : t.length ≤ 900) {s : Sg} (h : parseT t = .good s) : s.fn.length ≤ 32 ∧ s.st.length ≤ t.length := by
  obtain ⟨hn, hp⟩ := parse_ok h
  obtain ⟨pre, e1, hin, e2⟩ := tks_form t hn
  have hpl := pre_len t pre e1
  have hend := getD_suf ⟨0, 0, 0, []⟩ (pre.map (tkOf t)) [⟨0, t.length, t.length, []⟩] 0
  rw [List.length_map, Nat.add_zero] at hend
  have hM : MvOk idM (tksL t) (tksL t) pre.length := mv_self t hn pre e2 idM (fun h => by cases h) _ (by rw [e2]; simp) (by simp [idM]; omega) (fun i h => by
    rw [show idM.m + i = i from Nat.zero_add i, e2, getD_pre _ _ _ i (by simpa using h), List.getElem_map]
    rfl) (by
    rw [show idM.m + pre.length = pre.length from Nat.zero_add _, e2, hend]
    exact ⟨⟨Nat.zero_ne_one, Nat.ne_of_lt (Nat.zero_lt_succ 1)⟩, .inl rfl⟩)
  obtain ⟨s2, h1, h2⟩ := programM_inv hp
  obtain ⟨f1, f2, f3, f4, f5⟩ := fun_facts hM (Nat.zero_le _) (Nat.le_refl _) h1
  have hf : start.fn.length = 0 := rfl
  have hpf := prog_facts hM (kind_ne t pre hin e2) _ s2 s f1 f2 h2
  exact ⟨few_prog hM _ s2 s f1 f2 (by omega) h2, by omega⟩
/-- What of two programs is one's behind the other. -/
def TwoAt (c : Nat) (s1 s2 s : Sg) : Prop := s.fn.length = s1.fn.length + s2.fn.length ∧ s.st.length = s1.st.length + s2.st.length ∧ s.ex.length = s1.ex.length + s2.ex.length ∧
  ∀ i (h : i < s2.st.length) (h' : s1.st.length + i < s.st.length), s.st[s1.st.length + i].kind = s2.st[i].kind ∧ s.st[s1.st.length + i].lo = s2.st[i].lo + c ∧ s.st[s1.st.length + i].hi = s2.st[i].hi + c
theorem parse_two (a b : List UInt8) (ha : a.length ≤ 500) (hb : b.length ≤ 500) {s1 s2 : Sg} (h1 : parseT a = .good s1) (h2 : parseT b = .good s2) :
    (s1.fn.length + s2.fn.length ≤ 32 → ∃ s, parseT (a ++ 10 :: b) = .good s ∧ TwoAt (a.length + 1) s1 s2 s) ∧ (32 < s1.fn.length + s2.fn.length → ∃ p, parseT (a ++ 10 :: b) = .bad p 5) := by
  obtain ⟨hn1, hp1⟩ := parse_ok h1
  obtain ⟨hn2, hp2⟩ := parse_ok h2
  obtain ⟨pre1, a1, hin1, a2⟩ := tks_form a hn1
  obtain ⟨pre2, b1, hin2, b2⟩ := tks_form b hn2
  have hl1 := pre_len a pre1 a1
  have hl2 := pre_len b pre2 b1
  obtain ⟨pre1', c1, c2⟩ := toks_two a b hn1 hn2
  obtain rfl : pre1 = pre1' := by
    rw [a1] at c1
    exact (List.append_inj_left' c1 rfl)
  have hnT : (toks (a ++ 10 :: b) 0).2 = none := by rw [c2]
  have hsh : ∀ x : Tok, tkOf (a ++ 10 :: b) (shift (a.length + 1) x) = { tkOf b x with lo := (tkOf b x).lo + (a.length + 1), hi := (tkOf b x).hi + (a.length + 1) } := fun x => by
    have := bytes_behind (a ++ [10]) b x
    rw [List.append_assoc, List.length_append] at this
    exact this
  have hT : tksL (a ++ 10 :: b) = pre1.map (tkOf a) ++ (tksL b).map fun y => { y with lo := y.lo + (a.length + 1), hi := y.hi + (a.length + 1) } := by
    unfold tksL
    rw [c2, List.map_append, List.map_map, List.map_map]
    congr 1
    · refine List.map_congr_left fun x hx => ?_
      obtain ⟨_, _, d3, _⟩ := hin1 x hx
      exact bytes_ahead _ _ _ d3
    · refine List.map_congr_left fun x _ => ?_
      exact hsh x
  have hTok := tksL_ok (a ++ 10 :: b) hnT
  have g1 : ∀ i (h : i < pre1.length), (tksL (a ++ 10 :: b)).getD i ⟨0, 0, 0, []⟩ = tkOf a pre1[i] := fun i h => by
    rw [hT, getD_pre _ _ _ i (by simpa using h), List.getElem_map]
  have g2 : ∀ i (h : i < (tksL b).length), (tksL (a ++ 10 :: b)).getD (pre1.length + i) ⟨0, 0, 0, []⟩ = { (tksL b)[i] with lo := (tksL b)[i].lo + (a.length + 1), hi := (tksL b)[i].hi + (a.length + 1) } := fun i h => by
    have := getD_suf ⟨0, 0, 0, []⟩ (pre1.map (tkOf a)) ((tksL b).map fun y => { y with lo := y.lo + (a.length + 1), hi := y.hi + (a.length + 1) }) i
    rw [List.length_map] at this
    rw [hT, this, List.getD_eq_getElem?_getD, List.getElem?_map, List.getElem?_eq_getElem h]
    rfl
  have hTl : (tksL (a ++ 10 :: b)).length = pre1.length + (pre2.length + 1) := by rw [hT, b2]; simp
  have hbl : (tksL b).length = pre2.length + 1 := by rw [b2]; simp
  -- the first token behind
  obtain ⟨s2', q1, q2⟩ := programM_inv hp2
  have hMb : MvOk idM (tksL b) (tksL b) pre2.length := mv_self b hn2 pre2 b2 idM (fun h => by cases h) _ (by omega) (by simp [idM]; omega) (fun i h => by
    rw [show idM.m + i = i from Nat.zero_add i, b2, getD_pre _ _ _ i (by simpa using h), List.getElem_map]
    rfl) (by
    have hend := getD_suf ⟨0, 0, 0, []⟩ (pre2.map (tkOf b)) [⟨0, b.length, b.length, []⟩] 0
    rw [List.length_map, Nat.add_zero] at hend
    rw [show idM.m + pre2.length = pre2.length from Nat.zero_add _, b2, hend]
    exact ⟨⟨Nat.zero_ne_one, Nat.ne_of_lt (Nat.zero_lt_succ 1)⟩, .inl rfl⟩)
  obtain ⟨_, _, _, _, _, _, _, hfunc⟩ := sim_function hMb (rs_refl start) (Nat.zero_le _) (Nat.le_refl _) q1
  have hft : (cur (tksL b) start).txt = kFunc := by
    unfold isP at hfunc
    simpa using hfunc
  have hfk := first_func b hn2 hft
  have hc0 : cur (tksL b) start = (tksL b)[0]'(by omega) := by
    unfold cur
    rw [List.getD_eq_getElem?_getD, List.getElem?_eq_getElem (show start.at_ < (tksL b).length by rw [hbl]; exact Nat.zero_lt_succ _)]
    rfl
  have gF := g2 0 (by omega)
  rw [← hc0, Nat.add_zero] at gF
  have hM1 : MvOk ⟨0, 0, [], [], [], true⟩ (tksL a) (tksL (a ++ 10 :: b)) pre1.length := mv_self a hn1 pre1 a2 _ (fun _ => ⟨rfl, rfl, rfl⟩) _ (by omega) (by simp; omega) (fun i h => by
    rw [show (⟨0, 0, [], [], [], true⟩ : Mv).m + i = i from Nat.zero_add i, g1 i h]
    rfl) (by
    rw [show (⟨0, 0, [], [], [], true⟩ : Mv).m + pre1.length = pre1.length from Nat.zero_add _, gF]
    dsimp only
    rw [hfk, hft]
    exact ⟨⟨by decide, by decide⟩, .inr rfl⟩)
  obtain ⟨f32, _⟩ := parse_few a (by omega) h1
  obtain ⟨p1, p2, p3, _⟩ := sim_program hM1 (kind_ne a pre1 hin1 a2) hp1 (start_rs _ rfl rfl rfl rfl) (by decide) ((tksL (a ++ 10 :: b)).length + 1) (by omega)
  obtain ⟨s1', k'', j1, j2, j3, j4⟩ := p3 (by simpa using f32)
  have hs := rs_z j1 rfl rfl rfl rfl rfl
  subst hs
  have hM2 : MvOk ⟨pre1.length, a.length + 1, s1'.ex, s1'.st, s1'.fn, false⟩ (tksL b) (tksL (a ++ 10 :: b)) pre2.length := mv_self b hn2 pre2 b2 _ (fun h => by cases h) _ (by omega) (by dsimp only; omega) (fun i h => by
    rw [g2 i (by omega)]
    have e : (tksL b)[i]'(by omega) = tkOf b pre2[i] := by
      have h1 := getD_pre ⟨0, 0, 0, []⟩ (pre2.map (tkOf b)) [⟨0, b.length, b.length, []⟩] i (by simpa using h)
      rw [← b2, List.getD_eq_getElem?_getD, List.getElem?_eq_getElem (by omega)] at h1
      simpa using h1
    rw [e]) (by
    rw [g2 pre2.length (by omega)]
    have e : (tksL b)[pre2.length]'(by omega) = ⟨0, b.length, b.length, []⟩ := by
      have h1 := getD_suf ⟨0, 0, 0, []⟩ (pre2.map (tkOf b)) [⟨0, b.length, b.length, []⟩] 0
      rw [← b2, List.length_map, Nat.add_zero, List.getD_eq_getElem?_getD, List.getElem?_eq_getElem (by omega)] at h1
      simpa using h1
    rw [e]
    exact ⟨⟨Nat.zero_ne_one, Nat.ne_of_lt (Nat.zero_lt_succ 1)⟩, .inl rfl⟩)
  have hR2 : RS ⟨pre1.length, a.length + 1, s1'.ex, s1'.st, s1'.fn, false⟩ start s1' := ⟨by rw [p1]; rfl, ⟨[], by simp, .nil⟩, ⟨[], by simp, .nil⟩, ⟨[], by simp, .nil⟩⟩
  obtain ⟨k, rfl⟩ : ∃ k, k'' = k + 1 := ⟨k'' - 1, by omega⟩
  have hgo : programM (tksL (a ++ 10 :: b)) start = bd (functionM (tksL (a ++ 10 :: b))) (fun _ => programL (tksL (a ++ 10 :: b)) k) s1' := by
    unfold programM
    rw [j4]
    conv => lhs; unfold programL
    have : isK (tksL (a ++ 10 :: b)) 0 s1' = false := by
      unfold isK cur
      rw [p1, gF]
      dsimp only
      rw [hfk]
      rfl
    rw [this]
    rfl
  obtain ⟨r1, r2, r3, r4⟩ := sim_program hM2 (kind_ne b pre2 hin2 b2) hp2 hR2 (by omega) k (by omega)
  constructor
  · intro h32
    obtain ⟨s3, k3, t1, t2, t3, t4⟩ := r3 h32
    refine ⟨s3, ?_, ?_⟩
    · obtain ⟨k3, rfl⟩ : ∃ j, k3 = j + 1 := ⟨k3 - 1, by omega⟩
      have hend : isK (tksL (a ++ 10 :: b)) 0 s3 = true := by
        unfold isK cur
        have h3 := t1.at_
        rw [h3, r1]
        rw [g2 pre2.length (by omega)]
        have e : (tksL b)[pre2.length]'(by omega) = ⟨0, b.length, b.length, []⟩ := by
          have h1 := getD_suf ⟨0, 0, 0, []⟩ (pre2.map (tkOf b)) [⟨0, b.length, b.length, []⟩] 0
          rw [← b2, List.length_map, Nat.add_zero, List.getD_eq_getElem?_getD, List.getElem?_eq_getElem (by omega)] at h1
          simpa using h1
        rw [e]
        rfl
      unfold parseT
      rw [hnT, hgo, t4]
      unfold programL
      rw [if_pos hend]
    · refine ⟨t1.fn_len, t1.st_len, t1.ex_len, fun i h h' => ?_⟩
      obtain ⟨X, x1, x2⟩ := t1.st
      have hX := x2.len
      have e : s3.st[s1'.st.length + i] = X[i]'(by omega) := by
        have : s3.st[s1'.st.length + i]? = X[i]? := by rw [x1, List.getElem?_append_right (by simp)]; simp
        rw [List.getElem?_eq_getElem h', List.getElem?_eq_getElem (by omega)] at this
        exact Option.some.inj this
      rw [e]
      obtain ⟨y1, y2, y3, _⟩ := x2.get i h (by omega)
      exact ⟨y1, y2, y3⟩
  · intro h32
    obtain ⟨i, hi⟩ := r4 h32
    refine ⟨loOf (tksL (a ++ 10 :: b)) i, ?_⟩
    unfold parseT
    rw [hnT, hgo, hi]
end Go.Proofs.YtdeflloidhbpmaaGreatDoor

namespace Go.Proofs.YtdeflloidhbpmaaGreatDoor

theorem tok_gn (r : List UInt8) (h : (tokL r).1 = 1) : GN (r.take (tokL r).2) := by
  cases r with
  | nil => simp [tokL] at h
  | cons c r =>
    simp only [tokL] at h ⊢
    by_cases h1 : isLet c = true
    · rw [if_pos h1] at h ⊢
      dsimp only at h ⊢
      have hr : run isAl (c :: r) = run isAl r + 1 := by rw [run_cons, if_pos (by simp [isAl, h1])]
      refine ⟨⟨c, r.take (run isAl r), by rw [hr, List.take_succ_cons], h1⟩, run_take isAl (c :: r), ?_⟩
      unfold nameK at h
      cases hw : isW ((c :: r).take (run isAl (c :: r))) with
      | false => rfl
      | true => rw [hw, if_pos rfl] at h; omega
    · rw [if_neg h1] at h
      split at h
      · split at h <;> simp at h
      · split at h <;> simp at h
theorem tok_gd (r : List UInt8) (h : (tokL r).1 = 2) : GD (r.take (tokL r).2) := by
  cases r with
  | nil => simp [tokL] at h
  | cons c r =>
    simp only [tokL] at h ⊢
    by_cases h1 : isLet c = true
    · rw [if_pos h1] at h
      simp only [nameK] at h
      split at h <;> simp at h
    · rw [if_neg h1] at h ⊢
      by_cases h2 : isDig c = true
      · rw [if_pos h2] at h ⊢
        by_cases h3 : numBad (c :: r) (run isDig (c :: r)) = true
        · rw [if_pos h3] at h; simp at h
        · rw [if_neg h3]
          dsimp only
          have hr : run isDig (c :: r) = run isDig r + 1 := by rw [run_cons, if_pos h2]
          have hlen : ((c :: r).take (run isDig (c :: r))).length = run isDig (c :: r) := by
            have := run_le isDig (c :: r)
            rw [List.length_take]; omega
          simp only [numBad, Bool.or_eq_true, decide_eq_true_eq, not_or, Bool.and_eq_true, not_and] at h3
          refine ⟨by rw [hr, List.take_succ_cons]; simp, run_take isDig (c :: r), by omega, fun hl => ?_⟩
          rw [hlen] at hl
          have := h3.1.2 hl
          rw [hr, List.take_succ_cons]
          simpa using this
      · rw [if_neg h2] at h
        split at h <;> simp at h
theorem toksF_next (t : List UInt8) : ∀ n k x, x ∈ (toksF n t k).1 → ∃ j, x = nextT t j := by
  intro n
  induction n with
  | zero => intro k x h; simp [toksF] at h
  | succ n ih =>
    intro k x h
    simp only [toksF] at h
    by_cases h1 : nextBad t k = true
    · rw [if_pos h1] at h; simp at h
    · rw [if_neg h1] at h
      by_cases h0 : (nextT t k).kind = 0
      · rw [if_pos h0] at h; simp at h; exact ⟨k, h⟩
      · rw [if_neg h0] at h
        rcases List.mem_cons.1 h with rfl | h
        · exact ⟨k, rfl⟩
        · exact ih _ _ h
theorem bytes_next (t : List UInt8) (j : Nat) : bytesOf t (nextT t j) = (t.drop (skipTo false t j)).take (tokL (t.drop (skipTo false t j))).2 := by
  simp only [nextT, bytesOf]
  rw [Nat.add_sub_cancel_left]
theorem cur_tks (t : List UInt8) (s : Sg) : cur (tksL t) s = ⟨0, 0, 0, []⟩ ∨ ∃ j, cur (tksL t) s = tkOf t (nextT t j) := by
  unfold cur
  rw [List.getD_eq_getElem?_getD]
  cases h : (tksL t)[s.at_]? with
  | none => exact .inl rfl
  | some y =>
    right
    have hm : y ∈ tksL t := List.mem_of_getElem? h
    unfold tksL at hm
    obtain ⟨x, hx, rfl⟩ := List.mem_map.1 hm
    obtain ⟨j, rfl⟩ := toksF_next t _ _ _ hx
    exact ⟨j, rfl⟩
theorem numOf_lt (b : List UInt8) (h : ∀ c ∈ b, isDig c = true) : numOf b < 10 ^ b.length := by
  have key : ∀ (b : List UInt8) (a : Nat), (∀ c ∈ b, isDig c = true) → b.foldl (fun n c => n * 10 + (c.toNat - 48)) a < (a + 1) * 10 ^ b.length := by
    intro b
    induction b with
    | nil => intro a _; simp
    | cons c r ih =>
      intro a h
      have h1 := ih (a * 10 + (c.toNat - 48)) (fun d hd => h d (by simp [hd]))
      have hc := h c (by simp)
      simp only [isDig, Bool.and_eq_true, decide_eq_true_eq] at hc
      have h2 := UInt8.le_iff_toNat_le.1 hc.2
      have h3 : (57 : UInt8).toNat = 57 := rfl
      rw [h3] at h2
      rw [List.foldl_cons, List.length_cons, Nat.pow_succ, Nat.mul_comm (10 ^ r.length) 10, ← Nat.mul_assoc]
      refine Nat.lt_of_lt_of_le h1 (Nat.mul_le_mul_right _ ?_)
      omega
  have := key b 0 h
  rw [Nat.zero_add, Nat.one_mul] at this
  exact this
def nuD (n : Nat) : Prop := n < 10 ^ 18
theorem nms_tks (t : List UInt8) : Nms GN nuD (tksL t) := by
  constructor
  · intro s h
    rcases cur_tks t s with e | ⟨j, e⟩
    · rw [e] at h; cases h
    · rw [e] at h ⊢
      show GN (bytesOf t (nextT t j))
      rw [bytes_next]
      exact tok_gn _ h
  · intro s h
    rcases cur_tks t s with e | ⟨j, e⟩
    · rw [e] at h; cases h
    · rw [e] at h ⊢
      show nuD (numOf (bytesOf t (nextT t j)))
      rw [bytes_next]
      have hg := tok_gd _ h
      exact Nat.lt_of_lt_of_le (numOf_lt _ hg.2.1) (Nat.pow_le_pow_right (by decide) hg.2.2.1)
/-- What a number's digits must be. -/
def DecOk (dec : Nat → List UInt8) : Prop := ∀ n, n < 10 ^ 18 → GD (dec n) ∧ numOf (dec n) = n
theorem let_of {c : UInt8} (h : GN [c]) : isLet c = true := by
  obtain ⟨⟨d, r, e, hd⟩, _⟩ := h
  injection e with e1 e2
  rw [e1]; exact hd
theorem dig_of {c : UInt8} (h : GD [c]) : isDig c = true := h.2.1 c (by simp)
theorem nmOk {dec : Nat → List UInt8} (hd : DecOk dec) : NmOk GN nuD dec := by
  constructor
  · intro b h
    have k1 : ∀ c : UInt8, isLet c = false → b ≠ [c] := fun c hc e => by rw [e] at h; rw [let_of h] at hc; cases hc
    have k2 : ∀ w ∈ wordsL, b ≠ w := fun w hw e => by
      have := h.2.2
      rw [e] at this
      unfold isW at this
      rw [List.contains_iff_mem.2 hw] at this
      cases this
    simp only [List.mem_cons, List.not_mem_nil, or_false, not_or]
    exact ⟨⟨k1 _ (by decide), k1 _ (by decide)⟩, k1 _ (by decide), ⟨k1 _ (by decide), k1 _ (by decide)⟩, k2 _ (by decide), k2 _ (by decide), k2 _ (by decide), k1 _ (by decide)⟩
  · intro n hn
    obtain ⟨h, h2⟩ := hd n hn
    have k1 : ∀ c : UInt8, isDig c = false → dec n ≠ [c] := fun c hc e => by rw [e] at h; rw [dig_of h] at hc; cases hc
    simp only [List.mem_cons, List.not_mem_nil, or_false, not_or]
    exact ⟨⟨k1 _ (by decide), k1 _ (by decide)⟩, k1 _ (by decide), ⟨k1 _ (by decide), k1 _ (by decide)⟩, h2⟩
theorem nmG_of {dec : Nat → List UInt8} (hd : DecOk dec) : NmG GN nuD dec := ⟨fun _ h => h, fun n hn => (hd n hn).1⟩
/-- A program's shape. -/
theorem parse_shape {t : List UInt8} {s : Sg} (h : parseT t = .good s) : FL (FSh GN nuD s.ex s.st) s.fn 0 0 s.ex.length s.st.length := program_snd (nms_tks t) (parse_ok h).2
/-- Printed, it is parsed as it was. -/
theorem reparse {dec : Nat → List UInt8} (hd : DecOk dec) {t : List UInt8} (ht : t.length ≤ 900) {s : Sg} (h : parseT t = .good s) :
    ∃ s', parseT (byt (progG dec s)) = .good s' ∧ s'.ex.map bare = s.ex.map bare ∧ s'.st.map bareS = s.st.map bareS ∧ s'.fn.map bareF = s.fn.map bareF := by
  have hs := parse_shape h
  obtain ⟨hf, hst⟩ := parse_few t ht h
  obtain ⟨m1, m2⟩ := mt_laid (clf_progG (nmG_of hd) s.fn 0 0 _ _ (Nat.zero_le _) hs [])
  have m1' : (toks (byt (progG dec s)) 0).2 = none := m1
  have m2' : Mt (tksL (byt (progG dec s))) 0 (s.fn.flatMap (fnW dec s.ex s.st) ++ [(0, [])]) := by rw [← wds_progG]; exact m2
  have hne : s.fn ≠ [] := fun e => by have := parseT_good h; rw [e] at this; cases this
  obtain ⟨s', e1, e2⟩ := program_again (nmOk hd) (by omega) hf hne hs m2'
  refine ⟨s', ?_, e2⟩
  unfold parseT
  rw [m1']
  dsimp only
  rw [e1]
end Go.Proofs.YtdeflloidhbpmaaGreatDoor
