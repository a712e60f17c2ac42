/-
  The same tokens elsewhere: what is made of them is the same, but for where it stands.
-/
import Derived.Test.YtccmodefjgjpeaaGreatDoorPF
namespace Go.Proofs.YtccmodefjgjpeaaGreatDoor

/-- Two lists, thing by thing. -/
inductive All2 {α β : Type} (R : α → β → Prop) : List α → List β → Prop where
  | nil : All2 R [] []
  | cons {a : α} {b : β} {l : List α} {m : List β} : R a b → All2 R l m → All2 R (a :: l) (b :: m)
theorem All2.len {α β : Type} {R : α → β → Prop} {l : List α} {m : List β} (h : All2 R l m) : m.length = l.length := by
  induction h with
  | nil => rfl
  | cons _ _ ih => simp [ih]
theorem All2.snoc {α β : Type} {R : α → β → Prop} {l : List α} {m : List β} (h : All2 R l m) {a : α} {b : β} (hab : R a b) : All2 R (l ++ [a]) (m ++ [b]) := by
  induction h with
  | nil => exact .cons hab .nil
  | cons h1 _ ih => exact .cons h1 ih
theorem All2.get {α β : Type} {R : α → β → Prop} {l : List α} {m : List β} (h : All2 R l m) : ∀ (i : Nat) (h1 : i < l.length) (h2 : i < m.length), R l[i] m[i] := by
  induction h with
  | nil => intro i h1; exact absurd h1 (Nat.not_lt_zero _)
  | cons h1 _ ih =>
    intro i h2 h3
    cases i with
    | zero => exact h1
    | succ i => exact ih i (by simpa using h2) (by simpa using h3)
theorem All2.eq {α : Type} {R : α → α → Prop} (hR : ∀ a b, R a b → b = a) {l m : List α} (h : All2 R l m) : m = l := by
  induction h with
  | nil => rfl
  | cons h1 _ ih => rw [hR _ _ h1, ih]

/-- How many tokens stand ahead, by how many bytes they move, what was put ahead; z: nothing moves. -/
structure Mv where
  m : Nat
  c : Nat
  E : List Ex
  S : List Sm
  F : List Fu
  z : Bool
def RE (M : Mv) (x y : Ex) : Prop := y.kind = x.kind ∧ y.lo = x.lo + M.c ∧ y.hi = x.hi + M.c ∧ (M.z = true → y = x)
def RT (M : Mv) (x y : Sm) : Prop := y.kind = x.kind ∧ y.lo = x.lo + M.c ∧ y.hi = x.hi + M.c ∧ (M.z = true → y = x)
def RF (M : Mv) (x y : Fu) : Prop := y.lo = x.lo + M.c ∧ y.hi = x.hi + M.c ∧ (M.z = true → y = x)
/-- Of two states. -/
structure RS (M : Mv) (s s' : Sg) : Prop where
  at_ : s'.at_ = M.m + s.at_
  ex : ∃ X, s'.ex = M.E ++ X ∧ All2 (RE M) s.ex X
  st : ∃ X, s'.st = M.S ++ X ∧ All2 (RT M) s.st X
  fn : ∃ X, s'.fn = M.F ++ X ∧ All2 (RF M) s.fn X
/-- The tokens ahead of the n-th are those elsewhere; the n-th is the End, there the End or the word func. -/
structure MvOk (M : Mv) (T T' : List Tk) (n : Nat) : Prop where
  z0 : M.z = true → M.c = 0 ∧ M.E = [] ∧ M.S = []
  ok : TkOk T
  len : T.length = n + 1
  len' : T.length ≤ T'.length
  tok : ∀ i, i < n → T'.getD (M.m + i) ⟨0, 0, 0, []⟩ = { T.getD i ⟨0, 0, 0, []⟩ with lo := (T.getD i ⟨0, 0, 0, []⟩).lo + M.c, hi := (T.getD i ⟨0, 0, 0, []⟩).hi + M.c }
  last : (T.getD n ⟨0, 0, 0, []⟩).kind = 0 ∧ (T.getD n ⟨0, 0, 0, []⟩).txt = []
  last' : ((T'.getD (M.m + n) ⟨0, 0, 0, []⟩).kind ≠ 1 ∧ (T'.getD (M.m + n) ⟨0, 0, 0, []⟩).kind ≠ 2) ∧ ((T'.getD (M.m + n) ⟨0, 0, 0, []⟩).txt = [] ∨ (T'.getD (M.m + n) ⟨0, 0, 0, []⟩).txt = kFunc)
  few : M.S.length + n ≤ 1000

/-- If the one goes on, so does the other, to what is the same. -/
def SimR (M : Mv) (n : Nat) {α β : Type} (R : α → β → Prop) (d : Nat) (s : Sg) (r : Rs α) (r' : Rs β) : Prop :=
  ∀ a s1, r = .ok a s1 → ∃ b s1', r' = .ok b s1' ∧ R a b ∧ RS M s1 s1' ∧ s1.at_ ≤ n ∧ s.st.length ≤ s1.st.length ∧ s.at_ + s1.st.length + d ≤ s1.at_ + s.st.length ∧ s1.fn = s.fn
def Sim (M : Mv) (n : Nat) {α β : Type} (R : α → β → Prop) (d : Nat) (x : Ps α) (y : Ps β) : Prop :=
  ∀ s s', RS M s s' → 0 < s.at_ → s.at_ ≤ n → s.st.length ≤ s.at_ → SimR M n R d s (x s) (y s')
theorem simR_bd {M : Mv} {n : Nat} {α β γ δ : Type} {R : α → β → Prop} {Q : γ → δ → Prop} {d d' : Nat} {x : Ps α} {y : Ps β} {f : α → Ps γ} {g : β → Ps δ} {s s' : Sg} (hl : s.st.length ≤ s.at_)
    (h : SimR M n R d s (x s) (y s')) (hf : ∀ a b s1 s1', R a b → RS M s1 s1' → s.at_ + d ≤ s1.at_ → s1.at_ ≤ n → s1.st.length ≤ s1.at_ → SimR M n Q d' s1 (f a s1) (g b s1')) : SimR M n Q (d + d') s (bd x f s) (bd y g s') := by
  intro c s2 hc
  cases hx : x s with
  | no c i => rw [bd_no hx] at hc; cases hc
  | ok a s1 =>
    rw [bd_ok hx] at hc
    obtain ⟨b, s1', hy, hR, hS, h1, h2, h3, h4⟩ := h a s1 hx
    obtain ⟨e, s2', hg, hQ, hS2, h5, h6, h7, h8⟩ := hf a b s1 s1' hR hS (by omega) h1 (by omega) c s2 hc
    exact ⟨e, s2', by rw [bd_ok hy]; exact hg, hQ, hS2, h5, by omega, by omega, h8.trans h4⟩
theorem sim_bd {M : Mv} {n : Nat} {α β γ δ : Type} {R : α → β → Prop} {Q : γ → δ → Prop} {d d' : Nat} {x : Ps α} {y : Ps β} {f : α → Ps γ} {g : β → Ps δ}
    (h : Sim M n R d x y) (hf : ∀ a b, R a b → Sim M n Q d' (f a) (g b)) : Sim M n Q (d + d') (bd x f) (bd y g) :=
  fun s s' hS h0 hn hl => simR_bd hl (h s s' hS h0 hn hl) fun a b s1 s1' hR hS1 hd h1 h2 => hf a b hR s1 s1' hS1 (by omega) h1 h2
theorem sim_ok {M : Mv} {n : Nat} {α β : Type} {R : α → β → Prop} {a : α} {b : β} (h : R a b) : Sim M n R 0 (okP a) (okP b) := by
  intro s s' hS h0 hn hl c s1 hc
  injection hc with h1 h2
  subst h1 h2
  exact ⟨b, s', rfl, h, hS, hn, Nat.le_refl _, by omega, rfl⟩
theorem Sim.mono {M : Mv} {n : Nat} {α β : Type} {R : α → β → Prop} {d d' : Nat} {x : Ps α} {y : Ps β} (h : Sim M n R d x y) (hd : d' ≤ d) : Sim M n R d' x y := by
  intro s s' hS h0 hn hl a s1 ha
  obtain ⟨b, s1', h1, h2, h3, h4, h5, h6, h7⟩ := h s s' hS h0 hn hl a s1 ha
  exact ⟨b, s1', h1, h2, h3, h4, h5, by omega, h7⟩
theorem sim_no {M : Mv} {n : Nat} {α β : Type} {R : α → β → Prop} {d : Nat} {c : Sg → Nat} {i : Sg → Nat} {y : Ps β} : Sim M n R d (fun s => .no (c s) (i s) : Ps α) y := by
  intro s s' _ _ _ _ a s1 ha
  cases ha
theorem sim_if {M : Mv} {n : Nat} {α β : Type} {R : α → β → Prop} {d : Nat} {b b' : Sg → Bool} {x y : Ps α} {x' y' : Ps β} (hb : ∀ s s', RS M s s' → s.at_ ≤ n → b' s' = b s)
    (hx : ∀ s s', RS M s s' → 0 < s.at_ → s.at_ ≤ n → s.st.length ≤ s.at_ → b s = true → SimR M n R d s (x s) (x' s')) (hy : Sim M n R d y y') : Sim M n R d (fun s => if b s then x s else y s) (fun s => if b' s then x' s else y' s) := by
  intro s s' hS h0 hn hl
  show SimR M n R d s (if b s then x s else y s) (if b' s' then x' s' else y' s')
  rw [hb s s' hS hn]
  by_cases h : b s = true
  · rw [if_pos h, if_pos h]; exact hx s s' hS h0 hn hl h
  · rw [if_neg h, if_neg h]; exact hy s s' hS h0 hn hl

theorem sim_if' {M : Mv} {n : Nat} {α β : Type} {R : α → β → Prop} {d : Nat} {b b' : Sg → Bool} {x y : Ps α} {x' y' : Ps β} (hb : ∀ s s', RS M s s' → s.at_ ≤ n → b' s' = b s)
    (hx : Sim M n R d x x') (hy : Sim M n R d y y') : Sim M n R d (fun s => if b s then x s else y s) (fun s => if b' s then x' s else y' s) :=
  sim_if hb (fun s s' hS hp hn hl _ => hx s s' hS hp hn hl) hy
section
variable {M : Mv} {T T' : List Tk} {n : Nat}
theorem RS.cur {s s' : Sg} (hM : MvOk M T T' n) (h : RS M s s') (hn : s.at_ < n) : cur T' s' = { cur T s with lo := (cur T s).lo + M.c, hi := (cur T s).hi + M.c } := by
  unfold Go.Proofs.YtccmodefjgjpeaaGreatDoor.cur
  rw [h.at_, hM.tok _ hn]
theorem RS.isP {s s' : Sg} (hM : MvOk M T T' n) (h : RS M s s') (hn : s.at_ ≤ n) {l : List (List UInt8)} (h0 : [] ∉ l) (h1 : kFunc ∉ l) : isP T' l s' = isP T l s := by
  unfold Go.Proofs.YtccmodefjgjpeaaGreatDoor.isP
  rcases Nat.lt_or_ge s.at_ n with hlt | hge
  · rw [h.cur hM hlt]
  · have he : s.at_ = n := by omega
    have e1 : Go.Proofs.YtccmodefjgjpeaaGreatDoor.cur T s = T.getD n ⟨0, 0, 0, []⟩ := by unfold Go.Proofs.YtccmodefjgjpeaaGreatDoor.cur; rw [he]
    have e2 : Go.Proofs.YtccmodefjgjpeaaGreatDoor.cur T' s' = T'.getD (M.m + n) ⟨0, 0, 0, []⟩ := by unfold Go.Proofs.YtccmodefjgjpeaaGreatDoor.cur; rw [h.at_, he]
    rw [e1, e2, hM.last.2]
    have hc : ∀ x : List UInt8, x ∉ l → l.contains x = false := fun x hx => by
      cases hh : l.contains x with
      | false => rfl
      | true => exact absurd (List.contains_iff_mem.1 hh) hx
    rw [hc _ h0]
    rcases hM.last'.2 with h2 | h2
    · rw [h2, hc _ h0]
    · rw [h2, hc _ h1]
theorem RS.isK {s s' : Sg} (hM : MvOk M T T' n) (h : RS M s s') (hn : s.at_ ≤ n) {k : Nat} (hk : k = 1 ∨ k = 2) : isK T' k s' = isK T k s := by
  unfold Go.Proofs.YtccmodefjgjpeaaGreatDoor.isK
  rcases Nat.lt_or_ge s.at_ n with hlt | hge
  · rw [h.cur hM hlt]
  · have he : s.at_ = n := by omega
    have e1 : Go.Proofs.YtccmodefjgjpeaaGreatDoor.cur T s = T.getD n ⟨0, 0, 0, []⟩ := by unfold Go.Proofs.YtccmodefjgjpeaaGreatDoor.cur; rw [he]
    have e2 : Go.Proofs.YtccmodefjgjpeaaGreatDoor.cur T' s' = T'.getD (M.m + n) ⟨0, 0, 0, []⟩ := by unfold Go.Proofs.YtccmodefjgjpeaaGreatDoor.cur; rw [h.at_, he]
    rw [e1, e2, hM.last.1]
    obtain ⟨h2, h3⟩ := hM.last'.1
    rcases hk with rfl | rfl
    · rw [beq_eq_false_iff_ne.2 h2]; rfl
    · rw [beq_eq_false_iff_ne.2 h3]; rfl
theorem RS.st_len {s s' : Sg} (h : RS M s s') : s'.st.length = M.S.length + s.st.length := by
  obtain ⟨X, h1, h2⟩ := h.st
  rw [h1, List.length_append, h2.len]
theorem RS.ex_len {s s' : Sg} (h : RS M s s') : s'.ex.length = M.E.length + s.ex.length := by
  obtain ⟨X, h1, h2⟩ := h.ex
  rw [h1, List.length_append, h2.len]
theorem RS.fn_len {s s' : Sg} (h : RS M s s') : s'.fn.length = M.F.length + s.fn.length := by
  obtain ⟨X, h1, h2⟩ := h.fn
  rw [h1, List.length_append, h2.len]
theorem simR_next (hM : MvOk M T T' n) {s s' : Sg} (h : RS M s s') (hn : s.at_ < n) (hl : s.st.length ≤ s.at_) : SimR M n Eq 1 s (nextP T s) (nextP T' s') := by
  intro a s1 ha
  have hf := hM.few
  have h1 : ¬ 1000 < s.st.length := by omega
  have h2 : ¬ 1000 < s'.st.length := by rw [h.st_len]; omega
  unfold nextP at ha ⊢
  rw [if_neg h1] at ha
  rw [if_neg h2]
  injection ha with e1 e2
  subst e1 e2
  refine ⟨_, _, rfl, by rw [h.cur hM hn], ⟨?_, h.ex, h.st, h.fn⟩, ?_, Nat.le_refl _, ?_, rfl⟩
  · show s'.at_ + 1 = M.m + (s.at_ + 1)
    rw [h.at_]; omega
  · show s.at_ + 1 ≤ n
    omega
  · show s.at_ + s.st.length + 1 ≤ s.at_ + 1 + s.st.length
    omega
theorem isP_lt (hM : MvOk M T T' n) {s : Sg} (hn : s.at_ ≤ n) {l : List (List UInt8)} (h0 : [] ∉ l) (hi : isP T l s = true) : s.at_ < n := by
  have := hM.ok.isP h0 (by rw [hM.len]; omega) hi
  rw [hM.len] at this
  omega
theorem isK_lt (hM : MvOk M T T' n) {s : Sg} (hn : s.at_ ≤ n) {k : Nat} (h0 : k ≠ 0) (hi : isK T k s = true) : s.at_ < n := by
  have := hM.ok.isK h0 (by rw [hM.len]; omega) hi
  rw [hM.len] at this
  omega
theorem sim_takeP (hM : MvOk M T T' n) {l : List (List UInt8)} (h0 : [] ∉ l) : Sim M n Eq 1 (takeP T l) (takeP T' l) := by
  intro s s' hS hp hn hl
  by_cases h : Go.Proofs.YtccmodefjgjpeaaGreatDoor.isP T l s = true
  · have hlt := isP_lt hM hn h0 h
    have h' : Go.Proofs.YtccmodefjgjpeaaGreatDoor.isP T' l s' = true := by
      unfold Go.Proofs.YtccmodefjgjpeaaGreatDoor.isP at h ⊢
      rw [hS.cur hM hlt]; exact h
    have e1 : takeP T l s = nextP T s := by unfold takeP; rw [if_pos h]
    have e2 : takeP T' l s' = nextP T' s' := by unfold takeP; rw [if_pos h']
    rw [e1, e2]
    exact simR_next hM hS hlt hl
  · intro a s1 ha
    unfold takeP at ha
    rw [if_neg h] at ha
    cases ha
theorem sim_takeK (hM : MvOk M T T' n) {k : Nat} (h0 : k ≠ 0) : Sim M n Eq 1 (takeK T k) (takeK T' k) := by
  intro s s' hS hp hn hl
  by_cases h : Go.Proofs.YtccmodefjgjpeaaGreatDoor.isK T k s = true
  · have hlt := isK_lt hM hn h0 h
    have h' : Go.Proofs.YtccmodefjgjpeaaGreatDoor.isK T' k s' = true := by
      unfold Go.Proofs.YtccmodefjgjpeaaGreatDoor.isK at h ⊢
      rw [hS.cur hM hlt]; exact h
    have e1 : takeK T k s = nextP T s := by unfold takeK; rw [if_pos h]
    have e2 : takeK T' k s' = nextP T' s' := by unfold takeK; rw [if_pos h']
    rw [e1, e2]
    exact simR_next hM hS hlt hl
  · intro a s1 ha
    unfold takeK at ha
    rw [if_neg h] at ha
    cases ha
theorem RS.lastHi {s s' : Sg} (hM : MvOk M T T' n) (h : RS M s s') (h0 : 0 < s.at_) (hn : s.at_ ≤ n) : lastHi T' s' = lastHi T s + M.c := by
  unfold Go.Proofs.YtccmodefjgjpeaaGreatDoor.lastHi
  rw [h.at_, show M.m + s.at_ - 1 = M.m + (s.at_ - 1) by omega, hM.tok _ (by omega)]
/-- Where a part begins. -/
theorem sim_lo (hM : MvOk M T T' n) {α β : Type} {R : α → β → Prop} {d : Nat} {x : Ps α} {y : Ps β} (hf : Fine T 1 x)
    (h : ∀ s s', RS M s s' → 0 < s.at_ → s.at_ < n → s.st.length ≤ s.at_ → (Go.Proofs.YtccmodefjgjpeaaGreatDoor.cur T' s').lo = (Go.Proofs.YtccmodefjgjpeaaGreatDoor.cur T s).lo + M.c → SimR M n R d s (x s) (y s')) : Sim M n R d x y := by
  intro s s' hS h0 hn hl a s1 ha
  have h1 := hf s (by rw [hM.len]; omega)
  rw [ha] at h1
  obtain ⟨h2, h3⟩ := h1
  rw [hM.len] at h3
  have hlt : s.at_ < n := by omega
  exact h s s' hS h0 hlt hl (by rw [hS.cur hM hlt]) a s1 ha
/-- What is known of places: nothing but that they are the same where nothing moves. -/
def VR (M : Mv) {α : Type} (x y : α) : Prop := M.z = true → y = x
def VL (M : Mv) {α : Type} (x y : List α) : Prop := (M.z = true → y = x) ∧ y.length = x.length
theorem VL.snoc {α : Type} {x y : List α} {a b : α} (h : VL M x y) (hab : VR M a b) : VL M (x ++ [a]) (y ++ [b]) := ⟨fun hz => by rw [h.1 hz, hab hz], by simp [h.2]⟩
theorem simR_putE (hM : MvOk M T T' n) {lo lo' : Nat} (hlo : lo' = lo + M.c) {x y : Ex} (hk : y.kind = x.kind) (hz : M.z = true → y = x) {s s' : Sg} (hS : RS M s s') (hn : s.at_ ≤ n) (h0 : 0 < s.at_) :
    SimR M n (VR M) 0 s (putE T lo x s) (putE T' lo' y s') := by
  intro a s1 ha
  unfold putE at ha ⊢
  injection ha with e1 e2
  subst e1 e2
  obtain ⟨X, hX, hA⟩ := hS.ex
  refine ⟨_, _, rfl, fun z => ?_, ⟨hS.at_, ⟨X ++ [{ y with lo := lo', hi := Go.Proofs.YtccmodefjgjpeaaGreatDoor.lastHi T' s' }], ?_, hA.snoc ⟨hk, hlo, hS.lastHi hM h0 hn, fun z => ?_⟩⟩, hS.st, hS.fn⟩, hn, Nat.le_refl _, Nat.le_refl _, rfl⟩
  · rw [hS.ex_len, (hM.z0 z).2.1]; simp
  · show s'.ex ++ _ = _
    rw [hX, List.append_assoc]
  · rw [hz z, hS.lastHi hM h0 hn, hlo, (hM.z0 z).1]; simp
theorem simR_putS (hM : MvOk M T T' n) {lo lo' : Nat} (hlo : lo' = lo + M.c) {x y : Sm} (hk : y.kind = x.kind) (hz : M.z = true → y = x) {s s' : Sg} (hS : RS M s s') (hn : s.at_ ≤ n) (h0 : 0 < s.at_) :
    ∀ a s1, putS T lo x s = .ok a s1 → ∃ b s1', putS T' lo' y s' = .ok b s1' ∧ VR M a b ∧ RS M s1 s1' ∧ s1.at_ = s.at_ ∧ s1.st.length = s.st.length + 1 ∧ s1.fn = s.fn := by
  intro a s1 ha
  unfold putS at ha ⊢
  injection ha with e1 e2
  subst e1 e2
  obtain ⟨X, hX, hA⟩ := hS.st
  refine ⟨_, _, rfl, fun z => ?_, ⟨hS.at_, hS.ex, ⟨X ++ [{ y with lo := lo', hi := Go.Proofs.YtccmodefjgjpeaaGreatDoor.lastHi T' s' }], ?_, hA.snoc ⟨hk, hlo, hS.lastHi hM h0 hn, fun z => ?_⟩⟩, hS.fn⟩, rfl, by simp, rfl⟩
  · rw [hS.st_len, (hM.z0 z).2.2]; simp
  · show s'.st ++ _ = _
    rw [hX, List.append_assoc]
  · rw [hz z, hS.lastHi hM h0 hn, hlo, (hM.z0 z).1]; simp
theorem sim_listL (hM : MvOk M T T' n) {α : Type} {R : α → α → Prop} (hR : ∀ a b, R a b → VR M a b) {one one' : Ps α} (h1 : Sim M n R 1 one one') : ∀ k k' out out', k ≤ k' → VL M out out' → Sim M n (VL M) 0 (listL T one k out) (listL T' one' k' out')
  | 0, _, _, _, _, _ => sim_no (c := fun _ => 0) (i := fun _ => 0)
  | k + 1, 0, _, _, h, _ => absurd h (Nat.not_succ_le_zero _)
  | k + 1, k' + 1, out, out', hk, ho => by
    have ih := fun a b (hab : R a b) => sim_listL hM hR h1 k k' (out ++ [a]) (out' ++ [b]) (by omega) (ho.snoc (hR _ _ hab))
    refine sim_if (x := Rs.ok out) (x' := Rs.ok out') (fun s s' hS hn => hS.isP hM hn (by decide) (by decide)) (fun s s' hS hp hn hl _ => sim_ok ho s s' hS hp hn hl) ?_
    have h2 : Sim M n Eq 0 (if out.length = 0 then okP [] else takeP T [[44]]) (if out'.length = 0 then okP [] else takeP T' [[44]]) := by
      rw [ho.2]
      by_cases h : out.length = 0
      · rw [if_pos h, if_pos h]; exact sim_ok rfl
      · rw [if_neg h, if_neg h]; exact (sim_takeP hM (by decide)).mono (by omega)
    exact (sim_bd h2 fun _ _ _ => sim_bd h1 ih).mono (Nat.zero_le _)
theorem sim_list (hM : MvOk M T T' n) {α : Type} {R : α → α → Prop} (hR : ∀ a b, R a b → VR M a b) {one one' : Ps α} (h1 : Sim M n R 1 one one') : Sim M n (VL M) 2 (listM T one) (listM T' one') := by
  have hl := hM.len'
  refine (sim_bd (sim_takeP hM (by decide)) fun _ _ _ => sim_bd (sim_listL hM hR h1 _ _ [] [] (by omega) ⟨fun _ => rfl, rfl⟩) fun l l' h => sim_bd (sim_takeP hM (by decide)) fun _ _ _ => sim_ok h).mono (by omega)
theorem sim_putE (hM : MvOk M T T' n) {lo lo' : Nat} (hlo : lo' = lo + M.c) {x y : Ex} (hk : y.kind = x.kind) (hz : M.z = true → y = x) : Sim M n (VR M) 0 (putE T lo x) (putE T' lo' y) :=
  fun _ _ hS h0 hn _ => simR_putE hM hlo hk hz hS hn h0
theorem simR_pair (hM : MvOk M T T' n) {part part' : Ps Nat} (hp : Sim M n (VR M) 1 part part') {lo lo' a a' : Nat} (hlo : lo' = lo + M.c) (ha : VR M a a') {s s' : Sg} (hS : RS M s s') (hn : s.at_ < n) (hl : s.st.length ≤ s.at_) : SimR M n (VR M) 2 s (pairM T part lo a s) (pairM T' part' lo' a' s') := by
  refine simR_bd (d := 1) (d' := 1) hl (simR_next hM hS hn hl) fun o o' s1 s1' ho hS1 hd h1 h2 => ?_
  subst ho
  exact (sim_bd (d := 1) (d' := 0) hp fun b b' hb => sim_putE hM hlo (x := { kind := 9, op := o, a := a, b := b }) (y := { kind := 9, op := o, a := a', b := b' }) rfl fun z => by rw [ha z, hb z]) s1 s1' hS1 (by omega) h1 h2
theorem sim_rowL (hM : MvOk M T T' n) {part part' : Ps Nat} (hp : Sim M n (VR M) 1 part part') {signs : List (List UInt8)} (h0 : [] ∉ signs) (h1 : kFunc ∉ signs) {lo lo' : Nat} (hlo : lo' = lo + M.c) : ∀ k k' a a', k ≤ k' → VR M a a' → Sim M n (VR M) 0 (rowL T part signs lo k a) (rowL T' part' signs lo' k' a')
  | 0, _, _, _, _, _ => sim_no (c := fun _ => 0) (i := fun _ => 0)
  | k + 1, 0, _, _, h, _ => absurd h (Nat.not_succ_le_zero _)
  | k + 1, k' + 1, a, a', hk, ha => by
    refine sim_if (x := bd (pairM T part lo a) (rowL T part signs lo k)) (x' := bd (pairM T' part' lo' a') (rowL T' part' signs lo' k')) (y := Rs.ok a) (y' := Rs.ok a') (fun s s' hS hn => hS.isP hM hn h0 h1) (fun s s' hS hs hn hl hi => ?_) (sim_ok ha)
    have hlt := isP_lt hM hn h0 hi
    intro c s1 hc
    obtain ⟨b, s1', e1, e2, e3, e4, e5, e6, e7⟩ := simR_bd (d := 2) (d' := 0) hl (simR_pair hM hp hlo ha hS hlt hl) (fun b b' s1 s1' hb hS1 hd h3 h4 => sim_rowL hM hp h0 h1 hlo k k' b b' (by omega) hb s1 s1' hS1 (by omega) h3 h4) c s1 hc
    exact ⟨b, s1', e1, e2, e3, e4, e5, by omega, e7⟩
theorem sim_row (hM : MvOk M T T' n) {part part' : Ps Nat} (hp : Sim M n (VR M) 1 part part') (hf : Fine T 1 part) {signs : List (List UInt8)} (h0 : [] ∉ signs) (h1 : kFunc ∉ signs) : Sim M n (VR M) 1 (rowM T part signs) (rowM T' part' signs) := by
  refine sim_lo hM (fine_row hM.ok hf h0) fun s s' hS hs hn hl hlo => ?_
  have hl' := hM.len'
  exact simR_bd (d := 1) (d' := 0) hl (hp s s' hS hs (by omega) hl) fun a a' s1 s1' ha hS1 hd h3 h4 => sim_rowL hM hp h0 h1 hlo _ _ a a' (by omega) ha s1 s1' hS1 (by omega) h3 h4
theorem sim_sum (hM : MvOk M T T' n) {op op' : Ps Nat} (h : Sim M n (VR M) 1 op op') (hf : Fine T 1 op) : Sim M n (VR M) 1 (sumM T op) (sumM T' op') :=
  sim_row hM (sim_row hM h hf (by decide) (by decide)) (fine_row hM.ok hf (by decide)) (by decide) (by decide)
theorem sim_comparison (hM : MvOk M T T' n) {op op' : Ps Nat} (h : Sim M n (VR M) 1 op op') (hf : Fine T 1 op) : Sim M n (VR M) 1 (comparisonM T op) (comparisonM T' op') := by
  refine sim_lo hM (fine_comparison hM.ok hf) fun s s' hS hs hn hl hlo => ?_
  refine simR_bd (d := 1) (d' := 0) hl (sim_sum hM h hf s s' hS hs (by omega) hl) fun a a' s1 s1' ha hS1 hd h3 h4 => ?_
  exact sim_if (x := pairM T (sumM T op) (cur T s).lo a) (x' := pairM T' (sumM T' op') (cur T' s').lo a') (y := Rs.ok a) (y' := Rs.ok a') (fun s s' hS hn => hS.isP hM hn (by decide) (by decide)) (fun s2 s2' hS2 hs2 hn2 hl2 hi => fun c s3 hc => by
    obtain ⟨b, s1', e1, e2, e3, e4, e5, e6, e7⟩ := simR_pair hM (sim_sum hM h hf) hlo ha hS2 (isP_lt hM hn2 (by decide) hi) hl2 c s3 hc
    exact ⟨b, s1', e1, e2, e3, e4, e5, by omega, e7⟩) (sim_ok ha) s1 s1' hS1 (by omega) h3 h4
theorem sim_expression (hM : MvOk M T T' n) {op op' : Ps Nat} (h : Sim M n (VR M) 1 op op') (hf : Fine T 1 op) : Sim M n (VR M) 1 (expressionM T op) (expressionM T' op') :=
  sim_row hM (sim_row hM (sim_comparison hM h hf) (fine_comparison hM.ok hf) (by decide) (by decide)) (fine_row hM.ok (fine_comparison hM.ok hf) (by decide)) (by decide) (by decide)
theorem sim_number (hM : MvOk M T T' n) : Sim M n Eq 1 (numberM T) (numberM T') := sim_bd (d := 1) (d' := 0) (sim_takeK hM (by decide)) fun a b h => sim_ok (by rw [h])
theorem sim_index (hM : MvOk M T T' n) {e e' : Ps Nat} (h : Sim M n (VR M) 1 e e') : Sim M n (VR M) 1 (indexM T e) (indexM T' e') :=
  Sim.mono (d := 3) (sim_bd (d := 1) (d' := 2) (sim_takeP hM (by decide)) fun _ _ _ => sim_bd (d := 1) (d' := 1) h fun _ _ ha => sim_bd (d := 1) (d' := 0) (sim_takeP hM (by decide)) fun _ _ _ => sim_ok ha) (by omega)
theorem sim_call (hM : MvOk M T T' n) {sub sub' : Ps Nat} (h : Sim M n (VR M) 1 sub sub') (hf : Fine T 1 sub) {lo lo' : Nat} (hlo : lo' = lo + M.c) (name : List UInt8) : Sim M n (VR M) 1 (callM T sub lo name) (callM T' sub' lo' name) :=
  Sim.mono (d := 2) (sim_bd (d := 2) (d' := 0) (sim_list hM (fun _ _ h => h) (sim_expression hM h hf)) fun l l' hl => sim_putE hM hlo (x := { kind := 6, name := name, list := l }) (y := { kind := 6, name := name, list := l' }) rfl fun z => by rw [hl.1 z]) (by omega)
theorem sim_reference (hM : MvOk M T T' n) {sub sub' : Ps Nat} (h : Sim M n (VR M) 1 sub sub') (hf : Fine T 1 sub) : Sim M n (VR M) 1 (referenceM T sub) (referenceM T' sub') := by
  refine sim_lo hM (fine_reference hM.ok hf) fun s s' hS hs hn hl hlo => ?_
  refine simR_bd (d := 1) (d' := 0) hl (sim_takeK hM (by decide) s s' hS hs (by omega) hl) fun a a' s1 s1' ha hS1 hd h3 h4 => ?_
  subst ha
  exact sim_if' (x := callM T sub (cur T s).lo a) (x' := callM T' sub' (cur T' s').lo a) (fun s s' hS hn => hS.isP hM hn (by decide) (by decide))
    ((sim_call hM h hf hlo a).mono (Nat.zero_le _))
    (sim_if' (x := bd (indexM T (expressionM T sub)) (fun b => putE T (cur T s).lo { kind := 5, name := a, a := b })) (x' := bd (indexM T' (expressionM T' sub')) (fun b => putE T' (cur T' s').lo { kind := 5, name := a, a := b })) (fun s s' hS hn => hS.isP hM hn (by decide) (by decide))
      (Sim.mono (d := 1) (sim_bd (d := 1) (d' := 0) (sim_index hM (sim_expression hM h hf)) fun b b' hb => sim_putE hM hlo (x := { kind := 5, name := a, a := b }) (y := { kind := 5, name := a, a := b' }) rfl fun z => by rw [hb z]) (Nat.zero_le _))
      (sim_putE hM hlo rfl fun _ => rfl)) s1 s1' hS1 (by omega) h3 h4
theorem sim_word (hM : MvOk M T T' n) : Sim M n (VR M) 1 (wordM T) (wordM T') := by
  refine sim_lo hM (fine_word hM.ok) fun s s' hS hs hn hl hlo => ?_
  refine simR_bd (d := 1) (d' := 0) hl (sim_takeP hM (by decide) s s' hS hs (by omega) hl) fun a a' s1 s1' ha hS1 hd h3 h4 => ?_
  subst ha
  exact sim_putE hM hlo rfl (fun _ => rfl) s1 s1' hS1 (by omega) h3 h4
theorem sim_operandS (hM : MvOk M T T' n) {sub sub' : Ps Nat} (h : Sim M n (VR M) 1 sub sub') (hf : Fine T 1 sub) : Sim M n (VR M) 1 (operandS T sub) (operandS T' sub') := by
  refine sim_lo hM (fine_operandS hM.ok hf) fun s s' hS hs hn hl hlo => ?_
  exact sim_if (x := bd (nextP T) (fun o => bd sub fun a => putE T (cur T s).lo { kind := 8, op := o, a := a })) (x' := bd (nextP T') (fun o => bd sub' fun a => putE T' (cur T' s').lo { kind := 8, op := o, a := a })) (fun s s' hS hn => hS.isP hM hn (by decide) (by decide))
    (fun s2 s2' hS2 hs2 hn2 hl2 hi => fun c s3 hc => by
      obtain ⟨b, s1', e1, e2, e3, e4, e5, e6, e7⟩ := simR_bd (Q := VR M) (d := 1) (d' := 1) hl2 (simR_next hM hS2 (isP_lt hM hn2 (by decide) hi) hl2) (fun o o' s4 s4' ho hS4 hd h3 h4 => by
        subst ho
        exact (sim_bd (d := 1) (d' := 0) h fun b b' hb => sim_putE hM hlo (x := { kind := 8, op := o, a := b }) (y := { kind := 8, op := o, a := b' }) rfl fun z => by rw [hb z]) s4 s4' hS4 (by omega) h3 h4) c s3 hc
      exact ⟨b, s1', e1, e2, e3, e4, e5, by omega, e7⟩)
    (sim_if' (x := bd (takeP T [[40]]) (fun _ => bd (expressionM T sub) fun a => bd (takeP T [[41]]) fun _ => okP a)) (x' := bd (takeP T' [[40]]) (fun _ => bd (expressionM T' sub') fun a => bd (takeP T' [[41]]) fun _ => okP a)) (fun s s' hS hn => hS.isP hM hn (by decide) (by decide))
      (Sim.mono (d := 3) (sim_bd (d := 1) (d' := 2) (sim_takeP hM (by decide)) fun _ _ _ => sim_bd (d := 1) (d' := 1) (sim_expression hM h hf) fun _ _ ha => sim_bd (d := 1) (d' := 0) (sim_takeP hM (by decide)) fun _ _ _ => sim_ok ha) (by omega))
      (sim_if' (x := referenceM T sub) (x' := referenceM T' sub') (fun s s' hS hn => hS.isK hM hn (.inl rfl)) (sim_reference hM h hf)
        (sim_if' (x := bd (numberM T) (fun n => putE T (cur T s).lo { kind := 1, num := n })) (x' := bd (numberM T') (fun n => putE T' (cur T' s').lo { kind := 1, num := n })) (fun s s' hS hn => hS.isK hM hn (.inr rfl))
          ((sim_bd (d := 1) (d' := 0) (sim_number hM) fun b b' hb => sim_putE hM hlo (x := { kind := 1, num := b }) (y := { kind := 1, num := b' }) rfl fun z => by rw [hb]))
          (sim_word hM)))) s s' hS hs (by omega) hl
theorem sim_operand (hM : MvOk M T T' n) : ∀ k, Sim M n (VR M) 1 (operandM T k) (operandM T' k)
  | 0 => sim_no (c := fun _ => 4) (i := fun s => s.at_)
  | k + 1 => sim_operandS hM (sim_operand hM k) (fine_operand hM.ok k)
theorem sim_blockL (hM : MvOk M T T' n) {one one' : Ps Nat} (h1 : Sim M n (VR M) 1 one one') : ∀ k k' out out', k ≤ k' → VL M out out' → Sim M n (VL M) 0 (blockL T one k out) (blockL T' one' k' out')
  | 0, _, _, _, _, _ => sim_no (c := fun _ => 0) (i := fun _ => 0)
  | k + 1, 0, _, _, h, _ => absurd h (Nat.not_succ_le_zero _)
  | k + 1, k' + 1, out, out', hk, ho => by
    have ih := fun a b (hab : VR M a b) => sim_blockL hM h1 k k' (out ++ [a]) (out' ++ [b]) (by omega) (ho.snoc hab)
    exact sim_if (x := Rs.ok out) (x' := Rs.ok out') (fun s s' hS hn => hS.isP hM hn (by decide) (by decide)) (fun s s' hS hp hn hl _ => sim_ok ho s s' hS hp hn hl) ((sim_bd h1 ih).mono (Nat.zero_le _))
theorem sim_blockS (hM : MvOk M T T' n) {one one' : Ps Nat} (h1 : Sim M n (VR M) 1 one one') : Sim M n (VL M) 2 (blockS T one) (blockS T' one') := by
  have hl := hM.len'
  exact (sim_bd (d := 1) (d' := 1) (sim_takeP hM (by decide)) fun _ _ _ => sim_bd (d := 0) (d' := 1) (sim_blockL hM h1 _ _ [] [] (by omega) ⟨fun _ => rfl, rfl⟩) fun l l' h => sim_bd (d := 1) (d' := 0) (sim_takeP hM (by decide)) fun _ _ _ => sim_ok h)
theorem sim_blkOf (hM : MvOk M T T' n) {one one' : Ps Nat} (h1 : Sim M n (VR M) 1 one one') (k : Nat) : Sim M n (VL M) 2 (blkOf T k one) (blkOf T' k one') := by
  unfold blkOf
  by_cases h : k = 0
  · rw [if_pos h, if_pos h]; exact sim_no (c := fun _ => 4) (i := fun s => s.at_)
  · rw [if_neg h, if_neg h]; exact sim_blockS hM h1
theorem sim_otherwise (hM : MvOk M T T' n) {blk blk' : Ps (List Nat)} {stm stm' : Ps Nat} (hb : Sim M n (VL M) 2 blk blk') (hs : Sim M n (VR M) 1 stm stm') : Sim M n (VL M) 0 (otherwiseM T blk stm) (otherwiseM T' blk' stm') :=
  sim_if' (x := bd stm (fun i => okP [i])) (x' := bd stm' (fun i => okP [i])) (fun s s' hS hn => hS.isP hM hn (by decide) (by decide))
    (Sim.mono (d := 1) (sim_bd (d := 1) (d' := 0) (Q := VL M) hs fun a b h => sim_ok ⟨fun z => by rw [h z], rfl⟩) (Nat.zero_le _)) (hb.mono (Nat.zero_le _))
/-- Two statements that are not put yet. -/
def VS (M : Mv) (x y : Sm) : Prop := y.kind = x.kind ∧ (M.z = true → y = x)
theorem sim_choice (hM : MvOk M T T' n) {ex ex' : Ps Nat} {blk blk' : Ps (List Nat)} {stm stm' : Ps Nat} (he : Sim M n (VR M) 1 ex ex') (hb : Sim M n (VL M) 2 blk blk') (hs : Sim M n (VR M) 1 stm stm') : Sim M n (VS M) 2 (choiceM T ex blk stm) (choiceM T' ex' blk' stm') := by
  refine Sim.mono (d := 4) (sim_bd (d := 1) (d' := 3) (sim_takeP hM (by decide)) fun _ _ _ => sim_bd (d := 1) (d' := 2) he fun a a' ha => sim_bd (d := 2) (d' := 0) hb fun l l' hl => ?_) (by omega)
  exact sim_if' (x := bd (takeP T [kElse]) (fun _ => bd (otherwiseM T blk stm) fun m => okP { kind := 5, a := a, thn := l, els := m })) (x' := bd (takeP T' [kElse]) (fun _ => bd (otherwiseM T' blk' stm') fun m => okP { kind := 5, a := a', thn := l', els := m }))
    (y := Rs.ok { kind := 5, a := a, thn := l }) (y' := Rs.ok { kind := 5, a := a', thn := l' }) (fun s s' hS hn => hS.isP hM hn (l := [kElse]) (by decide) (by decide))
    (Sim.mono (d := 1) (sim_bd (d := 1) (d' := 0) (sim_takeP hM (by decide)) fun _ _ _ => sim_bd (d := 0) (d' := 0) (Q := VS M) (sim_otherwise hM hb hs) fun m m' hm => sim_ok ⟨rfl, fun z => by rw [ha z, hl.1 z, hm.1 z]⟩) (Nat.zero_le _))
    (sim_ok ⟨rfl, fun z => by rw [ha z, hl.1 z]⟩)
theorem sim_loopM (hM : MvOk M T T' n) {ex ex' : Ps Nat} {blk blk' : Ps (List Nat)} (he : Sim M n (VR M) 1 ex ex') (hb : Sim M n (VL M) 2 blk blk') : Sim M n (VS M) 2 (loopM T ex blk) (loopM T' ex' blk') :=
  Sim.mono (d := 4) (sim_bd (d := 1) (d' := 3) (sim_takeP hM (by decide)) fun _ _ _ => sim_bd (d := 1) (d' := 2) he fun a a' ha => sim_bd (d := 2) (d' := 0) (Q := VS M) hb fun l l' hl => sim_ok ⟨rfl, fun z => by rw [ha z, hl.1 z]⟩) (by omega)
theorem sim_named (hM : MvOk M T T' n) {ex ex' sub sub' : Ps Nat} (he : Sim M n (VR M) 1 ex ex') (hs : Sim M n (VR M) 1 sub sub') (hf : Fine T 1 sub) (hfe : Fine T 1 ex) : Sim M n (VS M) 1 (namedM T ex sub) (namedM T' ex' sub') := by
  refine sim_lo hM (fine_named hM.ok hfe hf) fun s s' hS hs0 hn hl hlo => ?_
  refine simR_bd (d := 1) (d' := 0) hl (sim_takeK hM (by decide) s s' hS hs0 (by omega) hl) fun a a' s1 s1' ha hS1 hd h3 h4 => ?_
  subst ha
  exact sim_if' (x := bd (callM T sub (cur T s).lo a) (fun b => okP { kind := 11, a := b })) (x' := bd (callM T' sub' (cur T' s').lo a) (fun b => okP { kind := 11, a := b })) (fun s s' hS hn => hS.isP hM hn (l := [[40]]) (by decide) (by decide))
    (Sim.mono (d := 1) (sim_bd (d := 1) (d' := 0) (Q := VS M) (sim_call hM hs hf hlo a) fun b b' hb => sim_ok ⟨rfl, fun z => by rw [hb z]⟩) (Nat.zero_le _))
    (sim_if' (x := bd (indexM T ex) (fun b => bd (takeP T [[61]]) fun _ => bd ex fun c => okP { kind := 4, name := a, a := b, b := c })) (x' := bd (indexM T' ex') (fun b => bd (takeP T' [[61]]) fun _ => bd ex' fun c => okP { kind := 4, name := a, a := b, b := c })) (fun s s' hS hn => hS.isP hM hn (l := [[91]]) (by decide) (by decide))
      (Sim.mono (d := 3) (sim_bd (d := 1) (d' := 2) (sim_index hM he) fun b b' hb => sim_bd (d := 1) (d' := 1) (sim_takeP hM (by decide)) fun _ _ _ => sim_bd (d := 1) (d' := 0) (Q := VS M) he fun c c' hc => sim_ok ⟨rfl, fun z => by rw [hb z, hc z]⟩) (Nat.zero_le _))
      (Sim.mono (d := 2) (sim_bd (d := 1) (d' := 1) (sim_takeP hM (l := [[61]]) (by decide)) fun _ _ _ => sim_bd (d := 1) (d' := 0) (Q := VS M) he fun c c' hc => sim_ok (a := ({ kind := 3, name := a, a := (c : Int) } : Sm)) (b := ({ kind := 3, name := a, a := (c' : Int) } : Sm)) ⟨rfl, fun z => by rw [hc z]⟩) (Nat.zero_le _))) s1 s1' hS1 (by omega) h3 h4
theorem sim_variable (hM : MvOk M T T' n) {ex ex' : Ps Nat} (he : Sim M n (VR M) 1 ex ex') : Sim M n (VS M) 1 (variableM T ex) (variableM T' ex') := by
  refine Sim.mono (d := 3) (sim_bd (d := 1) (d' := 2) (sim_takeP hM (by decide)) fun _ _ _ => sim_bd (d := 1) (d' := 1) (sim_takeK hM (by decide)) fun name name' hn => sim_bd (d := 1) (d' := 0) (sim_takeP hM (by decide)) fun x x' hx => ?_) (by omega)
  subst hn hx
  by_cases h : x = [61]
  · rw [if_pos h, if_pos h]
    exact Sim.mono (d := 1) (sim_bd (d := 1) (d' := 0) (Q := VS M) he fun a a' ha => sim_ok ⟨rfl, fun z => by rw [ha z]⟩) (Nat.zero_le _)
  · rw [if_neg h, if_neg h]
    exact Sim.mono (d := 2) (sim_bd (d := 1) (d' := 1) (sim_number hM) fun a a' ha => sim_bd (d := 1) (d' := 0) (Q := VS M) (sim_takeP hM (by decide)) fun _ _ _ => sim_ok ⟨rfl, fun z => by rw [ha]⟩) (Nat.zero_le _)
theorem sim_answer (hM : MvOk M T T' n) {ex ex' : Ps Nat} (he : Sim M n (VR M) 1 ex ex') : Sim M n (VS M) 1 (answerM T ex) (answerM T' ex') :=
  sim_bd (d := 1) (d' := 0) (sim_takeP hM (by decide)) fun _ _ _ =>
    sim_if' (x := Rs.ok { kind := 9, a := -1 }) (x' := Rs.ok { kind := 9, a := -1 }) (fun s s' hS hn => hS.isP hM hn (l := [[59]]) (by decide) (by decide)) (sim_ok ⟨rfl, fun _ => rfl⟩)
      (Sim.mono (d := 1) (sim_bd (d := 1) (d' := 0) (Q := VS M) he fun a a' ha => sim_ok (a := ({ kind := 9, a := (a : Int) } : Sm)) (b := ({ kind := 9, a := (a' : Int) } : Sm)) ⟨rfl, fun z => by rw [ha z]⟩) (Nat.zero_le _))
theorem sim_simple (hM : MvOk M T T' n) {ex ex' sub sub' : Ps Nat} (he : Sim M n (VR M) 1 ex ex') (hs : Sim M n (VR M) 1 sub sub') (hf : Fine T 1 sub) (hfe : Fine T 1 ex) : Sim M n (VS M) 1 (simpleM T ex sub) (simpleM T' ex' sub') :=
  sim_if' (x := namedM T ex sub) (x' := namedM T' ex' sub') (fun s s' hS hn => hS.isK hM hn (.inl rfl)) (sim_named hM he hs hf hfe)
    (sim_if' (x := variableM T ex) (x' := variableM T' ex') (fun s s' hS hn => hS.isP hM hn (by decide) (by decide)) (sim_variable hM he)
      (sim_if' (x := answerM T ex) (x' := answerM T' ex') (fun s s' hS hn => hS.isP hM hn (by decide) (by decide)) (sim_answer hM he)
        (sim_if' (x := bd (takeP T [kPrint]) (fun _ => bd ex fun a => okP { kind := 10, a := a })) (x' := bd (takeP T' [kPrint]) (fun _ => bd ex' fun a => okP { kind := 10, a := a })) (fun s s' hS hn => hS.isP hM hn (by decide) (by decide))
          (Sim.mono (d := 2) (sim_bd (d := 1) (d' := 1) (sim_takeP hM (by decide)) fun _ _ _ => sim_bd (d := 1) (d' := 0) (Q := VS M) he fun a a' ha => sim_ok ⟨rfl, fun z => by rw [ha z]⟩) (by omega))
          (sim_bd (d := 1) (d' := 0) (Q := VS M) (sim_takeP hM (by decide)) fun x x' hx => sim_ok ⟨by rw [hx], fun _ => by rw [hx]⟩))))
theorem sim_fields (hM : MvOk M T T' n) {ex ex' sub sub' : Ps Nat} {blk blk' : Ps (List Nat)} {stm stm' : Ps Nat} (he : Sim M n (VR M) 1 ex ex') (hs : Sim M n (VR M) 1 sub sub') (hf : Fine T 1 sub) (hfe : Fine T 1 ex) (hb : Sim M n (VL M) 2 blk blk') (hm : Sim M n (VR M) 1 stm stm') : Sim M n (VS M) 2 (fieldsM T ex sub blk stm) (fieldsM T' ex' sub' blk' stm') :=
  sim_if' (x := choiceM T ex blk stm) (x' := choiceM T' ex' blk' stm') (fun s s' hS hn => hS.isP hM hn (by decide) (by decide)) (sim_choice hM he hb hm)
    (sim_if' (x := loopM T ex blk) (x' := loopM T' ex' blk') (fun s s' hS hn => hS.isP hM hn (by decide) (by decide)) (sim_loopM hM he hb)
      (sim_bd (d := 1) (d' := 1) (Q := VS M) (sim_simple hM he hs hf hfe) fun x x' hx => sim_bd (d := 1) (d' := 0) (sim_takeP hM (by decide)) fun _ _ _ => sim_ok hx))
theorem sim_stmtS (hM : MvOk M T T' n) {ex ex' sub sub' : Ps Nat} {blk blk' : Ps (List Nat)} {stm stm' : Ps Nat} (he : Sim M n (VR M) 1 ex ex') (hs : Sim M n (VR M) 1 sub sub') (hf : Fine T 1 sub) (hfe : Fine T 1 ex) (hfb : Fine T 1 blk) (hfm : Fine T 1 stm) (hb : Sim M n (VL M) 2 blk blk') (hm : Sim M n (VR M) 1 stm stm') : Sim M n (VR M) 1 (stmtS T ex sub blk stm) (stmtS T' ex' sub' blk' stm') := by
  refine sim_lo hM (fine_stmtS hM.ok hfe hf hfb hfm) fun s s' hS hs0 hn hl hlo => ?_
  intro c s2 hc
  unfold stmtS at hc ⊢
  obtain ⟨x, s1, h1, h2⟩ := (show ∃ x s1, fieldsM T ex sub blk stm s = .ok x s1 ∧ putS T (cur T s).lo x s1 = .ok c s2 by
    unfold bd at hc
    cases hx : fieldsM T ex sub blk stm s with
    | no c i => rw [hx] at hc; cases hc
    | ok a s1 => rw [hx] at hc; exact ⟨a, s1, rfl, hc⟩)
  obtain ⟨y, s1', e1, e2, e3, e4, e5, e6, e7⟩ := sim_fields hM he hs hf hfe hb hm s s' hS hs0 (by omega) hl x s1 h1
  obtain ⟨b, s2', f1, f2, f3, f4, f5, f6⟩ := simR_putS hM hlo e2.1 e2.2 e3 e4 (by omega) c s2 h2
  exact ⟨b, s2', by rw [bd_ok e1]; exact f1, f2, f3, by omega, by omega, by omega, f6.trans e7⟩
theorem sim_stmt (hM : MvOk M T T' n) : ∀ k, Sim M n (VR M) 1 (stmtM T k) (stmtM T' k)
  | 0 => sim_no (c := fun _ => 4) (i := fun s => s.at_)
  | k + 1 => sim_stmtS hM (sim_expression hM (sim_operand hM (k + 1)) (fine_operand hM.ok (k + 1))) (sim_operand hM k) (fine_operand hM.ok k) (fine_expression hM.ok (fine_operand hM.ok (k + 1))) (fine_blkOf hM.ok (fine_stmt hM.ok k) k) (fine_stmt hM.ok k) (sim_blkOf hM (sim_stmt hM k) k) (sim_stmt hM k)
theorem sim_block (hM : MvOk M T T' n) (k : Nat) : Sim M n (VL M) 2 (blockM T k) (blockM T' k) := sim_blkOf hM (sim_stmt hM k) k

/-- What a function has ahead of its body, and its body. -/
def tyM (T : List Tk) : Ps Nat := fun s1 => if isP T [kInt] s1 then bd (takeP T [kInt]) (fun _ => okP 1) s1 else .ok 4 s1
def restM (T : List Tk) : Ps (List UInt8 × List (List UInt8) × Nat × List Nat) := bd (takeK T 1) fun name => bd (listM T (takeK T 1)) fun ps => bd (tyM T) fun ty => bd (blockM T 64) fun body => okP (name, ps, ty, body)
theorem function_ty (T : List Tk) (s : Sg) : functionM T s = if isP T [kFunc] s && s.fn.length == 32 then .no 5 s.at_
    else bd (takeP T [kFunc]) (fun _ => bd (takeK T 1) fun name => bd (listM T (takeK T 1)) fun ps => bd (tyM T) fun ty => bd (blockM T 64) fun body => putF T (cur T s).lo { name := name, params := ps, ty := ty, body := body }) s := rfl
theorem function_rest (T : List Tk) (s : Sg) : functionM T s = if isP T [kFunc] s && s.fn.length == 32 then .no 5 s.at_
    else bd (takeP T [kFunc]) (fun _ => bd (restM T) fun r => putF T (cur T s).lo { name := r.1, params := r.2.1, ty := r.2.2.1, body := r.2.2.2 }) s := by
  rw [function_ty]
  unfold restM
  congr 1
  unfold bd okP
  cases takeP T [kFunc] s with
  | no c i => rfl
  | ok a s1 =>
    dsimp only
    cases takeK T 1 s1 with
    | no c i => rfl
    | ok a s1 =>
      dsimp only
      cases listM T (takeK T 1) s1 with
      | no c i => rfl
      | ok a s1 =>
        dsimp only
        cases tyM T s1 with
        | no c i => rfl
        | ok a s1 =>
          dsimp only
          cases blockM T 64 s1 <;> rfl
def VF (M : Mv) (x y : List UInt8 × List (List UInt8) × Nat × List Nat) : Prop := M.z = true → y = x
theorem sim_rest (hM : MvOk M T T' n) : Sim M n (VF M) 1 (restM T) (restM T') := by
  refine Sim.mono (d := 5) (sim_bd (d := 1) (d' := 4) (sim_takeK hM (by decide)) fun name name' hn => sim_bd (d := 2) (d' := 2) (sim_list hM (fun _ _ h _ => h.symm) (sim_takeK hM (by decide))) fun ps ps' hp => sim_bd (d := 0) (d' := 2) (R := Eq) ?_ fun ty ty' ht => sim_bd (d := 2) (d' := 0) (sim_block hM 64) fun l l' hl => sim_ok fun z => ?_) (by omega)
  · exact sim_if' (x := bd (takeP T [kInt]) (fun _ => okP 1)) (x' := bd (takeP T' [kInt]) (fun _ => okP 1)) (y := Rs.ok 4) (y' := Rs.ok 4) (fun s s' hS hn => hS.isP hM hn (by decide) (by decide))
      (Sim.mono (d := 1) (sim_bd (d := 1) (d' := 0) (sim_takeP hM (by decide)) fun _ _ _ => sim_ok rfl) (Nat.zero_le _)) (sim_ok rfl)
  · rw [hn, hp.1 z, ht, hl.1 z]
/-- A function; if there may be no more, it is told. -/
theorem sim_function (hM : MvOk M T T' n) {s s' : Sg} (hS : RS M s s') (hn : s.at_ ≤ n) (hl : s.st.length ≤ s.at_) {s1 : Sg} (h : functionM T s = .ok () s1) :
    (s'.fn.length = 32 → ∃ i, functionM T' s' = .no 5 i) ∧ (s'.fn.length ≠ 32 → ∃ s1', functionM T' s' = .ok () s1' ∧ RS M s1 s1') ∧ s1.at_ ≤ n ∧ s1.st.length ≤ s1.at_ ∧ s.at_ < s1.at_ ∧ s1.fn.length = s.fn.length + 1 ∧ s.at_ < n ∧ isP T [kFunc] s = true := by
  rw [function_rest] at h
  by_cases hc : (Go.Proofs.YtccmodefjgjpeaaGreatDoor.isP T [kFunc] s && s.fn.length == 32) = true
  · rw [if_pos hc] at h; cases h
  rw [if_neg hc] at h
  have hi : Go.Proofs.YtccmodefjgjpeaaGreatDoor.isP T [kFunc] s = true := by
    cases hi : Go.Proofs.YtccmodefjgjpeaaGreatDoor.isP T [kFunc] s with
    | true => rfl
    | false =>
      rw [bd_no (show takeP T [kFunc] s = .no 3 s.at_ by unfold takeP; rw [hi]; rfl)] at h
      cases h
  have hlt := isP_lt hM hn (by decide) hi
  have hi' : Go.Proofs.YtccmodefjgjpeaaGreatDoor.isP T' [kFunc] s' = true := by
    unfold Go.Proofs.YtccmodefjgjpeaaGreatDoor.isP at hi ⊢
    rw [hS.cur hM hlt]; exact hi
  have e1 : takeP T [kFunc] s = nextP T s := by unfold takeP; rw [if_pos hi]
  have e2 : takeP T' [kFunc] s' = nextP T' s' := by unfold takeP; rw [if_pos hi']
  obtain ⟨a, s2, h1, h2⟩ := (show ∃ a s2, nextP T s = .ok a s2 ∧ bd (restM T) (fun r => putF T (cur T s).lo { name := r.1, params := r.2.1, ty := r.2.2.1, body := r.2.2.2 }) s2 = .ok () s1 by
    unfold bd at h ⊢
    rw [e1] at h
    cases hx : nextP T s with
    | no c i => rw [hx] at h; cases h
    | ok a s2 => rw [hx] at h; exact ⟨a, s2, rfl, h⟩)
  obtain ⟨b, s2', f1, _, f3, f4, f5, f6, f7⟩ := simR_next hM hS hlt hl a s2 h1
  obtain ⟨r, s3, h3, h4⟩ := (show ∃ r s3, restM T s2 = .ok r s3 ∧ putF T (cur T s).lo { name := r.1, params := r.2.1, ty := r.2.2.1, body := r.2.2.2 } s3 = .ok () s1 by
    unfold bd at h2
    cases hx : restM T s2 with
    | no c i => rw [hx] at h2; cases h2
    | ok a s3 => rw [hx] at h2; exact ⟨a, s3, rfl, h2⟩)
  obtain ⟨r', s3', g1, g2, g3, g4, g5, g6, g7⟩ := sim_rest hM s2 s2' f3 (by omega) f4 (by omega) r s3 h3
  unfold putF at h4
  injection h4 with _ h5
  subst h5
  refine ⟨fun h32 => ⟨s'.at_, ?_⟩, fun h32 => ⟨{ s3' with fn := s3'.fn ++ [{ name := r'.1, params := r'.2.1, ty := r'.2.2.1, body := r'.2.2.2, lo := (cur T' s').lo, hi := Go.Proofs.YtccmodefjgjpeaaGreatDoor.lastHi T' s3' }] }, ?_, ?_⟩, g4, ?_, ?_, ?_, hlt, hi⟩
  · unfold functionM
    rw [if_pos (by rw [hi', h32]; rfl)]
  · rw [function_rest, if_neg (by rw [hi']; simpa using h32), bd_ok (e2.trans f1), bd_ok g1]
    rfl
  · obtain ⟨X, hX, hA⟩ := g3.fn
    refine ⟨g3.at_, g3.ex, g3.st, X ++ [{ name := r'.1, params := r'.2.1, ty := r'.2.2.1, body := r'.2.2.2, lo := (Go.Proofs.YtccmodefjgjpeaaGreatDoor.cur T' s').lo, hi := Go.Proofs.YtccmodefjgjpeaaGreatDoor.lastHi T' s3' }], ?_, hA.snoc ⟨?_, g3.lastHi hM (by omega) g4, fun z => ?_⟩⟩
    · show s3'.fn ++ _ = _
      rw [hX, List.append_assoc]
    · show (cur T' s').lo = (cur T s).lo + M.c
      rw [hS.cur hM hlt]
    · rw [g2 z, g3.lastHi hM (by omega) g4, hS.cur hM hlt, (hM.z0 z).1]; simp
  · show s3.st.length ≤ s3.at_
    omega
  · show s.at_ < s3.at_
    omega
  · show (s3.fn ++ [_]).length = _
    rw [List.length_append, g7, f7]; rfl
def idM : Mv := ⟨0, 0, [], [], [], false⟩
theorem all2_refl {α : Type} {R : α → α → Prop} (h : ∀ a, R a a) : ∀ l : List α, All2 R l l
  | [] => .nil
  | a :: l => .cons (h a) (all2_refl h l)
theorem rs_refl (s : Sg) : RS idM s s := ⟨by simp [idM], ⟨_, rfl, all2_refl (fun _ => ⟨rfl, rfl, rfl, fun h => by cases h⟩) _⟩, ⟨_, rfl, all2_refl (fun _ => ⟨rfl, rfl, rfl, fun h => by cases h⟩) _⟩, ⟨_, rfl, all2_refl (fun _ => ⟨rfl, rfl, fun h => by cases h⟩) _⟩⟩
theorem mv_refl (hM : MvOk M T T' n) : MvOk idM T T n where
  z0 h := by cases h
  ok := hM.ok
  len := hM.len
  len' := Nat.le_refl _
  tok i _ := by simp [idM]
  last := hM.last
  last' := by
    rw [show idM.m + n = n by simp [idM], hM.last.1, hM.last.2]
    exact ⟨⟨by decide, by decide⟩, .inl rfl⟩
  few := by have := hM.few; simp only [idM, List.length_nil]; omega
theorem fun_facts (hM : MvOk M T T' n) {s : Sg} (hn : s.at_ ≤ n) (hl : s.st.length ≤ s.at_) {s1 : Sg} (h : functionM T s = .ok () s1) :
    s1.at_ ≤ n ∧ s1.st.length ≤ s1.at_ ∧ s.at_ < s1.at_ ∧ s1.fn.length = s.fn.length + 1 ∧ s.at_ < n := by
  obtain ⟨_, _, h1, h2, h3, h4, h5, _⟩ := sim_function (mv_refl hM) (rs_refl s) hn hl h
  exact ⟨h1, h2, h3, h4, h5⟩
theorem programL_inv {k : Nat} {s s1 : Sg} (h : programL T (k + 1) s = .ok () s1) : (isK T 0 s = true ∧ s1 = s) ∨ (isK T 0 s = false ∧ ∃ s2, functionM T s = .ok () s2 ∧ programL T k s2 = .ok () s1) := by
  unfold programL at h
  cases hc : isK T 0 s with
  | true =>
    rw [hc] at h
    injection h with _ h1
    exact .inl ⟨rfl, h1.symm⟩
  | false =>
    rw [hc] at h
    unfold bd at h
    cases hx : functionM T s with
    | no c i => rw [if_neg (by decide), hx] at h; cases h
    | ok a s2 => rw [if_neg (by decide), hx] at h; exact .inr ⟨rfl, s2, rfl, h⟩
theorem prog_facts (hM : MvOk M T T' n) (h0 : ∀ i, i < n → (T.getD i ⟨0, 0, 0, []⟩).kind ≠ 0) : ∀ k s s1, s.at_ ≤ n → s.st.length ≤ s.at_ → programL T k s = .ok () s1 → s1.at_ = n ∧ s1.st.length ≤ s1.at_ ∧ s.at_ ≤ s1.at_ ∧ s.fn.length ≤ s1.fn.length
  | 0, _, _, _, _, h => by unfold programL at h; cases h
  | k + 1, s, s1, hn, hl, h => by
    rcases programL_inv h with ⟨hc, rfl⟩ | ⟨_, s2, h1, h2⟩
    · have he : s1.at_ = n := by
        rcases Nat.lt_or_ge s1.at_ n with hlt | hge
        · exact absurd (by unfold Go.Proofs.YtccmodefjgjpeaaGreatDoor.isK at hc; exact beq_iff_eq.1 hc) (h0 _ hlt)
        · omega
      exact ⟨he, hl, Nat.le_refl _, Nat.le_refl _⟩
    · obtain ⟨f1, f2, f3, f4, f5⟩ := fun_facts hM hn hl h1
      obtain ⟨i1, i2, i3, i4⟩ := prog_facts hM h0 k s2 s1 f1 f2 h2
      exact ⟨i1, i2, by omega, by omega⟩
/-- Functions up to the End. -/
theorem sim_programL (hM : MvOk M T T' n) (h0 : ∀ i, i < n → (T.getD i ⟨0, 0, 0, []⟩).kind ≠ 0) : ∀ k s s' s1, RS M s s' → s.at_ ≤ n → s.st.length ≤ s.at_ → programL T k s = .ok () s1 → ∀ k', s1.at_ - s.at_ < k' → s'.fn.length ≤ 32 →
    (M.F.length + s1.fn.length ≤ 32 → ∃ s1' k'', RS M s1 s1' ∧ k' ≤ k'' + (s1.at_ - s.at_) ∧ 0 < k'' ∧ programL T' k' s' = programL T' k'' s1') ∧ (32 < M.F.length + s1.fn.length → ∃ i, programL T' k' s' = .no 5 i)
  | 0, _, _, _, _, _, _, h, _, _, _ => by unfold programL at h; cases h
  | k + 1, s, s', s1, hS, hn, hl, h, k', hk, h32 => by
    have hfl := hS.fn_len
    have hpf := prog_facts hM h0 (k + 1) s s1 hn hl h
    rcases programL_inv h with ⟨hc, rfl⟩ | ⟨_, s2, h1, h2⟩
    · exact ⟨fun _ => ⟨s', k', hS, by omega, by omega, rfl⟩, fun hh => by omega⟩
    · obtain ⟨f1, f2, f3, f4, f5, f6, f7, f8⟩ := sim_function hM hS hn hl h1
      have hpf2 := prog_facts hM h0 k s2 s1 f3 f4 h2
      have hk0 : Go.Proofs.YtccmodefjgjpeaaGreatDoor.isK T' 0 s' = false := by
        unfold Go.Proofs.YtccmodefjgjpeaaGreatDoor.isK
        rw [hS.cur hM f7]
        exact beq_eq_false_iff_ne.2 (h0 _ f7)
      obtain ⟨k', rfl⟩ : ∃ j, k' = j + 1 := ⟨k' - 1, by omega⟩
      have hgo : programL T' (k' + 1) s' = bd (functionM T') (fun _ => programL T' k') s' := by
        conv => lhs; unfold programL
        rw [hk0]; rfl
      rw [hgo]
      by_cases hf : s'.fn.length = 32
      · obtain ⟨i, hi⟩ := f1 hf
        rw [bd_no hi]
        exact ⟨fun hh => by omega, fun _ => ⟨i, rfl⟩⟩
      · obtain ⟨s2', g1, g2⟩ := f2 hf
        rw [bd_ok g1]
        have hfl2 := g2.fn_len
        obtain ⟨i4, i5⟩ := sim_programL hM h0 k s2 s2' s1 g2 f3 f4 h2 k' (by omega) (by omega)
        refine ⟨fun hh => ?_, i5⟩
        obtain ⟨s1', k'', j1, j2, j3, j4⟩ := i4 hh
        have j5 : k' + 1 ≤ k'' + (s1.at_ - s.at_) := by clear i4 i5 f1 f2; omega
        exact ⟨s1', k'', j1, j5, j3, j4⟩
end
end Go.Proofs.YtccmodefjgjpeaaGreatDoor
