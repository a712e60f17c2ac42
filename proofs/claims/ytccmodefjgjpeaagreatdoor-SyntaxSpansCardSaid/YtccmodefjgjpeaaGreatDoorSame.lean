/-
  A comment behind a text changes nothing; two texts, one behind the other, have what both have.
-/
import Derived.Test.YtccmodefjgjpeaaGreatDoorSim
import Derived.Test.YtccmodefjgjpeaaGreatDoorMathN
import Derived.Test.YtccmodefjgjpeaaGreatDoorPRes
namespace Go.Proofs.YtccmodefjgjpeaaGreatDoor

theorem inner_kind {t : List UInt8} {pre : List Tok} (hq : ∀ x ∈ pre, Inner t 0 x) (i : Nat) (hi : i < pre.length) : pre[i].kind ≠ 0 := (hq _ (List.getElem_mem hi)).1
theorem getD_pre {α : Type} (d : α) (p q : List α) (i : Nat) (h : i < p.length) : (p ++ q).getD i d = p[i] := by
  rw [List.getD_eq_getElem?_getD, List.getElem?_append_left h, List.getElem?_eq_getElem h]; rfl
theorem getD_suf {α : Type} (d : α) (p q : List α) (i : Nat) : (p ++ q).getD (p.length + i) d = q.getD i d := by
  rw [List.getD_eq_getElem?_getD, List.getElem?_append_right (by omega), Nat.add_sub_cancel_left, List.getD_eq_getElem?_getD]
theorem programM_inv {T : List Tk} {s1 : Sg} (h : programM T start = .ok () s1) : ∃ s2, functionM T start = .ok () s2 ∧ programL T (T.length + 1) s2 = .ok () s1 := by
  unfold programM bd at h
  cases hx : functionM T start with
  | no c i => rw [hx] at h; cases h
  | ok a s2 => rw [hx] at h; exact ⟨s2, rfl, h⟩
/-- A program, from a state that lies elsewhere. -/
theorem sim_program {M : Mv} {T T' : List Tk} {n : Nat} (hM : MvOk M T T' n) (h0 : ∀ i, i < n → (T.getD i ⟨0, 0, 0, []⟩).kind ≠ 0) {s1 : Sg} (h : programM T start = .ok () s1) {s' : Sg} (hS : RS M start s') (hf : s'.fn.length ≤ 32) (k' : Nat) (hk : n < k') :
    s1.at_ = n ∧ s1.st.length ≤ n ∧ (M.F.length + s1.fn.length ≤ 32 → ∃ s1' k'', RS M s1 s1' ∧ k' + 1 ≤ k'' + n ∧ 0 < k'' ∧ bd (functionM T') (fun _ => programL T' k') s' = programL T' k'' s1') ∧ (32 < M.F.length + s1.fn.length → ∃ i, bd (functionM T') (fun _ => programL T' k') s' = .no 5 i) := by
  obtain ⟨s2, h1, h2⟩ := programM_inv h
  have ha : start.at_ = 0 := rfl
  have hst : start.st.length = 0 := rfl
  obtain ⟨f1, f2, f3, f4, f5, f6, f7, f8⟩ := sim_function hM hS (by omega) (by omega) h1
  obtain ⟨p1, p2, p3, p4⟩ := prog_facts hM h0 _ s2 s1 f3 f4 h2
  have hfl := hS.fn_len
  have hfs : start.fn.length = 0 := rfl
  refine ⟨p1, by omega, ?_⟩
  by_cases hx : s'.fn.length = 32
  · obtain ⟨i, hi⟩ := f1 hx
    rw [bd_no hi]
    exact ⟨fun hh => by omega, fun _ => ⟨i, rfl⟩⟩
  · obtain ⟨s2', g1, g2⟩ := f2 hx
    rw [bd_ok g1]
    have hfl2 := g2.fn_len
    obtain ⟨i4, i5⟩ := sim_programL hM h0 _ s2 s2' s1 g2 f3 f4 h2 k' (by omega) (by omega)
    refine ⟨fun hh => ?_, i5⟩
    obtain ⟨s1', k'', j1, j2, j3, j4⟩ := i4 hh
    have j5 : k' + 1 ≤ k'' + n := by clear i4 i5 f1 f2; omega
    exact ⟨s1', k'', j1, j5, j3, j4⟩
theorem rs_z {M : Mv} {s s' : Sg} (h : RS M s s') (hz : M.z = true) (hm : M.m = 0) (hE : M.E = []) (hS : M.S = []) (hF : M.F = []) : s' = s := by
  obtain ⟨X, h1, h2⟩ := h.ex
  obtain ⟨Y, h3, h4⟩ := h.st
  obtain ⟨Z, h5, h6⟩ := h.fn
  have e1 := h2.eq fun a b hab => hab.2.2.2 hz
  have e2 := h4.eq fun a b hab => hab.2.2.2 hz
  have e3 := h6.eq fun a b hab => hab.2.2 hz
  have ha := h.at_
  rw [hE, e1] at h1
  rw [hS, e2] at h3
  rw [hF, e3] at h5
  rw [hm] at ha
  cases s; cases s'
  simp_all
/-- A text's tokens and their bytes. -/
theorem tks_form (t : List UInt8) (h : (toks t 0).2 = none) : ∃ pre, (toks t 0).1 = pre ++ [⟨0, t.length, t.length⟩] ∧ (∀ x ∈ pre, Inner t 0 x) ∧ tksL t = pre.map (tkOf t) ++ [⟨0, t.length, t.length, []⟩] := by
  obtain ⟨pre, hp, hq⟩ := toks_tk t h
  refine ⟨pre, hp, hq, ?_⟩
  unfold tksL
  rw [hp, List.map_append]
  congr 1
  simp [tkOf, bytesOf]
theorem bytes_ahead (t q : List UInt8) (x : Tok) (h : x.hi ≤ t.length) : tkOf (t ++ q) x = tkOf t x := by
  unfold tkOf bytesOf
  rw [List.drop_append, List.take_append]
  have : x.hi - x.lo - (t.drop x.lo).length = 0 := by simp; omega
  rw [this, List.take_zero, List.append_nil]
theorem bytes_behind (p t : List UInt8) (x : Tok) : tkOf (p ++ t) (shift p.length x) = { tkOf t x with lo := (tkOf t x).lo + p.length, hi := (tkOf t x).hi + p.length } := by
  unfold tkOf bytesOf shift
  dsimp only
  rw [List.drop_append, List.drop_eq_nil_of_le (by omega), List.nil_append, show p.length + x.lo - p.length = x.lo by omega, show p.length + x.hi - (p.length + x.lo) = x.hi - x.lo by omega, Nat.add_comm p.length, Nat.add_comm p.length]
theorem parse_ok {t : List UInt8} {s : Sg} (h : parseT t = .good s) : (toks t 0).2 = none ∧ programM (tksL t) start = .ok () s := by
  unfold parseT at h
  cases hp : (toks t 0).2 with
  | some p => rw [hp] at h; cases h
  | none =>
    rw [hp] at h
    dsimp only at h
    cases hr : programM (tksL t) start with
    | no c i => rw [hr] at h; cases h
    | ok u s' =>
      rw [hr] at h
      injection h with h1
      subst h1
      exact ⟨rfl, rfl⟩
theorem start_rs (M : Mv) (hE : M.E = []) (hS : M.S = []) (hF : M.F = []) (hm : M.m = 0) : RS M start start :=
  ⟨by rw [hm]; rfl, ⟨[], by rw [hE]; rfl, .nil⟩, ⟨[], by rw [hS]; rfl, .nil⟩, ⟨[], by rw [hF]; rfl, .nil⟩⟩

/-- A comment behind. -/
theorem parse_tail (t c : List UInt8) (hc : ∀ d ∈ c, d ≠ 10) (hl : t.length ≤ 900) {s : Sg} (h : parseT t = .good s) (h32 : s.fn.length ≤ 32) : parseT (t ++ tailC c) = .good s := by
  obtain ⟨hn, hp⟩ := parse_ok h
  obtain ⟨pre, e1, hin, e2⟩ := tks_form t hn
  have ht := toks_tail t c hc _ 0 rfl (Nat.zero_le _) hn
  have hn' : (toks (t ++ tailC c) 0).2 = none := by rw [ht]
  have e3 : tksL (t ++ tailC c) = pre.map (tkOf t) ++ [⟨0, (t ++ tailC c).length, (t ++ tailC c).length, []⟩] := by
    unfold tksL
    rw [ht, e1, List.map_append, List.map_append]
    congr 1
    · rw [List.map_map]
      refine List.map_congr_left fun x hx => ?_
      obtain ⟨a1, a2, a3, _⟩ := hin x hx
      show tkOf (t ++ tailC c) (endTo _ x) = tkOf t x
      unfold endTo
      rw [if_neg a1, bytes_ahead _ _ _ a3]
    · simp [endTo, tkOf, bytesOf]
  have hlen := toks_len' t
  rw [e1] at hlen
  simp only [List.length_append, List.length_singleton] at hlen
  have hok := tksL_ok t hn
  rw [e2] at hp hok
  have hM : MvOk ⟨0, 0, [], [], [], true⟩ (pre.map (tkOf t) ++ [⟨0, t.length, t.length, []⟩]) (tksL (t ++ tailC c)) pre.length := by
    rw [e3]
    refine ⟨fun _ => ⟨rfl, rfl, rfl⟩, hok, by simp, by simp, fun i hi => ?_, ?_, ?_, by simp; omega⟩
    · rw [show (⟨0, 0, [], [], [], true⟩ : Mv).m + i = i from Nat.zero_add i, getD_pre _ _ _ i (by simpa using hi), getD_pre _ _ _ i (by simpa using hi)]
      rfl
    · have := getD_suf ⟨0, 0, 0, []⟩ (pre.map (tkOf t)) [⟨0, t.length, t.length, []⟩] 0
      rw [List.length_map, Nat.add_zero] at this
      rw [this]
      exact ⟨rfl, rfl⟩
    · have := getD_suf ⟨0, 0, 0, []⟩ (pre.map (tkOf t)) [⟨0, (t ++ tailC c).length, (t ++ tailC c).length, []⟩] 0
      rw [List.length_map, Nat.add_zero] at this
      rw [show (⟨0, 0, [], [], [], true⟩ : Mv).m + pre.length = pre.length from Nat.zero_add _, this]
      exact ⟨⟨Nat.zero_ne_one, Nat.ne_of_lt (Nat.zero_lt_succ 1)⟩, .inl rfl⟩
  have h0 : ∀ i, i < pre.length → ((pre.map (tkOf t) ++ [(⟨0, t.length, t.length, []⟩ : Tk)]).getD i ⟨0, 0, 0, []⟩).kind ≠ 0 := fun i hi => by
    rw [getD_pre _ _ _ i (by simpa using hi), List.getElem_map]
    exact inner_kind hin i hi
  have hTl : (tksL (t ++ tailC c)).length = pre.length + 1 := by rw [e3]; simp
  obtain ⟨p1, p2, p3, _⟩ := sim_program hM h0 hp (start_rs _ rfl rfl rfl rfl) (by decide) ((tksL (t ++ tailC c)).length + 1) (by omega)
  obtain ⟨s1', k'', j1, j2, j3, j4⟩ := p3 (by simpa using h32)
  have hs := rs_z j1 rfl rfl rfl rfl rfl
  subst hs
  have hend : isK (tksL (t ++ tailC c)) 0 s1' = true := by
    have := getD_suf ⟨0, 0, 0, []⟩ (pre.map (tkOf t)) [⟨0, (t ++ tailC c).length, (t ++ tailC c).length, []⟩] 0
    rw [List.length_map, Nat.add_zero] at this
    unfold isK cur
    rw [p1, e3, this]
    rfl
  have hpr : programM (tksL (t ++ tailC c)) start = .ok () s1' := by
    unfold programM
    rw [j4]
    obtain ⟨k, rfl⟩ : ∃ k, k'' = k + 1 := ⟨k'' - 1, by omega⟩
    unfold programL
    rw [if_pos hend]
  unfold parseT
  rw [hn', hpr]
end Go.Proofs.YtccmodefjgjpeaaGreatDoor
