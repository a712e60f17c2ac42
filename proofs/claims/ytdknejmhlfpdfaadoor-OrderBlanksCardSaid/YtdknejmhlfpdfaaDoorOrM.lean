/-
  A line's order (layer 18): its words; what it says; its own line.
-/
import Derived.Test.YtdknejmhlfpdfaaDoorOrN
import Derived.Test.YtdknejmhlfpdfaaDoorCoN
namespace Go.Proofs.YtdknejmhlfpdfaaDoor
open Go.RowKit

/-- One byte of a line more. -/
def wstep (s : List (List UInt8) × Bool) (c : UInt8) : List (List UInt8) × Bool :=
  if c = 32 ∨ c = 9 then (s.1, false) else if s.2 = true then (s.1.dropLast ++ [s.1.getLastD [] ++ [c]], true) else (s.1 ++ [[c]], true)
def wsS (t : List UInt8) : List (List UInt8) × Bool := t.foldl wstep ([], false)
/-- A line's words. -/
def wsM (t : List UInt8) : List (List UInt8) := (wsS t).1
def kw : List (List UInt8) := [[], [115, 116, 101, 112], [98, 97, 99, 107], [110, 101, 120, 116], [112, 114, 101, 118], [102, 105, 110, 105, 115, 104], [115, 116, 97, 114, 116], [114, 117, 110], [114, 101, 114, 117, 110], [103, 111], [98, 114, 101, 97, 107], [99, 108, 101, 97, 114], [119, 97, 116, 99, 104], [100, 114, 111, 112], [112, 114, 105, 110, 116], [119, 104, 121], [114, 101, 97, 99, 104, 101, 100], [115, 108, 105, 99, 101], [119, 104, 101, 114, 101], [108, 105, 115, 116], [113, 117, 105, 116]]
def kwB (k : Nat) : List UInt8 := kw.getD k []
def kindUp (w : List UInt8) : Nat → Nat
  | 0 => 0
  | k + 1 => if w = kwB (k + 1) then k + 1 else kindUp w k
def kindM (w : List UInt8) : Nat := kindUp w 20
structure OrdM where
  kind : Int
  name : List UInt8
  num : Int
def zO : OrdM := ⟨0, [], 0⟩
def numO (t : List UInt8) : Option Int := match numM t with | some n => if 0 ≤ n ∧ n ≤ 999999 then some n else none | none => none
def plM (t : List UInt8) : Option (List UInt8 × Int) :=
  if isNm (t.takeWhile (· != 91)) = true then
    if (t.takeWhile (· != 91)).length = t.length then some (t, -1)
    else if (t.drop ((t.takeWhile (· != 91)).length + 1)).getLast? = some 93 then
      (numO (t.drop ((t.takeWhile (· != 91)).length + 1)).dropLast).map fun n => (t.takeWhile (· != 91), n)
    else none
  else none
def ordL (l : List (List UInt8)) : OrdM × Nat :=
  if kindM (l.headD []) = 0 then (zO, 16)
  else if kindM (l.headD []) < 9 ∨ 15 < kindM (l.headD []) then (if l.length = 1 then (⟨kindM (l.headD []), [], 0⟩, 0) else (zO, 3))
  else if l.length ≠ 2 then (zO, 3)
  else if kindM (l.headD []) < 12 then (match numO (l.getD 1 []) with | some n => (⟨kindM (l.headD []), [], n⟩, 0) | none => (zO, 3))
  else (match plM (l.getD 1 []) with | some p => (⟨kindM (l.headD []), p.1, p.2⟩, 0) | none => (zO, 3))
/-- What a line says: its order, or what is wrong. -/
def ordM (t : List UInt8) : OrdM × Nat := if 200 < t.length then (zO, 1) else ordL (wsM t)
def placeT (n : List UInt8) (i : Int) : List UInt8 := n ++ if 0 ≤ i then 91 :: (Lib.itoa i ++ [93]) else []
def txtO (o : OrdM) : List UInt8 :=
  if 9 ≤ o.kind ∧ o.kind < 12 then kwB o.kind.toNat ++ 32 :: Lib.itoa o.num
  else if 12 ≤ o.kind ∧ o.kind < 16 then kwB o.kind.toNat ++ 32 :: placeT o.name o.num
  else kwB o.kind.toNat
def GoodO (o : OrdM) : Prop :=
  (1 ≤ o.kind ∧ o.kind ≤ 20) ∧ (if 9 ≤ o.kind ∧ o.kind < 12 then o.name = [] ∧ 0 ≤ o.num ∧ o.num ≤ 999999
    else if 12 ≤ o.kind ∧ o.kind < 16 then isNm o.name = true ∧ -1 ≤ o.num ∧ o.num ≤ 999999 ∧ (txtO o).length ≤ 200
    else o.name = [] ∧ o.num = 0)

theorem wsS_append (a b : List UInt8) : wsS (a ++ b) = b.foldl wstep (wsS a) := by unfold wsS; rw [List.foldl_append]
theorem wsS_snoc (a : List UInt8) (c : UInt8) : wsS (a ++ [c]) = wstep (wsS a) c := by rw [wsS_append]; rfl
theorem wstep_in {s : List (List UInt8) × Bool} (_h : s.2 = true → s.1 ≠ []) (c : UInt8) : (wstep s c).2 = true → (wstep s c).1 ≠ [] := by
  unfold wstep
  split
  · intro h; cases h
  · split <;> intro _ <;> simp
theorem wsF_in (t : List UInt8) : ∀ s : List (List UInt8) × Bool, (s.2 = true → s.1 ≠ []) → ((t.foldl wstep s).2 = true → (t.foldl wstep s).1 ≠ []) := by
  induction t with
  | nil => exact fun s h => h
  | cons c r ih => exact fun s h => ih _ (wstep_in h c)
theorem wsS_in (t : List UInt8) : (wsS t).2 = true → (wsS t).1 ≠ [] := wsF_in t _ (by simp)
/-- How much a line's words take, with a blank each. -/
def wgt : List (List UInt8) → Nat
  | [] => 0
  | a :: r => a.length + 1 + wgt r
theorem wgt_append (a b : List (List UInt8)) : wgt (a ++ b) = wgt a + wgt b := by
  induction a with
  | nil => simp [wgt]
  | cons x r ih => simp only [List.cons_append, wgt, ih]; omega
theorem last_split {l : List (List UInt8)} (h : l ≠ []) : l = l.dropLast ++ [l.getLastD []] := by
  rw [List.getLastD_eq_getLast?, List.getLast?_eq_some_getLast h]
  exact (List.dropLast_concat_getLast h).symm
theorem wgt_step {s : List (List UInt8) × Bool} (h : s.2 = true → s.1 ≠ []) (c : UInt8) (n : Nat) (hn : wgt s.1 ≤ n + if s.2 = true then 1 else 0) : wgt (wstep s c).1 ≤ (n + 1) + if (wstep s c).2 = true then 1 else 0 := by
  unfold wstep
  split
  · split at hn <;> simp <;> omega
  · split
    · rename_i h2
      rw [if_pos h2] at hn
      rw [last_split (h h2), wgt_append] at hn
      simp only [wgt, if_true] at hn ⊢
      rw [wgt_append]
      simp only [wgt, List.length_append, List.length_cons, List.length_nil]
      omega
    · rename_i h2
      rw [if_neg h2] at hn
      simp only [if_true]
      rw [wgt_append]
      simp only [wgt, List.length_cons, List.length_nil]
      omega
theorem wgt_fold (t : List UInt8) : ∀ (s : List (List UInt8) × Bool) (n : Nat), (s.2 = true → s.1 ≠ []) → (wgt s.1 ≤ n + if s.2 = true then 1 else 0) → wgt (t.foldl wstep s).1 ≤ (n + t.length) + if (t.foldl wstep s).2 = true then 1 else 0 := by
  induction t with
  | nil => exact fun s n _ h => h
  | cons c r ih =>
    intro s n h hn
    have := ih (wstep s c) (n + 1) (wstep_in h c) (wgt_step h c n hn)
    rw [List.foldl_cons, List.length_cons]
    refine Nat.le_trans this ?_
    omega
theorem wgt_ws (t : List UInt8) : wgt (wsM t) ≤ t.length + 1 := by
  have := wgt_fold t ([], false) 0 (by simp) (by simp [wgt])
  refine Nat.le_trans this ?_
  split <;> omega
theorem ws_len (t : List UInt8) : (wsM t).length ≤ t.length := by
  have key : ∀ (t : List UInt8) (s : List (List UInt8) × Bool), (s.2 = true → s.1 ≠ []) → (t.foldl wstep s).1.length ≤ s.1.length + t.length := by
    intro t
    induction t with
    | nil => exact fun s _ => Nat.le_refl _
    | cons c r ih =>
      intro s h
      have := ih (wstep s c) (wstep_in h c)
      have h2 : (wstep s c).1.length ≤ s.1.length + 1 := by
        unfold wstep
        split
        · simp
        · split
          · rename_i h2
            have hne := h h2
            have := List.length_pos_iff.2 hne
            simp only [List.length_append, List.length_dropLast, List.length_cons, List.length_nil]
            omega
          · simp
      rw [List.foldl_cons, List.length_cons]
      omega
  have := key t ([], false) (by simp)
  simpa [wsM, wsS] using this
/-- A word without blanks is taken whole. -/
theorem ws_word (w : List UInt8) (hw : ∀ c ∈ w, ¬ (c = 32 ∨ c = 9)) (l : List (List UInt8)) (a : List UInt8) : w.foldl wstep (l ++ [a], true) = (l ++ [a ++ w], true) := by
  induction w generalizing a with
  | nil => simp
  | cons c r ih =>
    rw [List.foldl_cons]
    have e : wstep (l ++ [a], true) c = (l ++ [a ++ [c]], true) := by
      unfold wstep
      rw [if_neg (hw c (List.mem_cons_self))]
      simp
    rw [e, ih (fun d hd => hw d (List.mem_cons_of_mem _ hd))]
    simp
theorem ws_word0 (w : List UInt8) (hn : w ≠ []) (hw : ∀ c ∈ w, ¬ (c = 32 ∨ c = 9)) (l : List (List UInt8)) : w.foldl wstep (l, false) = (l ++ [w], true) := by
  cases w with
  | nil => exact absurd rfl hn
  | cons c r =>
    rw [List.foldl_cons]
    have e : wstep (l, false) c = (l ++ [[c]], true) := by
      unfold wstep
      rw [if_neg (hw c (List.mem_cons_self))]
      simp
    rw [e, ws_word r (fun d hd => hw d (List.mem_cons_of_mem _ hd))]
    simp
theorem ws_blanks (b : List UInt8) (hb : ∀ c ∈ b, c = 32 ∨ c = 9) (l : List (List UInt8)) : b.foldl wstep (l, false) = (l, false) := by
  induction b with
  | nil => rfl
  | cons c r ih =>
    rw [List.foldl_cons]
    have e : wstep (l, false) c = (l, false) := by unfold wstep; rw [if_pos (hb c (List.mem_cons_self))]
    rw [e, ih (fun d hd => hb d (List.mem_cons_of_mem _ hd))]
theorem ws_blank (s : List (List UInt8) × Bool) {c : UInt8} (hc : c = 32 ∨ c = 9) : wstep s c = (s.1, false) := by unfold wstep; rw [if_pos hc]
theorem ws_one {w : List UInt8} (hn : w ≠ []) (hw : ∀ c ∈ w, ¬ (c = 32 ∨ c = 9)) : wsM w = [w] := by unfold wsM wsS; rw [ws_word0 w hn hw]; rfl
theorem ws_two {a b : List UInt8} (ha : a ≠ []) (hb : b ≠ []) (h1 : ∀ c ∈ a, ¬ (c = 32 ∨ c = 9)) (h2 : ∀ c ∈ b, ¬ (c = 32 ∨ c = 9)) : wsM (a ++ 32 :: b) = [a, b] := by
  unfold wsM
  rw [wsS_append, List.foldl_cons]
  unfold wsS
  rw [ws_word0 a ha h1, ws_blank _ (.inl rfl), ws_word0 b hb h2]
  rfl
/-- Blanks ahead and behind change nothing. -/
theorem ws_around (b t d : List UInt8) (hb : ∀ c ∈ b, c = 32 ∨ c = 9) (hd : ∀ c ∈ d, c = 32 ∨ c = 9) : wsM (b ++ t ++ d) = wsM t := by
  have hx : ∀ (d : List UInt8) (s : List (List UInt8) × Bool), (∀ c ∈ d, c = 32 ∨ c = 9) → (d.foldl wstep s).1 = s.1 := by
    intro d s hd
    cases d with
    | nil => rfl
    | cons c r =>
      rw [List.foldl_cons, ws_blank s (hd c (List.mem_cons_self)), ws_blanks r (fun e he => hd e (List.mem_cons_of_mem _ he))]
  unfold wsM
  rw [wsS_append, hx d _ hd, wsS_append]
  congr 1
  unfold wsS
  rw [ws_blanks b hb]
/-- Each blank of a line with some more behind it. -/
def moreB (b : List UInt8) : List UInt8 → List UInt8
  | [] => []
  | c :: r => if c = 32 ∨ c = 9 then c :: (b ++ moreB b r) else c :: moreB b r
theorem ws_more (b : List UInt8) (hb : ∀ c ∈ b, c = 32 ∨ c = 9) (t : List UInt8) : ∀ s : List (List UInt8) × Bool, (moreB b t).foldl wstep s = t.foldl wstep s := by
  induction t with
  | nil => exact fun s => rfl
  | cons c r ih =>
    intro s
    unfold moreB
    split
    · rename_i h
      rw [List.foldl_cons, List.foldl_cons, List.foldl_append, ws_blank s h, ws_blanks b hb, ih]
    · rw [List.foldl_cons, List.foldl_cons, ih]
theorem ws_moreAll (b : List UInt8) (hb : ∀ c ∈ b, c = 32 ∨ c = 9) (t : List UInt8) : wsM (b ++ moreB b t ++ b) = wsM t := by
  rw [ws_around b _ b hb hb]
  unfold wsM wsS
  rw [ws_more b hb]
theorem kind_le (w : List UInt8) : ∀ k, kindUp w k ≤ k
  | 0 => Nat.le_refl _
  | k + 1 => by
    have := kind_le w k
    unfold kindUp
    split <;> omega
theorem kindUp_word (w : List UInt8) : ∀ k, kindUp w k ≠ 0 → w = kwB (kindUp w k)
  | 0, h => absurd rfl h
  | k + 1, h => by
    unfold kindUp at h ⊢
    split
    · rename_i e; exact e
    · rename_i e
      rw [if_neg e] at h
      exact kindUp_word w k h
theorem kindM_le (w : List UInt8) : kindM w ≤ 20 := kind_le w 20
theorem kindM_word {w : List UInt8} (h : kindM w ≠ 0) : w = kwB (kindM w) := kindUp_word w 20 h
set_option maxRecDepth 100000 in
theorem kindM_kw : ∀ k : Fin 21, kindM (kwB k.1) = k.1 := by decide
theorem kindM_of {k : Nat} (h : k ≤ 20) : kindM (kwB k) = k := kindM_kw ⟨k, by omega⟩
set_option maxRecDepth 100000 in
theorem kw_word : ∀ k : Fin 21, (∀ c ∈ kwB k.1, ¬ (c = 32 ∨ c = 9)) ∧ (kwB k.1).length ≤ 7 ∧ (k.1 ≠ 0 → kwB k.1 ≠ []) := by decide
theorem numO_some {t : List UInt8} {n : Int} (h : numO t = some n) : Lib.itoa n = t ∧ 0 ≤ n ∧ n ≤ 999999 := by
  unfold numO at h
  split at h
  · rename_i m hm
    split at h
    · rename_i hb
      obtain rfl := Option.some.inj h
      exact ⟨(numM_some' hm).1, hb⟩
    · cases h
  · cases h
theorem numO_itoa {n : Int} (h : 0 ≤ n ∧ n ≤ 999999) : numO (Lib.itoa n) = some n := by
  unfold numO
  rw [numM_itoa n (by unfold i64; omega)]
  simp only
  rw [if_pos h]
set_option maxRecDepth 100000 in
theorem isAl_no : ∀ c : UInt8, isAl c = true → ¬ (c = 32 ∨ c = 9) ∧ (c != 91) = true := by
  have key : ∀ n : Fin 256, isAl (UInt8.ofNat n.1) = true → ¬ (UInt8.ofNat n.1 = 32 ∨ UInt8.ofNat n.1 = 9) ∧ (UInt8.ofNat n.1 != 91) = true := by decide
  intro c h
  have := key ⟨c.toNat, c.toNat_lt⟩
  simpa using this (by simpa using h)
theorem isNm_al {t : List UInt8} (h : isNm t = true) : t ≠ [] ∧ ∀ c ∈ t, isAl c = true := by
  cases t with
  | nil => simp [isNm] at h
  | cons c r =>
    unfold isNm at h
    simp only [Bool.and_eq_true, List.all_eq_true] at h
    refine ⟨by simp, fun d hd => ?_⟩
    rcases List.mem_cons.1 hd with rfl | hd
    · simp [isAl, h.1.1]
    · exact h.1.2 d hd
theorem takeW_all {p : UInt8 → Bool} {a : List UInt8} (h : ∀ c ∈ a, p c = true) : a.takeWhile p = a := by
  induction a with
  | nil => rfl
  | cons c r ih => rw [List.takeWhile_cons, if_pos (h c (List.mem_cons_self)), ih (fun d hd => h d (List.mem_cons_of_mem _ hd))]
theorem takeW_at {p : UInt8 → Bool} {a : List UInt8} (h : ∀ c ∈ a, p c = true) {d : UInt8} (hd : p d = false) (r : List UInt8) : (a ++ d :: r).takeWhile p = a := by
  induction a with
  | nil => simp [hd]
  | cons c x ih => rw [List.cons_append, List.takeWhile_cons, if_pos (h c (List.mem_cons_self)), ih (fun e he => h e (List.mem_cons_of_mem _ he))]
theorem plM_place {n : List UInt8} {i : Int} (hn : isNm n = true) (hi : -1 ≤ i ∧ i ≤ 999999) : plM (placeT n i) = some (n, i) := by
  have h91 : ∀ c ∈ n, (c != 91) = true := fun c hc => (isAl_no c ((isNm_al hn).2 c hc)).2
  unfold placeT plM
  by_cases h0 : 0 ≤ i
  · rw [if_pos h0, takeW_at h91 (by decide), if_pos hn, if_neg (by simp)]
    have e : (n ++ 91 :: (Lib.itoa i ++ [93])).drop (n.length + 1) = Lib.itoa i ++ [93] := by
      rw [List.drop_append]
      simp
    rw [e, if_pos (by simp), List.dropLast_concat, numO_itoa ⟨h0, hi.2⟩]
    rfl
  · rw [if_neg h0, List.append_nil, takeW_all h91, if_pos hn, if_pos rfl]
    have : i = -1 := by omega
    rw [this]
theorem takeW_drop {p : UInt8 → Bool} (t : List UInt8) (h : (t.takeWhile p).length ≠ t.length) : ∃ d r, p d = false ∧ t = t.takeWhile p ++ d :: r := by
  induction t with
  | nil => simp at h
  | cons c x ih =>
    by_cases hc : p c = true
    · rw [List.takeWhile_cons, if_pos hc] at h ⊢
      obtain ⟨d, r, h1, h2⟩ := ih (by simpa using h)
      exact ⟨d, r, h1, by rw [List.cons_append, ← h2]⟩
    · exact ⟨c, x, by simpa using hc, by rw [List.takeWhile_cons, if_neg hc]; rfl⟩
theorem plM_some {t n : List UInt8} {i : Int} (h : plM t = some (n, i)) : t = placeT n i ∧ isNm n = true ∧ -1 ≤ i ∧ i ≤ 999999 := by
  unfold plM at h
  split at h
  · rename_i hn
    split at h
    · rename_i hl
      injection h with h
      injection h with h1 h2
      have he : t.takeWhile (· != 91) = t := (List.takeWhile_prefix _).eq_of_length hl
      rw [he] at hn
      subst h1 h2
      exact ⟨by simp [placeT], hn, by omega, by omega⟩
    · rename_i hl
      split at h
      · rename_i h93
        obtain ⟨d, r, hd, he⟩ := takeW_drop t hl
        have hd : d = 91 := by simpa using hd
        subst hd
        generalize t.takeWhile (· != 91) = m at *
        subst he
        have e : (m ++ 91 :: r).drop (m.length + 1) = r := by rw [List.drop_append]; simp
        rw [e] at h93 h
        have hr : r.dropLast ++ [93] = r := by
          have hne : r ≠ [] := by rintro rfl; simp at h93
          rw [List.getLast?_eq_some_getLast hne] at h93
          have := List.dropLast_concat_getLast hne
          rw [Option.some.inj h93] at this
          exact this
        cases hN : numO r.dropLast with
        | none => rw [hN] at h; cases h
        | some k =>
          rw [hN] at h
          injection h with h
          injection h with h1 h2
          subst h1 h2
          obtain ⟨e1, e2, e3⟩ := numO_some hN
          refine ⟨?_, hn, by omega, e3⟩
          unfold placeT
          rw [if_pos e2, e1, hr]
      · cases h
  · cases h
theorem itoa_blank (n : Int) : Lib.itoa n ≠ [] ∧ ∀ c ∈ Lib.itoa n, ¬ (c = 32 ∨ c = 9) := by
  refine ⟨fun h => ?_, fun c hc h => ?_⟩
  · unfold Lib.itoa at h
    split at h
    · cases h
    · exact decD_ne _ h
  · rcases itoa_bytes n c hc with e | e
    · subst e; revert h; decide
    · rcases h with rfl | rfl <;> revert e <;> decide
theorem place_blank {n : List UInt8} {i : Int} (hn : isNm n = true) : placeT n i ≠ [] ∧ ∀ c ∈ placeT n i, ¬ (c = 32 ∨ c = 9) := by
  obtain ⟨h0, h1⟩ := isNm_al hn
  refine ⟨fun h => ?_, fun c hc => ?_⟩
  · unfold placeT at h
    exact h0 (List.append_eq_nil_iff.1 h).1
  · unfold placeT at hc
    rcases List.mem_append.1 hc with hc | hc
    · exact (isAl_no c (h1 c hc)).1
    · split at hc
      · rcases List.mem_cons.1 hc with rfl | hc
        · decide
        · rcases List.mem_append.1 hc with hc | hc
          · exact (itoa_blank i).2 c hc
          · rcases List.mem_singleton.1 hc with rfl
            decide
      · cases hc
theorem itoa_short {n : Int} (h : 0 ≤ n ∧ n ≤ 999999) : (Lib.itoa n).length ≤ 6 := by
  rw [itoa_pos (by omega)]
  exact decD_len 5 n.toNat (by omega)
/-- A good order's line is parsed as it. -/
theorem ord_txt {o : OrdM} (h : GoodO o) : ordM (txtO o) = (o, 0) ∧ (txtO o).length ≤ 200 := by
  obtain ⟨k, nm, i⟩ := o
  obtain ⟨⟨hk0, hk1⟩, h⟩ := h
  obtain ⟨j, rfl⟩ : ∃ j : Nat, k = (j : Int) := ⟨k.toNat, by simp only at hk0; omega⟩
  simp only at hk0 hk1
  obtain ⟨w1, w2, w3⟩ := kw_word ⟨j, by omega⟩
  simp only at w1 w2 w3
  have w3 := w3 (by omega)
  have hK : kindM (kwB j) = j := kindM_of (by omega)
  by_cases h9 : 9 ≤ (j : Int) ∧ (j : Int) < 12
  · rw [if_pos h9] at h
    obtain ⟨rfl, n0, n1⟩ := h
    have ht : txtO ⟨j, [], i⟩ = kwB j ++ 32 :: Lib.itoa i := by unfold txtO; rw [if_pos h9]; rfl
    have hL := itoa_short (n := i) ⟨n0, n1⟩
    have hlen : (txtO ⟨j, [], i⟩).length ≤ 200 := by rw [ht]; simp; omega
    refine ⟨?_, hlen⟩
    unfold ordM
    rw [if_neg (by omega), ht, ws_two w3 (itoa_blank i).1 w1 (itoa_blank i).2]
    unfold ordL
    simp only [List.headD_cons, List.length_cons, List.length_nil, hK]
    rw [if_neg (by omega), if_neg (by omega), if_neg (by omega), if_pos (by omega)]
    have e : [kwB j, Lib.itoa i].getD 1 [] = Lib.itoa i := rfl
    rw [e, numO_itoa ⟨n0, n1⟩]
  · rw [if_neg h9] at h
    by_cases h12 : 12 ≤ (j : Int) ∧ (j : Int) < 16
    · rw [if_pos h12] at h
      obtain ⟨hn, n0, n1, hlen⟩ := h
      have ht : txtO ⟨j, nm, i⟩ = kwB j ++ 32 :: placeT nm i := by unfold txtO; rw [if_neg h9, if_pos h12]; rfl
      refine ⟨?_, hlen⟩
      unfold ordM
      rw [if_neg (by omega), ht, ws_two w3 (place_blank hn).1 w1 (place_blank hn).2]
      unfold ordL
      simp only [List.headD_cons, List.length_cons, List.length_nil, hK]
      rw [if_neg (by omega), if_neg (by omega), if_neg (by omega), if_neg (by omega)]
      have e : [kwB j, placeT nm i].getD 1 [] = placeT nm i := rfl
      rw [e, plM_place hn ⟨n0, n1⟩]
    · rw [if_neg h12] at h
      obtain ⟨rfl, rfl⟩ := h
      have ht : txtO ⟨j, [], 0⟩ = kwB j := by unfold txtO; rw [if_neg h9, if_neg h12]; rfl
      refine ⟨?_, by rw [ht]; omega⟩
      unfold ordM
      rw [if_neg (by rw [ht]; omega), ht, ws_one w3 w1]
      unfold ordL
      simp only [List.headD_cons, List.length_cons, List.length_nil, hK]
      rw [if_neg (by omega), if_pos (by omega), if_pos trivial]
/-- What is parsed is good. -/
theorem ord_good {t : List UInt8} {o : OrdM} (h : ordM t = (o, 0)) : GoodO o := by
  unfold ordM at h
  split at h
  · cases h
  · rename_i hlen
    have hw := wgt_ws t
    generalize wsM t = l at *
    unfold ordL at h
    split at h
    · cases h
    · rename_i hk
      have hle := kindM_le (l.headD [])
      have hwd := kindM_word hk
      generalize hK : kindM (l.headD []) = k at *
      split at h
      · rename_i hb
        split at h
        · injection h with h1 h2
          subst h1
          refine ⟨⟨by simp only; omega, by simp only; omega⟩, ?_⟩
          rw [if_neg (by simp only; omega), if_neg (by simp only; omega)]
          exact ⟨rfl, rfl⟩
        · cases h
      · rename_i hb
        split at h
        · cases h
        · rename_i h2
          have h2 : l.length = 2 := by omega
          obtain ⟨a, b, rfl⟩ : ∃ a b, l = [a, b] := by
            match l, h2 with
            | [a, b], _ => exact ⟨a, b, rfl⟩
          simp only [List.headD_cons] at hwd
          subst hwd
          have e : [kwB k, b].getD 1 [] = b := rfl
          rw [e] at h
          simp only [wgt] at hw
          split at h
          · rename_i h12
            split at h
            · rename_i n hn
              injection h with h1 _
              subst h1
              obtain ⟨_, n0, n1⟩ := numO_some hn
              refine ⟨⟨by simp only; omega, by simp only; omega⟩, ?_⟩
              rw [if_pos (by simp only; omega)]
              exact ⟨rfl, n0, n1⟩
            · cases h
          · rename_i h12
            split at h
            · rename_i p hp
              obtain ⟨n, i⟩ := p
              injection h with h1 _
              subst h1
              obtain ⟨hb2, hn, n0, n1⟩ := plM_some hp
              refine ⟨⟨by simp only; omega, by simp only; omega⟩, ?_⟩
              rw [if_neg (by simp only; omega), if_pos (by simp only; omega)]
              refine ⟨hn, n0, n1, ?_⟩
              unfold txtO
              rw [if_neg (by simp only; omega), if_pos (by simp only; omega)]
              simp only [List.length_append, List.length_cons, Int.toNat_natCast]
              rw [← hb2]
              omega
            · cases h
theorem txtO_inj {a b : OrdM} (ha : GoodO a) (hb : GoodO b) (h : txtO a = txtO b) : a = b := by
  have h1 := (ord_txt ha).1
  rw [h, (ord_txt hb).1] at h1
  injection h1 with h1 _
  exact h1.symm
theorem txtO_ne {a : OrdM} (ha : GoodO a) : txtO a ≠ [] := by
  obtain ⟨⟨h0, h1⟩, _⟩ := ha
  have w := (kw_word ⟨a.kind.toNat, by omega⟩).2.2 (by simp only; omega)
  unfold txtO
  split
  · simp
  · split
    · simp
    · exact w

end Go.Proofs.YtdknejmhlfpdfaaDoor
