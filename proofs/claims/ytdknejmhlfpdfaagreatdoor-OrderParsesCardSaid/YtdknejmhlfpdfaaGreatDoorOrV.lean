/-
  A line's words, taken one by one from its head; what a text's runes pass over.
-/
import Derived.Test.YtdknejmhlfpdfaaGreatDoorOrM
import Derived.Laws.RangeAny
import Derived.Lib.IndexAny
namespace Go.Proofs.YtdknejmhlfpdfaaGreatDoor
open Go.RowKit

def isBk (c : UInt8) : Bool := c == 32 || c == 9
theorem isBk_iff {c : UInt8} : isBk c = true ↔ (c = 32 ∨ c = 9) := by simp [isBk]
/-- The first word of a line, and what is behind it. -/
def skB (t : List UInt8) : List UInt8 := t.dropWhile isBk
def hdW (t : List UInt8) : List UInt8 := (skB t).takeWhile fun c => !isBk c
def tlW (t : List UInt8) : List UInt8 := (skB t).drop (hdW t).length
theorem tw_drop (p : UInt8 → Bool) (t : List UInt8) : t.drop (t.takeWhile p).length = t.dropWhile p := by
  induction t with
  | nil => rfl
  | cons c r ih =>
    by_cases h : p c = true
    · rw [List.takeWhile_cons, List.dropWhile_cons, if_pos h, if_pos h]
      simpa using ih
    · rw [List.takeWhile_cons, List.dropWhile_cons, if_neg h, if_neg h]
      rfl
theorem tlW_eq (t : List UInt8) : tlW t = (skB t).dropWhile fun c => !isBk c := tw_drop _ _
theorem skB_split (t : List UInt8) : t.takeWhile isBk ++ (hdW t ++ tlW t) = t := by
  rw [tlW_eq, hdW, List.takeWhile_append_dropWhile, skB, List.takeWhile_append_dropWhile]
theorem skB_len (t : List UInt8) : (skB t).length ≤ t.length := (List.dropWhile_sublist _).length_le
theorem tlW_len (t : List UInt8) : (tlW t).length ≤ t.length := by
  have := skB_len t
  unfold tlW
  rw [List.length_drop]
  omega
theorem hdW_len (t : List UInt8) : (hdW t).length ≤ t.length := Nat.le_trans (List.takeWhile_sublist _).length_le (skB_len t)
theorem ws_pre (a : List UInt8) : ∀ (t : List UInt8) (l : List (List UInt8)) (q : Bool), (q = true → l ≠ []) → t.foldl wstep (a :: l, q) = (a :: (t.foldl wstep (l, q)).1, (t.foldl wstep (l, q)).2)
  | [], l, q, _ => rfl
  | c :: t, l, q, h => by
    rw [List.foldl_cons, List.foldl_cons]
    by_cases hc : c = 32 ∨ c = 9
    · rw [ws_blank _ hc, ws_blank _ hc]
      exact ws_pre a t l false (by simp)
    · cases q with
      | true =>
        obtain ⟨b, r, rfl⟩ : ∃ b r, l = b :: r := by
          cases l with
          | nil => exact absurd rfl (h rfl)
          | cons b r => exact ⟨b, r, rfl⟩
        have e : wstep (a :: b :: r, true) c = (a :: ((b :: r).dropLast ++ [(b :: r).getLastD [] ++ [c]]), true) := by unfold wstep; rw [if_neg hc, if_pos rfl]; rfl
        have e2 : wstep (b :: r, true) c = ((b :: r).dropLast ++ [(b :: r).getLastD [] ++ [c]], true) := by unfold wstep; rw [if_neg hc, if_pos rfl]
        rw [e, e2]
        exact ws_pre a t _ true (by simp)
      | false =>
        have e : wstep (a :: l, false) c = (a :: (l ++ [[c]]), true) := by unfold wstep; rw [if_neg hc]; rfl
        have e2 : wstep (l, false) c = (l ++ [[c]], true) := by unfold wstep; rw [if_neg hc]; rfl
        rw [e, e2]
        exact ws_pre a t _ true (by simp)
theorem tw_mem {p : UInt8 → Bool} {t : List UInt8} : ∀ c ∈ t.takeWhile p, p c = true := by
  induction t with
  | nil => intro c h; cases h
  | cons d r ih =>
    intro c h
    by_cases hd : p d = true
    · rw [List.takeWhile_cons, if_pos hd] at h
      rcases List.mem_cons.1 h with rfl | h
      · exact hd
      · exact ih c h
    · rw [List.takeWhile_cons, if_neg hd] at h; cases h
theorem dw_head {p : UInt8 → Bool} {t : List UInt8} {c : UInt8} {r : List UInt8} (h : t.dropWhile p = c :: r) : p c = false := by
  induction t with
  | nil => cases h
  | cons d x ih =>
    by_cases hd : p d = true
    · rw [List.dropWhile_cons, if_pos hd] at h; exact ih h
    · rw [List.dropWhile_cons, if_neg hd] at h
      injection h with h1 _
      subst h1
      simpa using hd
/-- A line's words are its first, and those of what is behind it. -/
theorem ws_next (t : List UInt8) : wsM t = if hdW t = [] then [] else hdW t :: wsM (tlW t) := by
  have hb : ∀ c ∈ t.takeWhile isBk, c = 32 ∨ c = 9 := fun c hc => isBk_iff.1 (tw_mem c hc)
  have hw : ∀ c ∈ hdW t, ¬ (c = 32 ∨ c = 9) := fun c hc h => by
    have := tw_mem c hc
    rw [isBk_iff.2 h] at this
    cases this
  conv => lhs; rw [← skB_split t]
  unfold wsM
  rw [wsS_append]
  unfold wsS
  rw [ws_blanks _ hb, List.foldl_append]
  by_cases h0 : hdW t = []
  · rw [if_pos h0, h0, List.foldl_nil]
    cases ht : tlW t with
    | nil => rfl
    | cons c r =>
      exfalso
      have h1 : skB t = c :: r := by
        unfold tlW at ht
        rw [h0] at ht
        simpa using ht
      have h2 := dw_head h1
      unfold hdW at h0
      rw [h1, List.takeWhile_cons, if_pos (by simp [h2])] at h0
      cases h0
  · rw [if_neg h0, ws_word0 _ h0 hw, List.nil_append]
    cases ht : tlW t with
    | nil => rfl
    | cons c r =>
      have h2 : isBk c = true := by
        rw [tlW_eq] at ht
        have := dw_head ht
        simpa using this
      rw [List.foldl_cons, List.foldl_cons, ws_blank _ (isBk_iff.1 h2), ws_blank _ (isBk_iff.1 h2)]
      rw [ws_pre _ r [] false (by simp)]
theorem ws_empty (t : List UInt8) : wsM t = [] ↔ hdW t = [] := by
  rw [ws_next]
  split
  · rename_i h; simp [h]
  · rename_i h; simp [h]
theorem ws_headD (t : List UInt8) : (wsM t).headD [] = hdW t := by
  rw [ws_next]
  split
  · rename_i h; rw [h]; rfl
  · rfl
theorem numO_nil : numO [] = none := by
  unfold numO
  rw [numM_long (by simp)]
theorem plM_nil : plM [] = none := by
  unfold plM
  rw [if_neg (by simp [isNm])]
/-- What a line says, by its words taken one by one. -/
theorem ordM_step (t : List UInt8) : ordM t = if 200 < t.length then (zO, 1) else
    if kindM (hdW t) = 0 then (zO, 16)
    else if kindM (hdW t) < 9 ∨ 15 < kindM (hdW t) then (if hdW (tlW t) = [] then (⟨kindM (hdW t), [], 0⟩, 0) else (zO, 3))
    else if kindM (hdW t) < 12 then (match numO (hdW (tlW t)) with | some n => if hdW (tlW (tlW t)) = [] then (⟨kindM (hdW t), [], n⟩, 0) else (zO, 3) | none => (zO, 3))
    else (match plM (hdW (tlW t)) with | some p => if hdW (tlW (tlW t)) = [] then (⟨kindM (hdW t), p.1, p.2⟩, 0) else (zO, 3) | none => (zO, 3)) := by
  unfold ordM
  split
  · rfl
  · unfold ordL
    rw [ws_headD]
    split
    · rfl
    · rename_i hk
      have h0 : hdW t ≠ [] := by
        intro h
        rw [h] at hk
        exact hk (kindM_of (k := 0) (by omega))
      rw [ws_next t, if_neg h0, List.length_cons]
      split
      · by_cases h1 : hdW (tlW t) = []
        · rw [if_pos h1, (ws_empty _).2 h1]
          rfl
        · rw [if_neg h1, if_neg]
          intro h
          exact h1 ((ws_empty _).1 (List.length_eq_zero_iff.1 (by omega)))
      · have hget : (hdW t :: wsM (tlW t)).getD 1 [] = hdW (tlW t) := by
          rw [← ws_headD (tlW t)]
          cases wsM (tlW t) <;> rfl
        rw [hget]
        by_cases h1 : hdW (tlW t) = []
        · rw [if_pos (by rw [(ws_empty _).2 h1]; decide), h1, numO_nil, plM_nil]
          split <;> rfl
        · rw [ws_next (tlW t), if_neg h1, List.length_cons]
          by_cases h2 : hdW (tlW (tlW t)) = []
          · rw [if_neg (by rw [(ws_empty _).2 h2]; decide)]
            simp only [if_pos h2]
            rfl
          · have hl : (wsM (tlW (tlW t))).length ≠ 0 := fun h => h2 ((ws_empty _).1 (List.length_eq_zero_iff.1 h))
            rw [if_pos (by omega)]
            simp only [if_neg h2]
            split <;> split <;> rfl
theorem trimLeft_skB (t : List UInt8) : t.dropWhile (fun b => [(32 : UInt8), 9].contains b) = skB t := by
  have : (fun b => [(32 : UInt8), 9].contains b) = isBk := by
    funext b
    simp [isBk, List.contains, List.elem]
    rcases h : b == 32 <;> rcases h2 : b == 9 <;> rfl
  rw [this, skB]
/-- What decoding at a place passes over: within the text; behind its first byte no blanks. -/
theorem decode_pass (s : ByteArray) (pos : Nat) (h : pos < s.size) : pos + (Utf8.decode s pos).2 ≤ s.size ∧ ∀ j, pos < j → j < pos + (Utf8.decode s pos).2 → ∀ (hj : j < s.size), 128 ≤ (s[j]'hj).toNat := by
  have g : ∀ k (hk : pos + k < s.size), s.get! (pos + k) = s[pos + k]'hk := fun k hk => by
    show s.get! (pos + k) = _
    simp [ByteArray.get!, getElem!_pos, hk]
    rfl
  simp only [Utf8.decode]
  repeat' split
  all_goals refine ⟨by simp_all; omega, fun j hj hj2 hjs => ?_⟩
  all_goals simp only at hj2
  all_goals first
    | omega
    | skip
  all_goals
    simp only [Bool.and_eq_true, decide_eq_true_eq, beq_iff_eq] at *
    obtain ⟨k, rfl⟩ : ∃ k, j = pos + k := ⟨j - pos, by omega⟩
    rw [← g k hjs]
    have : k = 1 ∨ k = 2 ∨ k = 3 := by omega
    rcases this with rfl | rfl | rfl <;> omega

end Go.Proofs.YtdknejmhlfpdfaaGreatDoor
