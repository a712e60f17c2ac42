/-
  A world's text (layer 12): numbers as texts; a line's parts; the text of a world; it is parsed as it.
-/
import Derived.WalkKit
import Derived.Lib.AtoiAll
import Derived.Lib.ItoaNum
import Derived.Lib.ItoaLen
import Derived.Lib.Join
import Derived.Lib.Bytealg
namespace Go.Proofs.YtoailhkaenofpaaDoor
open Go.RowKit

def bs (l : List UInt8) : ByteArray := ⟨l.toArray⟩
theorem bs_toList (l : List UInt8) : (bs l).data.toList = l := by simp [bs]
theorem bs_eq {s : ByteArray} {l : List UInt8} : s = bs l ↔ s.data.toList = l := by
  constructor
  · rintro rfl; exact bs_toList l
  · rintro rfl; rfl
theorem bs_size (l : List UInt8) : (bs l).size = l.length := by show l.toArray.size = _; simp
theorem ret_bool {a b : Bool} (h : a = b) : Ending.returned (.bool a) = .returned (.bool b) := by rw [h]
/-- Values that fit. -/
def i64 (n : Int) : Prop := -9223372036854775808 ≤ n ∧ n ≤ 9223372036854775807
/-- The int that a text tells, just as ints are told. -/
def numM (t : List UInt8) : Option Int := match Lib.atoiAll t with | .ok v => if Lib.itoa v = t then some v else none | _ => none
def numsM : List (List UInt8) → Option (List Int)
  | [] => some []
  | t :: r => match numM t with | some n => (match numsM r with | some l => some (n :: l) | none => none) | none => none
/-- A text's parts between blanks. -/
def splitL : List UInt8 → List (List UInt8)
  | [] => [[]]
  | c :: r => if c = 32 then [] :: splitL r else match splitL r with | [] => [[c]] | h :: t => (c :: h) :: t
theorem atoi_i64 {t : List UInt8} {v : Int} (h : Lib.atoiAll t = .ok v) : i64 v := by
  cases t with
  | nil => cases h
  | cons c r =>
    simp only [Lib.atoiAll] at h
    split at h
    · cases h
    · cases h
    · rename_i u hu
      split at h
      · cases h
      · split at h
        · cases h
        · injection h with h
          subst h
          unfold i64
          split <;> omega
theorem numsM_snoc (a : List (List UInt8)) (t : List UInt8) : numsM (a ++ [t]) = match numsM a, numM t with | some l, some n => some (l ++ [n]) | _, _ => none := by
  induction a with
  | nil => simp [numsM]; cases numM t <;> rfl
  | cons x r ih =>
    simp only [List.cons_append, numsM, ih]
    cases numM x with
    | none => rfl
    | some y =>
      cases numsM r with
      | none => rfl
      | some l => cases numM t <;> rfl
theorem numsM_some (a : List (List UInt8)) (t : List UInt8) (l : List Int) (n : Int) (h1 : numsM a = some l) (h2 : numM t = some n) : numsM (a ++ [t]) = some (l ++ [n]) := by rw [numsM_snoc, h1, h2]
theorem numsM_none : ∀ (l : List (List UInt8)) (k : Nat) (h : k < l.length), numM l[k] = none → numsM l = none
  | [], k, h, _ => by simp at h
  | t :: r, 0, _, h0 => by
    simp only [numsM]
    rw [show numM t = none from h0]
  | t :: r, k + 1, h, h0 => by
    have := numsM_none r k (by simpa using h) (by simpa using h0)
    simp only [numsM, this]
    cases numM t <;> rfl
theorem numsM_len : ∀ (l : List (List UInt8)) (o : List Int), numsM l = some o → o.length = l.length
  | [], o, h => by simp [numsM] at h; subst h; rfl
  | t :: r, o, h => by
    simp only [numsM] at h
    cases ht : numM t with
    | none => rw [ht] at h; cases h
    | some n =>
      cases hr : numsM r with
      | none => rw [ht, hr] at h; cases h
      | some l =>
        rw [ht, hr] at h
        obtain rfl := Option.some.inj h
        have := numsM_len r l hr
        simp [this]
theorem decD_small {u : Nat} (h : u < 10) : Lib.decDigits u = [UInt8.ofNat (48 + u)] := by rw [Lib.decDigits, dif_pos h]
theorem decD_big {u : Nat} (h : ¬ u < 10) : Lib.decDigits u = Lib.decDigits (u / 10) ++ [UInt8.ofNat (48 + u % 10)] := by rw [Lib.decDigits, dif_neg h]
theorem dig_nat (d : Nat) (h : d < 10) : (UInt8.ofNat (48 + d)).toNat = 48 + d := by
  rw [UInt8.toNat_ofNat']; omega
theorem decD_dig (u : Nat) : ∀ c ∈ Lib.decDigits u, 48 ≤ c.toNat ∧ c.toNat ≤ 57 := by
  induction u using Nat.strongRecOn with
  | _ u ih =>
    by_cases h : u < 10
    · rw [decD_small h]; intro c hc; rw [List.mem_singleton.1 hc, dig_nat u h]; omega
    · rw [decD_big h]; intro c hc
      rcases List.mem_append.1 hc with hc | hc
      · exact ih (u / 10) (by omega) c hc
      · rw [List.mem_singleton.1 hc, dig_nat _ (Nat.mod_lt _ (by omega))]; omega
theorem decD_ne (u : Nat) : Lib.decDigits u ≠ [] := by
  by_cases h : u < 10
  · rw [decD_small h]; simp
  · rw [decD_big h]; simp
/-- What digits tell. -/
def valD (a : Nat) : List UInt8 → Nat
  | [] => a
  | c :: r => valD (a * 10 + (c.toNat - 48)) r
theorem valD_append (a : Nat) (l r : List UInt8) : valD a (l ++ r) = valD (valD a l) r := by
  induction l generalizing a with
  | nil => rfl
  | cons c l ih => exact ih _
theorem valD_ge (a : Nat) (l : List UInt8) : a ≤ valD a l := by
  induction l generalizing a with
  | nil => exact Nat.le_refl _
  | cons c l ih => exact Nat.le_trans (by omega) (ih _)
theorem valD_dec (u : Nat) : valD 0 (Lib.decDigits u) = u := by
  induction u using Nat.strongRecOn with
  | _ u ih =>
    by_cases h : u < 10
    · rw [decD_small h]; show 0 * 10 + ((UInt8.ofNat (48 + u)).toNat - 48) = u; rw [dig_nat u h]; omega
    · rw [decD_big h, valD_append, ih (u / 10) (by omega)]
      show u / 10 * 10 + ((UInt8.ofNat (48 + u % 10)).toNat - 48) = u
      rw [dig_nat _ (Nat.mod_lt _ (by omega))]; omega
theorem parse_val (l : List UInt8) : ∀ a, (∀ c ∈ l, 48 ≤ c.toNat ∧ c.toNat ≤ 57) → valD a l < 18446744073709551616 → Lib.parseUint10 a l = .ok (valD a l) := by
  induction l with
  | nil => intro a _ _; rfl
  | cons c l ih =>
    intro a hd hv
    have hc := hd c (List.mem_cons_self ..)
    have hg : a * 10 + (c.toNat - 48) ≤ valD a (c :: l) := valD_ge _ l
    unfold Lib.parseUint10
    rw [if_pos hc, if_neg (by omega), if_neg (by omega)]
    exact ih _ (fun x hx => hd x (List.mem_cons_of_mem _ hx)) hv
theorem parse_dec (u : Nat) (h : u < 18446744073709551616) : Lib.parseMag (Lib.decDigits u) = .ok u := by
  unfold Lib.parseMag
  rw [if_neg (decD_ne u), parse_val _ _ (decD_dig u) (by rw [valD_dec]; exact h), valD_dec]
theorem atoi_itoa (n : Int) (hn : i64 n) : Lib.atoiAll (Lib.itoa n) = .ok n := by
  unfold i64 at hn
  unfold Lib.itoa
  by_cases h : n < 0
  · rw [if_pos h]
    have e : (45 : UInt8).toNat = 45 := rfl
    simp only [Lib.atoiAll, e, or_true, if_true, true_and, not_true, false_and, if_false]
    rw [parse_dec n.natAbs (by omega)]
    dsimp only
    rw [if_neg (by omega)]
    congr 1
    omega
  · rw [if_neg h]
    have hd := decD_dig n.toNat
    have hp := parse_dec n.toNat (by omega)
    cases hl : Lib.decDigits n.toNat with
    | nil => exact absurd hl (decD_ne _)
    | cons c r =>
      have hc := hd c (by rw [hl]; exact List.mem_cons_self ..)
      rw [hl] at hp
      have e1 : ¬ (c.toNat = 43 ∨ c.toNat = 45) := by omega
      have e2 : ¬ c.toNat = 45 := by omega
      unfold Lib.atoiAll
      dsimp only
      rw [if_neg e1, hp]
      dsimp only
      rw [if_neg (fun h => by have := h.2; omega), if_neg (fun h => e2 h.1), if_neg e2]
      congr 1
      omega
theorem numM_itoa (n : Int) (hn : i64 n) : numM (Lib.itoa n) = some n := by
  unfold numM
  rw [atoi_itoa n hn]
  simp
theorem numM_some' {t : List UInt8} {n : Int} (h : numM t = some n) : Lib.itoa n = t ∧ i64 n := by
  unfold numM at h
  split at h
  · rename_i v hv
    split at h
    · rename_i e
      obtain rfl := Option.some.inj h
      refine ⟨e, ?_⟩
      unfold Lib.atoiAll at hv
      split at hv
      · cases hv
      · dsimp only at hv
        split at hv
        · cases hv
        · cases hv
        · rename_i u hu
          split at hv
          · cases hv
          · split at hv
            · cases hv
            · injection hv with hv
              unfold i64
              split at hv <;> omega
    · cases h
  · cases h
theorem itoa_bytes (n : Int) : ∀ c ∈ Lib.itoa n, c = 45 ∨ (48 ≤ c.toNat ∧ c.toNat ≤ 57) := by
  intro c hc
  unfold Lib.itoa at hc
  split at hc
  · rcases List.mem_cons.1 hc with rfl | hc
    · exact .inl rfl
    · exact .inr (decD_dig _ c hc)
  · exact .inr (decD_dig _ c hc)
theorem itoa_no (n : Int) : (32 : UInt8) ∉ Lib.itoa n ∧ (10 : UInt8) ∉ Lib.itoa n :=
  ⟨fun h => by rcases itoa_bytes n _ h with h | h <;> revert h <;> decide, fun h => by rcases itoa_bytes n _ h with h | h <;> revert h <;> decide⟩
theorem itoa_len {n : Int} (h : i64 n) : (Lib.itoa n).length ≤ 21 := Lib.itoa_length_le n h.1 h.2
theorem splitL_none {a : List UInt8} (h : (32 : UInt8) ∉ a) : splitL a = [a] := by
  induction a with
  | nil => rfl
  | cons c a ih =>
    have hc : c ≠ 32 := fun e => h (by rw [e]; exact List.mem_cons_self ..)
    rw [splitL, if_neg hc, ih (fun e => h (List.mem_cons_of_mem _ e))]
theorem splitT_at {a : List UInt8} (h : (32 : UInt8) ∉ a) (r : List UInt8) : splitL (a ++ 32 :: r) = a :: splitL r := by
  induction a with
  | nil => simp [splitL]
  | cons c a ih =>
    have hc : c ≠ 32 := fun e => h (by rw [e]; exact List.mem_cons_self ..)
    rw [List.cons_append, splitL, if_neg hc, ih (fun e => h (List.mem_cons_of_mem _ e))]
theorem joinT_cons (a : List UInt8) (r : List (List UInt8)) : Lib.joinTail [32] (a :: r) = 32 :: (a ++ Lib.joinTail [32] r) := by
  simp [Lib.joinTail]
theorem split_join : ∀ (ps : List (List UInt8)), ps ≠ [] → (∀ p ∈ ps, (32 : UInt8) ∉ p) → splitL (Lib.join ps [32]) = ps
  | [], h, _ => absurd rfl h
  | [a], _, h => by rw [Lib.join_one]; exact splitL_none (h a (List.mem_singleton.2 rfl))
  | a :: b :: r, _, h => by
    rw [Lib.join_cons, joinT_cons, splitT_at (h a (List.mem_cons_self ..)), ← Lib.join_cons]
    rw [split_join (b :: r) (by simp) (fun p hp => h p (List.mem_cons_of_mem _ hp))]
theorem splitT_ne (l : List UInt8) : splitL l ≠ [] := by
  cases l with
  | nil => simp [splitL]
  | cons c r =>
    unfold splitL
    split
    · simp
    · split <;> simp
theorem join_split (l : List UInt8) : Lib.join (splitL l) [32] = l := by
  induction l with
  | nil => rfl
  | cons c r ih =>
    unfold splitL
    by_cases h : c = 32
    · rw [if_pos h, Lib.join_cons]
      cases hs : splitL r with
      | nil => exact absurd hs (splitT_ne r)
      | cons a t =>
        rw [hs, Lib.join_cons] at ih
        rw [joinT_cons, ih, h]; rfl
    · rw [if_neg h]
      cases hs : splitL r with
      | nil => exact absurd hs (splitT_ne r)
      | cons a t =>
        rw [hs, Lib.join_cons] at ih
        show Lib.join ((c :: a) :: t) [32] = _
        rw [Lib.join_cons, List.cons_append, ih]
theorem split_no (l : List UInt8) : ∀ p ∈ splitL l, (32 : UInt8) ∉ p := by
  induction l with
  | nil => intro p hp; simp [splitL] at hp; subst hp; simp
  | cons c r ih =>
    intro p hp
    unfold splitL at hp
    by_cases h : c = 32
    · rw [if_pos h] at hp
      rcases List.mem_cons.1 hp with rfl | hp
      · simp
      · exact ih p hp
    · rw [if_neg h] at hp
      cases hs : splitL r with
      | nil => exact absurd hs (splitT_ne r)
      | cons a t =>
        rw [hs] at hp ih
        rcases List.mem_cons.1 hp with rfl | hp
        · have := ih a (List.mem_cons_self ..)
          simp only [List.mem_cons, not_or]
          exact ⟨fun e => h e.symm, this⟩
        · exact ih p (List.mem_cons_of_mem _ hp)
def lineM (ps : List (List UInt8)) : List UInt8 := Lib.join ps [32] ++ [10]
/-- How long a text is. -/
theorem line_len (ps : List (List UInt8)) (m : Nat) (h : ∀ a ∈ ps, a.length ≤ m) : (lineM ps).length ≤ (m + 1) * ps.length + 1 := by
  unfold lineM
  cases ps with
  | nil => simp [Lib.join_nil]
  | cons a r =>
    rw [List.length_append, Lib.join_cons, List.length_append, Lib.joinTail_length]
    have hl : Lib.lens r ≤ m * r.length := by
      have h2 : ∀ x ∈ r, x.length ≤ m := fun x hx => h x (List.mem_cons_of_mem _ hx)
      clear h
      induction r with
      | nil => simp [Lib.lens]
      | cons y r ih =>
        have := ih (fun x hx => h2 x (List.mem_cons_of_mem _ hx))
        have hy := h2 y (List.mem_cons_self ..)
        simp only [Lib.lens, List.map_cons, List.sum_cons, List.length_cons, Nat.mul_succ] at this ⊢
        omega
    have ha := h a (List.mem_cons_self ..)
    simp only [List.length_cons, List.length_nil, Nat.mul_succ, Nat.succ_mul]
    omega

/-! A world. -/
structure WoM where
  stp : Int
  ins : List Int
def WoM.fit (m : WoM) : Prop := i64 m.stp ∧ ∀ n ∈ m.ins, i64 n
def GoodW (m : WoM) : Prop := (0 ≤ m.stp ∧ m.stp ≤ 100000) ∧ m.ins.length ≤ 1000
def stepsB : List UInt8 := [115, 116, 101, 112, 115]
def headB : List UInt8 := [115, 116, 101, 112, 115, 32]
def partsW (m : WoM) : List (List UInt8) := stepsB :: Lib.itoa m.stp :: m.ins.map Lib.itoa
def txtW (m : WoM) : List UInt8 := lineM (partsW m)
/-- The numbers that a text tells, if it is one of a world's. -/
def wOf (t : List UInt8) : Option (List Int) := if t.take 6 = headB ∧ 7 ≤ t.length ∧ t.getLast? = some 10 then numsM (splitL ((t.drop 6).dropLast)) else none

theorem wOf_eq (r : List UInt8) : wOf (headB ++ r ++ [10]) = numsM (splitL r) := by
  unfold wOf
  have e1 : (headB ++ r ++ [10]).take 6 = headB := by
    rw [List.append_assoc, List.take_append_of_le_length (by simp [headB]), List.take_of_length_le (by simp [headB])]
  have e2 : ((headB ++ r ++ [10]).drop 6).dropLast = r := by
    rw [List.append_assoc, List.drop_append_of_le_length (by simp [headB]), List.drop_of_length_le (by simp [headB]), List.nil_append, List.dropLast_concat]
  rw [if_pos ⟨e1, by simp [headB], by simp⟩, e2]
theorem wOf_none {t : List UInt8} (h : ∀ r, t ≠ headB ++ r ++ [10]) : wOf t = none := by
  unfold wOf
  split
  · rename_i hc
    obtain ⟨h1, h2, h3⟩ := hc
    exfalso
    apply h ((t.drop 6).dropLast)
    have e1 : t = headB ++ t.drop 6 := by rw [← h1, List.take_append_drop]
    have hd : t.drop 6 ≠ [] := by
      intro e
      have := congrArg List.length e
      rw [List.length_drop] at this
      simp at this; omega
    have e2 : (t.drop 6).getLast? = some 10 := by
      rw [e1, List.getLast?_append] at h3
      cases hl : (t.drop 6).getLast? with
      | none => rw [List.getLast?_eq_none_iff] at hl; exact absurd hl hd
      | some x => rw [hl] at h3; simpa using h3
    obtain ⟨ys, hys⟩ := List.getLast?_eq_some_iff.1 e2
    rw [hys, List.dropLast_concat, List.append_assoc, ← hys]
    exact e1
  · rfl
theorem numsM_map (l : List Int) (h : ∀ n ∈ l, i64 n) : numsM (l.map Lib.itoa) = some l := by
  induction l with
  | nil => rfl
  | cons n l ih =>
    rw [List.map_cons, numsM, numM_itoa n (h n (List.mem_cons_self ..)), ih (fun x hx => h x (List.mem_cons_of_mem _ hx))]
theorem numsM_of : ∀ (ps : List (List UInt8)) (l : List Int), numsM ps = some l → l.map Lib.itoa = ps ∧ ∀ n ∈ l, i64 n
  | [], l, h => by simp [numsM] at h; subst h; exact ⟨rfl, fun n hn => (by cases hn)⟩
  | t :: r, l, h => by
    rw [numsM] at h
    cases ht : numM t with
    | none => rw [ht] at h; cases h
    | some n =>
      rw [ht] at h
      cases hr : numsM r with
      | none => rw [hr] at h; cases h
      | some k =>
        rw [hr] at h
        obtain rfl := Option.some.inj h
        obtain ⟨a, b⟩ := numM_some' ht
        obtain ⟨c, d⟩ := numsM_of r k hr
        refine ⟨by rw [List.map_cons, a, c], fun x hx => ?_⟩
        rcases List.mem_cons.1 hx with rfl | hx
        · exact b
        · exact d x hx
theorem txtW_eq (m : WoM) : txtW m = headB ++ Lib.join ((m.stp :: m.ins).map Lib.itoa) [32] ++ [10] := by
  unfold txtW lineM partsW
  rw [Lib.join_cons, joinT_cons, List.map_cons, Lib.join_cons]
  rfl
theorem wOf_txt (m : WoM) (h : m.fit) : wOf (txtW m) = some (m.stp :: m.ins) := by
  rw [txtW_eq, wOf_eq, split_join _ (by simp) (fun p hp => by obtain ⟨n, _, rfl⟩ := List.mem_map.1 hp; exact (itoa_no n).1)]
  refine numsM_map _ (fun n hn => ?_)
  rcases List.mem_cons.1 hn with rfl | hn
  · exact h.1
  · exact h.2 n hn
theorem numsM_ne {t : List UInt8} {l : List Int} (h : numsM (splitL t) = some l) : ∃ s r, l = s :: r := by
  cases l with
  | nil =>
    have := numsM_len _ _ h
    cases hs : splitL t with
    | nil => exact absurd hs (splitT_ne t)
    | cons a b => rw [hs] at this; simp at this
  | cons s r => exact ⟨s, r, rfl⟩
/-- What is told has that text. -/
theorem txt_wOf {t : List UInt8} {l : List Int} (h : wOf t = some l) : ∃ m : WoM, l = m.stp :: m.ins ∧ m.fit ∧ t = txtW m := by
  by_cases hx : ∃ r, t = headB ++ r ++ [10]
  · obtain ⟨r, rfl⟩ := hx
    rw [wOf_eq] at h
    obtain ⟨s, q, rfl⟩ := numsM_ne h
    obtain ⟨h1, h2⟩ := numsM_of _ _ h
    refine ⟨⟨s, q⟩, rfl, ⟨h2 s (List.mem_cons_self ..), fun n hn => h2 n (List.mem_cons_of_mem _ hn)⟩, ?_⟩
    rw [txtW_eq]
    dsimp only
    rw [h1, join_split]
  · rw [wOf_none (fun r hr => hx ⟨r, hr⟩)] at h
    cases h
theorem txtW_inj {a b : WoM} (ha : a.fit) (hb : b.fit) (h : txtW a = txtW b) : a.stp = b.stp ∧ a.ins = b.ins := by
  have h1 := wOf_txt a ha
  rw [h, wOf_txt b hb] at h1
  have := Option.some.inj h1
  injection this with e1 e2
  exact ⟨e1.symm, e2.symm⟩
theorem txtW_len (m : WoM) (h : m.fit) : (txtW m).length ≤ 22 * m.ins.length + 60 := by
  have := line_len (partsW m) 21 (fun a ha => by
    unfold partsW at ha
    rcases List.mem_cons.1 ha with rfl | ha
    · decide
    · rcases List.mem_cons.1 ha with rfl | ha
      · exact itoa_len h.1
      · obtain ⟨n, hn, rfl⟩ := List.mem_map.1 ha
        exact itoa_len (h.2 n hn))
  have h2 : (partsW m).length = m.ins.length + 2 := by simp [partsW]
  rw [h2] at this
  unfold txtW
  omega

/-! Where a part ends. -/
theorem indexByte_no {t : List UInt8} (h : (32 : UInt8) ∉ t) : Lib.indexByte t 32 = -1 := by
  induction t with
  | nil => rfl
  | cons c t ih =>
    have hc : c ≠ 32 := fun e => h (by rw [e]; exact List.mem_cons_self ..)
    have := ih (fun e => h (List.mem_cons_of_mem _ e))
    simp [Lib.indexByte, hc, this]
theorem indexByte_at {a : List UInt8} (h : (32 : UInt8) ∉ a) (r : List UInt8) : Lib.indexByte (a ++ 32 :: r) 32 = (a.length : Int) := by
  induction a with
  | nil => simp [Lib.indexByte]
  | cons c a ih =>
    have hc : c ≠ 32 := fun e => h (by rw [e]; exact List.mem_cons_self ..)
    have := ih (fun e => h (List.mem_cons_of_mem _ e))
    rw [List.cons_append]
    simp only [Lib.indexByte, this]
    rw [if_neg (by simpa using hc), if_neg (by simp)]
    simp
theorem part_cut (t : List UInt8) : (32 : UInt8) ∉ t ∨ ∃ a r, t = a ++ 32 :: r ∧ (32 : UInt8) ∉ a := by
  induction t with
  | nil => exact .inl (by simp)
  | cons c t ih =>
    by_cases hc : c = 32
    · exact .inr ⟨[], t, by rw [hc]; rfl, by simp⟩
    · rcases ih with h | ⟨a, r, rfl, ha⟩
      · exact .inl (by simp only [List.mem_cons, not_or]; exact ⟨fun e => hc e.symm, h⟩)
      · exact .inr ⟨c :: a, r, rfl, by simp only [List.mem_cons, not_or]; exact ⟨fun e => hc e.symm, ha⟩⟩
end Go.Proofs.YtoailhkaenofpaaDoor
