/-
  Code's text (layer 10): line by line; it is parsed as the code that it is the text of; how many line ends it has; what is no whole row of lines is no code's.
-/
import Derived.Test.YthkpnbekkoompabGreatDoorCpM
import Derived.Lib.Join
import Derived.Lib.ItoaLen
namespace Go.Proofs.YthkpnbekkoompabGreatDoor

/-! Numbers as texts. -/
theorem decD_small {u : Nat} (h : u < 10) : Lib.decDigits u = [UInt8.ofNat (48 + u)] := by rw [Lib.decDigits, dif_pos h]
theorem decD_big {u : Nat} (h : ¬ u < 10) : Lib.decDigits u = Lib.decDigits (u / 10) ++ [UInt8.ofNat (48 + u % 10)] := by rw [Lib.decDigits, dif_neg h]
theorem dig_nat (d : Nat) (h : d < 10) : (UInt8.ofNat (48 + d)).toNat = 48 + d := by
  rw [UInt8.toNat_ofNat']; omega
theorem decD_dig (u : Nat) : ∀ c ∈ Lib.decDigits u, 48 ≤ c.toNat ∧ c.toNat ≤ 57 := by
  induction u using Nat.strongRecOn with
  | _ u ih =>
    by_cases h : u < 10
    · rw [decD_small h]; intro c hc; rw [List.mem_singleton.1 hc, dig_nat u h]; omega
    · rw [decD_big h]; intro c hc
      rcases List.mem_append.1 hc with hc | hc
      · exact ih (u / 10) (by omega) c hc
      · rw [List.mem_singleton.1 hc, dig_nat _ (Nat.mod_lt _ (by omega))]; omega
theorem decD_ne (u : Nat) : Lib.decDigits u ≠ [] := by
  by_cases h : u < 10
  · rw [decD_small h]; simp
  · rw [decD_big h]; simp
/-- What digits tell. -/
def valD (a : Nat) : List UInt8 → Nat
  | [] => a
  | c :: r => valD (a * 10 + (c.toNat - 48)) r
theorem valD_append (a : Nat) (l r : List UInt8) : valD a (l ++ r) = valD (valD a l) r := by
  induction l generalizing a with
  | nil => rfl
  | cons c l ih => exact ih _
theorem valD_ge (a : Nat) (l : List UInt8) : a ≤ valD a l := by
  induction l generalizing a with
  | nil => exact Nat.le_refl _
  | cons c l ih => exact Nat.le_trans (by omega) (ih _)
theorem valD_dec (u : Nat) : valD 0 (Lib.decDigits u) = u := by
  induction u using Nat.strongRecOn with
  | _ u ih =>
    by_cases h : u < 10
    · rw [decD_small h]; show 0 * 10 + ((UInt8.ofNat (48 + u)).toNat - 48) = u; rw [dig_nat u h]; omega
    · rw [decD_big h, valD_append, ih (u / 10) (by omega)]
      show u / 10 * 10 + ((UInt8.ofNat (48 + u % 10)).toNat - 48) = u
      rw [dig_nat _ (Nat.mod_lt _ (by omega))]; omega
theorem parse_val (l : List UInt8) : ∀ a, (∀ c ∈ l, 48 ≤ c.toNat ∧ c.toNat ≤ 57) → valD a l < 18446744073709551616 → Lib.parseUint10 a l = .ok (valD a l) := by
  induction l with
  | nil => intro a _ _; rfl
  | cons c l ih =>
    intro a hd hv
    have hc := hd c (List.mem_cons_self ..)
    have hg : a * 10 + (c.toNat - 48) ≤ valD a (c :: l) := valD_ge _ l
    unfold Lib.parseUint10
    rw [if_pos hc, if_neg (by omega), if_neg (by omega)]
    exact ih _ (fun x hx => hd x (List.mem_cons_of_mem _ hx)) hv
theorem parse_dec (u : Nat) (h : u < 18446744073709551616) : Lib.parseMag (Lib.decDigits u) = .ok u := by
  unfold Lib.parseMag
  rw [if_neg (decD_ne u), parse_val _ _ (decD_dig u) (by rw [valD_dec]; exact h), valD_dec]
theorem atoi_itoa (n : Int) (hn : i64 n) : Lib.atoiAll (Lib.itoa n) = .ok n := by
  unfold i64 at hn
  unfold Lib.itoa
  by_cases h : n < 0
  · rw [if_pos h]
    have e : (45 : UInt8).toNat = 45 := rfl
    simp only [Lib.atoiAll, e, or_true, if_true, true_and, not_true, false_and, if_false]
    rw [parse_dec n.natAbs (by omega)]
    dsimp only
    rw [if_neg (by omega)]
    congr 1
    omega
  · rw [if_neg h]
    have hd := decD_dig n.toNat
    have hp := parse_dec n.toNat (by omega)
    cases hl : Lib.decDigits n.toNat with
    | nil => exact absurd hl (decD_ne _)
    | cons c r =>
      have hc := hd c (by rw [hl]; exact List.mem_cons_self ..)
      rw [hl] at hp
      have e1 : ¬ (c.toNat = 43 ∨ c.toNat = 45) := by omega
      have e2 : ¬ c.toNat = 45 := by omega
      unfold Lib.atoiAll
      dsimp only
      rw [if_neg e1, hp]
      dsimp only
      rw [if_neg (fun h => by have := h.2; omega), if_neg (fun h => e2 h.1), if_neg e2]
      congr 1
      omega
theorem numM_itoa (n : Int) (hn : i64 n) : numM (Lib.itoa n) = some n := by
  unfold numM
  rw [atoi_itoa n hn]
  simp
theorem numM_some {t : List UInt8} {n : Int} (h : numM t = some n) : Lib.itoa n = t ∧ i64 n := by
  unfold numM at h
  split at h
  · rename_i v hv
    split at h
    · rename_i e
      obtain rfl := Option.some.inj h
      refine ⟨e, ?_⟩
      unfold Lib.atoiAll at hv
      split at hv
      · cases hv
      · dsimp only at hv
        split at hv
        · cases hv
        · cases hv
        · rename_i u hu
          split at hv
          · cases hv
          · split at hv
            · cases hv
            · injection hv with hv
              unfold i64
              split at hv <;> omega
    · cases h
  · cases h
theorem itoa_bytes (n : Int) : ∀ c ∈ Lib.itoa n, c = 45 ∨ (48 ≤ c.toNat ∧ c.toNat ≤ 57) := by
  intro c hc
  unfold Lib.itoa at hc
  split at hc
  · rcases List.mem_cons.1 hc with rfl | hc
    · exact .inl rfl
    · exact .inr (decD_dig _ c hc)
  · exact .inr (decD_dig _ c hc)
theorem itoa_no (n : Int) : (32 : UInt8) ∉ Lib.itoa n ∧ (10 : UInt8) ∉ Lib.itoa n :=
  ⟨fun h => by rcases itoa_bytes n _ h with h | h <;> revert h <;> decide, fun h => by rcases itoa_bytes n _ h with h | h <;> revert h <;> decide⟩
theorem itoa_len {n : Int} (h : i64 n) : (Lib.itoa n).length ≤ 21 := Lib.itoa_length_le n h.1 h.2

/-! Lines and their parts. -/
theorem splitL_none {a : List UInt8} (h : (32 : UInt8) ∉ a) : splitL a = [a] := by
  induction a with
  | nil => rfl
  | cons c a ih =>
    have hc : c ≠ 32 := fun e => h (by rw [e]; exact List.mem_cons_self ..)
    rw [splitL, if_neg hc, ih (fun e => h (List.mem_cons_of_mem _ e))]
theorem splitT_at {a : List UInt8} (h : (32 : UInt8) ∉ a) (r : List UInt8) : splitL (a ++ 32 :: r) = a :: splitL r := by
  induction a with
  | nil => simp [splitL]
  | cons c a ih =>
    have hc : c ≠ 32 := fun e => h (by rw [e]; exact List.mem_cons_self ..)
    rw [List.cons_append, splitL, if_neg hc, ih (fun e => h (List.mem_cons_of_mem _ e))]
theorem joinT_cons (a : List UInt8) (r : List (List UInt8)) : Lib.joinTail [32] (a :: r) = 32 :: (a ++ Lib.joinTail [32] r) := by
  simp [Lib.joinTail]
theorem split_join : ∀ (ps : List (List UInt8)), ps ≠ [] → (∀ p ∈ ps, (32 : UInt8) ∉ p) → splitL (Lib.join ps [32]) = ps
  | [], h, _ => absurd rfl h
  | [a], _, h => by rw [Lib.join_one]; exact splitL_none (h a (List.mem_singleton.2 rfl))
  | a :: b :: r, _, h => by
    rw [Lib.join_cons, joinT_cons, splitT_at (h a (List.mem_cons_self ..)), ← Lib.join_cons]
    rw [split_join (b :: r) (by simp) (fun p hp => h p (List.mem_cons_of_mem _ hp))]
theorem splitT_ne (l : List UInt8) : splitL l ≠ [] := by
  cases l with
  | nil => simp [splitL]
  | cons c r =>
    unfold splitL
    split
    · simp
    · split <;> simp
theorem join_split (l : List UInt8) : Lib.join (splitL l) [32] = l := by
  induction l with
  | nil => rfl
  | cons c r ih =>
    unfold splitL
    by_cases h : c = 32
    · rw [if_pos h, Lib.join_cons]
      cases hs : splitL r with
      | nil => exact absurd hs (splitT_ne r)
      | cons a t =>
        rw [hs, Lib.join_cons] at ih
        rw [joinT_cons, ih, h]; rfl
    · rw [if_neg h]
      cases hs : splitL r with
      | nil => exact absurd hs (splitT_ne r)
      | cons a t =>
        rw [hs, Lib.join_cons] at ih
        show Lib.join ((c :: a) :: t) [32] = _
        rw [Lib.join_cons, List.cons_append, ih]
theorem split_no (l : List UInt8) : ∀ p ∈ splitL l, (32 : UInt8) ∉ p := by
  induction l with
  | nil => intro p hp; simp [splitL] at hp; subst hp; simp
  | cons c r ih =>
    intro p hp
    unfold splitL at hp
    by_cases h : c = 32
    · rw [if_pos h] at hp
      rcases List.mem_cons.1 hp with rfl | hp
      · simp
      · exact ih p hp
    · rw [if_neg h] at hp
      cases hs : splitL r with
      | nil => exact absurd hs (splitT_ne r)
      | cons a t =>
        rw [hs] at hp ih
        rcases List.mem_cons.1 hp with rfl | hp
        · have := ih a (List.mem_cons_self ..)
          simp only [List.mem_cons, not_or]
          exact ⟨fun e => h e.symm, this⟩
        · exact ih p (List.mem_cons_of_mem _ hp)
theorem cutL_at {a : List UInt8} (h : (10 : UInt8) ∉ a) (r : List UInt8) : cutL (a ++ 10 :: r) = (a, r, true) := by
  induction a with
  | nil => simp [cutL]
  | cons c a ih =>
    have hc : c ≠ 10 := fun e => h (by rw [e]; exact List.mem_cons_self ..)
    rw [List.cons_append, cutL, if_neg hc, ih (fun e => h (List.mem_cons_of_mem _ e))]
theorem cutT_eq (t : List UInt8) (h : (cutL t).2.2 = true) : t = (cutL t).1 ++ 10 :: (cutL t).2.1 ∧ (10 : UInt8) ∉ (cutL t).1 := by
  induction t with
  | nil => simp [cutL] at h
  | cons c r ih =>
    unfold cutL at h ⊢
    by_cases hc : c = 10
    · rw [if_pos hc]; simp [hc]
    · rw [if_neg hc] at h ⊢
      obtain ⟨i1, i2⟩ := ih h
      refine ⟨?_, ?_⟩
      · show c :: r = c :: ((cutL r).1 ++ 10 :: (cutL r).2.1)
        rw [← i1]
      · simp only [List.mem_cons, not_or]
        exact ⟨fun e => hc e.symm, i2⟩

/-! The text of code. -/
def partsP (p : PrM) : List (List UInt8) := [procB, p.name, Lib.itoa p.par, Lib.itoa p.slo, Lib.itoa p.typ]
def partsI (x : InM) : List (List UInt8) := opW.getD x.op.toNat [] :: ([Lib.itoa x.arg, Lib.itoa x.mor].take (manyM x.op.toNat))
def lineM (ps : List (List UInt8)) : List UInt8 := Lib.join ps [32] ++ [10]
def bodyT (xs : List InM) : List UInt8 := xs.flatMap fun x => lineM (partsI x)
def txtPr (c : CoM) (p : PrM) : List UInt8 := lineM (partsP p) ++ bodyT (body c p)
def txtC (c : CoM) : List UInt8 := c.ps.flatMap (txtPr c)

theorem opW_fin : ∀ k : Fin 30, 1 ≤ k.1 → opM (opW.getD k.1 []) = k.1 ∧ opW.getD k.1 [] ≠ procB ∧ (32 : UInt8) ∉ opW.getD k.1 [] ∧ (10 : UInt8) ∉ opW.getD k.1 [] ∧ (opW.getD k.1 []).length ≤ 7 := by decide
theorem opW_facts {op : Int} (h1 : 1 ≤ op) (h2 : op ≤ 29) : (opM (opW.getD op.toNat []) : Int) = op ∧ opW.getD op.toNat [] ≠ procB ∧ (32 : UInt8) ∉ opW.getD op.toNat [] ∧ (10 : UInt8) ∉ opW.getD op.toNat [] ∧ (opW.getD op.toNat []).length ≤ 7 := by
  obtain ⟨h, r⟩ := opW_fin ⟨op.toNat, by omega⟩ (by dsimp only; omega)
  dsimp only at h r
  exact ⟨by rw [h]; omega, r⟩
theorem isAl_no {c : UInt8} (h : isAl c = true) : c ≠ 32 ∧ c ≠ 10 := by
  constructor
  · rintro rfl; revert h; decide
  · rintro rfl; revert h; decide
theorem isLet_no {c : UInt8} (h : isLet c = true) : c ≠ 32 ∧ c ≠ 10 := isAl_no (by unfold isAl; rw [h]; rfl)
theorem isNm_no {b : List UInt8} (h : isNm b = true) : (32 : UInt8) ∉ b ∧ (10 : UInt8) ∉ b := by
  unfold isNm at h
  split at h
  · cases h
  · rename_i c r
    simp only [Bool.and_eq_true, List.all_eq_true] at h
    obtain ⟨⟨h1, h2⟩, _⟩ := h
    have l1 := isLet_no h1
    refine ⟨fun e => ?_, fun e => ?_⟩
    · rcases List.mem_cons.1 e with e | e
      · exact l1.1 e.symm
      · exact (isAl_no (h2 _ e)).1 rfl
    · rcases List.mem_cons.1 e with e | e
      · exact l1.2 e.symm
      · exact (isAl_no (h2 _ e)).2 rfl
theorem partsP_no {p : PrM} (h : isNm p.name = true) : ∀ a ∈ partsP p, (32 : UInt8) ∉ a ∧ (10 : UInt8) ∉ a := by
  intro a ha
  simp only [partsP, List.mem_cons, List.not_mem_nil, or_false] at ha
  rcases ha with rfl | rfl | rfl | rfl | rfl
  · decide
  · exact isNm_no h
  all_goals exact itoa_no _
theorem partsI_no {x : InM} (h1 : 1 ≤ x.op) (h2 : x.op ≤ 29) : ∀ a ∈ partsI x, (32 : UInt8) ∉ a ∧ (10 : UInt8) ∉ a := by
  intro a ha
  have ho := opW_facts h1 h2
  rcases List.mem_cons.1 ha with rfl | ha
  · exact ⟨ho.2.2.1, ho.2.2.2.1⟩
  · have := List.mem_of_mem_take ha
    simp only [List.mem_cons, List.not_mem_nil, or_false] at this
    rcases this with rfl | rfl <;> exact itoa_no _
theorem join_no {b : UInt8} (hb : b ≠ 32) : ∀ (ps : List (List UInt8)), (∀ p ∈ ps, b ∉ p) → b ∉ Lib.join ps [32]
  | [], _ => by rw [Lib.join_nil]; simp
  | a :: r, h => by
    rw [Lib.join_cons, List.mem_append, not_or]
    refine ⟨h a (List.mem_cons_self ..), ?_⟩
    intro hm
    simp only [Lib.joinTail, List.mem_flatten, List.mem_map] at hm
    obtain ⟨l, ⟨y, hy, rfl⟩, hl⟩ := hm
    rcases List.mem_append.1 hl with hl | hl
    · exact hb (List.mem_singleton.1 hl)
    · exact h y (List.mem_cons_of_mem _ hy) hl
theorem takes_p {c : CoM} {p : PrM} (h : isNm p.name = true) (f1 : i64 p.par) (f2 : i64 p.slo) (f3 : i64 p.typ) : takeM c (partsP p) = some ⟨c.ps ++ [⟨p.name, c.is.length, c.is.length, p.par, p.slo, p.typ⟩], c.is⟩ := by
  unfold takeM
  rw [if_pos (show (partsP p).getD 0 [] = procB from rfl)]
  unfold takePM
  rw [if_pos ⟨rfl, h⟩]
  show (match numsM [Lib.itoa p.par, Lib.itoa p.slo, Lib.itoa p.typ] with | some l => _ | none => none) = _
  simp only [numsM, numM_itoa _ f1, numM_itoa _ f2, numM_itoa _ f3]
  rfl
theorem many_le (op : Nat) : manyM op ≤ 2 := by unfold manyM; split <;> (try split) <;> omega
theorem in_rest {p : PrM} {np : Nat} {x : InM} (hok : inOk p np x) (hf : x.fit) : (manyM x.op.toNat = 0 → x.arg = 0) ∧ (manyM x.op.toNat ≠ 2 → x.mor = 0) := by
  obtain ⟨⟨h1, h2⟩, ha, hm⟩ := hok
  refine ⟨fun h => ?_, fun h => ?_⟩
  · have hA := (argOk_iff p np x h1 h2 hf.2.1).1 ha
    unfold manyM at h
    split at h
    · omega
    · split at h
      · rename_i h0
        rw [h0, show loM 0 p = 0 from rfl, show hiM 0 p np = 0 from rfl] at hA
        omega
      · omega
  · unfold morOk at hm
    unfold manyM at h
    split at h
    · omega
    · rename_i h7
      rw [if_neg (by omega)] at hm
      exact hm
theorem takes_i {c : CoM} {p : PrM} {np : Nat} {x : InM} (hc : c.ps ≠ []) (hok : inOk p np x) (hf : x.fit) : takeM c (partsI x) = some ⟨endAt (c.is.length + 1) c.ps, c.is ++ [x]⟩ := by
  obtain ⟨r1, r2⟩ := in_rest hok hf
  obtain ⟨⟨h1, h2⟩, _, _⟩ := hok
  obtain ⟨o1, o2, _, _, _⟩ := opW_facts h1 h2
  unfold takeM
  rw [if_neg (show ¬ (partsI x).getD 0 [] = procB from o2), if_neg hc]
  unfold takeIM
  have e0 : (partsI x).getD 0 [] = opW.getD x.op.toNat [] := rfl
  have e1 : (partsI x).drop 1 = [Lib.itoa x.arg, Lib.itoa x.mor].take (manyM x.op.toNat) := rfl
  have eo : opM (opW.getD x.op.toNat []) = x.op.toNat := by omega
  rw [e0, e1, eo]
  have hm := many_le x.op.toNat
  have hx : (x.op.toNat : Int) = x.op := by omega
  obtain hk | hk | hk : manyM x.op.toNat = 0 ∨ manyM x.op.toNat = 1 ∨ manyM x.op.toNat = 2 := by omega
  · rw [hk]
    show (match numsM [] with | some l => _ | none => none) = _
    simp only [numsM, List.length_nil]
    rw [if_neg (by omega), hx]
    have q1 := r1 hk
    have q2 := r2 (by omega)
    cases x
    dsimp only at q1 q2
    subst q1 q2
    rfl
  · rw [hk]
    show (match numsM [Lib.itoa x.arg] with | some l => _ | none => none) = _
    simp only [numsM, numM_itoa _ hf.2.1, List.length_cons, List.length_nil]
    rw [if_neg (by omega), hx]
    have q2 := r2 (by omega)
    cases x
    dsimp only at q2
    subst q2
    rfl
  · rw [hk]
    show (match numsM [Lib.itoa x.arg, Lib.itoa x.mor] with | some l => _ | none => none) = _
    simp only [numsM, numM_itoa _ hf.2.1, numM_itoa _ hf.2.2, List.length_cons, List.length_nil]
    rw [if_neg (by omega), hx]
    rfl
theorem lines_one {ps : List (List UInt8)} (hne : ps ≠ []) (hno : ∀ a ∈ ps, (32 : UInt8) ∉ a ∧ (10 : UInt8) ∉ a) (r : List UInt8) (k : Nat) {c c' : CoM} (ht : takeM c ps = some c') :
    linesM ((lineM ps ++ r).length + 1) (lineM ps ++ r) k c = linesM (r.length + 1) r (k + 1) c' := by
  have e : lineM ps ++ r = Lib.join ps [32] ++ 10 :: r := by simp [lineM]
  have hcut : cutL (lineM ps ++ r) = (Lib.join ps [32], r, true) := by rw [e]; exact cutL_at (join_no (by decide) ps (fun p hp => (hno p hp).2)) r
  have hn : lineM ps ++ r ≠ [] := by simp [lineM]
  rw [linesM, if_neg hn, hcut, if_pos rfl]
  show (match takeM c (splitL (Lib.join ps [32])) with | some c' => _ | none => _) = _
  rw [split_join ps hne (fun p hp => (hno p hp).1), ht]
  exact linesM_step r _ (k + 1) c' (by rw [e]; simp; omega) (r.length + 1) (by omega)
theorem endAt_last (n : Int) : ∀ (l : List PrM) (p : PrM), endAt n (l ++ [p]) = l ++ [{ p with to := n }]
  | [], p => rfl
  | [a], p => rfl
  | a :: b :: l, p => by
    show endAt n (a :: b :: (l ++ [p])) = _
    unfold endAt
    have := endAt_last n (b :: l) p
    rw [List.cons_append] at this
    rw [this]; rfl
theorem lines_body {q : PrM} {np : Nat} : ∀ (xs : List InM) (r : List UInt8) (k : Nat) (l : List PrM) (p : PrM) (is : List InM), (∀ x ∈ xs, inOk q np x ∧ x.fit) → p.to = (is.length : Int) →
    linesM ((bodyT xs ++ r).length + 1) (bodyT xs ++ r) k ⟨l ++ [p], is⟩ = linesM (r.length + 1) r (k + xs.length) ⟨l ++ [{ p with to := ((is.length + xs.length : Nat) : Int) }], is ++ xs⟩
  | [], r, k, l, p, is, _, hp => by
    have : ({ p with to := ((is.length + ([] : List InM).length : Nat) : Int) } : PrM) = p := by cases p; simp at hp ⊢; exact hp.symm
    rw [this]
    simp [bodyT]
  | x :: xs, r, k, l, p, is, h, hp => by
    have hx := h x (List.mem_cons_self ..)
    have e : bodyT (x :: xs) ++ r = lineM (partsI x) ++ (bodyT xs ++ r) := by simp [bodyT]
    rw [e, lines_one (by simp [partsI]) (partsI_no hx.1.1.1 hx.1.1.2) (bodyT xs ++ r) k (takes_i (by simp) hx.1 hx.2)]
    dsimp only
    rw [endAt_last, lines_body xs r (k + 1) l { p with to := (is.length : Int) + 1 } (is ++ [x]) (fun y hy => h y (List.mem_cons_of_mem _ hy)) (by simp)]
    congr 1
    · simp only [List.length_cons]; omega
    · simp only [List.length_append, List.length_cons, List.length_nil, List.append_assoc, List.cons_append, List.nil_append]
      congr 4
      omega
theorem lines_procs {c : CoM} (hok : parts c) (hfP : ∀ p ∈ c.ps, p.fit) (hfI : ∀ x ∈ c.is, x.fit) : ∀ (ps : List PrM) (e n : Nat) (k : Nat) (l : List PrM), (∀ p ∈ ps, p ∈ c.ps) → ordB (e : Int) ps = some (n : Int) → n ≤ c.is.length →
    linesM ((ps.flatMap (txtPr c)).length + 1) (ps.flatMap (txtPr c)) k ⟨l, c.is.take e⟩ = .inr (⟨l ++ ps, c.is.take n⟩, k + ps.length + (n - e))
  | [], e, n, k, l, _, ho, _ => by
    simp only [ordB, Option.some.injEq] at ho
    obtain rfl : e = n := by omega
    simp [linesM]
  | p :: ps, e, n, k, l, hm, ho, hn => by
    have hr := ordB_range (p :: ps) e n (by omega) ho
    have hp := hr.2 p (List.mem_cons_self ..)
    have hpm := hm p (List.mem_cons_self ..)
    unfold ordB at ho
    split at ho
    · rename_i hc
      obtain ⟨hfr, hto⟩ := hc
      obtain ⟨T, hT⟩ : ∃ T : Nat, p.to = (T : Int) := ⟨p.to.toNat, by omega⟩
      have hpo := hok p hpm
      have hpf := hfP p hpm
      have hb : body c p = (c.is.drop e).take (T - e) := by unfold body; rw [hfr, hT]; congr 1; omega
      have hbl : (body c p).length = T - e := by rw [hb]; simp; omega
      have e1 : (p :: ps).flatMap (txtPr c) = lineM (partsP p) ++ (bodyT (body c p) ++ ps.flatMap (txtPr c)) := by simp [txtPr]
      have hlen : (c.is.take e).length = e := by rw [List.length_take]; omega
      rw [e1, lines_one (by simp [partsP]) (partsP_no hpo.1.2.2.2.2) _ k (takes_p hpo.1.2.2.2.2 hpf.2.2.1 hpf.2.2.2.1 hpf.2.2.2.2)]
      dsimp only
      rw [hlen, lines_body (body c p) _ (k + 1) l ⟨p.name, (e : Int), (e : Int), p.par, p.slo, p.typ⟩ (c.is.take e) (fun x hx => ⟨hpo.2 x hx, hfI x (by rw [hb] at hx; exact List.mem_of_mem_drop (List.mem_of_mem_take hx))⟩) (by rw [hlen]), hlen, hbl]
      have e2 : (⟨p.name, (e : Int), ((e + (T - e) : Nat) : Int), p.par, p.slo, p.typ⟩ : PrM) = p := by
        cases p
        dsimp only at hfr hT hto ⊢
        rw [hfr, hT]
        congr 1
        omega
      have e3 : c.is.take e ++ body c p = c.is.take T := by
        rw [hb]
        have := List.take_add (l := c.is) (i := e) (j := T - e)
        rw [show e + (T - e) = T by omega] at this
        exact this.symm
      dsimp only
      rw [e2, e3]
      rw [hT] at ho
      rw [lines_procs hok hfP hfI ps T n (k + 1 + (T - e)) (l ++ [p]) (fun q hq => hm q (List.mem_cons_of_mem _ hq)) ho hn]
      have hTn := (ordB_range ps T n (by omega) ho).1
      congr 1
      congr 1
      · simp
      · simp only [List.length_cons]; omega
    · cases ho
/-- Good code's text is parsed as it. -/
theorem print_parse {c : CoM} (hst : StOk c) (hfP : ∀ p ∈ c.ps, p.fit) (hfI : ∀ x ∈ c.is, x.fit) : parseM (txtC c) = .inr (c, c.ps.length + c.is.length + 1) := by
  have := lines_procs hst.2 hfP hfI c.ps 0 c.is.length 1 [] (fun p hp => hp) hst.1.2 (Nat.le_refl _)
  unfold parseM txtC
  rw [show c.is.take 0 = [] by simp] at this
  rw [this, List.take_length, List.nil_append]
  congr 2
  omega

/-! Line ends. -/
theorem cnt_line {ps : List (List UInt8)} (hno : ∀ a ∈ ps, (32 : UInt8) ∉ a ∧ (10 : UInt8) ∉ a) : (lineM ps).count 10 = 1 := by
  unfold lineM
  rw [List.count_append, List.count_eq_zero.2 (join_no (by decide) ps (fun p hp => (hno p hp).2))]
  rfl
theorem cnt_body {q : PrM} {np : Nat} : ∀ (xs : List InM), (∀ x ∈ xs, inOk q np x) → (bodyT xs).count 10 = xs.length
  | [], _ => rfl
  | x :: xs, h => by
    have hx := h x (List.mem_cons_self ..)
    have e : bodyT (x :: xs) = lineM (partsI x) ++ bodyT xs := by simp [bodyT]
    rw [e, List.count_append, cnt_line (partsI_no hx.1.1 hx.1.2), cnt_body xs (fun y hy => h y (List.mem_cons_of_mem _ hy))]
    simp only [List.length_cons]; omega
theorem cnt_procs {c : CoM} (hok : parts c) : ∀ (ps : List PrM) (e n : Nat), (∀ p ∈ ps, p ∈ c.ps) → ordB (e : Int) ps = some (n : Int) → n ≤ c.is.length → (ps.flatMap (txtPr c)).count 10 = ps.length + (n - e)
  | [], e, n, _, ho, _ => by
    simp only [ordB, Option.some.injEq] at ho
    simp; omega
  | p :: ps, e, n, hm, ho, hn => by
    have hr := (ordB_range (p :: ps) e n (by omega) ho).2 p (List.mem_cons_self ..)
    have hpm := hm p (List.mem_cons_self ..)
    unfold ordB at ho
    split at ho
    · rename_i hc
      obtain ⟨hfr, hto⟩ := hc
      obtain ⟨T, hT⟩ : ∃ T : Nat, p.to = (T : Int) := ⟨p.to.toNat, by omega⟩
      have hpo := hok p hpm
      rw [hT] at ho
      have hTn := (ordB_range ps T n (by omega) ho).1
      have hbl : (body c p).length = T - e := by unfold body; rw [hfr, hT]; simp; omega
      have e1 : (p :: ps).flatMap (txtPr c) = lineM (partsP p) ++ (bodyT (body c p) ++ ps.flatMap (txtPr c)) := by simp [txtPr]
      rw [e1, List.count_append, List.count_append, cnt_line (partsP_no hpo.1.2.2.2.2), cnt_body _ hpo.2, hbl, cnt_procs hok ps T n (fun q hq => hm q (List.mem_cons_of_mem _ hq)) ho hn]
      simp only [List.length_cons]; omega
    · cases ho
/-- A line for each procedure, and for each instruction. -/
theorem cnt_txt {c : CoM} (hst : StOk c) : (txtC c).count 10 = c.ps.length + c.is.length := by
  have := cnt_procs hst.2 c.ps 0 c.is.length (fun p hp => hp) hst.1.2 (Nat.le_refl _)
  unfold txtC
  rw [this]; omega
/-- What ends within a line is no code's. -/
theorem lines_open : ∀ (f : Nat) (t : List UInt8) (k : Nat) (c : CoM), t ≠ [] → t.getLast? ≠ some 10 → ∃ j, linesM f t k c = .inl j
  | 0, _, k, _, _, _ => ⟨k, rfl⟩
  | f + 1, t, k, c, h, hl => by
    unfold linesM
    rw [if_neg h]
    by_cases hc : (cutL t).2.2 = true
    · rw [if_pos hc]
      cases takeM c (splitL (cutL t).1) with
      | none => exact ⟨k, rfl⟩
      | some c' =>
        obtain ⟨e, _⟩ := cutT_eq t hc
        cases hr : (cutL t).2.1.getLast? with
        | none =>
          exfalso
          apply hl
          rw [e, List.getLast?_append, List.getLast?_cons, hr]
          rfl
        | some x =>
          have hne : (cutL t).2.1 ≠ [] := fun e0 => by rw [e0] at hr; cases hr
          refine lines_open f _ _ _ hne ?_
          rw [hr]
          intro ex
          apply hl
          rw [e, List.getLast?_append, List.getLast?_cons, hr]
          rw [ex]
          rfl
    · rw [if_neg hc]; exact ⟨k, rfl⟩
theorem nil_bad : parseM [] = .inr (⟨[], []⟩, 1) ∧ ¬ GoodC ⟨[], []⟩ := ⟨rfl, fun h => h.1.1.1 rfl⟩
/-- How long a text is. -/
theorem line_len (ps : List (List UInt8)) (m : Nat) (h : ∀ a ∈ ps, a.length ≤ m) : (lineM ps).length ≤ (m + 1) * ps.length + 1 := by
  unfold lineM
  cases ps with
  | nil => simp [Lib.join_nil]
  | cons a r =>
    rw [List.length_append, Lib.join_cons, List.length_append, Lib.joinTail_length]
    have hl : Lib.lens r ≤ m * r.length := by
      have h2 : ∀ x ∈ r, x.length ≤ m := fun x hx => h x (List.mem_cons_of_mem _ hx)
      clear h
      induction r with
      | nil => simp [Lib.lens]
      | cons y r ih =>
        have := ih (fun x hx => h2 x (List.mem_cons_of_mem _ hx))
        have hy := h2 y (List.mem_cons_self ..)
        simp only [Lib.lens, List.map_cons, List.sum_cons, List.length_cons, Nat.mul_succ] at this ⊢
        omega
    have ha := h a (List.mem_cons_self ..)
    simp only [List.length_cons, List.length_nil, Nat.mul_succ, Nat.succ_mul]
    omega
theorem len_body {q : PrM} {np : Nat} : ∀ (xs : List InM), (∀ x ∈ xs, inOk q np x ∧ x.fit) → (bodyT xs).length ≤ 67 * xs.length
  | [], _ => by simp [bodyT]
  | x :: xs, h => by
    have hx := h x (List.mem_cons_self ..)
    have e : bodyT (x :: xs) = lineM (partsI x) ++ bodyT xs := by simp [bodyT]
    have ho := opW_facts hx.1.1.1 hx.1.1.2
    have h1 := line_len (partsI x) 21 (fun a ha => by
      rcases List.mem_cons.1 ha with rfl | ha
      · omega
      · have := List.mem_of_mem_take ha
        simp only [List.mem_cons, List.not_mem_nil, or_false] at this
        rcases this with rfl | rfl
        · exact itoa_len hx.2.2.1
        · exact itoa_len hx.2.2.2)
    have h2 : (partsI x).length ≤ 3 := by
      have := many_le x.op.toNat
      simp [partsI]; omega
    have h3 := len_body xs (fun y hy => h y (List.mem_cons_of_mem _ hy))
    rw [e, List.length_append, List.length_cons]
    have : (21 + 1) * (partsI x).length ≤ 66 := by omega
    omega
theorem len_procs {c : CoM} (hok : parts c) (hfP : ∀ p ∈ c.ps, p.fit) (hfI : ∀ x ∈ c.is, x.fit) (hnm : ∀ p ∈ c.ps, p.name.length ≤ 60) : ∀ (ps : List PrM) (e n : Nat), (∀ p ∈ ps, p ∈ c.ps) → ordB (e : Int) ps = some (n : Int) → n ≤ c.is.length → (ps.flatMap (txtPr c)).length ≤ 306 * ps.length + 67 * (n - e)
  | [], e, n, _, ho, _ => by simp
  | p :: ps, e, n, hm, ho, hn => by
    have hr := (ordB_range (p :: ps) e n (by omega) ho).2 p (List.mem_cons_self ..)
    have hpm := hm p (List.mem_cons_self ..)
    unfold ordB at ho
    split at ho
    · rename_i hc
      obtain ⟨hfr, hto⟩ := hc
      obtain ⟨T, hT⟩ : ∃ T : Nat, p.to = (T : Int) := ⟨p.to.toNat, by omega⟩
      have hpo := hok p hpm
      have hpf := hfP p hpm
      rw [hT] at ho
      have hTn := (ordB_range ps T n (by omega) ho).1
      have hbl : (body c p).length = T - e := by unfold body; rw [hfr, hT]; simp; omega
      have e1 : (p :: ps).flatMap (txtPr c) = lineM (partsP p) ++ (bodyT (body c p) ++ ps.flatMap (txtPr c)) := by simp [txtPr]
      have h1 := line_len (partsP p) 60 (fun a ha => by
        simp only [partsP, List.mem_cons, List.not_mem_nil, or_false] at ha
        rcases ha with rfl | rfl | rfl | rfl | rfl
        · decide
        · exact hnm p hpm
        · have := itoa_len hpf.2.2.1; omega
        · have := itoa_len hpf.2.2.2.1; omega
        · have := itoa_len hpf.2.2.2.2; omega)
      have h2 : (partsP p).length = 5 := rfl
      have h3 := len_body (body c p) (fun x hx => ⟨hpo.2 x hx, hfI x (by unfold body at hx; exact List.mem_of_mem_drop (List.mem_of_mem_take hx))⟩)
      have h4 := len_procs hok hfP hfI hnm ps T n (fun q hq => hm q (List.mem_cons_of_mem _ hq)) ho hn
      rw [e1, List.length_append, List.length_append, List.length_cons]
      rw [hbl] at h3
      rw [h2] at h1
      omega
    · cases ho
theorem len_txt {c : CoM} (hst : StOk c) (hfP : ∀ p ∈ c.ps, p.fit) (hfI : ∀ x ∈ c.is, x.fit) (hnm : ∀ p ∈ c.ps, p.name.length ≤ 60) : (txtC c).length ≤ 306 * c.ps.length + 67 * c.is.length := by
  have := len_procs hst.2 hfP hfI hnm c.ps 0 c.is.length (fun p hp => hp) hst.1.2 (Nat.le_refl _)
  unfold txtC
  omega
end Go.Proofs.YthkpnbekkoompabGreatDoor
