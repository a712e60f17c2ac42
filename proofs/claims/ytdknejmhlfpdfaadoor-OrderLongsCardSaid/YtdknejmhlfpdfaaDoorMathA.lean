/-
  Plain facts on bytes, runs of bytes, blanks and tokens of a list of bytes.
-/
namespace Go.Proofs.YtdknejmhlfpdfaaDoor

def isBl (c : UInt8) : Bool := c == 32 || c == 9 || c == 10 || c == 13
def isLet (c : UInt8) : Bool := (decide (97 ≤ c) && decide (c ≤ 122)) || (decide (65 ≤ c) && decide (c ≤ 90)) || c == 95
def isDig (c : UInt8) : Bool := decide (48 ≤ c) && decide (c ≤ 57)
def isAl (c : UInt8) : Bool := isLet c || isDig c
def notNl (c : UInt8) : Bool := c != 10

/-- How many bytes ahead belong. -/
def run (p : UInt8 → Bool) (r : List UInt8) : Nat := (r.takeWhile p).length
theorem run_nil (p : UInt8 → Bool) : run p [] = 0 := rfl
theorem run_cons (p : UInt8 → Bool) (c : UInt8) (r : List UInt8) : run p (c :: r) = if p c then run p r + 1 else 0 := by
  by_cases h : p c = true <;> simp [run, h]
theorem run_le (p : UInt8 → Bool) (r : List UInt8) : run p r ≤ r.length := by
  induction r with
  | nil => simp [run_nil]
  | cons c r ih => rw [run_cons]; split <;> simp <;> omega
theorem run_take (p : UInt8 → Bool) (r : List UInt8) : ∀ c ∈ r.take (run p r), p c = true := by
  induction r with
  | nil => simp
  | cons c r ih =>
    rw [run_cons]
    by_cases h : p c = true
    · rw [if_pos h, List.take_succ_cons]; intro d hd
      rcases List.mem_cons.1 hd with rfl | hd
      · exact h
      · exact ih d hd
    · rw [if_neg h]; simp
theorem run_end (p : UInt8 → Bool) (r : List UInt8) (h : run p r < r.length) : p (r[run p r]) = false := by
  induction r with
  | nil => simp at h
  | cons c r ih =>
    by_cases hc : p c = true
    · have e : run p (c :: r) = run p r + 1 := by rw [run_cons, if_pos hc]
      simp only [e, List.getElem_cons_succ]
      exact ih (by rw [e] at h; simpa using h)
    · have e : run p (c :: r) = 0 := by rw [run_cons, if_neg hc]
      simp only [e, List.getElem_cons_zero]
      simpa using hc
/-- All of a list belong, and what stands behind does not. -/
theorem run_append (p : UInt8 → Bool) (a b : List UInt8) (ha : ∀ c ∈ a, p c = true) : run p (a ++ b) = a.length + run p b := by
  induction a with
  | nil => simp
  | cons c a ih =>
    rw [List.cons_append, run_cons, if_pos (ha c (by simp)), ih (fun d hd => ha d (by simp [hd]))]
    simp; omega
theorem run_zero (p : UInt8 → Bool) (b : List UInt8) (h : ∀ c, b.head? = some c → p c = false) : run p b = 0 := by
  cases b with
  | nil => rfl
  | cons c b => rw [run_cons, if_neg (by rw [h c rfl]; simp)]

def runTo (p : UInt8 → Bool) (t : List UInt8) (k : Nat) : Nat := k + run p (t.drop k)
theorem runTo_step (p : UInt8 → Bool) (t : List UInt8) (k : Nat) (h : k < t.length) (hp : p t[k] = true) : runTo p t (k + 1) = runTo p t k := by
  unfold runTo
  rw [List.drop_eq_getElem_cons h, run_cons, if_pos hp]
  omega
theorem runTo_stop (p : UInt8 → Bool) (t : List UInt8) (k : Nat) (h : k < t.length) (hp : p t[k] = false) : runTo p t k = k := by
  unfold runTo
  rw [List.drop_eq_getElem_cons h, run_cons, if_neg (by rw [hp]; simp)]
  omega
theorem runTo_end (p : UInt8 → Bool) (t : List UInt8) (k : Nat) (h : t.length ≤ k) : runTo p t k = k := by
  unfold runTo
  rw [List.drop_eq_nil_of_le h, run_nil]
  omega
theorem runTo_le (p : UInt8 → Bool) (t : List UInt8) (k : Nat) (h : k ≤ t.length) : k ≤ runTo p t k ∧ runTo p t k ≤ t.length := by
  have := run_le p (t.drop k)
  simp at this
  unfold runTo
  omega

theorem runTo_after (p : UInt8 → Bool) (t : List UInt8) (k : Nat) (h : runTo p t k < t.length) : p (t[runTo p t k]) = false := by
  have e := run_end p (t.drop k) (by unfold runTo at h; simp; omega)
  rw [List.getElem_drop] at e
  exact e

/-- How many bytes of blanks stand ahead; the flag: within a #. -/
def skipL : Bool → List UInt8 → Nat
  | _, [] => 0
  | true, c :: r => if c = 10 then skipL false r + 1 else skipL true r + 1
  | false, c :: r => if isBl c then skipL false r + 1 else if c = 35 then skipL true r + 1 else 0
theorem skipL_le (b : Bool) (r : List UInt8) : skipL b r ≤ r.length := by
  induction r generalizing b with
  | nil => cases b <;> simp [skipL]
  | cons c r ih =>
    have h1 := ih true
    have h2 := ih false
    cases b <;> simp only [skipL, List.length_cons]
    · split
      · omega
      · split <;> omega
    · split <;> omega
def skipTo (b : Bool) (t : List UInt8) (k : Nat) : Nat := k + skipL b (t.drop k)
theorem skipTo_le (b : Bool) (t : List UInt8) (k : Nat) (h : k ≤ t.length) : k ≤ skipTo b t k ∧ skipTo b t k ≤ t.length := by
  have := skipL_le b (t.drop k)
  simp at this
  unfold skipTo
  omega
theorem skipTo_end (b : Bool) (t : List UInt8) (k : Nat) (h : t.length ≤ k) : skipTo b t k = k := by
  unfold skipTo
  rw [List.drop_eq_nil_of_le h]
  cases b <;> simp [skipL]
theorem skipTo_blank (t : List UInt8) (k : Nat) (h : k < t.length) (hb : isBl t[k] = true) : skipTo false t (k + 1) = skipTo false t k := by
  unfold skipTo
  rw [List.drop_eq_getElem_cons h]
  simp [skipL, hb]; omega
theorem skipTo_other (t : List UInt8) (k : Nat) (h : k < t.length) (hb : isBl t[k] = false) (hh : t[k] ≠ 35) : skipTo false t k = k := by
  unfold skipTo
  rw [List.drop_eq_getElem_cons h]
  simp [skipL, hb, hh]
theorem skipTo_hash (t : List UInt8) (k : Nat) (h : k < t.length) (hh : t[k] = 35) : skipTo true t k = skipTo false t k := by
  unfold skipTo
  rw [List.drop_eq_getElem_cons h]
  simp [skipL, hh, show isBl 35 = false from by decide]
theorem skipTo_in (t : List UInt8) (k : Nat) (h : k < t.length) (hn : t[k] ≠ 10) : skipTo true t (k + 1) = skipTo true t k := by
  unfold skipTo
  rw [List.drop_eq_getElem_cons h]
  simp [skipL, hn]; omega
theorem skipTo_out (t : List UInt8) (k : Nat) (h : k < t.length) (hn : t[k] = 10) : skipTo true t k = skipTo false t k := by
  unfold skipTo
  rw [List.drop_eq_getElem_cons h]
  simp [skipL, hn, show isBl 10 = true from by decide]
/-- A run of blanks, and then no more of them. -/
theorem skipTo_run (t : List UInt8) (k : Nat) (h : k ≤ t.length) : skipTo false t (runTo isBl t k) = skipTo false t k := by
  have key : ∀ n k, t.length - k = n → k ≤ t.length → skipTo false t (runTo isBl t k) = skipTo false t k := by
    intro n
    induction n with
    | zero => intro k hn hk; rw [runTo_end isBl t k (by omega)]
    | succ n ih =>
      intro k hn hk
      have hlt : k < t.length := by omega
      by_cases hb : isBl t[k] = true
      · rw [← runTo_step isBl t k hlt hb, ih (k + 1) (by omega) (by omega), skipTo_blank t k hlt hb]
      · rw [runTo_stop isBl t k hlt (by simpa using hb)]
  exact key _ k rfl h
/-- A run of bytes that are no line end, within a #, and then it is over. -/
theorem skipTo_nl (t : List UInt8) (k : Nat) (h : k ≤ t.length) : skipTo false t (runTo notNl t k) = skipTo true t k := by
  have key : ∀ n k, t.length - k = n → k ≤ t.length → skipTo false t (runTo notNl t k) = skipTo true t k := by
    intro n
    induction n with
    | zero => intro k hn hk; rw [runTo_end notNl t k (by omega), skipTo_end _ t k (by omega), skipTo_end _ t k (by omega)]
    | succ n ih =>
      intro k hn hk
      have hlt : k < t.length := by omega
      by_cases hb : t[k] = 10
      · rw [runTo_stop notNl t k hlt (by simp [notNl, hb]), skipTo_out t k hlt hb]
      · rw [← runTo_step notNl t k hlt (by simpa [notNl] using hb), ih (k + 1) (by omega) (by omega), skipTo_in t k hlt hb]
  exact key _ k rfl h
theorem runTo_notNl_gt (t : List UInt8) (k : Nat) (h : k < t.length) (hh : t[k] = 35) : k < runTo notNl t k := by
  rw [← runTo_step notNl t k h (by simp [notNl, hh])]
  have := (runTo_le notNl t (k + 1) h).1
  omega

/-- The words, the signs of two bytes, those of one. -/
def wordsL : List (List UInt8) := [[98, 114, 101, 97, 107], [99, 111, 110, 116, 105, 110, 117, 101], [101, 108, 115, 101], [102, 97, 108, 115, 101], [102, 117, 110, 99], [105, 102], [105, 110, 116], [112, 114, 105, 110, 116], [114, 101, 97, 100], [114, 101, 116, 117, 114, 110], [116, 114, 117, 101], [118, 97, 114], [119, 104, 105, 108, 101]]
def twoL : List (List UInt8) := [[61, 61], [33, 61], [60, 61], [62, 61], [38, 38], [124, 124]]
def oneL : List (List UInt8) := [[43], [45], [42], [47], [37], [60], [62], [33], [61], [40], [41], [123], [125], [91], [93], [44], [59]]
def signsL : List (List UInt8) := twoL ++ oneL

def isW (b : List UInt8) : Bool := wordsL.contains b
def isTwo (b : List UInt8) : Bool := twoL.contains b
def isOne (b : List UInt8) : Bool := oneL.contains b
/-- How many bytes the sign has that stands ahead; 0: none. -/
def signL (r : List UInt8) : Nat := if isTwo (r.take 2) then 2 else if isOne (r.take 1) then 1 else 0
def nameK (b : List UInt8) : Nat := if isW b then 3 else 1
/-- Is a number of n digits, at the head of r, none? -/
def numBad (r : List UInt8) (n : Nat) : Bool := decide (18 < n) || (decide (1 < n) && r.head? == some 48) || (match r[n]? with | some c => isLet c | none => false)
/-- The kind and the length of the token ahead; of none both are 0. -/
def tokL (r : List UInt8) : Nat × Nat :=
  match r with
  | [] => (0, 0)
  | c :: _ =>
    if isLet c then (nameK (r.take (run isAl r)), run isAl r)
    else if isDig c then (if numBad r (run isDig r) then (0, 0) else (2, run isDig r))
    else if signL r = 0 then (0, 0) else (4, signL r)

theorem signL_le (r : List UInt8) : signL r ≤ r.length := by
  unfold signL
  by_cases h : isTwo (r.take 2) = true
  · rw [if_pos h]
    have : ∀ b ∈ twoL, b.length = 2 := by decide
    have h2 := this _ (by simpa [isTwo] using h)
    simp at h2; omega
  · rw [if_neg h]
    by_cases h1 : isOne (r.take 1) = true
    · rw [if_pos h1]
      have : ∀ b ∈ oneL, b.length = 1 := by decide
      have h2 := this _ (by simpa [isOne] using h1)
      simp at h2; omega
    · rw [if_neg h1]; omega
theorem tokL_le (r : List UInt8) : (tokL r).2 ≤ r.length := by
  cases r with
  | nil => simp [tokL]
  | cons c r =>
    simp only [tokL]
    split
    · exact run_le _ _
    · split
      · split
        · simp
        · exact run_le _ _
      · split
        · simp
        · exact signL_le _
theorem tokL_kind (r : List UInt8) : (tokL r).1 ≤ 4 := by
  cases r with
  | nil => simp [tokL]
  | cons c r =>
    simp only [tokL, nameK]
    split
    · split <;> simp
    · split
      · split <;> simp
      · split <;> simp
/-- A token has a kind just if it has bytes. -/
theorem tokL_zero (r : List UInt8) : (tokL r).1 = 0 ↔ (tokL r).2 = 0 := by
  cases r with
  | nil => simp [tokL]
  | cons c r =>
    simp only [tokL, nameK]
    split
    · rename_i h
      have e : run isAl (c :: r) = run isAl r + 1 := by rw [run_cons, if_pos (by simp [isAl, h])]
      rw [e]
      split <;> simp
    · split
      · rename_i h
        split
        · simp
        · rw [run_cons, if_pos h]; simp
      · split
        · simp
        · rename_i h; simp [h]

structure Tok where
  kind : Nat
  lo : Nat
  hi : Nat
theorem Tok.eq_of {a b : Tok} (h : a.kind = b.kind ∧ a.lo = b.lo ∧ a.hi = b.hi) : a = b := by
  obtain ⟨a1, a2, a3⟩ := a
  obtain ⟨b1, b2, b3⟩ := b
  obtain ⟨h1, h2, h3⟩ := h
  dsimp only at h1 h2 h3
  subst h1 h2 h3
  rfl
instance : DecidableEq Tok := fun a b =>
  if h : a.kind = b.kind ∧ a.lo = b.lo ∧ a.hi = b.hi then isTrue (Tok.eq_of h) else isFalse (fun e => h (by rw [e]; exact ⟨rfl, rfl, rfl⟩))

/-- The token behind blanks, from a place on. -/
def nextT (t : List UInt8) (k : Nat) : Tok :=
  let f := skipTo false t k
  ⟨(tokL (t.drop f)).1, f, f + (tokL (t.drop f)).2⟩
/-- Is there none? -/
def nextBad (t : List UInt8) (k : Nat) : Bool := (nextT t k).hi == (nextT t k).lo && decide ((nextT t k).lo < t.length)

theorem nextT_le (t : List UInt8) (k : Nat) (h : k ≤ t.length) : k ≤ (nextT t k).lo ∧ (nextT t k).lo ≤ (nextT t k).hi ∧ (nextT t k).hi ≤ t.length ∧ (nextT t k).kind ≤ 4 := by
  have h1 := skipTo_le false t k h
  have h2 := tokL_le (t.drop (skipTo false t k))
  have h3 := tokL_kind (t.drop (skipTo false t k))
  simp at h2
  simp only [nextT]
  omega
theorem nextT_kind (t : List UInt8) (k : Nat) (hk : (nextT t k).kind ≠ 0) : (nextT t k).lo < (nextT t k).hi := by
  have h := tokL_zero (t.drop (skipTo false t k))
  simp only [nextT] at hk ⊢
  have : (tokL (t.drop (skipTo false t k))).2 ≠ 0 := fun e => hk (h.2 e)
  omega
theorem nextT_end (t : List UInt8) (k : Nat) (h : k ≤ t.length) (hb : nextBad t k = false) (hk : (nextT t k).kind = 0) : nextT t k = ⟨0, t.length, t.length⟩ := by
  have h0 := tokL_zero (t.drop (skipTo false t k))
  have h1 := skipTo_le false t k h
  simp only [nextT] at hk
  have h2 := h0.1 hk
  simp only [nextBad, nextT, h2] at hb
  simp at hb
  simp only [nextT, hk, h2]
  have : skipTo false t k = t.length := by omega
  simp [this]

/-- The tokens from a place on; and the place of what is none, if there is such. -/
def toksF : Nat → List UInt8 → Nat → List Tok × Option Nat
  | 0, _, _ => ([], none)
  | n + 1, t, k =>
    if nextBad t k then ([], some (nextT t k).lo)
    else if (nextT t k).kind = 0 then ([nextT t k], none)
    else ((nextT t k) :: (toksF n t (nextT t k).hi).1, (toksF n t (nextT t k).hi).2)
theorem toksF_fuel (t : List UInt8) : ∀ (n m k : Nat), t.length - k < n → t.length - k < m → k ≤ t.length → toksF n t k = toksF m t k := by
  intro n
  induction n with
  | zero => intro m k h; omega
  | succ n ih =>
    intro m k hn hm hk
    cases m with
    | zero => omega
    | succ m =>
      simp only [toksF]
      by_cases hb : nextBad t k = true
      · rw [if_pos hb, if_pos hb]
      · rw [if_neg hb, if_neg hb]
        by_cases h0 : (nextT t k).kind = 0
        · rw [if_pos h0, if_pos h0]
        · rw [if_neg h0, if_neg h0]
          have h1 := nextT_le t k hk
          have h2 := nextT_kind t k h0
          rw [ih m (nextT t k).hi (by omega) (by omega) (by omega)]
/-- The tokens of a text from a place on. -/
def toks (t : List UInt8) (k : Nat) : List Tok × Option Nat := toksF (t.length - k + 1) t k
theorem toks_bad (t : List UInt8) (k : Nat) (hb : nextBad t k = true) : toks t k = ([], some (nextT t k).lo) := by
  unfold toks; simp [toksF, hb]
theorem toks_end (t : List UInt8) (k : Nat) (hb : nextBad t k = false) (h0 : (nextT t k).kind = 0) : toks t k = ([nextT t k], none) := by
  unfold toks; simp [toksF, hb, h0]
theorem toks_more (t : List UInt8) (k : Nat) (hk : k ≤ t.length) (hb : nextBad t k = false) (h0 : (nextT t k).kind ≠ 0) : toks t k = (nextT t k :: (toks t (nextT t k).hi).1, (toks t (nextT t k).hi).2) := by
  have h1 := nextT_le t k hk
  have h2 := nextT_kind t k h0
  unfold toks
  rw [toksF_fuel t (t.length - (nextT t k).hi + 1) (t.length - k) (nextT t k).hi (by omega) (by omega) (by omega)]
  conv => lhs; rw [toksF]
  rw [if_neg (by rw [hb]; simp), if_neg h0]

end Go.Proofs.YtdknejmhlfpdfaaDoor
