/-
  A program's model: what stands in it is put, token by token, till something is wrong.
-/
namespace Go.Proofs.YtccmodefjgjpeaaGreatDoor

/-- A token with its bytes. -/
structure Tk where
  kind : Nat
  lo : Nat
  hi : Nat
  txt : List UInt8
/-- An expression. -/
structure Ex where
  kind : Nat
  lo : Nat := 0
  hi : Nat := 0
  num : Nat := 0
  name : List UInt8 := []
  op : List UInt8 := []
  a : Nat := 0
  b : Nat := 0
  list : List Nat := []
/-- A statement. -/
structure Sm where
  kind : Nat
  lo : Nat := 0
  hi : Nat := 0
  name : List UInt8 := []
  num : Nat := 0
  a : Int := 0
  b : Nat := 0
  thn : List Nat := []
  els : List Nat := []
/-- A function. -/
structure Fu where
  name : List UInt8
  lo : Nat := 0
  hi : Nat := 0
  params : List (List UInt8)
  ty : Nat
  body : List Nat
/-- How many tokens were taken; what was put. -/
structure Sg where
  at_ : Nat
  ex : List Ex
  st : List Sm
  fn : List Fu
/-- What comes of a part: something, or an error's number and the token where it is. -/
inductive Rs (α : Type) where
  | ok : α → Sg → Rs α
  | no : Nat → Nat → Rs α
abbrev Ps (α : Type) := Sg → Rs α

def bd {α β : Type} (x : Ps α) (f : α → Ps β) : Ps β := fun s => match x s with
  | .ok a s' => f a s'
  | .no c i => .no c i
theorem bd_ok {α β : Type} {x : Ps α} {f : α → Ps β} {s s' : Sg} {a : α} (h : x s = .ok a s') : bd x f s = f a s' := by simp [bd, h]
theorem bd_no {α β : Type} {x : Ps α} {f : α → Ps β} {s : Sg} {c i : Nat} (h : x s = .no c i) : bd x f s = .no c i := by simp [bd, h]
def okP {α : Type} (a : α) : Ps α := fun s => .ok a s

/-- The token that comes next. -/
def cur (T : List Tk) (s : Sg) : Tk := T.getD s.at_ ⟨0, 0, 0, []⟩
def isP (T : List Tk) (l : List (List UInt8)) (s : Sg) : Bool := l.contains (cur T s).txt
def isK (T : List Tk) (k : Nat) (s : Sg) : Bool := (cur T s).kind == k
def nextP (T : List Tk) : Ps (List UInt8) := fun s => if 1000 < s.st.length then .no 5 s.at_ else .ok (cur T s).txt { s with at_ := s.at_ + 1 }
def takeP (T : List Tk) (l : List (List UInt8)) : Ps (List UInt8) := fun s => if isP T l s then nextP T s else .no 3 s.at_
def takeK (T : List Tk) (k : Nat) : Ps (List UInt8) := fun s => if isK T k s then nextP T s else .no 3 s.at_
/-- Where the token ends that was taken last. -/
def lastHi (T : List Tk) (s : Sg) : Nat := (T.getD (s.at_ - 1) ⟨0, 0, 0, []⟩).hi
def putE (T : List Tk) (lo : Nat) (x : Ex) : Ps Nat := fun s => .ok s.ex.length { s with ex := s.ex ++ [{ x with lo := lo, hi := lastHi T s }] }
def putS (T : List Tk) (lo : Nat) (x : Sm) : Ps Nat := fun s => .ok s.st.length { s with st := s.st ++ [{ x with lo := lo, hi := lastHi T s }] }
def putF (T : List Tk) (lo : Nat) (x : Fu) : Ps Unit := fun s => .ok () { s with fn := s.fn ++ [{ x with lo := lo, hi := lastHi T s }] }

/-- The words and signs that the grammar names. -/
def kFunc : List UInt8 := [102, 117, 110, 99]
def kInt : List UInt8 := [105, 110, 116]
def kIf : List UInt8 := [105, 102]
def kElse : List UInt8 := [101, 108, 115, 101]
def kWhile : List UInt8 := [119, 104, 105, 108, 101]
def kVar : List UInt8 := [118, 97, 114]
def kReturn : List UInt8 := [114, 101, 116, 117, 114, 110]
def kPrint : List UInt8 := [112, 114, 105, 110, 116]
def kBreak : List UInt8 := [98, 114, 101, 97, 107]
def kContinue : List UInt8 := [99, 111, 110, 116, 105, 110, 117, 101]
def kTrue : List UInt8 := [116, 114, 117, 101]
def kFalse : List UInt8 := [102, 97, 108, 115, 101]
def kRead : List UInt8 := [114, 101, 97, 100]

/-- What stands between ( and ), parted by commas. -/
def listL (T : List Tk) {α : Type} (one : Ps α) : Nat → List α → Ps (List α)
  | 0, _ => fun _ => .no 0 0
  | n + 1, out => fun s => if isP T [[41]] s then .ok out s else bd (if out.length = 0 then okP [] else takeP T [[44]]) (fun _ => bd one fun x => listL T one n (out ++ [x])) s
def listM (T : List Tk) {α : Type} (one : Ps α) : Ps (List α) := bd (takeP T [[40]]) fun _ => bd (listL T one (T.length + 1) []) fun l => bd (takeP T [[41]]) fun _ => okP l

def pairM (T : List Tk) (part : Ps Nat) (lo a : Nat) : Ps Nat := bd (nextP T) fun o => bd part fun b => putE T lo { kind := 9, op := o, a := a, b := b }
def rowL (T : List Tk) (part : Ps Nat) (signs : List (List UInt8)) (lo : Nat) : Nat → Nat → Ps Nat
  | 0, _ => fun _ => .no 0 0
  | n + 1, a => fun s => if isP T signs s then bd (pairM T part lo a) (rowL T part signs lo n) s else .ok a s
def rowM (T : List Tk) (part : Ps Nat) (signs : List (List UInt8)) : Ps Nat := fun s => bd part (rowL T part signs (cur T s).lo (T.length + 1)) s

def sgMul : List (List UInt8) := [[42], [47], [37]]
def sgAdd : List (List UInt8) := [[43], [45]]
def sgCmp : List (List UInt8) := [[61, 61], [33, 61], [60], [60, 61], [62], [62, 61]]
def sgAnd : List (List UInt8) := [[38, 38]]
def sgOr : List (List UInt8) := [[124, 124]]
def productM (T : List Tk) (op : Ps Nat) : Ps Nat := rowM T op sgMul
def sumM (T : List Tk) (op : Ps Nat) : Ps Nat := rowM T (productM T op) sgAdd
def comparisonM (T : List Tk) (op : Ps Nat) : Ps Nat := fun s => bd (sumM T op) (fun a s1 => if isP T sgCmp s1 then pairM T (sumM T op) (cur T s).lo a s1 else .ok a s1) s
def conjunctionM (T : List Tk) (op : Ps Nat) : Ps Nat := rowM T (comparisonM T op) sgAnd
def expressionM (T : List Tk) (op : Ps Nat) : Ps Nat := rowM T (conjunctionM T op) sgOr

/-- What digits say. -/
def numOf (l : List UInt8) : Nat := l.foldl (fun n c => n * 10 + (c.toNat - 48)) 0
def numberM (T : List Tk) : Ps Nat := bd (takeK T 2) fun x => okP (numOf x)
def indexM (T : List Tk) (e : Ps Nat) : Ps Nat := bd (takeP T [[91]]) fun _ => bd e fun a => bd (takeP T [[93]]) fun _ => okP a
/-- A call's, of which the name was taken; sub: what its arguments are made of. -/
def callM (T : List Tk) (sub : Ps Nat) (lo : Nat) (name : List UInt8) : Ps Nat := bd (listM T (expressionM T sub)) fun l => putE T lo { kind := 6, name := name, list := l }
def referenceM (T : List Tk) (sub : Ps Nat) : Ps Nat := fun s => bd (takeK T 1) (fun name s1 =>
  if isP T [[40]] s1 then callM T sub (cur T s).lo name s1
  else if isP T [[91]] s1 then bd (indexM T (expressionM T sub)) (fun a => putE T (cur T s).lo { kind := 5, name := name, a := a }) s1
  else putE T (cur T s).lo { kind := 4, name := name } s1) s
def wordM (T : List Tk) : Ps Nat := fun s => bd (takeP T [kTrue, kFalse, kRead]) (fun x => putE T (cur T s).lo { kind := if x = kTrue then 2 else if x = kFalse then 3 else 7 }) s
def operandS (T : List Tk) (sub : Ps Nat) : Ps Nat := fun s =>
  if isP T [[45], [33]] s then bd (nextP T) (fun o => bd sub fun a => putE T (cur T s).lo { kind := 8, op := o, a := a }) s
  else if isP T [[40]] s then bd (takeP T [[40]]) (fun _ => bd (expressionM T sub) fun a => bd (takeP T [[41]]) fun _ => okP a) s
  else if isK T 1 s then referenceM T sub s
  else if isK T 2 s then bd (numberM T) (fun n => putE T (cur T s).lo { kind := 1, num := n }) s
  else wordM T s
/-- An operand; 65 - k is how deep it is. -/
def operandM (T : List Tk) : Nat → Ps Nat
  | 0 => fun s => .no 4 s.at_
  | k + 1 => operandS T (operandM T k)

def blockL (T : List Tk) (one : Ps Nat) : Nat → List Nat → Ps (List Nat)
  | 0, _ => fun _ => .no 0 0
  | n + 1, out => fun s => if isP T [[125]] s then .ok out s else bd one (fun x => blockL T one n (out ++ [x])) s
def blockS (T : List Tk) (one : Ps Nat) : Ps (List Nat) := bd (takeP T [[123]]) fun _ => bd (blockL T one (T.length + 1) []) fun l => bd (takeP T [[125]]) fun _ => okP l
/-- What stands behind else. -/
def otherwiseM (T : List Tk) (blk : Ps (List Nat)) (stm : Ps Nat) : Ps (List Nat) := fun s => if isP T [kIf] s then bd stm (fun i => okP [i]) s else blk s
def choiceM (T : List Tk) (ex : Ps Nat) (blk : Ps (List Nat)) (stm : Ps Nat) : Ps Sm := bd (takeP T [kIf]) fun _ => bd ex fun a => bd blk fun l s =>
  if isP T [kElse] s then bd (takeP T [kElse]) (fun _ => bd (otherwiseM T blk stm) fun m => okP { kind := 5, a := a, thn := l, els := m }) s
  else .ok { kind := 5, a := a, thn := l } s
def loopM (T : List Tk) (ex : Ps Nat) (blk : Ps (List Nat)) : Ps Sm := bd (takeP T [kWhile]) fun _ => bd ex fun a => bd blk fun l => okP { kind := 6, a := a, thn := l }
def namedM (T : List Tk) (ex sub : Ps Nat) : Ps Sm := fun s => bd (takeK T 1) (fun name s1 =>
  if isP T [[40]] s1 then bd (callM T sub (cur T s).lo name) (fun a => okP { kind := 11, a := a }) s1
  else if isP T [[91]] s1 then bd (indexM T ex) (fun a => bd (takeP T [[61]]) fun _ => bd ex fun b => okP { kind := 4, name := name, a := a, b := b }) s1
  else bd (takeP T [[61]]) (fun _ => bd ex fun a => okP { kind := 3, name := name, a := a }) s1) s
def variableM (T : List Tk) (ex : Ps Nat) : Ps Sm := bd (takeP T [kVar]) fun _ => bd (takeK T 1) fun name => bd (takeP T [[61], [91]]) fun x =>
  if x = [61] then bd ex fun a => okP { kind := 1, name := name, a := a }
  else bd (numberM T) fun n => bd (takeP T [[93]]) fun _ => okP { kind := 2, name := name, num := n }
def answerM (T : List Tk) (ex : Ps Nat) : Ps Sm := bd (takeP T [kReturn]) fun _ s => if isP T [[59]] s then .ok { kind := 9, a := -1 } s else bd ex (fun a => okP { kind := 9, a := a }) s
def simpleM (T : List Tk) (ex sub : Ps Nat) : Ps Sm := fun s =>
  if isK T 1 s then namedM T ex sub s
  else if isP T [kVar] s then variableM T ex s
  else if isP T [kReturn] s then answerM T ex s
  else if isP T [kPrint] s then bd (takeP T [kPrint]) (fun _ => bd ex fun a => okP { kind := 10, a := a }) s
  else bd (takeP T [kBreak, kContinue]) (fun x => okP { kind := if x = kBreak then 7 else 8 }) s
def fieldsM (T : List Tk) (ex sub : Ps Nat) (blk : Ps (List Nat)) (stm : Ps Nat) : Ps Sm := fun s =>
  if isP T [kIf] s then choiceM T ex blk stm s
  else if isP T [kWhile] s then loopM T ex blk s
  else bd (simpleM T ex sub) (fun x => bd (takeP T [[59]]) fun _ => okP x) s
def stmtS (T : List Tk) (ex sub : Ps Nat) (blk : Ps (List Nat)) (stm : Ps Nat) : Ps Nat := fun s => bd (fieldsM T ex sub blk stm) (putS T (cur T s).lo) s
/-- A block of a statement's, of that depth. -/
def blkOf (T : List Tk) (k : Nat) (stm : Ps Nat) : Ps (List Nat) := if k = 0 then fun s => .no 4 s.at_ else blockS T stm
/-- A statement; 65 - k is its block's depth. -/
def stmtM (T : List Tk) : Nat → Ps Nat
  | 0 => fun s => .no 4 s.at_
  | k + 1 => stmtS T (expressionM T (operandM T (k + 1))) (operandM T k) (blkOf T k (stmtM T k)) (stmtM T k)
def blockM (T : List Tk) (k : Nat) : Ps (List Nat) := blkOf T k (stmtM T k)

def functionM (T : List Tk) : Ps Unit := fun s =>
  if isP T [kFunc] s && s.fn.length == 32 then .no 5 s.at_
  else bd (takeP T [kFunc]) (fun _ => bd (takeK T 1) fun name => bd (listM T (takeK T 1)) fun ps => bd (fun s1 => if isP T [kInt] s1 then bd (takeP T [kInt]) (fun _ => okP 1) s1 else .ok 4 s1) fun ty => bd (blockM T 64) fun body => putF T (cur T s).lo { name := name, params := ps, ty := ty, body := body }) s
def programL (T : List Tk) : Nat → Ps Unit
  | 0 => fun _ => .no 0 0
  | n + 1 => fun s => if isK T 0 s then .ok () s else bd (functionM T) (fun _ => programL T n) s
def programM (T : List Tk) : Ps Unit := bd (functionM T) fun _ => programL T (T.length + 1)
def start : Sg := ⟨0, [], [], []⟩

/-- The last token, and it alone, is the End, which has no bytes; a number is of digits. -/
structure TkOk (T : List Tk) : Prop where
  pos : 0 < T.length
  last : ∀ i (h : i < T.length), (T[i].kind ≠ 0 ∨ T[i].txt ≠ []) → i + 1 < T.length
  num : ∀ i (h : i < T.length), T[i].kind = 2 → T[i].txt ≠ [] ∧ T[i].txt.length ≤ 18 ∧ ∀ c ∈ T[i].txt, 48 ≤ c.toNat ∧ c.toNat ≤ 57
theorem cur_at {T : List Tk} {s : Sg} (h : s.at_ < T.length) : cur T s = T[s.at_] := by simp [cur, h]
theorem TkOk.isP {T : List Tk} (hT : TkOk T) {l : List (List UInt8)} (hl : [] ∉ l) {s : Sg} (h : s.at_ < T.length) (hi : isP T l s = true) : s.at_ + 1 < T.length := by
  refine hT.last _ h (.inr fun e => hl ?_)
  rw [Go.Proofs.YtccmodefjgjpeaaGreatDoor.isP, cur_at h, e] at hi
  simpa using hi
theorem TkOk.isK {T : List Tk} (hT : TkOk T) {k : Nat} (hk : k ≠ 0) {s : Sg} (h : s.at_ < T.length) (hi : isK T k s = true) : s.at_ + 1 < T.length := by
  refine hT.last _ h (.inl fun e => hk ?_)
  rw [Go.Proofs.YtccmodefjgjpeaaGreatDoor.isK, cur_at h, e] at hi
  exact (beq_iff_eq.1 hi).symm

/-- A part that goes on by so many tokens at least, or ends at one that there is. -/
def Fine (T : List Tk) {α : Type} (m : Nat) (x : Ps α) : Prop := ∀ s, s.at_ < T.length → match x s with
  | .ok _ s' => s.at_ + m ≤ s'.at_ ∧ s'.at_ < T.length
  | .no c i => (c = 3 ∨ c = 4 ∨ c = 5) ∧ i < T.length
theorem fine_bd {T : List Tk} {α β : Type} {m n : Nat} {x : Ps α} {f : α → Ps β} (hx : Fine T m x) (hf : ∀ a, Fine T n (f a)) : Fine T (m + n) (bd x f) := by
  intro s hs
  have h1 := hx s hs
  unfold bd
  cases hr : x s with
  | no c i => rw [hr] at h1; exact h1
  | ok a s' =>
    rw [hr] at h1
    obtain ⟨h2, h3⟩ := h1
    have h4 := hf a s' h3
    show (match f a s' with | .ok _ s' => s.at_ + (m + n) ≤ s'.at_ ∧ s'.at_ < T.length | .no c i => (c = 3 ∨ c = 4 ∨ c = 5) ∧ i < T.length)
    cases hf2 : f a s' with
    | no c i => rw [hf2] at h4; exact h4
    | ok b s2 => rw [hf2] at h4; exact ⟨by omega, h4.2⟩
theorem Fine.mono {T : List Tk} {α : Type} {m n : Nat} {x : Ps α} (h : Fine T m x) (hn : n ≤ m) : Fine T n x := by
  intro s hs
  have h1 := h s hs
  cases hr : x s with
  | no c i => rw [hr] at h1; exact h1
  | ok a s' => rw [hr] at h1; exact ⟨by omega, h1.2⟩
theorem fine_at {T : List Tk} {α : Type} {m : Nat} {x : Sg → Ps α} (h : ∀ s0, Fine T m (x s0)) : Fine T m (fun s => x s s) := fun s hs => h s s hs
theorem fine_ite {T : List Tk} {α : Type} {m : Nat} {c : Sg → Bool} {x y : Ps α} (hx : Fine T m x) (hy : Fine T m y) : Fine T m (fun s => if c s then x s else y s) := by
  intro s hs
  by_cases h : c s = true
  · have := hx s hs; simpa [h] using this
  · have := hy s hs; simpa [h] using this
theorem fine_ok {T : List Tk} {α : Type} (a : α) : Fine T 0 (okP a : Ps α) := fun _ hs => ⟨Nat.le_refl _, hs⟩
theorem fine_no {T : List Tk} {α : Type} {m : Nat} (c : Nat) (hc : c = 3 ∨ c = 4 ∨ c = 5) : Fine T m (fun s => .no c s.at_ : Ps α) := fun _ hs => ⟨hc, hs⟩
theorem fine_next {T : List Tk} {c : Sg → Bool} (h : ∀ s, s.at_ < T.length → c s = true → s.at_ + 1 < T.length) : Fine T 1 (fun s => if c s then nextP T s else .no 3 s.at_) := by
  intro s hs
  by_cases hc : c s = true
  · have h1 := h s hs hc
    simp only [hc, if_true, nextP]
    by_cases hm : 1000 < s.st.length
    · rw [if_pos hm]; exact ⟨.inr (.inr rfl), hs⟩
    · rw [if_neg hm]; exact ⟨Nat.le_refl _, h1⟩
  · simp only [hc]; exact ⟨.inl rfl, hs⟩
theorem fine_takeP {T : List Tk} (hT : TkOk T) {l : List (List UInt8)} (hl : [] ∉ l) : Fine T 1 (takeP T l) := fine_next fun _ hs hi => hT.isP hl hs hi
theorem fine_takeK {T : List Tk} (hT : TkOk T) {k : Nat} (hk : k ≠ 0) : Fine T 1 (takeK T k) := fine_next fun _ hs hi => hT.isK hk hs hi
theorem fine_putE {T : List Tk} (lo : Nat) (x : Ex) : Fine T 0 (putE T lo x) := fun _ hs => ⟨Nat.le_refl _, hs⟩
theorem fine_putS {T : List Tk} (lo : Nat) (x : Sm) : Fine T 0 (putS T lo x) := fun _ hs => ⟨Nat.le_refl _, hs⟩
theorem fine_putF {T : List Tk} (lo : Nat) (x : Fu) : Fine T 0 (putF T lo x) := fun _ hs => ⟨Nat.le_refl _, hs⟩

end Go.Proofs.YtccmodefjgjpeaaGreatDoor
