/-
  A program's model: what stands in it is put, token by token, till something is wrong.
  Each part of the grammar goes on, or ends at a token that there is.
  A parser in memory: its tokens, what it has put, and what else may lie beside it.
  A parser's small functions: what comes next, and going behind it.
-/
import Derived.Test.YtdeflloidhbpmaaGreatDoorK03
import Derived.Laws.AppendOwn
import Derived.OwnWalk
import Derived.Deep.AppendLies
import Derived.LoopTactic
import Derived.RegionTactic
import Derived.Deep.QuietTactic
import Derived.BigQuiet
namespace Go.Proofs.YtdeflloidhbpmaaGreatDoor

/-- A token with its bytes. -/
structure Tk where
  kind : Nat
  lo : Nat
  hi : Nat
  txt : List UInt8
/-- An expression. -/
structure Ex where
  kind : Nat
  lo : Nat := 0
  hi : Nat := 0
  num : Nat := 0
  name : List UInt8 := []
  op : List UInt8 := []
  a : Nat := 0
  b : Nat := 0
  list : List Nat := []
/-- A statement. -/
structure Sm where
  kind : Nat
  lo : Nat := 0
  hi : Nat := 0
  name : List UInt8 := []
  num : Nat := 0
  a : Int := 0
  b : Nat := 0
  thn : List Nat := []
  els : List Nat := []
/-- A function. -/
structure Fu where
  name : List UInt8
  lo : Nat := 0
  hi : Nat := 0
  params : List (List UInt8)
  ty : Nat
  body : List Nat
/-- How many tokens were taken; what was put. -/
structure Sg where
  at_ : Nat
  ex : List Ex
  st : List Sm
  fn : List Fu
/-- What comes of a part: something, or an error's number and the token where it is. -/
inductive Rs (α : Type) where
  | ok : α → Sg → Rs α
  | no : Nat → Nat → Rs α
abbrev Ps (α : Type) := Sg → Rs α

def bd {α β : Type} (x : Ps α) (f : α → Ps β) : Ps β := fun s => match x s with
  | .ok a s' => f a s'
  | .no c i => .no c i
theorem bd_ok {α β : Type} {x : Ps α} {f : α → Ps β} {s s' : Sg} {a : α} (h : x s = .ok a s') : bd x f s = f a s' := by simp [bd, h]
theorem bd_no {α β : Type} {x : Ps α} {f : α → Ps β} {s : Sg} {c i : Nat} (h : x s = .no c i) : bd x f s = .no c i := by simp [bd, h]
def okP {α : Type} (a : α) : Ps α := fun s => .ok a s

/-- The token that comes next. -/
def cur (T : List Tk) (s : Sg) : Tk := T.getD s.at_ ⟨0, 0, 0, []⟩
def isP (T : List Tk) (l : List (List UInt8)) (s : Sg) : Bool := l.contains (cur T s).txt
def isK (T : List Tk) (k : Nat) (s : Sg) : Bool := (cur T s).kind == k
def nextP (T : List Tk) : Ps (List UInt8) := fun s => if 1000 < s.st.length then .no 5 s.at_ else .ok (cur T s).txt { s with at_ := s.at_ + 1 }
def takeP (T : List Tk) (l : List (List UInt8)) : Ps (List UInt8) := fun s => if isP T l s then nextP T s else .no 3 s.at_
def takeK (T : List Tk) (k : Nat) : Ps (List UInt8) := fun s => if isK T k s then nextP T s else .no 3 s.at_
/-- Where the token ends that was taken last. -/
def lastHi (T : List Tk) (s : Sg) : Nat := (T.getD (s.at_ - 1) ⟨0, 0, 0, []⟩).hi
def putE (T : List Tk) (lo : Nat) (x : Ex) : Ps Nat := fun s => .ok s.ex.length { s with ex := s.ex ++ [{ x with lo := lo, hi := lastHi T s }] }
def putS (T : List Tk) (lo : Nat) (x : Sm) : Ps Nat := fun s => .ok s.st.length { s with st := s.st ++ [{ x with lo := lo, hi := lastHi T s }] }
def putF (T : List Tk) (lo : Nat) (x : Fu) : Ps Unit := fun s => .ok () { s with fn := s.fn ++ [{ x with lo := lo, hi := lastHi T s }] }

/-- The words and signs that the grammar names. -/
def kFunc : List UInt8 := [102, 117, 110, 99]
def kInt : List UInt8 := [105, 110, 116]
def kIf : List UInt8 := [105, 102]
def kElse : List UInt8 := [101, 108, 115, 101]
def kWhile : List UInt8 := [119, 104, 105, 108, 101]
def kVar : List UInt8 := [118, 97, 114]
def kReturn : List UInt8 := [114, 101, 116, 117, 114, 110]
def kPrint : List UInt8 := [112, 114, 105, 110, 116]
def kBreak : List UInt8 := [98, 114, 101, 97, 107]
def kContinue : List UInt8 := [99, 111, 110, 116, 105, 110, 117, 101]
def kTrue : List UInt8 := [116, 114, 117, 101]
def kFalse : List UInt8 := [102, 97, 108, 115, 101]
def kRead : List UInt8 := [114, 101, 97, 100]

/-- What stands between ( and ), parted by commas. -/
def listL (T : List Tk) {α : Type} (one : Ps α) : Nat → List α → Ps (List α)
  | 0, _ => fun _ => .no 0 0
  | n + 1, out => fun s => if isP T [[41]] s then .ok out s else bd (if out.length = 0 then okP [] else takeP T [[44]]) (fun _ => bd one fun x => listL T one n (out ++ [x])) s
def listM (T : List Tk) {α : Type} (one : Ps α) : Ps (List α) := bd (takeP T [[40]]) fun _ => bd (listL T one (T.length + 1) []) fun l => bd (takeP T [[41]]) fun _ => okP l

def pairM (T : List Tk) (part : Ps Nat) (lo a : Nat) : Ps Nat := bd (nextP T) fun o => bd part fun b => putE T lo { kind := 9, op := o, a := a, b := b }
def rowL (T : List Tk) (part : Ps Nat) (signs : List (List UInt8)) (lo : Nat) : Nat → Nat → Ps Nat
  | 0, _ => fun _ => .no 0 0
  | n + 1, a => fun s => if isP T signs s then bd (pairM T part lo a) (rowL T part signs lo n) s else .ok a s
def rowM (T : List Tk) (part : Ps Nat) (signs : List (List UInt8)) : Ps Nat := fun s => bd part (rowL T part signs (cur T s).lo (T.length + 1)) s

def sgMul : List (List UInt8) := [[42], [47], [37]]
def sgAdd : List (List UInt8) := [[43], [45]]
def sgCmp : List (List UInt8) := [[61, 61], [33, 61], [60], [60, 61], [62], [62, 61]]
def sgAnd : List (List UInt8) := [[38, 38]]
def sgOr : List (List UInt8) := [[124, 124]]
def productM (T : List Tk) (op : Ps Nat) : Ps Nat := rowM T op sgMul
def sumM (T : List Tk) (op : Ps Nat) : Ps Nat := rowM T (productM T op) sgAdd
def comparisonM (T : List Tk) (op : Ps Nat) : Ps Nat := fun s => bd (sumM T op) (fun a s1 => if isP T sgCmp s1 then pairM T (sumM T op) (cur T s).lo a s1 else .ok a s1) s
def conjunctionM (T : List Tk) (op : Ps Nat) : Ps Nat := rowM T (comparisonM T op) sgAnd
def expressionM (T : List Tk) (op : Ps Nat) : Ps Nat := rowM T (conjunctionM T op) sgOr

/-- What digits say. -/
def numOf (l : List UInt8) : Nat := l.foldl (fun n c => n * 10 + (c.toNat - 48)) 0
def numberM (T : List Tk) : Ps Nat := bd (takeK T 2) fun x => okP (numOf x)
def indexM (T : List Tk) (e : Ps Nat) : Ps Nat := bd (takeP T [[91]]) fun _ => bd e fun a => bd (takeP T [[93]]) fun _ => okP a
/-- A call's, of which the name was taken; sub: what its arguments are made of. -/
def callM (T : List Tk) (sub : Ps Nat) (lo : Nat) (name : List UInt8) : Ps Nat := bd (listM T (expressionM T sub)) fun l => putE T lo { kind := 6, name := name, list := l }
def referenceM (T : List Tk) (sub : Ps Nat) : Ps Nat := fun s => bd (takeK T 1) (fun name s1 =>
  if isP T [[40]] s1 then callM T sub (cur T s).lo name s1
  else if isP T [[91]] s1 then bd (indexM T (expressionM T sub)) (fun a => putE T (cur T s).lo { kind := 5, name := name, a := a }) s1
  else putE T (cur T s).lo { kind := 4, name := name } s1) s
def wordM (T : List Tk) : Ps Nat := fun s => bd (takeP T [kTrue, kFalse, kRead]) (fun x => putE T (cur T s).lo { kind := if x = kTrue then 2 else if x = kFalse then 3 else 7 }) s
def operandS (T : List Tk) (sub : Ps Nat) : Ps Nat := fun s =>
  if isP T [[45], [33]] s then bd (nextP T) (fun o => bd sub fun a => putE T (cur T s).lo { kind := 8, op := o, a := a }) s
  else if isP T [[40]] s then bd (takeP T [[40]]) (fun _ => bd (expressionM T sub) fun a => bd (takeP T [[41]]) fun _ => okP a) s
  else if isK T 1 s then referenceM T sub s
  else if isK T 2 s then bd (numberM T) (fun n => putE T (cur T s).lo { kind := 1, num := n }) s
  else wordM T s
/-- An operand; 65 - k is how deep it is. -/
def operandM (T : List Tk) : Nat → Ps Nat
  | 0 => fun s => .no 4 s.at_
  | k + 1 => operandS T (operandM T k)

def blockL (T : List Tk) (one : Ps Nat) : Nat → List Nat → Ps (List Nat)
  | 0, _ => fun _ => .no 0 0
  | n + 1, out => fun s => if isP T [[125]] s then .ok out s else bd one (fun x => blockL T one n (out ++ [x])) s
def blockS (T : List Tk) (one : Ps Nat) : Ps (List Nat) := bd (takeP T [[123]]) fun _ => bd (blockL T one (T.length + 1) []) fun l => bd (takeP T [[125]]) fun _ => okP l
/-- What stands behind else. -/
def otherwiseM (T : List Tk) (blk : Ps (List Nat)) (stm : Ps Nat) : Ps (List Nat) := fun s => if isP T [kIf] s then bd stm (fun i => okP [i]) s else blk s
def choiceM (T : List Tk) (ex : Ps Nat) (blk : Ps (List Nat)) (stm : Ps Nat) : Ps Sm := bd (takeP T [kIf]) fun _ => bd ex fun a => bd blk fun l s =>
  if isP T [kElse] s then bd (takeP T [kElse]) (fun _ => bd (otherwiseM T blk stm) fun m => okP { kind := 5, a := a, thn := l, els := m }) s
  else .ok { kind := 5, a := a, thn := l } s
def loopM (T : List Tk) (ex : Ps Nat) (blk : Ps (List Nat)) : Ps Sm := bd (takeP T [kWhile]) fun _ => bd ex fun a => bd blk fun l => okP { kind := 6, a := a, thn := l }
def namedM (T : List Tk) (ex sub : Ps Nat) : Ps Sm := fun s => bd (takeK T 1) (fun name s1 =>
  if isP T [[40]] s1 then bd (callM T sub (cur T s).lo name) (fun a => okP { kind := 11, a := a }) s1
  else if isP T [[91]] s1 then bd (indexM T ex) (fun a => bd (takeP T [[61]]) fun _ => bd ex fun b => okP { kind := 4, name := name, a := a, b := b }) s1
  else bd (takeP T [[61]]) (fun _ => bd ex fun a => okP { kind := 3, name := name, a := a }) s1) s
def variableM (T : List Tk) (ex : Ps Nat) : Ps Sm := bd (takeP T [kVar]) fun _ => bd (takeK T 1) fun name => bd (takeP T [[61], [91]]) fun x =>
  if x = [61] then bd ex fun a => okP { kind := 1, name := name, a := a }
  else bd (numberM T) fun n => bd (takeP T [[93]]) fun _ => okP { kind := 2, name := name, num := n }
def answerM (T : List Tk) (ex : Ps Nat) : Ps Sm := bd (takeP T [kReturn]) fun _ s => if isP T [[59]] s then .ok { kind := 9, a := -1 } s else bd ex (fun a => okP { kind := 9, a := a }) s
def simpleM (T : List Tk) (ex sub : Ps Nat) : Ps Sm := fun s =>
  if isK T 1 s then namedM T ex sub s
  else if isP T [kVar] s then variableM T ex s
  else if isP T [kReturn] s then answerM T ex s
  else if isP T [kPrint] s then bd (takeP T [kPrint]) (fun _ => bd ex fun a => okP { kind := 10, a := a }) s
  else bd (takeP T [kBreak, kContinue]) (fun x => okP { kind := if x = kBreak then 7 else 8 }) s
def fieldsM (T : List Tk) (ex sub : Ps Nat) (blk : Ps (List Nat)) (stm : Ps Nat) : Ps Sm := fun s =>
  if isP T [kIf] s then choiceM T ex blk stm s
  else if isP T [kWhile] s then loopM T ex blk s
  else bd (simpleM T ex sub) (fun x => bd (takeP T [[59]]) fun _ => okP x) s
def stmtS (T : List Tk) (ex sub : Ps Nat) (blk : Ps (List Nat)) (stm : Ps Nat) : Ps Nat := fun s => bd (fieldsM T ex sub blk stm) (putS T (cur T s).lo) s
/-- A block of a statement's, of that depth. -/
def blkOf (T : List Tk) (k : Nat) (stm : Ps Nat) : Ps (List Nat) := if k = 0 then fun s => .no 4 s.at_ else blockS T stm
/-- A statement; 65 - k is its block's depth. -/
def stmtM (T : List Tk) : Nat → Ps Nat
  | 0 => fun s => .no 4 s.at_
  | k + 1 => stmtS T (expressionM T (operandM T (k + 1))) (operandM T k) (blkOf T k (stmtM T k)) (stmtM T k)
def blockM (T : List Tk) (k : Nat) : Ps (List Nat) := blkOf T k (stmtM T k)

def functionM (T : List Tk) : Ps Unit := fun s =>
  if isP T [kFunc] s && s.fn.length == 32 then .no 5 s.at_
  else bd (takeP T [kFunc]) (fun _ => bd (takeK T 1) fun name => bd (listM T (takeK T 1)) fun ps => bd (fun s1 => if isP T [kInt] s1 then bd (takeP T [kInt]) (fun _ => okP 1) s1 else .ok 4 s1) fun ty => bd (blockM T 64) fun body => putF T (cur T s).lo { name := name, params := ps, ty := ty, body := body }) s
def programL (T : List Tk) : Nat → Ps Unit
  | 0 => fun _ => .no 0 0
  | n + 1 => fun s => if isK T 0 s then .ok () s else bd (functionM T) (fun _ => programL T n) s
def programM (T : List Tk) : Ps Unit := bd (functionM T) fun _ => programL T (T.length + 1)
def start : Sg := ⟨0, [], [], []⟩

/-- The last token, and it alone, is the End, which has no bytes; a number is of digits. -/
structure TkOk (T : List Tk) : Prop where
  pos : 0 < T.length
  last : ∀ i (h : i < T.length), (T[i].kind ≠ 0 ∨ T[i].txt ≠ []) → i + 1 < T.length
  num : ∀ i (h : i < T.length), T[i].kind = 2 → T[i].txt ≠ [] ∧ T[i].txt.length ≤ 18 ∧ ∀ c ∈ T[i].txt, 48 ≤ c.toNat ∧ c.toNat ≤ 57
theorem cur_at {T : List Tk} {s : Sg} (h : s.at_ < T.length) : cur T s = T[s.at_] := by simp [cur, h]
theorem TkOk.isP {T : List Tk} (hT : TkOk T) {l : List (List UInt8)} (hl : [] ∉ l) {s : Sg} (h : s.at_ < T.length) (hi : isP T l s = true) : s.at_ + 1 < T.length := by
  refine hT.last _ h (.inr fun e => hl ?_)
  rw [Go.Proofs.YtdeflloidhbpmaaGreatDoor.isP, cur_at h, e] at hi
  simpa using hi
theorem TkOk.isK {T : List Tk} (hT : TkOk T) {k : Nat} (hk : k ≠ 0) {s : Sg} (h : s.at_ < T.length) (hi : isK T k s = true) : s.at_ + 1 < T.length := by
  refine hT.last _ h (.inl fun e => hk ?_)
  rw [Go.Proofs.YtdeflloidhbpmaaGreatDoor.isK, cur_at h, e] at hi
  exact (beq_iff_eq.1 hi).symm

/-- A part that goes on by so many tokens at least, or ends at one that there is. -/
def Fine (T : List Tk) {α : Type} (m : Nat) (x : Ps α) : Prop := ∀ s, s.at_ < T.length → match x s with
  | .ok _ s' => s.at_ + m ≤ s'.at_ ∧ s'.at_ < T.length
  | .no c i => (c = 3 ∨ c = 4 ∨ c = 5) ∧ i < T.length
theorem fine_bd {T : List Tk} {α β : Type} {m n : Nat} {x : Ps α} {f : α → Ps β} (hx : Fine T m x) (hf : ∀ a, Fine T n (f a)) : Fine T (m + n) (bd x f) := by
  intro s hs
  have h1 := hx s hs
  unfold bd
  cases hr : x s with
  | no c i => rw [hr] at h1; exact h1
  | ok a s' =>
    rw [hr] at h1
    obtain ⟨h2, h3⟩ := h1
    have h4 := hf a s' h3
    show (match f a s' with | .ok _ s' => s.at_ + (m + n) ≤ s'.at_ ∧ s'.at_ < T.length | .no c i => (c = 3 ∨ c = 4 ∨ c = 5) ∧ i < T.length)
    cases hf2 : f a s' with
    | no c i => rw [hf2] at h4; exact h4
    | ok b s2 => rw [hf2] at h4; exact ⟨by omega, h4.2⟩
theorem Fine.mono {T : List Tk} {α : Type} {m n : Nat} {x : Ps α} (h : Fine T m x) (hn : n ≤ m) : Fine T n x := by
  intro s hs
  have h1 := h s hs
  cases hr : x s with
  | no c i => rw [hr] at h1; exact h1
  | ok a s' => rw [hr] at h1; exact ⟨by omega, h1.2⟩
theorem fine_at {T : List Tk} {α : Type} {m : Nat} {x : Sg → Ps α} (h : ∀ s0, Fine T m (x s0)) : Fine T m (fun s => x s s) := fun s hs => h s s hs
theorem fine_ite {T : List Tk} {α : Type} {m : Nat} {c : Sg → Bool} {x y : Ps α} (hx : Fine T m x) (hy : Fine T m y) : Fine T m (fun s => if c s then x s else y s) := by
  intro s hs
  by_cases h : c s = true
  · have := hx s hs; simpa [h] using this
  · have := hy s hs; simpa [h] using this
theorem fine_ok {T : List Tk} {α : Type} (a : α) : Fine T 0 (okP a : Ps α) := fun _ hs => ⟨Nat.le_refl _, hs⟩
theorem fine_no {T : List Tk} {α : Type} {m : Nat} (c : Nat) (hc : c = 3 ∨ c = 4 ∨ c = 5) : Fine T m (fun s => .no c s.at_ : Ps α) := fun _ hs => ⟨hc, hs⟩
theorem fine_next {T : List Tk} {c : Sg → Bool} (h : ∀ s, s.at_ < T.length → c s = true → s.at_ + 1 < T.length) : Fine T 1 (fun s => if c s then nextP T s else .no 3 s.at_) := by
  intro s hs
  by_cases hc : c s = true
  · have h1 := h s hs hc
    simp only [hc, if_true, nextP]
    by_cases hm : 1000 < s.st.length
    · rw [if_pos hm]; exact ⟨.inr (.inr rfl), hs⟩
    · rw [if_neg hm]; exact ⟨Nat.le_refl _, h1⟩
  · simp only [hc]; exact ⟨.inl rfl, hs⟩
theorem fine_takeP {T : List Tk} (hT : TkOk T) {l : List (List UInt8)} (hl : [] ∉ l) : Fine T 1 (takeP T l) := fine_next fun _ hs hi => hT.isP hl hs hi
theorem fine_takeK {T : List Tk} (hT : TkOk T) {k : Nat} (hk : k ≠ 0) : Fine T 1 (takeK T k) := fine_next fun _ hs hi => hT.isK hk hs hi
theorem fine_putE {T : List Tk} (lo : Nat) (x : Ex) : Fine T 0 (putE T lo x) := fun _ hs => ⟨Nat.le_refl _, hs⟩
theorem fine_putS {T : List Tk} (lo : Nat) (x : Sm) : Fine T 0 (putS T lo x) := fun _ hs => ⟨Nat.le_refl _, hs⟩
theorem fine_putF {T : List Tk} (lo : Nat) (x : Fu) : Fine T 0 (putF T lo x) := fun _ hs => ⟨Nat.le_refl _, hs⟩

end Go.Proofs.YtdeflloidhbpmaaGreatDoor

namespace Go.Proofs.YtdeflloidhbpmaaGreatDoor

theorem nin1 {a : UInt8} {l : List UInt8} : [] ∉ ([a :: l] : List (List UInt8)) := by simp
theorem fine_loop {T : List Tk} {α : Type} {x : Ps α} (h : ∀ s, s.at_ < T.length → ∀ m, m ≤ 0 → match x s with
  | .ok _ s' => s.at_ + m ≤ s'.at_ ∧ s'.at_ < T.length
  | .no c i => (c = 3 ∨ c = 4 ∨ c = 5) ∧ i < T.length) : Fine T 0 x := fun s hs => h s hs 0 (Nat.le_refl _)

theorem fine_next' {T : List Tk} {s : Sg} (hs : s.at_ < T.length) (h1 : s.at_ + 1 < T.length) : match nextP T s with
  | .ok _ s' => s.at_ + 1 ≤ s'.at_ ∧ s'.at_ < T.length
  | .no c i => (c = 3 ∨ c = 4 ∨ c = 5) ∧ i < T.length := by
  unfold nextP
  by_cases hm : 1000 < s.st.length
  · rw [if_pos hm]; exact ⟨.inr (.inr rfl), hs⟩
  · rw [if_neg hm]; exact ⟨Nat.le_refl _, h1⟩
/-- Behind a test that the token isn't the last one. -/
theorem fine_if {T : List Tk} {α : Type} {m : Nat} {c : Sg → Bool} {f : List UInt8 → Ps α} {y : Ps α} (hc : ∀ s, s.at_ < T.length → c s = true → s.at_ + 1 < T.length) (hf : ∀ o, Fine T m (f o)) (hy : Fine T (1 + m) y) :
    Fine T (1 + m) (fun s => if c s then bd (nextP T) f s else y s) := by
  intro s hs
  by_cases h : c s = true
  · simp only [h, if_true]
    have h1 := fine_next' hs (hc s hs h)
    cases hr : nextP T s with
    | no c i => rw [bd_no hr]; rw [hr] at h1; exact h1
    | ok a s' =>
      rw [bd_ok hr]
      rw [hr] at h1
      have h2 := hf a s' h1.2
      cases hr2 : f a s' with
      | no c i => rw [hr2] at h2; exact h2
      | ok b s2 => rw [hr2] at h2; exact ⟨by omega, h2.2⟩
  · have := hy s hs; simpa [h] using this

/-- A loop's, which has rounds enough. -/
def FineL (T : List Tk) {α : Type} (n : Nat) (x : Ps α) : Prop := ∀ s, s.at_ < T.length → T.length ≤ n + s.at_ → match x s with
  | .ok _ s' => s.at_ ≤ s'.at_ ∧ s'.at_ < T.length
  | .no c i => (c = 3 ∨ c = 4 ∨ c = 5) ∧ i < T.length
theorem FineL.fine {T : List Tk} {α : Type} {n : Nat} {x : Ps α} (h : FineL T n x) (hn : T.length ≤ n) : Fine T 0 x := fun s hs => h s hs (by omega)
theorem fineL_bd {T : List Tk} {α β : Type} {n : Nat} {x : Ps α} {f : α → Ps β} (hx : Fine T 1 x) (hf : ∀ a, FineL T n (f a)) {s : Sg} (hs : s.at_ < T.length) (hn : T.length ≤ n + 1 + s.at_) : match bd x f s with
  | .ok _ s' => s.at_ ≤ s'.at_ ∧ s'.at_ < T.length
  | .no c i => (c = 3 ∨ c = 4 ∨ c = 5) ∧ i < T.length := by
  have h1 := hx s hs
  cases hr : x s with
  | no c i => rw [bd_no hr]; rw [hr] at h1; exact h1
  | ok a s' =>
    rw [bd_ok hr]
    rw [hr] at h1
    have h2 := hf a s' h1.2 (by omega)
    cases hr2 : f a s' with
    | no c i => rw [hr2] at h2; exact h2
    | ok b s2 => rw [hr2] at h2; exact ⟨by omega, h2.2⟩

theorem fine_listL {T : List Tk} (hT : TkOk T) {α : Type} {one : Ps α} (h1 : Fine T 1 one) (n : Nat) (out : List α) : FineL T n (listL T one n out) := by
  induction n generalizing out with
  | zero => intro s hs hn; omega
  | succ n ih =>
    intro s hs hn
    unfold listL
    by_cases h : isP T [[41]] s = true
    · simp only [h, if_true]; exact ⟨Nat.le_refl _, hs⟩
    · simp only [h]
      by_cases h0 : out.length = 0
      · simp only [h0, if_true]
        exact fineL_bd (x := one) h1 (fun a => ih _) hs hn
      · simp only [h0, if_false]
        have h2 := fine_takeP hT (l := [[44]]) nin1 s hs
        simp only [Bool.false_eq_true, if_false]
        cases hr : takeP T [[44]] s with
        | no c i => rw [bd_no hr]; rw [hr] at h2; exact h2
        | ok a s' =>
          rw [bd_ok hr]
          rw [hr] at h2
          have h3 := fineL_bd (x := one) (f := fun x => listL T one n (out ++ [x])) h1 (fun a => ih _) h2.2 (by omega)
          cases hr2 : bd one (fun x => listL T one n (out ++ [x])) s' with
          | no c i => rw [hr2] at h3; exact h3
          | ok b s2 => rw [hr2] at h3; exact ⟨by omega, h3.2⟩
theorem fine_list {T : List Tk} (hT : TkOk T) {α : Type} {one : Ps α} (h1 : Fine T 1 one) : Fine T 1 (listM T one) :=
  (fine_bd (fine_takeP hT nin1) fun _ => fine_bd ((fine_listL hT h1 _ _).fine (by omega)) fun _ => fine_bd ((fine_takeP hT nin1).mono (Nat.zero_le 1)) fun _ => fine_ok _)
theorem fine_pair {T : List Tk} {c : Sg → Bool} (hc : ∀ s, s.at_ < T.length → c s = true → s.at_ + 1 < T.length) {part : Ps Nat} (h : Fine T 0 part) (lo a : Nat) {y : Ps Nat} (hy : Fine T 0 y) : Fine T 0 (fun s => if c s then pairM T part lo a s else y s) := by
  intro s hs
  by_cases hcs : c s = true
  · have := fine_if (y := fun s => .no 3 s.at_) hc (fun o => fine_bd h fun b => fine_putE (T := T) lo { kind := 9, op := o, a := a, b := b }) (fine_no 3 (.inl rfl)) s hs
    simp only [hcs, if_true] at this ⊢
    unfold pairM
    cases hr : bd (nextP T) (fun o => bd part fun b => putE T lo { kind := 9, op := o, a := a, b := b }) s with
    | no c i => rw [hr] at this; exact this
    | ok b s2 => rw [hr] at this; exact ⟨by omega, this.2⟩
  · have := hy s hs; simpa [hcs] using this
theorem fine_rowL {T : List Tk} (hT : TkOk T) {part : Ps Nat} (h : Fine T 0 part) {signs : List (List UInt8)} (hl : [] ∉ signs) (lo : Nat) (n : Nat) (a : Nat) : FineL T n (rowL T part signs lo n a) := by
  induction n generalizing a with
  | zero => intro s hs hn; omega
  | succ n ih =>
    intro s hs hn
    unfold rowL
    by_cases hi : isP T signs s = true
    · simp only [hi, if_true]
      have := fine_if (T := T) (c := isP T signs) (y := fun s => .no 3 s.at_) (fun _ hs hi => hT.isP hl hs hi) (fun o => fine_bd h fun b => fine_putE (T := T) lo { kind := 9, op := o, a := a, b := b }) (fine_no 3 (.inl rfl)) s hs
      simp only [hi, if_true] at this
      cases hr : pairM T part lo a s with
      | no c i => rw [bd_no hr]; unfold pairM at hr; rw [hr] at this; exact this
      | ok b s' =>
        rw [bd_ok hr]
        unfold pairM at hr
        rw [hr] at this
        have h3 := ih b s' this.2 (by omega)
        cases hr2 : rowL T part signs lo n b s' with
        | no c i => rw [hr2] at h3; exact h3
        | ok b s2 => rw [hr2] at h3; exact ⟨by omega, h3.2⟩
    · simp only [hi]; exact ⟨Nat.le_refl _, hs⟩
theorem fine_row {T : List Tk} (hT : TkOk T) {part : Ps Nat} {m : Nat} (h : Fine T m part) {signs : List (List UInt8)} (hl : [] ∉ signs) : Fine T m (rowM T part signs) :=
  fine_at (x := fun s => bd part (rowL T part signs (cur T s).lo (T.length + 1))) fun _ => fine_bd (n := 0) h fun _ => (fine_rowL hT (h.mono (Nat.zero_le _)) hl _ _ _).fine (by omega)
theorem fine_sum {T : List Tk} (hT : TkOk T) {op : Ps Nat} {m : Nat} (h : Fine T m op) : Fine T m (sumM T op) := fine_row hT (fine_row hT h (by decide)) (by decide)
theorem fine_comparison {T : List Tk} (hT : TkOk T) {op : Ps Nat} {m : Nat} (h : Fine T m op) : Fine T m (comparisonM T op) :=
  fine_at (x := fun s0 => bd (sumM T op) (fun a s1 => if isP T sgCmp s1 then pairM T (sumM T op) (cur T s0).lo a s1 else .ok a s1)) fun _ => fine_bd (n := 0) (fine_sum hT h) fun a => fine_pair (y := okP a) (fun _ hs hi => hT.isP (by decide) hs hi) ((fine_sum hT h).mono (Nat.zero_le _)) _ _ (fine_ok a)
theorem fine_expression {T : List Tk} (hT : TkOk T) {op : Ps Nat} {m : Nat} (h : Fine T m op) : Fine T m (expressionM T op) := fine_row hT (fine_row hT (fine_comparison hT h) (by decide)) (by decide)
theorem fine_number {T : List Tk} (hT : TkOk T) : Fine T 1 (numberM T) := fine_bd (n := 0) (fine_takeK hT (by decide)) fun _ => fine_ok _
theorem fine_index {T : List Tk} (hT : TkOk T) {e : Ps Nat} (h : Fine T 0 e) : Fine T 1 (indexM T e) :=
  fine_bd (n := 0) (fine_takeP hT nin1) fun _ => fine_bd (n := 0) h fun _ => fine_bd (n := 0) ((fine_takeP hT nin1).mono (Nat.zero_le _)) fun _ => fine_ok _
theorem fine_call {T : List Tk} (hT : TkOk T) {sub : Ps Nat} (h : Fine T 1 sub) (lo : Nat) (name : List UInt8) : Fine T 1 (callM T sub lo name) := fine_bd (n := 0) (fine_list hT (fine_expression hT h)) fun _ => fine_putE _ _
theorem fine_reference {T : List Tk} (hT : TkOk T) {sub : Ps Nat} (h : Fine T 1 sub) : Fine T 1 (referenceM T sub) := by
  refine fine_at (x := fun s => bd (takeK T 1) (fun name s1 => if isP T [[40]] s1 then callM T sub (cur T s).lo name s1 else if isP T [[91]] s1 then bd (indexM T (expressionM T sub)) (fun a => putE T (cur T s).lo { kind := 5, name := name, a := a }) s1 else putE T (cur T s).lo { kind := 4, name := name } s1)) fun _ => fine_bd (n := 0) (fine_takeK hT (by decide)) fun _ => ?_
  exact fine_ite ((fine_call hT h _ _).mono (Nat.zero_le _)) (fine_ite ((fine_bd (n := 0) (fine_index hT ((fine_expression hT h).mono (Nat.zero_le _))) fun _ => fine_putE _ _).mono (Nat.zero_le _)) (fine_putE _ _))
theorem fine_word {T : List Tk} (hT : TkOk T) : Fine T 1 (wordM T) :=
  fine_at (x := fun s => bd (takeP T [kTrue, kFalse, kRead]) (fun x => putE T (cur T s).lo { kind := if x = kTrue then 2 else if x = kFalse then 3 else 7 })) fun _ => fine_bd (n := 0) (fine_takeP hT (by decide)) fun _ => fine_putE _ _
theorem fine_operandS {T : List Tk} (hT : TkOk T) {sub : Ps Nat} (h : Fine T 1 sub) : Fine T 1 (operandS T sub) := by
  refine fine_at (x := fun s0 s => if isP T [[45], [33]] s then bd (nextP T) (fun o => bd sub fun a => putE T (cur T s0).lo { kind := 8, op := o, a := a }) s
    else if isP T [[40]] s then bd (takeP T [[40]]) (fun _ => bd (expressionM T sub) fun a => bd (takeP T [[41]]) fun _ => okP a) s
    else if isK T 1 s then referenceM T sub s
    else if isK T 2 s then bd (numberM T) (fun n => putE T (cur T s0).lo { kind := 1, num := n }) s
    else wordM T s) fun _ => ?_
  refine fine_if (m := 0) (fun _ hs hi => hT.isP (by decide) hs hi) (fun _ => fine_bd (n := 0) (h.mono (Nat.zero_le _)) fun _ => fine_putE _ _) ?_
  refine fine_ite (fine_bd (n := 0) (fine_takeP hT nin1) fun _ => fine_bd (n := 0) ((fine_expression hT h).mono (Nat.zero_le _)) fun _ => fine_bd (n := 0) ((fine_takeP hT nin1).mono (Nat.zero_le _)) fun _ => fine_ok _) ?_
  exact fine_ite (fine_reference hT h) (fine_ite (fine_bd (n := 0) (fine_number hT) fun _ => fine_putE _ _) (fine_word hT))
theorem fine_operand {T : List Tk} (hT : TkOk T) (k : Nat) : Fine T 1 (operandM T k) := by
  induction k with
  | zero => exact fine_no 4 (by decide)
  | succ k ih => exact fine_operandS hT ih
theorem fine_blockL {T : List Tk} {one : Ps Nat} (h1 : Fine T 1 one) (n : Nat) (out : List Nat) : FineL T n (blockL T one n out) := by
  induction n generalizing out with
  | zero => intro s hs hn; omega
  | succ n ih =>
    intro s hs hn
    unfold blockL
    by_cases h : isP T [[125]] s = true
    · simp only [h, if_true]; exact ⟨Nat.le_refl _, hs⟩
    · simp only [h]
      exact fineL_bd (x := one) h1 (fun a => ih _) hs hn
theorem fine_blockS {T : List Tk} (hT : TkOk T) {one : Ps Nat} (h1 : Fine T 1 one) : Fine T 1 (blockS T one) :=
  fine_bd (n := 0) (fine_takeP hT nin1) fun _ => fine_bd (n := 0) ((fine_blockL h1 _ _).fine (by omega)) fun _ => fine_bd (n := 0) ((fine_takeP hT nin1).mono (Nat.zero_le 1)) fun _ => fine_ok _
theorem fine_blkOf {T : List Tk} (hT : TkOk T) {one : Ps Nat} (h1 : Fine T 1 one) (k : Nat) : Fine T 1 (blkOf T k one) := by
  unfold blkOf
  split
  · exact fine_no 4 (by decide)
  · exact fine_blockS hT h1
theorem fine_otherwise {T : List Tk} {blk : Ps (List Nat)} {stm : Ps Nat} (hb : Fine T 0 blk) (hs : Fine T 0 stm) : Fine T 0 (otherwiseM T blk stm) := fine_ite (fine_bd (n := 0) hs fun _ => fine_ok _) hb
theorem fine_choice {T : List Tk} (hT : TkOk T) {ex : Ps Nat} {blk : Ps (List Nat)} {stm : Ps Nat} (he : Fine T 1 ex) (hb : Fine T 1 blk) (hs : Fine T 1 stm) : Fine T 1 (choiceM T ex blk stm) := by
  refine fine_bd (n := 0) (fine_takeP hT (by decide)) fun _ => fine_bd (n := 0) (he.mono (Nat.zero_le _)) fun _ => fine_bd (n := 0) (hb.mono (Nat.zero_le _)) fun l => ?_
  exact fine_ite (y := okP _) (fine_bd (n := 0) ((fine_takeP hT (by decide)).mono (Nat.zero_le _)) fun _ => fine_bd (n := 0) (fine_otherwise (hb.mono (Nat.zero_le _)) (hs.mono (Nat.zero_le _))) fun _ => fine_ok _) (fine_ok _)
theorem fine_loopM {T : List Tk} (hT : TkOk T) {ex : Ps Nat} {blk : Ps (List Nat)} (he : Fine T 1 ex) (hb : Fine T 1 blk) : Fine T 1 (loopM T ex blk) :=
  fine_bd (n := 0) (fine_takeP hT (by decide)) fun _ => fine_bd (n := 0) (he.mono (Nat.zero_le _)) fun _ => fine_bd (n := 0) (hb.mono (Nat.zero_le _)) fun _ => fine_ok _
theorem fine_named {T : List Tk} (hT : TkOk T) {ex sub : Ps Nat} (he : Fine T 1 ex) (hs : Fine T 1 sub) : Fine T 1 (namedM T ex sub) := by
  refine fine_at (x := fun s => bd (takeK T 1) (fun name s1 =>
    if isP T [[40]] s1 then bd (callM T sub (cur T s).lo name) (fun a => okP ({ kind := 11, a := a } : Sm)) s1
    else if isP T [[91]] s1 then bd (indexM T ex) (fun a => bd (takeP T [[61]]) fun _ => bd ex fun b => okP ({ kind := 4, name := name, a := a, b := b } : Sm)) s1
    else bd (takeP T [[61]]) (fun _ => bd ex fun a => okP ({ kind := 3, name := name, a := a } : Sm)) s1)) fun _ => fine_bd (n := 0) (fine_takeK hT (by decide)) fun _ => ?_
  have he0 := he.mono (Nat.zero_le _)
  refine fine_ite (fine_bd (n := 0) ((fine_call hT hs _ _).mono (Nat.zero_le _)) fun _ => fine_ok _) (fine_ite (fine_bd (n := 0) ((fine_index hT he0).mono (Nat.zero_le _)) fun _ => ?_) ?_)
  · exact fine_bd (n := 0) ((fine_takeP hT nin1).mono (Nat.zero_le _)) fun _ => fine_bd (n := 0) he0 fun _ => fine_ok _
  · exact fine_bd (n := 0) ((fine_takeP hT nin1).mono (Nat.zero_le _)) fun _ => fine_bd (n := 0) he0 fun _ => fine_ok _
theorem fine_variable {T : List Tk} (hT : TkOk T) {ex : Ps Nat} (he : Fine T 1 ex) : Fine T 1 (variableM T ex) := by
  refine fine_bd (n := 0) (fine_takeP hT (by decide)) fun _ => fine_bd (n := 0) ((fine_takeK hT (by decide)).mono (Nat.zero_le _)) fun _ => fine_bd (n := 0) ((fine_takeP hT (by decide)).mono (Nat.zero_le _)) fun x => ?_
  by_cases h : x = [61]
  · rw [if_pos h]; exact fine_bd (n := 0) (he.mono (Nat.zero_le _)) fun _ => fine_ok _
  · rw [if_neg h]; exact fine_bd (n := 0) ((fine_number hT).mono (Nat.zero_le _)) fun _ => fine_bd (n := 0) ((fine_takeP hT nin1).mono (Nat.zero_le _)) fun _ => fine_ok _
theorem fine_answer {T : List Tk} (hT : TkOk T) {ex : Ps Nat} (he : Fine T 1 ex) : Fine T 1 (answerM T ex) :=
  fine_bd (n := 0) (fine_takeP hT (by decide)) fun _ => fine_ite (x := okP _) (fine_ok _) (fine_bd (n := 0) (he.mono (Nat.zero_le _)) fun _ => fine_ok _)
theorem fine_simple {T : List Tk} (hT : TkOk T) {ex sub : Ps Nat} (he : Fine T 1 ex) (hs : Fine T 1 sub) : Fine T 1 (simpleM T ex sub) :=
  fine_ite (fine_named hT he hs) (fine_ite (fine_variable hT he) (fine_ite (fine_answer hT he) (fine_ite (fine_bd (n := 0) (fine_takeP hT (by decide)) fun _ => fine_bd (n := 0) (he.mono (Nat.zero_le _)) fun _ => fine_ok _) (fine_bd (n := 0) (fine_takeP hT (by decide)) fun _ => fine_ok _))))
theorem fine_fields {T : List Tk} (hT : TkOk T) {ex sub : Ps Nat} {blk : Ps (List Nat)} {stm : Ps Nat} (he : Fine T 1 ex) (hs : Fine T 1 sub) (hb : Fine T 1 blk) (hm : Fine T 1 stm) : Fine T 1 (fieldsM T ex sub blk stm) :=
  fine_ite (fine_choice hT he hb hm) (fine_ite (fine_loopM hT he hb) (fine_bd (n := 0) (fine_simple hT he hs) fun _ => fine_bd (n := 0) ((fine_takeP hT nin1).mono (Nat.zero_le _)) fun _ => fine_ok _))
theorem fine_stmtS {T : List Tk} (hT : TkOk T) {ex sub : Ps Nat} {blk : Ps (List Nat)} {stm : Ps Nat} (he : Fine T 1 ex) (hs : Fine T 1 sub) (hb : Fine T 1 blk) (hm : Fine T 1 stm) : Fine T 1 (stmtS T ex sub blk stm) :=
  fine_at (x := fun s => bd (fieldsM T ex sub blk stm) (putS T (cur T s).lo)) fun _ => fine_bd (n := 0) (fine_fields hT he hs hb hm) fun _ => fine_putS _ _
theorem fine_stmt {T : List Tk} (hT : TkOk T) (k : Nat) : Fine T 1 (stmtM T k) := by
  induction k with
  | zero => exact fine_no 4 (by decide)
  | succ k ih => exact fine_stmtS hT (fine_expression hT (fine_operand hT _)) (fine_operand hT _) (fine_blkOf hT ih _) ih
theorem fine_block {T : List Tk} (hT : TkOk T) (k : Nat) : Fine T 1 (blockM T k) := fine_blkOf hT (fine_stmt hT k) k
theorem fine_function {T : List Tk} (hT : TkOk T) : Fine T 1 (functionM T) := by
  refine fine_at (x := fun s0 s => if isP T [kFunc] s && s.fn.length == 32 then .no 5 s.at_
    else bd (takeP T [kFunc]) (fun _ => bd (takeK T 1) fun name => bd (listM T (takeK T 1)) fun ps => bd (fun s1 => if isP T [kInt] s1 then bd (takeP T [kInt]) (fun _ => okP 1) s1 else .ok 4 s1) fun ty => bd (blockM T 64) fun body => putF T (cur T s0).lo { name := name, params := ps, ty := ty, body := body }) s) fun _ => ?_
  refine fine_ite (c := fun s => isP T [kFunc] s && s.fn.length == 32) (fine_no 5 (by decide)) (fine_bd (n := 0) (fine_takeP hT (by decide)) fun _ => fine_bd (n := 0) ((fine_takeK hT (by decide)).mono (Nat.zero_le _)) fun _ => fine_bd (n := 0) ((fine_list hT (fine_takeK hT (by decide))).mono (Nat.zero_le _)) fun _ => fine_bd (n := 0) ?_ fun _ => fine_bd (n := 0) ((fine_block hT _).mono (Nat.zero_le _)) fun _ => fine_putF _ _)
  exact fine_ite (y := okP 4) (fine_bd (n := 0) ((fine_takeP hT (by decide)).mono (Nat.zero_le _)) fun _ => fine_ok _) (fine_ok _)
theorem fine_programL {T : List Tk} (hT : TkOk T) (n : Nat) : FineL T n (programL T n) := by
  induction n with
  | zero => intro s hs hn; omega
  | succ n ih =>
    intro s hs hn
    unfold programL
    by_cases h : isK T 0 s = true
    · simp only [h, if_true]; exact ⟨Nat.le_refl _, hs⟩
    · simp only [h]
      exact fineL_bd (x := functionM T) (fine_function hT) (fun a => ih) hs hn
theorem fine_program {T : List Tk} (hT : TkOk T) : Fine T 1 (programM T) := fine_bd (n := 0) (fine_function hT) fun _ => (fine_programL hT _).fine (by omega)

end Go.Proofs.YtdeflloidhbpmaaGreatDoor

namespace Go.Proofs.YtdeflloidhbpmaaGreatDoor
open Go.RowKit

theorem Tryz.infoEx : (Tryz.prog.info? 63).map (fun i => (i.zero, i.size, i.bytes)) = some (some (.agg #[.int .i64 0, .int .i64 0, .int .i64 0, .int .i64 0, .string ⟨#[]⟩, .string ⟨#[]⟩, .int .i64 0, .int .i64 0, .slice none 0 0]), 9, 104) := by kernel_rfl
theorem Tryz.infoSm : (Tryz.prog.info? 42).map (fun i => (i.zero, i.size, i.bytes)) = some (some (.agg #[.int .i64 0, .int .i64 0, .int .i64 0, .string ⟨#[]⟩, .int .i64 0, .int .i64 0, .int .i64 0, .slice none 0 0, .slice none 0 0]), 9, 112) := by kernel_rfl
theorem Tryz.infoFu : (Tryz.prog.info? 69).map (fun i => (i.zero, i.size, i.bytes)) = some (some (.agg #[.string ⟨#[]⟩, .int .i64 0, .int .i64 0, .slice none 0 0, .int .i64 0, .slice none 0 0]), 6, 88) := by kernel_rfl
theorem Tryz.infoInt : (Tryz.prog.info? 3).map (fun i => (i.zero, i.size, i.bytes)) = some (some (.int .i64 0), 1, 8) := by kernel_rfl

theorem setCell_at (w : World) (g o : Nat) (v : Value) (cur : Array Value) (t : TypeId) (fr : Nat × Nat) (hg : w.heap[g]? = some (.cells cur t fr)) : (w.setCell ⟨g, o, none⟩ v).heap[g]? = some (.cells (cur.setIfInBounds o v) t fr) := by
  simp [World.setCell, Array.getElem?_modify, hg]
theorem setCell_ne (w : World) (g o : Nat) (v : Value) (k : Nat) (h : k ≠ g) : (w.setCell ⟨g, o, none⟩ v).heap[k]? = w.heap[k]? := by
  simp [World.setCell, Array.getElem?_modify, Ne.symm h]

def intsV (l : List Nat) : List Value := l.map fun (n : Nat) => .int .i64 (n : Int)
def strsV (l : List (List UInt8)) : List Value := l.map fun b => .string (bs b)
theorem intsV_len (l : List Nat) : (intsV l).length = l.length := by simp [intsV]
theorem strsV_len (l : List (List UInt8)) : (strsV l).length = l.length := by simp [strsV]

/-- A slice value, of one cell a thing, reads as these cells; its block is one of L; it has room for what it holds. -/
def RwAt (w : World) (L : Nat → Prop) (v : Value) (vs : List Value) : Prop :=
  ∃ A c, v = .slice A vs.length (vs.length + c) ∧ (∀ g, v.ownBlock = some g → L g ∧ g < w.heap.size) ∧ (0 < vs.length → ∃ g, A = some ⟨g, 0, none⟩ ∧ ∀ i u, vs[i]? = some u → w.cell? ⟨g, i, none⟩ = some u)
theorem RwAt.keep {w w' : World} {L L' : Nat → Prop} {v : Value} {vs : List Value} (h : RwAt w L v vs) (hs : w.heap.size ≤ w'.heap.size) (hb : ∀ g, v.ownBlock = some g → L g → g < w.heap.size → L' g ∧ w'.heap[g]? = w.heap[g]?) : RwAt w' L' v vs := by
  obtain ⟨A, c, rfl, h1, h2⟩ := h
  refine ⟨A, c, rfl, fun g hg => ?_, fun h0 => ?_⟩
  · have h3 := h1 g hg
    exact ⟨(hb g hg h3.1 h3.2).1, by omega⟩
  · obtain ⟨g, rfl, h3⟩ := h2 h0
    have h4 := h1 g rfl
    exact ⟨g, rfl, fun i u hu => (World.cell?_of_block (a := ⟨g, i, none⟩) (hb g rfl h4.1 h4.2).2).trans (h3 i u hu)⟩
theorem rwAt_nil (w : World) (L : Nat → Prop) : RwAt w L (.slice none 0 0) [] := ⟨none, 0, rfl, fun g h => by simp [Value.ownBlock] at h, fun h => by simp at h⟩
theorem rwAt_of_own {w : World} {base : Nat} {e : TypeId} {v : Value} {n : Nat} {vs : List Value} (h : w.ownsRow base e 1 v n vs) (L : Nat → Prop) (hL : ∀ g, v.ownBlock = some g → L g) : RwAt w L v vs := by
  obtain ⟨hl, h2⟩ := h
  rw [Nat.mul_one] at hl
  rcases h2 with ⟨rfl, rfl⟩ | ⟨g, cap, cur, rfl, hb, hg, hnc, hcm, hcs, ht⟩
  · obtain rfl : vs = [] := List.eq_nil_of_length_eq_zero hl
    exact rwAt_nil w L
  · have hlt := (Array.getElem?_eq_some_iff.1 hg).1
    refine ⟨some ⟨g, 0, none⟩, cap - n, by rw [hl, Nat.add_sub_cancel' hnc], fun g' hg' => ⟨hL g' hg', ?_⟩, fun _ => ⟨g, rfl, fun i u hu => ?_⟩⟩
    · obtain rfl : g = g' := by simpa [Value.ownBlock] using hg'
      exact hlt
    · have hi : i < n := by have := (List.getElem?_eq_some_iff.1 hu).1; omega
      rw [← hu, ← ht, List.getElem?_take, if_pos (by omega)]
      simp [World.cell?, hg]

/-- Things one after the other, each of so many cells. -/
def RowsOf {α : Type} (C : α → List Value → Prop) : List α → List Value → Prop
  | [], cs => cs = []
  | x :: r, cs => ∃ h t, cs = h ++ t ∧ C x h ∧ RowsOf C r t
theorem RowsOf.mono {α : Type} {C D : α → List Value → Prop} (hCD : ∀ x h, C x h → D x h) : ∀ {xs : List α} {cs : List Value}, RowsOf C xs cs → RowsOf D xs cs
  | [], _, h => h
  | _ :: _, _, ⟨h, t, e, hc, hr⟩ => ⟨h, t, e, hCD _ _ hc, RowsOf.mono hCD hr⟩
theorem RowsOf.snoc {α : Type} {C : α → List Value → Prop} {x : α} {h : List Value} (hx : C x h) : ∀ {xs : List α} {cs : List Value}, RowsOf C xs cs → RowsOf C (xs ++ [x]) (cs ++ h)
  | [], cs, e => by
    obtain rfl : cs = [] := e
    exact ⟨h, [], by simp, hx, rfl⟩
  | _ :: _, _, ⟨h1, t, e, hc, hr⟩ => ⟨h1, t ++ h, by rw [e, List.append_assoc], hc, RowsOf.snoc hx hr⟩
theorem RowsOf.len {α : Type} {C : α → List Value → Prop} {k : Nat} (hC : ∀ x h, C x h → h.length = k) : ∀ {xs : List α} {cs : List Value}, RowsOf C xs cs → cs.length = xs.length * k
  | [], cs, e => by
    obtain rfl : cs = [] := e
    simp
  | _ :: r, _, ⟨h1, t, e, hc, hr⟩ => by
    have h2 := RowsOf.len hC hr
    rw [e, List.length_append, hC _ _ hc, h2, List.length_cons, Nat.add_mul]; omega
theorem RowsOf.get {α : Type} {C : α → List Value → Prop} {k : Nat} (hC : ∀ x h, C x h → h.length = k) : ∀ {xs : List α} {cs : List Value}, RowsOf C xs cs → ∀ i (hi : i < xs.length), ∃ h, C xs[i] h ∧ ∀ j, j < k → cs[i * k + j]? = h[j]?
  | [], _, _, i, hi => by simp at hi
  | x :: r, cs, ⟨h1, t, e, hc, hr⟩, i, hi => by
    have hl := hC _ _ hc
    cases i with
    | zero =>
      refine ⟨h1, hc, fun j hj => ?_⟩
      rw [e, Nat.zero_mul, Nat.zero_add, List.getElem?_append_left (by omega)]
    | succ i =>
      obtain ⟨h2, hc2, hg⟩ := RowsOf.get hC hr i (by simpa using hi)
      refine ⟨h2, by simpa using hc2, fun j hj => ?_⟩
      have e1 : (i + 1) * k = i * k + k := by rw [Nat.add_mul]; omega
      have e2 : (i + 1) * k + j - h1.length = i * k + j := by omega
      rw [e, List.getElem?_append_right (by omega), e2]
      exact hg j hj

/-- The cells of an expression, a statement, a function. -/
def exV (x : Ex) (l : Value) : List Value := [.int .i64 (x.kind : Int), .int .i64 (x.lo : Int), .int .i64 (x.hi : Int), .int .i64 (x.num : Int), .string (bs x.name), .string (bs x.op), .int .i64 (x.a : Int), .int .i64 (x.b : Int), l]
def smV (x : Sm) (l m : Value) : List Value := [.int .i64 (x.kind : Int), .int .i64 (x.lo : Int), .int .i64 (x.hi : Int), .string (bs x.name), .int .i64 (x.num : Int), .int .i64 x.a, .int .i64 (x.b : Int), l, m]
def fuV (x : Fu) (l m : Value) : List Value := [.string (bs x.name), .int .i64 (x.lo : Int), .int .i64 (x.hi : Int), l, .int .i64 (x.ty : Int), m]
def ExC (w : World) (L : Nat → Prop) (x : Ex) (h : List Value) : Prop := ∃ l, h = exV x l ∧ RwAt w L l (intsV x.list)
def SmC (w : World) (L : Nat → Prop) (x : Sm) (h : List Value) : Prop := ∃ l m, h = smV x l m ∧ RwAt w L l (intsV x.thn) ∧ RwAt w L m (intsV x.els)
def FuC (w : World) (L : Nat → Prop) (x : Fu) (h : List Value) : Prop := ∃ l m, h = fuV x l m ∧ RwAt w L l (strsV x.params) ∧ RwAt w L m (intsV x.body)
theorem ExC.len {w : World} {L : Nat → Prop} (x : Ex) (h : List Value) (hc : ExC w L x h) : h.length = 9 := by obtain ⟨l, rfl, _⟩ := hc; rfl
theorem SmC.len {w : World} {L : Nat → Prop} (x : Sm) (h : List Value) (hc : SmC w L x h) : h.length = 9 := by obtain ⟨l, m, rfl, _⟩ := hc; rfl
theorem FuC.len {w : World} {L : Nat → Prop} (x : Fu) (h : List Value) (hc : FuC w L x h) : h.length = 6 := by obtain ⟨l, m, rfl, _⟩ := hc; rfl
/-- Blocks of L are as they were. -/
def KeptOn (L L' : Nat → Prop) (w w' : World) : Prop := w.heap.size ≤ w'.heap.size ∧ ∀ g, L g → g < w.heap.size → L' g ∧ w'.heap[g]? = w.heap[g]?
theorem ExC.keep {w w' : World} {L L' : Nat → Prop} (hk : KeptOn L L' w w') (x : Ex) (h : List Value) (hc : ExC w L x h) : ExC w' L' x h := by
  obtain ⟨l, e, h1⟩ := hc
  exact ⟨l, e, h1.keep hk.1 fun g _ => hk.2 g⟩
theorem SmC.keep {w w' : World} {L L' : Nat → Prop} (hk : KeptOn L L' w w') (x : Sm) (h : List Value) (hc : SmC w L x h) : SmC w' L' x h := by
  obtain ⟨l, m, e, h1, h2⟩ := hc
  exact ⟨l, m, e, h1.keep hk.1 fun g _ => hk.2 g, h2.keep hk.1 fun g _ => hk.2 g⟩
theorem FuC.keep {w w' : World} {L L' : Nat → Prop} (hk : KeptOn L L' w w') (x : Fu) (h : List Value) (hc : FuC w L x h) : FuC w' L' x h := by
  obtain ⟨l, m, e, h1, h2⟩ := hc
  exact ⟨l, m, e, h1.keep hk.1 fun g _ => hk.2 g, h2.keep hk.1 fun g _ => hk.2 g⟩

/-- Where a parser lies, and its tokens. -/
structure Cx where
  q : Nat
  tv : Value
  sv : Value
  T : List Tk
/-- The tokens, and their bytes, lie ahead of it. -/
def TkR (C : Cx) (w : World) : Prop :=
  ∃ bt ot ct bx ox cx, C.tv = .slice (some ⟨bt, ot, none⟩) C.T.length ct ∧ C.sv = .slice (some ⟨bx, ox, none⟩) C.T.length cx ∧ bt < C.q ∧ bx < C.q ∧
    ∀ i (h : i < C.T.length), w.cell? ⟨bt, ot + i * 3, none⟩ = some (.int .i64 (C.T[i].kind : Int)) ∧ w.cell? ⟨bt, ot + i * 3 + 1, none⟩ = some (.int .i64 (C.T[i].lo : Int)) ∧ w.cell? ⟨bt, ot + i * 3 + 2, none⟩ = some (.int .i64 (C.T[i].hi : Int)) ∧ w.cell? ⟨bx, ox + i, none⟩ = some (.string (bs C.T[i].txt))
theorem TkR.keep {C : Cx} {w w' : World} (h : TkR C w) (hb : ∀ k, k < C.q → w'.heap[k]? = w.heap[k]?) : TkR C w' := by
  obtain ⟨bt, ot, ct, bx, ox, cx, h1, h2, h3, h4, hc⟩ := h
  refine ⟨bt, ot, ct, bx, ox, cx, h1, h2, h3, h4, fun i hi => ?_⟩
  obtain ⟨c1, c2, c3, c4⟩ := hc i hi
  exact ⟨(World.cell?_of_block (a := ⟨bt, _, none⟩) (hb bt h3)).trans c1, (World.cell?_of_block (a := ⟨bt, _, none⟩) (hb bt h3)).trans c2, (World.cell?_of_block (a := ⟨bt, _, none⟩) (hb bt h3)).trans c3, (World.cell?_of_block (a := ⟨bx, _, none⟩) (hb bx h4)).trans c4⟩
/-- The blocks in which the lists may lie of what was put. -/
def Lst (S : Nat → Prop) (q : Nat) (ve vs vf : Value) (g : Nat) : Prop := q < g ∧ ¬ S g ∧ ve.ownBlock ≠ some g ∧ vs.ownBlock ≠ some g ∧ vf.ownBlock ≠ some g

/-- A parser lies in memory; S: blocks that aren't its own. -/
structure PIn (C : Cx) (S : Nat → Prop) (s : Sg) (w : World) (ve vs vf : Value) (ce cs cf : List Value) : Prop where
  box : w.heap[C.q]? = some (.cells #[C.tv, C.sv, .int .i64 (s.at_ : Int), .int .i64 0, ve, vs, vf] 83)
  toks : TkR C w
  lt : s.at_ < C.T.length
  len : C.T.length ≤ 20001
  tk : TkOk C.T
  sLt : ∀ b, S b → C.q < b ∧ b < w.heap.size
  oe : w.ownsRow (C.q + 1) 63 9 ve s.ex.length ce
  os : w.ownsRow (C.q + 1) 42 9 vs s.st.length cs
  of : w.ownsRow (C.q + 1) 69 6 vf s.fn.length cf
  re : RowsOf (ExC w (Lst S C.q ve vs vf)) s.ex ce
  rs : RowsOf (SmC w (Lst S C.q ve vs vf)) s.st cs
  rf : RowsOf (FuC w (Lst S C.q ve vs vf)) s.fn cf
  de : ∀ g, ve.ownBlock = some g → ¬ S g ∧ vs.ownBlock ≠ some g ∧ vf.ownBlock ≠ some g
  ds : ∀ g, vs.ownBlock = some g → ¬ S g ∧ vf.ownBlock ≠ some g
  df : ∀ g, vf.ownBlock = some g → ¬ S g
theorem own_blk {w : World} {base n : Nat} {e : TypeId} {size : Nat} {v : Value} {xs : List Value} (h : w.ownsRow base e size v n xs) (g : Nat) (hg : v.ownBlock = some g) : base ≤ g ∧ g < w.heap.size := by
  rcases h.2 with ⟨rfl, _⟩ | ⟨g', cap, cur, rfl, h1, h2, _⟩
  · cases hg
  · obtain rfl : g' = g := by simpa [Value.ownBlock] using hg
    exact ⟨h1, (Array.getElem?_eq_some_iff.1 h2).1⟩
theorem own_keep {w w' : World} {base n : Nat} {e : TypeId} {size : Nat} {v : Value} {xs : List Value} (h : w.ownsRow base e size v n xs) (hb : ∀ g, v.ownBlock = some g → w'.heap[g]? = w.heap[g]?) : w'.ownsRow base e size v n xs := by
  refine ⟨h.1, ?_⟩
  rcases h.2 with h0 | ⟨g, cap, cur, rfl, h1, h2, hr⟩
  · exact .inl h0
  · exact .inr ⟨g, cap, cur, rfl, h1, (hb g rfl).trans h2, hr⟩
theorem own_form {w : World} {base n : Nat} {e : TypeId} {size : Nat} {v : Value} {xs : List Value} (h : w.ownsRow base e size v n xs) : ∃ A c, v = .slice A n c := by
  rcases h.2 with ⟨rfl, rfl⟩ | ⟨g, cap, cur, rfl, _⟩
  · exact ⟨_, _, rfl⟩
  · exact ⟨_, _, rfl⟩
theorem PIn.qlt {C : Cx} {S : Nat → Prop} {s : Sg} {w : World} {ve vs vf : Value} {ce cs cf : List Value} (h : PIn C S s w ve vs vf ce cs cf) : C.q < w.heap.size := (Array.getElem?_eq_some_iff.1 h.box).1
/-- What isn't S's stays; S may grow by what is new. -/
theorem PIn.move {C : Cx} {S S' : Nat → Prop} {s : Sg} {w w' : World} {ve vs vf : Value} {ce cs cf : List Value} (h : PIn C S s w ve vs vf ce cs cf) (hs : w.heap.size ≤ w'.heap.size)
    (hb : ∀ k, k < w.heap.size → ¬ S k → w'.heap[k]? = w.heap[k]?) (hS : ∀ b, S' b → b < w'.heap.size ∧ (S b ∨ w.heap.size ≤ b)) : PIn C S' s w' ve vs vf ce cs cf := by
  have hq := h.qlt
  have hn : ∀ k, k ≤ C.q → ¬ S k := fun k hk e => by have := (h.sLt k e).1; omega
  have hn' : ∀ g, g < w.heap.size → ¬ S g → ¬ S' g := fun g hg h1 h2 => by rcases (hS g h2).2 with h3 | h3; exact h1 h3; omega
  have hk : KeptOn (Lst S C.q ve vs vf) (Lst S' C.q ve vs vf) w w' := ⟨hs, fun g hL hg => ⟨⟨hL.1, hn' g hg hL.2.1, hL.2.2⟩, hb g hg hL.2.1⟩⟩
  have he := fun g hg => own_blk h.oe g hg
  have hst := fun g hg => own_blk h.os g hg
  have hf := fun g hg => own_blk h.of g hg
  exact { box := (hb C.q hq (hn _ (Nat.le_refl _))).trans h.box
          toks := h.toks.keep fun k hk => hb k (by omega) (hn k (by omega))
          lt := h.lt, len := h.len, tk := h.tk
          sLt := fun b hb' => by rcases (hS b hb').2 with h1 | h1; exact ⟨(h.sLt b h1).1, (hS b hb').1⟩; exact ⟨by omega, (hS b hb').1⟩
          oe := own_keep h.oe fun g hg => hb g (he g hg).2 (h.de g hg).1
          os := own_keep h.os fun g hg => hb g (hst g hg).2 (h.ds g hg).1
          of := own_keep h.of fun g hg => hb g (hf g hg).2 (h.df g hg)
          re := h.re.mono (ExC.keep hk), rs := h.rs.mono (SmC.keep hk), rf := h.rf.mono (FuC.keep hk)
          de := fun g hg => ⟨hn' g (he g hg).2 (h.de g hg).1, (h.de g hg).2⟩
          ds := fun g hg => ⟨hn' g (hst g hg).2 (h.ds g hg).1, (h.ds g hg).2⟩
          df := fun g hg => hn' g (hf g hg).2 (h.df g hg) }
theorem PIn.cells {C : Cx} {S : Nat → Prop} {s : Sg} {w : World} {ve vs vf : Value} {ce cs cf : List Value} (h : PIn C S s w ve vs vf ce cs cf) :
    w.cell? ⟨C.q, 0, none⟩ = some C.tv ∧ w.cell? ⟨C.q, 1, none⟩ = some C.sv ∧ w.cell? ⟨C.q, 2, none⟩ = some (.int .i64 (s.at_ : Int)) ∧ w.cell? ⟨C.q, 4, none⟩ = some ve ∧ w.cell? ⟨C.q, 5, none⟩ = some vs ∧ w.cell? ⟨C.q, 6, none⟩ = some vf := by
  refine ⟨?_, ?_, ?_, ?_, ?_, ?_⟩ <;> simp [World.cell?, h.box]
theorem PIn.frozen {C : Cx} {S : Nat → Prop} {s : Sg} {w : World} {ve vs vf : Value} {ce cs cf : List Value} (h : PIn C S s w ve vs vf ce cs cf) (o : Nat) : w.frozen? ⟨C.q, o, none⟩ = false := by
  simp [World.frozen?, h.box]
/-- Another cell of the parser's own box is written. -/
theorem PIn.next {C : Cx} {S : Nat → Prop} {s : Sg} {w : World} {ve vs vf : Value} {ce cs cf : List Value} (h : PIn C S s w ve vs vf ce cs cf) (hl : s.at_ + 1 < C.T.length) :
    PIn C S { s with at_ := s.at_ + 1 } (w.setCell ⟨C.q, 2, none⟩ (.int .i64 ((s.at_ + 1 : Nat) : Int))) ve vs vf ce cs cf := by
  have hsz : (w.setCell ⟨C.q, 2, none⟩ (.int .i64 ((s.at_ + 1 : Nat) : Int))).heap.size = w.heap.size := by simp [World.setCell]
  have hne : ∀ k, k ≠ C.q → (w.setCell ⟨C.q, 2, none⟩ (.int .i64 ((s.at_ + 1 : Nat) : Int))).heap[k]? = w.heap[k]? := fun k hk => setCell_ne w C.q 2 _ k hk
  have hk : KeptOn (Lst S C.q ve vs vf) (Lst S C.q ve vs vf) w (w.setCell ⟨C.q, 2, none⟩ (.int .i64 ((s.at_ + 1 : Nat) : Int))) := ⟨by omega, fun g hL _ => ⟨hL, hne g (by have := hL.1; omega)⟩⟩
  have he := fun g hg => own_blk h.oe g hg
  have hst := fun g hg => own_blk h.os g hg
  have hf := fun g hg => own_blk h.of g hg
  exact { box := by rw [setCell_at w C.q 2 _ _ _ _ h.box]; simp
          toks := h.toks.keep fun k hk => hne k (by omega)
          lt := hl, len := h.len, tk := h.tk
          sLt := fun b hb => by rw [hsz]; exact h.sLt b hb
          oe := own_keep h.oe fun g hg => hne g (by have := he g hg; omega)
          os := own_keep h.os fun g hg => hne g (by have := hst g hg; omega)
          of := own_keep h.of fun g hg => hne g (by have := hf g hg; omega)
          re := h.re.mono (ExC.keep hk), rs := h.rs.mono (SmC.keep hk), rf := h.rf.mono (FuC.keep hk)
          de := h.de, ds := h.ds, df := h.df }

/-- An expression is put. -/
theorem PIn.putE {C : Cx} {S : Nat → Prop} {s : Sg} {w w2 : World} {ve vs vf : Value} {ce cs cf : List Value} (h : PIn C S s w ve vs vf ce cs cf) (x : Ex) (hx : List Value) (hc : ExC w (Lst S C.q ve vs vf) x hx)
    {g cap : Nat} (ho : w2.ownsRow (C.q + 1) 63 9 (.slice (some ⟨g, 0, none⟩) (s.ex.length + 1) cap) (s.ex.length + 1) (ce ++ hx)) (hg : w.grownBy w2 ve.ownBlock) (hat : ve.ownBlock = some g ∨ g = w.heap.size) (_hlt : g < w2.heap.size) :
    PIn C S { s with ex := s.ex ++ [x] } (w2.setCell ⟨C.q, 4, none⟩ (.slice (some ⟨g, 0, none⟩) (s.ex.length + 1) cap)) (.slice (some ⟨g, 0, none⟩) (s.ex.length + 1) cap) vs vf (ce ++ hx) cs cf := by
  have hq := h.qlt
  have hsz : (w2.setCell ⟨C.q, 4, none⟩ (.slice (some ⟨g, 0, none⟩) (s.ex.length + 1) cap)).heap.size = w2.heap.size := by simp [World.setCell]
  have hgs := hg.size
  have hbe := fun g hg => own_blk h.oe g hg
  have hbs := fun g hg => own_blk h.os g hg
  have hbf := fun g hg => own_blk h.of g hg
  have hgq : C.q < g := by rcases hat with e | e; have := hbe g e; omega; omega
  have hgS : ¬ S g := fun e => by rcases hat with e1 | e1; exact (h.de g e1).1 e; have := (h.sLt g e).2; omega
  have hne : ∀ k, k < w.heap.size → k ≠ C.q → ve.ownBlock ≠ some k → (w2.setCell ⟨C.q, 4, none⟩ (.slice (some ⟨g, 0, none⟩) (s.ex.length + 1) cap)).heap[k]? = w.heap[k]? := fun k hk h1 h2 => (setCell_ne w2 C.q 4 _ k h1).trans (hg.block k hk (Ne.symm h2))
  have hqv : ve.ownBlock ≠ some C.q := fun e => by have := hbe C.q e; omega
  have hk : KeptOn (Lst S C.q ve vs vf) (Lst S C.q (.slice (some ⟨g, 0, none⟩) (s.ex.length + 1) cap) vs vf) w (w2.setCell ⟨C.q, 4, none⟩ (.slice (some ⟨g, 0, none⟩) (s.ex.length + 1) cap)) := ⟨by omega, fun k hL hkl => by
    have hgk : (Value.slice (some ⟨g, 0, none⟩) (s.ex.length + 1) cap).ownBlock ≠ some k := fun e => by
      obtain rfl : g = k := by simpa [Value.ownBlock] using e
      rcases hat with e1 | e1
      · exact hL.2.2.1 e1
      · omega
    exact ⟨⟨hL.1, hL.2.1, hgk, hL.2.2.2.1, hL.2.2.2.2⟩, hne k hkl (by have := hL.1; omega) hL.2.2.1⟩⟩
  refine { box := by rw [setCell_at w2 C.q 4 _ _ _ _ ((hg.block C.q hq (Ne.symm hqv)).trans h.box)]; simp
           toks := h.toks.keep fun k hk => hne k (by omega) (by omega) (fun e => by have := hbe k e; omega)
           lt := h.lt, len := h.len, tk := h.tk
           sLt := fun b hb => ⟨(h.sLt b hb).1, by have := (h.sLt b hb).2; omega⟩
           oe := ?_, os := ?_, of := ?_, re := ?_, rs := ?_, rf := ?_, de := ?_, ds := ?_, df := ?_ }
  · refine own_keep (xs := ce ++ hx) ?_ (fun k hk => ?_) (w := w2)
    · rw [List.length_append]; exact ho
    · obtain rfl : g = k := by simpa [Value.ownBlock] using hk
      exact setCell_ne w2 C.q 4 _ g (by omega)
  · exact own_keep h.os fun k hk => hne k (hbs k hk).2 (by have := hbs k hk; omega) (fun e => (h.de k e).2.1 hk)
  · exact own_keep h.of fun k hk => hne k (hbf k hk).2 (by have := hbf k hk; omega) (fun e => (h.de k e).2.2 hk)
  · exact (h.re.snoc hc).mono (ExC.keep hk)
  · exact h.rs.mono (SmC.keep hk)
  · exact h.rf.mono (FuC.keep hk)
  · intro k hk
    obtain rfl : g = k := by simpa [Value.ownBlock] using hk
    refine ⟨hgS, fun e => ?_, fun e => ?_⟩
    · rcases hat with e1 | e1
      · exact (h.de g e1).2.1 e
      · have := hbs g e; omega
    · rcases hat with e1 | e1
      · exact (h.de g e1).2.2 e
      · have := hbf g e; omega
  · exact h.ds
  · exact h.df

/-- A statement is put. -/
theorem PIn.putS {C : Cx} {S : Nat → Prop} {s : Sg} {w w2 : World} {ve vs vf : Value} {ce cs cf : List Value} (h : PIn C S s w ve vs vf ce cs cf) (x : Sm) (hx : List Value) (hc : SmC w (Lst S C.q ve vs vf) x hx)
    {g cap : Nat} (ho : w2.ownsRow (C.q + 1) 42 9 (.slice (some ⟨g, 0, none⟩) (s.st.length + 1) cap) (s.st.length + 1) (cs ++ hx)) (hg : w.grownBy w2 vs.ownBlock) (hat : vs.ownBlock = some g ∨ g = w.heap.size) (_hlt : g < w2.heap.size) :
    PIn C S { s with st := s.st ++ [x] } (w2.setCell ⟨C.q, 5, none⟩ (.slice (some ⟨g, 0, none⟩) (s.st.length + 1) cap)) ve (.slice (some ⟨g, 0, none⟩) (s.st.length + 1) cap) vf ce (cs ++ hx) cf := by
  have hq := h.qlt
  have hsz : (w2.setCell ⟨C.q, 5, none⟩ (.slice (some ⟨g, 0, none⟩) (s.st.length + 1) cap)).heap.size = w2.heap.size := by simp [World.setCell]
  have hgs := hg.size
  have hbe := fun g hg => own_blk h.oe g hg
  have hbs := fun g hg => own_blk h.os g hg
  have hbf := fun g hg => own_blk h.of g hg
  have hgq : C.q < g := by rcases hat with e | e; have := hbs g e; omega; omega
  have hgS : ¬ S g := fun e => by rcases hat with e1 | e1; exact (h.ds g e1).1 e; have := (h.sLt g e).2; omega
  have hne : ∀ k, k < w.heap.size → k ≠ C.q → vs.ownBlock ≠ some k → (w2.setCell ⟨C.q, 5, none⟩ (.slice (some ⟨g, 0, none⟩) (s.st.length + 1) cap)).heap[k]? = w.heap[k]? := fun k hk h1 h2 => (setCell_ne w2 C.q 5 _ k h1).trans (hg.block k hk (Ne.symm h2))
  have hqv : vs.ownBlock ≠ some C.q := fun e => by have := hbs C.q e; omega
  have hk : KeptOn (Lst S C.q ve vs vf) (Lst S C.q ve (.slice (some ⟨g, 0, none⟩) (s.st.length + 1) cap) vf) w (w2.setCell ⟨C.q, 5, none⟩ (.slice (some ⟨g, 0, none⟩) (s.st.length + 1) cap)) := ⟨by omega, fun k hL hkl => by
    have hgk : (Value.slice (some ⟨g, 0, none⟩) (s.st.length + 1) cap).ownBlock ≠ some k := fun e => by
      obtain rfl : g = k := by simpa [Value.ownBlock] using e
      rcases hat with e1 | e1
      · exact hL.2.2.2.1 e1
      · omega
    exact ⟨⟨hL.1, hL.2.1, hL.2.2.1, hgk, hL.2.2.2.2⟩, hne k hkl (by have := hL.1; omega) hL.2.2.2.1⟩⟩
  refine { box := by rw [setCell_at w2 C.q 5 _ _ _ _ ((hg.block C.q hq (Ne.symm hqv)).trans h.box)]; simp
           toks := h.toks.keep fun k hk => hne k (by omega) (by omega) (fun e => by have := hbs k e; omega)
           lt := h.lt, len := h.len, tk := h.tk
           sLt := fun b hb => ⟨(h.sLt b hb).1, by have := (h.sLt b hb).2; omega⟩
           oe := ?_, os := ?_, of := ?_, re := ?_, rs := ?_, rf := ?_, de := ?_, ds := ?_, df := ?_ }
  · exact own_keep h.oe fun k hk => hne k (hbe k hk).2 (by have := hbe k hk; omega) (h.de k hk).2.1
  · refine own_keep (xs := cs ++ hx) ?_ (fun k hk => ?_) (w := w2)
    · rw [List.length_append]; exact ho
    · obtain rfl : g = k := by simpa [Value.ownBlock] using hk
      exact setCell_ne w2 C.q 5 _ g (by omega)
  · exact own_keep h.of fun k hk => hne k (hbf k hk).2 (by have := hbf k hk; omega) (fun e => (h.ds k e).2 hk)
  · exact h.re.mono (ExC.keep hk)
  · exact (h.rs.snoc hc).mono (SmC.keep hk)
  · exact h.rf.mono (FuC.keep hk)
  · intro k hk
    refine ⟨(h.de k hk).1, fun e => ?_, (h.de k hk).2.2⟩
    obtain rfl : g = k := by simpa [Value.ownBlock] using e
    rcases hat with e1 | e1
    · exact (h.de g hk).2.1 e1
    · have := hbe g hk; omega
  · intro k hk
    obtain rfl : g = k := by simpa [Value.ownBlock] using hk
    refine ⟨hgS, fun e => ?_⟩
    rcases hat with e1 | e1
    · exact (h.ds g e1).2 e
    · have := hbf g e; omega
  · exact h.df

/-- A function is put. -/
theorem PIn.putF {C : Cx} {S : Nat → Prop} {s : Sg} {w w2 : World} {ve vs vf : Value} {ce cs cf : List Value} (h : PIn C S s w ve vs vf ce cs cf) (x : Fu) (hx : List Value) (hc : FuC w (Lst S C.q ve vs vf) x hx)
    {g cap : Nat} (ho : w2.ownsRow (C.q + 1) 69 6 (.slice (some ⟨g, 0, none⟩) (s.fn.length + 1) cap) (s.fn.length + 1) (cf ++ hx)) (hg : w.grownBy w2 vf.ownBlock) (hat : vf.ownBlock = some g ∨ g = w.heap.size) (_hlt : g < w2.heap.size) :
    PIn C S { s with fn := s.fn ++ [x] } (w2.setCell ⟨C.q, 6, none⟩ (.slice (some ⟨g, 0, none⟩) (s.fn.length + 1) cap)) ve vs (.slice (some ⟨g, 0, none⟩) (s.fn.length + 1) cap) ce cs (cf ++ hx) := by
  have hq := h.qlt
  have hsz : (w2.setCell ⟨C.q, 6, none⟩ (.slice (some ⟨g, 0, none⟩) (s.fn.length + 1) cap)).heap.size = w2.heap.size := by simp [World.setCell]
  have hgs := hg.size
  have hbe := fun g hg => own_blk h.oe g hg
  have hbs := fun g hg => own_blk h.os g hg
  have hbf := fun g hg => own_blk h.of g hg
  have hgq : C.q < g := by rcases hat with e | e; have := hbf g e; omega; omega
  have hgS : ¬ S g := fun e => by rcases hat with e1 | e1; exact (h.df g e1) e; have := (h.sLt g e).2; omega
  have hne : ∀ k, k < w.heap.size → k ≠ C.q → vf.ownBlock ≠ some k → (w2.setCell ⟨C.q, 6, none⟩ (.slice (some ⟨g, 0, none⟩) (s.fn.length + 1) cap)).heap[k]? = w.heap[k]? := fun k hk h1 h2 => (setCell_ne w2 C.q 6 _ k h1).trans (hg.block k hk (Ne.symm h2))
  have hqv : vf.ownBlock ≠ some C.q := fun e => by have := hbf C.q e; omega
  have hk : KeptOn (Lst S C.q ve vs vf) (Lst S C.q ve vs (.slice (some ⟨g, 0, none⟩) (s.fn.length + 1) cap)) w (w2.setCell ⟨C.q, 6, none⟩ (.slice (some ⟨g, 0, none⟩) (s.fn.length + 1) cap)) := ⟨by omega, fun k hL hkl => by
    have hgk : (Value.slice (some ⟨g, 0, none⟩) (s.fn.length + 1) cap).ownBlock ≠ some k := fun e => by
      obtain rfl : g = k := by simpa [Value.ownBlock] using e
      rcases hat with e1 | e1
      · exact hL.2.2.2.2 e1
      · omega
    exact ⟨⟨hL.1, hL.2.1, hL.2.2.1, hL.2.2.2.1, hgk⟩, hne k hkl (by have := hL.1; omega) hL.2.2.2.2⟩⟩
  refine { box := by rw [setCell_at w2 C.q 6 _ _ _ _ ((hg.block C.q hq (Ne.symm hqv)).trans h.box)]; simp
           toks := h.toks.keep fun k hk => hne k (by omega) (by omega) (fun e => by have := hbf k e; omega)
           lt := h.lt, len := h.len, tk := h.tk
           sLt := fun b hb => ⟨(h.sLt b hb).1, by have := (h.sLt b hb).2; omega⟩
           oe := ?_, os := ?_, of := ?_, re := ?_, rs := ?_, rf := ?_, de := ?_, ds := ?_, df := ?_ }
  · exact own_keep h.oe fun k hk => hne k (hbe k hk).2 (by have := hbe k hk; omega) (h.de k hk).2.2
  · exact own_keep h.os fun k hk => hne k (hbs k hk).2 (by have := hbs k hk; omega) (h.ds k hk).2
  · refine own_keep (xs := cf ++ hx) ?_ (fun k hk => ?_) (w := w2)
    · rw [List.length_append]; exact ho
    · obtain rfl : g = k := by simpa [Value.ownBlock] using hk
      exact setCell_ne w2 C.q 6 _ g (by omega)
  · exact h.re.mono (ExC.keep hk)
  · exact h.rs.mono (SmC.keep hk)
  · exact (h.rf.snoc hc).mono (FuC.keep hk)
  · intro k hk
    refine ⟨(h.de k hk).1, (h.de k hk).2.1, fun e => ?_⟩
    obtain rfl : g = k := by simpa [Value.ownBlock] using e
    rcases hat with e1 | e1
    · exact (h.de g hk).2.2 e1
    · have := hbe g hk; omega
  · intro k hk
    refine ⟨(h.ds k hk).1, fun e => ?_⟩
    obtain rfl : g = k := by simpa [Value.ownBlock] using e
    rcases hat with e1 | e1
    · exact (h.ds g hk).2 e1
    · have := hbs g hk; omega
  · intro k hk
    obtain rfl : g = k := by simpa [Value.ownBlock] using hk
    exact hgS

/-- A parser, and that it has not put more than it has taken, by d at least. -/
def PAt (C : Cx) (S : Nat → Prop) (d : Nat) (s : Sg) (w : World) : Prop :=
  s.ex.length + s.st.length + s.fn.length + d ≤ s.at_ ∧ ∃ ve vs vf ce cs cf, PIn C S s w ve vs vf ce cs cf
theorem PAt.less {C : Cx} {S : Nat → Prop} {d d' : Nat} {s : Sg} {w : World} (h : PAt C S d s w) (hd : d' ≤ d) : PAt C S d' s w := ⟨by have := h.1; omega, h.2⟩
theorem PAt.lt {C : Cx} {S : Nat → Prop} {d : Nat} {s : Sg} {w : World} (h : PAt C S d s w) : s.at_ < C.T.length := by obtain ⟨_, _, _, _, _, _, _, h⟩ := h; exact h.lt
theorem PAt.tk {C : Cx} {S : Nat → Prop} {d : Nat} {s : Sg} {w : World} (h : PAt C S d s w) : TkOk C.T := by obtain ⟨_, _, _, _, _, _, _, h⟩ := h; exact h.tk
theorem PAt.len {C : Cx} {S : Nat → Prop} {d : Nat} {s : Sg} {w : World} (h : PAt C S d s w) : C.T.length ≤ 20001 := by obtain ⟨_, _, _, _, _, _, _, h⟩ := h; exact h.len
theorem PAt.qlt {C : Cx} {S : Nat → Prop} {d : Nat} {s : Sg} {w : World} (h : PAt C S d s w) : C.q < w.heap.size := by obtain ⟨_, _, _, _, _, _, _, h⟩ := h; exact h.qlt
theorem PAt.sLt {C : Cx} {S : Nat → Prop} {d : Nat} {s : Sg} {w : World} (h : PAt C S d s w) : ∀ b, S b → C.q < b ∧ b < w.heap.size := by obtain ⟨_, _, _, _, _, _, _, h⟩ := h; exact h.sLt
theorem PAt.move {C : Cx} {S S' : Nat → Prop} {d : Nat} {s : Sg} {w w' : World} (h : PAt C S d s w) (hs : w.heap.size ≤ w'.heap.size)
    (hb : ∀ k, k < w.heap.size → ¬ S k → w'.heap[k]? = w.heap[k]?) (hS : ∀ b, S' b → b < w'.heap.size ∧ (S b ∨ w.heap.size ≤ b)) : PAt C S' d s w' := by
  obtain ⟨h0, ve, vs, vf, ce, cs, cf, h⟩ := h
  exact ⟨h0, ve, vs, vf, ce, cs, cf, h.move hs hb hS⟩
/-- What is new beside it changes nothing. -/
theorem PAt.below {C : Cx} {S : Nat → Prop} {d : Nat} {s : Sg} {w w' : World} (h : PAt C S d s w) (hB : Below w.heap.size w w') : PAt C S d s w' :=
  h.move hB.size (fun k hk _ => hB.block k hk) fun b hb => ⟨Nat.lt_of_lt_of_le (h.sLt b hb).2 hB.size, .inl hb⟩
theorem PAt.alloc {C : Cx} {S : Nat → Prop} {d : Nat} {s : Sg} {w : World} (h : PAt C S d s w) (o : Obj) : PAt C S d s (w.alloc o) := h.below ((Below.refl _ w).alloc (Nat.le_refl _) o)
/-- A new block is one of S. -/
theorem PAt.allocS {C : Cx} {S : Nat → Prop} {d : Nat} {s : Sg} {w : World} (h : PAt C S d s w) (o : Obj) : PAt C (fun b => S b ∨ b = w.heap.size) d s (w.alloc o) :=
  h.move (by simp) (fun k hk _ => Below.heap_alloc w o k hk) fun b hb => by
    rcases hb with hb | rfl
    · exact ⟨by have := (h.sLt b hb).2; simp; omega, .inl hb⟩
    · exact ⟨by simp, .inr (Nat.le_refl _)⟩
theorem PAt.sub {C : Cx} {S S' : Nat → Prop} {d : Nat} {s : Sg} {w : World} (h : PAt C S d s w) (hS : ∀ b, S' b → S b) : PAt C S' d s w :=
  h.move (Nat.le_refl _) (fun _ _ _ => rfl) fun b hb => ⟨(h.sLt b (hS b hb)).2, .inl (hS b hb)⟩

/-- What a call leaves as it was. -/
structure Keep (C : Cx) (S : Nat → Prop) (w w' : World) : Prop where
  below : Below C.q w w'
  kept : ∀ b, S b → w'.heap[b]? = w.heap[b]?
theorem Keep.refl (C : Cx) (S : Nat → Prop) (w : World) : Keep C S w w := ⟨Below.refl _ _, fun _ _ => rfl⟩
theorem Keep.trans {C : Cx} {S : Nat → Prop} {a b c : World} (h : Keep C S a b) (k : Keep C S b c) : Keep C S a c := ⟨h.below.trans k.below, fun x hx => (k.kept x hx).trans (h.kept x hx)⟩
theorem Keep.sub {C : Cx} {S S' : Nat → Prop} {a b : World} (h : Keep C S a b) (hS : ∀ x, S' x → S x) : Keep C S' a b := ⟨h.below, fun x hx => h.kept x (hS x hx)⟩
theorem Keep.of {C : Cx} {S : Nat → Prop} {d : Nat} {s : Sg} {w w' : World} (h : PAt C S d s w) (hB : Below w.heap.size w w') : Keep C S w w' := ⟨hB.mono (Nat.le_of_lt h.qlt), fun b hb => hB.block b (h.sLt b hb).2⟩
theorem Keep.alloc {C : Cx} {S : Nat → Prop} {d : Nat} {s : Sg} {w : World} (h : PAt C S d s w) (o : Obj) : Keep C S w (w.alloc o) := Keep.of h ((Below.refl _ w).alloc (Nat.le_refl _) o)
theorem Keep.drewN {C : Cx} {S : Nat → Prop} {a b : World} (h : Keep C S a b) (n : Nat) : Keep C S a (b.drewN n) := ⟨⟨h.below.os, h.below.tape, h.below.output, h.below.size, h.below.block⟩, h.kept⟩
theorem Keep.setCell {C : Cx} {S : Nat → Prop} {a b : World} (h : Keep C S a b) {g o : Nat} (u : Value) (hg : C.q ≤ g) (hn : ¬ S g) : Keep C S a (b.setCell ⟨g, o, none⟩ u) :=
  ⟨h.below.setCell (p := ⟨g, o, none⟩) hg u, fun x hx => (setCell_ne b g o u x (fun e => hn (e ▸ hx))).trans (h.kept x hx)⟩

/-- It ended at a token. -/
def Gone (C : Cx) (c i : Nat) (w : World) : Prop := i < C.T.length ∧ TkR C w ∧ ∃ ve vs vf, w.heap[C.q]? = some (.cells #[C.tv, C.sv, .int .i64 (i : Int), .int .i64 (c : Int), ve, vs, vf] 83)
abbrev PanicE (c : Nat) : Ending := .panicked [{ v := .iface 33 (.int .i64 (c : Int)), recovered := false }]
/-- What comes of a call. -/
def OutP {α : Type} (C : Cx) (S : Nat → Prop) (d : Nat) (val : α → Value) (r : Rs α) (w : World) (e : Ending) (w' : World) : Prop :=
  match r with
  | .ok a s' => e = .returned (val a) ∧ PAt C S d s' w' ∧ Keep C S w w'
  | .no c i => e = PanicE c ∧ Gone C c i w' ∧ Keep C S w w'
theorem OutP.no {α β : Type} {C : Cx} {S S' : Nat → Prop} {d d' : Nat} {val : α → Value} {val' : β → Value} {c i : Nat} {w0 w w' : World} {e : Ending} (h : OutP C S d val (.no c i : Rs α) w e w') (hk : Keep C S' w0 w) (hS : ∀ b, S' b → S b) : OutP C S' d' val' (.no c i : Rs β) w0 e w' :=
  ⟨h.1, h.2.1, hk.trans (h.2.2.sub hS)⟩
theorem PAt.drewN {C : Cx} {S : Nat → Prop} {d : Nat} {s : Sg} {w : World} (h : PAt C S d s w) (n : Nat) : PAt C S d s (w.drewN n) :=
  h.below ⟨rfl, rfl, rfl, Nat.le_refl _, fun _ _ => rfl⟩
theorem OutP.okm {α : Type} {C : Cx} {S : Nat → Prop} {d : Nat} {val : α → Value} {a : α} {s' : Sg} {w w' : World} (hp : PAt C S d s' w') (hk : Keep C S w w') : OutP C S d val (.ok a s') w (.returned (val a)) w' := ⟨rfl, hp, hk⟩
def natV (n : Nat) : Value := .int .i64 (n : Int)
def strV (l : List UInt8) : Value := .string (bs l)
def unitV (_ : Unit) : Value := .tuple #[]

end Go.Proofs.YtdeflloidhbpmaaGreatDoor

namespace Go.Proofs.YtdeflloidhbpmaaGreatDoor
open Go.RowKit

/-- A slice of texts at a block's beginning. -/
def SgAt (w : World) (g n : Nat) (l : List (List UInt8)) : Prop := l.length = n ∧ g < w.heap.size ∧ ∀ i (h : i < l.length), w.cell? ⟨g, i, none⟩ = some (.string (bs l[i]))
theorem SgAt.keep {w w' : World} {g n : Nat} {l : List (List UInt8)} (h : SgAt w g n l) (hs : w.heap.size ≤ w'.heap.size) (hb : w'.heap[g]? = w.heap[g]?) : SgAt w' g n l :=
  ⟨h.1, by have := h.2.1; omega, fun i hi => (World.cell?_of_block (a := ⟨g, i, none⟩) hb).trans (h.2.2 i hi)⟩
theorem below_drewN {B : Nat} {a w : World} (h : Below B a w) (n : Nat) : Below B a (w.drewN n) := ⟨h.os, h.tape, h.output, h.size, h.block⟩
theorem contains_yes {xs : List (List UInt8)} {b : List UInt8} (i : Nat) (h : i < xs.length) (e : b = xs[i]) : xs.contains b = true := by
  subst e; simp
theorem contains_no {xs : List (List UInt8)} {b : List UInt8} (h : ∀ i (h : i < xs.length), b ≠ xs[i]) : xs.contains b = false := by
  rw [Bool.eq_false_iff]
  intro hc
  obtain ⟨i, hi, e⟩ := List.mem_iff_getElem.1 (show b ∈ xs by simpa using hc)
  exact h i hi e.symm

def IndexPost (l : List (List UInt8)) (b : List UInt8) (w : World) (e : Ending) (w' : World) : Prop := (∃ i : Int, e = .returned (.int .i64 i) ∧ decide (0 ≤ i) = l.contains b) ∧ w = w'
set_option maxRecDepth 100000 in
set_option maxHeartbeats 1000000 in
theorem index_calls (g n c : Nat) (l : List (List UInt8)) (b : List UInt8) (hn : n ≤ 100000) (w : World) (hx : SgAt w g n l) :
    Calls Tryz.prog 134 #[.slice (some ⟨g, 0, none⟩) n c, .string (bs b)] w (IndexPost l b w) := by
  have HX := Lib.hid hx
  have HL := Lib.hid hx.1
  clear hx
  go_enter Tryz.func134, Tryz.ntmps134
  go_wp2
  go_loop [8] (fun a => ∃ i : Nat, i ≤ n ∧ a = .int .i64 i ∧ Hid (∀ j (h : j < l.length), j < i → b ≠ l[j])) (fun a => n - (intOf a).toNat)
  case atStart => exact ⟨0, by omega, rfl, Lib.hid (fun j _ hj => by omega)⟩
  case round =>
    obtain ⟨i, hi, rfl, HN⟩ := hrel
    by_cases hlt : i < n
    · have hc := HX.out.2.2 i (by rw [HL.out]; exact hlt)
      have hxl : i < l.length := by rw [HL.out]; exact hlt
      have h1 : (i : Int) < (n : Int) := by omega
      have h0 : (0 : Int) ≤ (i : Int) := by omega
      by_cases he : b = l[i]
      · have HE := Lib.hid (contains_yes i hxl he)
        have hq : ((bs b).toList == (bs l[i]).toList) = true := by rw [← he]; exact beq_self_eq_true _
        have HD : Hid (IndexPost l b w (.returned (.int .i64 (i : Int))) w) := Lib.hid ⟨⟨_, rfl, by rw [HE.out]; exact decide_eq_true h0⟩, rfl⟩
        clear he
        go_wp2
        go_ret
        exact HD.out
      · have HE := Lib.hid he
        have hq : ((bs b).toList == (bs l[i]).toList) = false := str_ne (fun e => he (by rw [← bs_toList b, e, bs_toList]))
        clear he
        go_wp2
        go_round
        case rel => exact ⟨i + 1, by omega, by go_num, Lib.hid (fun j hj hji => by
          by_cases h : j = i
          · subst h; exact HE.out
          · exact HN.out j hj (by omega))⟩
        case measure => simp [intOf]; omega
    · obtain rfl : i = n := by omega
      have HE := Lib.hid (contains_no (xs := l) (b := b) (fun j hj => HN.out j hj (by rw [← HL.out]; exact hj)))
      have HD : Hid (IndexPost l b w (.returned (.int .i64 (-1))) w) := Lib.hid ⟨⟨_, rfl, by rw [HE.out]; rfl⟩, rfl⟩
      go_wp2
      go_ret
      exact HD.out
set_option maxHeartbeats 1000000 in
theorem contains_calls (g n c : Nat) (l : List (List UInt8)) (b : List UInt8) (hn : n ≤ 100000) (w : World) (hx : SgAt w g n l) :
    Calls Tryz.prog 116 #[.slice (some ⟨g, 0, none⟩) n c, .string (bs b)] w fun e w' => e = .returned (.bool (l.contains b)) ∧ w' = w := by
  have hc := Lib.hid (index_calls g n c l b hn w hx)
  clear hx
  go_enter Tryz.func116, Tryz.ntmps116
  go_wp2_with fail
  refine hc.out.mono ?_
  rintro e w1 ⟨⟨i, rfl, hi⟩, rfl⟩
  have HI := Lib.hid hi
  clear hi
  go_wp2
  go_ret
  exact ⟨ret_bool HI.out, rfl⟩

theorem PAt.read {C : Cx} {S : Nat → Prop} {d : Nat} {s : Sg} {w : World} (h : PAt C S d s w) : ∃ bt ot ct bx ox cx, C.tv = .slice (some ⟨bt, ot, none⟩) C.T.length ct ∧ C.sv = .slice (some ⟨bx, ox, none⟩) C.T.length cx ∧
    w.cell? ⟨bt, ot + s.at_ * 3, none⟩ = some (.int .i64 ((cur C.T s).kind : Int)) ∧ w.cell? ⟨bt, ot + s.at_ * 3 + 1, none⟩ = some (.int .i64 ((cur C.T s).lo : Int)) ∧ w.cell? ⟨bx, ox + s.at_, none⟩ = some (.string (bs (cur C.T s).txt)) ∧
    w.cell? ⟨C.q, 0, none⟩ = some C.tv ∧ w.cell? ⟨C.q, 1, none⟩ = some C.sv ∧ w.cell? ⟨C.q, 2, none⟩ = some (.int .i64 (s.at_ : Int)) := by
  obtain ⟨_, ve, vs, vf, ce, cs, cf, h⟩ := h
  obtain ⟨bt, ot, ct, bx, ox, cx, h1, h2, _, _, hc⟩ := h.toks
  obtain ⟨c1, c2, _, c4⟩ := hc s.at_ h.lt
  rw [← cur_at h.lt] at c1 c2 c4
  exact ⟨bt, ot, ct, bx, ox, cx, h1, h2, c1, c2, c4, h.cells.1, h.cells.2.1, h.cells.2.2.1⟩

set_option maxRecDepth 100000 in
set_option maxHeartbeats 1000000 in
/-- is. -/
theorem is_calls (C : Cx) (S : Nat → Prop) (d : Nat) (s : Sg) (g n c : Nat) (l : List (List UInt8)) (hn : n ≤ 100000) (w : World) (h : PAt C S d s w) (hx : SgAt w g n l) :
    Calls Tryz.prog 101 #[.pointer (some ⟨C.q, 0, none⟩), .slice (some ⟨g, 0, none⟩) n c] w fun e w' => e = .returned (.bool (isP C.T l s)) ∧ Below w.heap.size w w' := by
  have hlt := h.lt
  have hlen := h.len
  obtain ⟨bt, ot, ct, bx, ox, cx, _, hsv, _, _, c4, _, d1, d2⟩ := h.read
  rw [hsv] at d1
  have hc := Lib.hid (fun m => contains_calls g n c l (cur C.T s).txt hn (w.drewN m) hx)
  clear h hx
  unfold isP
  generalize (cur C.T s).txt = t at *
  generalize hqq : C.q = q at *
  generalize hk : s.at_ = k at *
  have h0 : (0 : Int) ≤ (k : Int) := by omega
  have h1 : (k : Int) < (C.T.length : Int) := by omega
  clear hsv hqq hk
  go_enter Tryz.func101, Tryz.ntmps101
  go_wp2
  go_quiet ((go_at_call 116; exact Calls.quiet_of_same (hc.out _)))
  go_wp2
  go_ret
  exact ⟨rfl, below_drewN (Below.refl _ w) _⟩

set_option maxRecDepth 100000 in
set_option maxHeartbeats 1000000 in
theorem isA_calls (C : Cx) (S : Nat → Prop) (d : Nat) (s : Sg) (k : Nat) (w : World) (h : PAt C S d s w) :
    Calls Tryz.prog 75 #[.pointer (some ⟨C.q, 0, none⟩), .int .i64 (k : Int)] w fun e w' => e = .returned (.bool (isK C.T k s)) ∧ Below w.heap.size w w' := by
  have hlt := h.lt
  have hlen := h.len
  obtain ⟨bt, ot, ct, bx, ox, cx, htv, _, c1, _, _, d0, _, d2⟩ := h.read
  rw [htv] at d0
  have HR : Hid (isK C.T k s = (((cur C.T s).kind : Int) == (k : Int))) := Lib.hid (by
    unfold isK
    rw [Bool.eq_iff_iff]; simp only [beq_iff_eq]; omega)
  clear h
  generalize (cur C.T s).kind = t at *
  generalize hqq : C.q = q at *
  generalize hk : s.at_ = j at *
  have h0 : (0 : Int) ≤ (j : Int) := by omega
  have h1 : (j : Int) < (C.T.length : Int) := by omega
  clear htv hqq hk
  go_enter Tryz.func75, Tryz.ntmps75
  go_wp2
  go_quiet (fail)
  go_wp2
  go_ret
  exact ⟨ret_bool HR.out.symm, below_drewN (Below.refl _ w) _⟩

set_option maxRecDepth 100000 in
set_option maxHeartbeats 1000000 in
theorem from_calls (C : Cx) (S : Nat → Prop) (d : Nat) (s : Sg) (w : World) (h : PAt C S d s w) :
    Calls Tryz.prog 48 #[.pointer (some ⟨C.q, 0, none⟩)] w fun e w' => e = .returned (.int .i64 ((cur C.T s).lo : Int)) ∧ Below w.heap.size w w' := by
  have hlt := h.lt
  have hlen := h.len
  obtain ⟨bt, ot, ct, bx, ox, cx, htv, _, _, c2, _, d0, _, d2⟩ := h.read
  rw [htv] at d0
  clear h
  generalize (cur C.T s).lo = t at *
  generalize hqq : C.q = q at *
  generalize hk : s.at_ = j at *
  have h0 : (0 : Int) ≤ (j : Int) := by omega
  have h1 : (j : Int) < (C.T.length : Int) := by omega
  clear htv hqq hk
  go_enter Tryz.func48, Tryz.ntmps48
  go_wp2
  go_quiet (fail)
  go_wp2
  go_ret
  exact ⟨rfl, below_drewN (Below.refl _ w) _⟩

end Go.Proofs.YtdeflloidhbpmaaGreatDoor
