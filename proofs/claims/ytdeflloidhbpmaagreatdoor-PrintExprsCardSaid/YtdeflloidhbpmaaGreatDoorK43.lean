/-
  An if statement's text, part by part.
  choice: an if statement, and those that stand alone behind its else.
  A statement without blocks: its pieces, and its text.
  statement: a statement is written, of whatever kind.
-/
import Derived.Test.YtdeflloidhbpmaaGreatDoorK42
import Derived.Deep.LoopGhost
import Derived.Deep.RegionHeld3
import Derived.Deep.Cut
namespace Go.Proofs.YtdeflloidhbpmaaGreatDoor
open Go.RowKit

def elseB : List UInt8 := [32, 101, 108, 115, 101, 32]
section
variable {nm : List UInt8 → Prop} {nu : Nat → Prop} {dec : Nat → List UInt8} {E : List Ex} {S : List Sm}
theorem if_parts {k m0 q0 i m1 : Nat} {x : Sm} (hs : SSh nm nu E S k m0 q0 i m1) (hx : S[i]? = some x) (h5 : x.kind = 5) : ∃ (k' a m q : Nat), k = k' + 1 ∧ x.a = (a : Int) ∧ Sh nm nu E (k' + 1) m0 a ∧ BL (SSh nm nu E S k') x.thn (a + 1) q0 m q ∧ BL (SSh nm nu E S k') x.els m q m1 i := by
  cases k with
  | zero => exact hs.elim
  | succ k =>
    obtain ⟨y, hy, hb⟩ := hs
    rw [hx] at hy
    obtain rfl := Option.some.inj hy
    have bad : ∀ {z : Sm}, bareS x = z → z.kind ≠ 5 → False := fun h1 h2 => h2 (by rw [← h1]; exact h5)
    cases hb with
    | var a h1 h2 => exact (bad h2 (by simp)).elim
    | arr h1 h2 h3 => exact (bad h3 (by simp)).elim
    | set a h1 h2 => exact (bad h2 (by simp)).elim
    | put a h1 h2 => exact (bad h2 (by simp)).elim
    | cond a m q h1 h2 h3 h4 h5' => exact ⟨k, a, m, q, rfl, congrArg Sm.a h1, h2, h4, h5'⟩
    | loop a h1 => exact (bad h1 (by simp)).elim
    | jump h1 h2 => rcases h1 with h | h <;> rw [h] at h5 <;> cases h5
    | ret0 h1 => exact (bad h1 (by simp)).elim
    | ret a h1 => exact (bad h1 (by simp)).elim
    | print a h1 => exact (bad h1 (by simp)).elim
    | call a h1 => exact (bad h1 (by simp)).elim
theorem BL.mem {P : Nat → Nat → Nat → Nat → Prop} : ∀ {l : List Nat} {m0 q0 m1 q1 : Nat}, BL P l m0 q0 m1 q1 → ∀ a ∈ l, ∃ m0 q0 m1, P m0 q0 a m1
  | [], _, _, _, _, _, a, ha => by cases ha
  | c :: r, _, _, _, _, ⟨m, h1, h2⟩, a, ha => by
    rcases List.mem_cons.1 ha with rfl | ha
    · exact ⟨_, _, _, h1⟩
    · exact BL.mem h2 a ha
theorem BL.len {P : Nat → Nat → Nat → Nat → Prop} (hP : ∀ m0 q0 i m1, P m0 q0 i m1 → q0 ≤ i) : ∀ {l : List Nat} {m0 q0 m1 q1 : Nat}, BL P l m0 q0 m1 q1 → l.length + q0 ≤ q1
  | [], _, _, _, _, ⟨_, h⟩ => by simp; omega
  | c :: r, _, _, _, _, ⟨m, h1, h2⟩ => by
    have := hP _ _ _ _ h1
    have := BL.len hP h2
    rw [List.length_cons]; omega
theorem stG_if {k a i N b : Nat} {m0 : Nat} {x : Sm} (hx : S[i]? = some x) (h5 : x.kind = 5) (ha : x.a = (a : Int)) (hs : Sh nm nu E k m0 a) :
    byt (stG dec E S (N + 1) b i) = [105, 102, 32] ++ exT dec E a ++ [32] ++ byt (blG (stG dec E S N (b + 1)) b x.thn) ++ byt (elG S (stG dec E S N b) (stG dec E S N (b + 1)) b x.els) := by
  rw [show stG dec E S (N + 1) b i = (3, kIf) :: gp :: (prG dec E E.length a ++ gp :: (blG (stG dec E S N (b + 1)) b x.thn ++ elG S (stG dec E S N b) (stG dec E S N (b + 1)) b x.els)) by simp [stG, hx, h5, ha]]
  rw [byt_cons, byt_cons, byt_app, byt_cons, byt_app, prG_exT hs]
  simp [gp, kIf]
theorem stG_while {k a i N b : Nat} {m0 : Nat} {x : Sm} (hx : S[i]? = some x) (h6 : x.kind = 6) (ha : x.a = (a : Int)) (hs : Sh nm nu E k m0 a) :
    byt (stG dec E S (N + 1) b i) = [119, 104, 105, 108, 101, 32] ++ exT dec E a ++ [32] ++ byt (blG (stG dec E S N (b + 1)) b x.thn) := by
  rw [show stG dec E S (N + 1) b i = (3, kWhile) :: gp :: (prG dec E E.length a ++ gp :: blG (stG dec E S N (b + 1)) b x.thn) by simp [stG, hx, h6, ha]]
  rw [byt_cons, byt_cons, byt_app, byt_cons, prG_exT hs]
  simp [gp, kWhile]
theorem elG_nil {g1 g : Nat → List Wd} {b : Nat} : byt (elG S g1 g b []) = [] := by unfold elG; rw [if_pos rfl]; rfl
theorem elG_some {g1 g : Nat → List Wd} {b j : Nat} {l : List Nat} (h : oneIf S l = some j) : byt (elG S g1 g b l) = elseB ++ byt (g1 j) := by
  obtain ⟨rfl, _⟩ := one_if h
  unfold elG
  rw [if_neg (by simp), h]
  simp [byt_cons, gp, kElse, elseB]
theorem elG_none {g1 g : Nat → List Wd} {b : Nat} {l : List Nat} (hl : l ≠ []) (h : oneIf S l = none) : byt (elG S g1 g b l) = elseB ++ byt (blG g b l) := by
  unfold elG
  rw [if_neg hl, h]
  simp [byt_cons, gp, kElse, elseB]
end
end Go.Proofs.YtdeflloidhbpmaaGreatDoor

namespace Go.Proofs.YtdeflloidhbpmaaGreatDoor
open Go.RowKit

section
variable {nm : List UInt8 → Prop} {nu : Nat → Prop} {dec : Nat → List UInt8} {g cl : Nat → Nat} {wb : Nat} {e s f : Value} {sg : Sg}
/-- Statements that may stand less deep write their texts. -/
def Less (nm : List UInt8 → Prop) (nu : Nat → Prop) (dec : Nat → List UInt8) (g cl : Nat → Nat) (wb : Nat) (e s f : Value) (sg : Sg) (k : Nat) : Prop :=
  ∀ k', k' < k → ∀ m0 q0 a m1, SSh nm nu sg.ex sg.st k' m0 q0 a m1 → ∀ N b, a < N → b + k' ≤ 66 → StU nm nu dec g cl wb e s f sg b a (byt (stG dec sg.ex sg.st N b a))
/-- Where choice's loop stands: an if statement is written up to its else. -/
structure ChI (nm : List UInt8 → Prop) (nu : Nat → Prop) (dec : Nat → List UInt8) (g cl : Nat → Nat) (wb : Nat) (e s f : Value) (sg : Sg) (v0 : Value) (w0 : World) (bx b : Nat) (k0 : Nat) (target : List UInt8) (i k N : Nat) (x : Sm) (l m : Value) (out : List UInt8) (w : World) : Prop where
  sh : ∃ m0 q0 m1, SSh nm nu sg.ex sg.st k m0 q0 i m1
  at_ : sg.st[i]? = some x
  five : x.kind = 5
  sm : SmIn wb s w0 i x l m
  fuel : i < N + 1
  deep : b + k ≤ 66 ∧ k ≤ k0
  txt : AtX wb e s f v0 w0 bx (.cells #[.int .i64 (x.kind : Int), .int .i64 (x.lo : Int), .int .i64 (x.hi : Int), .string (bs x.name), .int .i64 (x.num : Int), .int .i64 x.a, .int .i64 (x.b : Int), l, m] 42) out w
  rest : out ++ byt (elG sg.st (stG dec sg.ex sg.st N b) (stG dec sg.ex sg.st N (b + 1)) b x.els) = target
/-- An if statement up to its else, beside the box. -/
theorem AtX.then {v0 : Value} {w0 w : World} {bx : Nat} {o : Obj} {out : List UInt8} (h0 : Base nm nu dec g cl wb e s f sg v0 w0) (h : AtX wb e s f v0 w0 bx o out w) {k0 k i N b : Nat} {x : Sm} {l m : Value} (hsh : ∃ m0 q0 m1, SSh nm nu sg.ex sg.st k m0 q0 i m1) (hx : sg.st[i]? = some x) (h5 : x.kind = 5) (hSm : SmIn wb s w0 i x l m)
    (hN : i < N + 1) (hd : b + k ≤ 66 ∧ k ≤ k0) (IH : Less nm nu dec g cl wb e s f sg k0) (hst : sg.st.length ≤ 100000) (hlen : out.length + (byt (stG dec sg.ex sg.st (N + 1) b i)).length ≤ 1000000000) :
    ∃ out', out' ++ byt (elG sg.st (stG dec sg.ex sg.st N b) (stG dec sg.ex sg.st N (b + 1)) b x.els) = out ++ byt (stG dec sg.ex sg.st (N + 1) b i) ∧ Calls Tryz.prog 123 #[.pointer (some ⟨wb, 0, none⟩), .agg #[.int .i64 (x.kind : Int), .int .i64 (x.lo : Int), .int .i64 (x.hi : Int), .string (bs x.name), .int .i64 (x.num : Int), .int .i64 x.a, .int .i64 (x.b : Int), l, m], .int .i64 (b : Int)] w (AtXP wb e s f v0 w0 bx o out') := by
  obtain ⟨m0, q0, m1, hs⟩ := hsh
  obtain ⟨k', a, mm, q, rfl, ha, hE, hT, hL⟩ := if_parts hs hx h5
  have e1 := stG_if (dec := dec) (N := N) (b := b) hx h5 ha hE
  have hq := (hL.lt fun _ _ _ _ h => SSh.le h).1
  have hlt := (hT.lt fun _ _ _ _ h => SSh.le h).2
  have hil : i < sg.st.length := (List.getElem?_eq_some_iff.1 hx).1
  have hln := BL.len (fun _ _ _ _ h => SSh.le h) hT
  refine ⟨out ++ ([105, 102, 32] ++ exT dec sg.ex a ++ [32]) ++ byt (blG (stG dec sg.ex sg.st N (b + 1)) b x.thn), by rw [e1]; simp [List.append_assoc], ?_⟩
  refine h.call h0 fun v1 hb1 hA => wthen_calls hb1 out w hA x l m a ha hE (hSm.rl.lowB (h.at.wbBelow h0)) b (by omega) (by omega) (stG dec sg.ex sg.st N (b + 1)) (fun c hc => ?_) ?_
  · obtain ⟨m2, q2, m3, h2⟩ := BL.mem hT c hc
    have := hlt c hc
    exact IH k' (by omega) _ _ _ _ h2 N (b + 1) (by omega) (by omega)
  · rw [e1] at hlen
    simp only [List.length_append, List.length_cons, List.length_nil] at hlen
    omega
set_option maxRecDepth 100000 in
set_option maxHeartbeats 4000000 in
theorem wchoice_calls {v0 : Value} {w0 : World} (h0 : Base nm nu dec g cl wb e s f sg v0 w0) (out : List UInt8) (w : World) (h : At wb e s f v0 w0 out w) {k i N b : Nat} {x : Sm} {l m : Value} (hsh : ∃ m0 q0 m1, SSh nm nu sg.ex sg.st k m0 q0 i m1) (hx : sg.st[i]? = some x) (h5 : x.kind = 5) (hSm : SmIn wb s w0 i x l m)
    (hN : i < N + 1) (hd : b + k ≤ 66) (IH : Less nm nu dec g cl wb e s f sg k) (hst : sg.st.length ≤ 100000) (hlen : out.length + (byt (stG dec sg.ex sg.st (N + 1) b i)).length ≤ 1000000000) :
    Calls Tryz.prog 90 #[.pointer (some ⟨wb, 0, none⟩), .agg #[.int .i64 (x.kind : Int), .int .i64 (x.lo : Int), .int .i64 (x.hi : Int), .string (bs x.name), .int .i64 (x.num : Int), .int .i64 x.a, .int .i64 (x.b : Int), l, m], .int .i64 (b : Int)] w (AtP wb e s f v0 w0 (out ++ byt (stG dec sg.ex sg.st (N + 1) b i))) := by
  have HBX := Lib.hid (heap_one w #[.int .i64 (x.kind : Int), .int .i64 (x.lo : Int), .int .i64 (x.hi : Int), .string (bs x.name), .int .i64 (x.num : Int), .int .i64 x.a, .int .i64 (x.b : Int), l, m] 42)
  obtain ⟨out1, he1, hthen⟩ := (h.newBox #[.int .i64 (x.kind : Int), .int .i64 (x.lo : Int), .int .i64 (x.hi : Int), .string (bs x.name), .int .i64 (x.num : Int), .int .i64 x.a, .int .i64 (x.b : Int), l, m] 42).then h0 hsh hx h5 hSm hN ⟨hd, Nat.le_refl k⟩ IH hst hlen
  have HTH := Lib.hid hthen
  have HTL : Hid ((out ++ byt (stG dec sg.ex sg.st (N + 1) b i)).length ≤ 1000000000) := Lib.hid (by rw [List.length_append]; exact hlen)
  generalize htg : out ++ byt (stG dec sg.ex sg.st (N + 1) b i) = target at he1 HTL ⊢
  have H0 := Lib.hid h0
  have HIH := Lib.hid IH
  have HST := Lib.hid hst
  have HT : Hid (∀ t W, Calls Tryz.prog 40 #[.string (bs t)] W (TxP t W)) := Lib.hid ptextV
  have HCI : Hid (∀ w1, AtX wb e s f v0 w0 w.heap.size (.cells #[.int .i64 (x.kind : Int), .int .i64 (x.lo : Int), .int .i64 (x.hi : Int), .string (bs x.name), .int .i64 (x.num : Int), .int .i64 x.a, .int .i64 (x.b : Int), l, m] 42) out1 w1 → ChI nm nu dec g cl wb e s f sg v0 w0 w.heap.size b k target i k N x l m out1 w1) := Lib.hid fun w1 h1 => ⟨hsh, hx, h5, hSm, hN, ⟨hd, Nat.le_refl k⟩, h1, he1⟩
  have d0 : (w.alloc (.cells #[.int .i64 (x.kind : Int), .int .i64 (x.lo : Int), .int .i64 (x.hi : Int), .string (bs x.name), .int .i64 (x.num : Int), .int .i64 x.a, .int .i64 (x.b : Int), l, m] 42)).cell? ⟨w.heap.size, 0, none⟩ = some (.int .i64 (x.kind : Int)) := cellK HBX.out 0
  have d1 : (w.alloc (.cells #[.int .i64 (x.kind : Int), .int .i64 (x.lo : Int), .int .i64 (x.hi : Int), .string (bs x.name), .int .i64 (x.num : Int), .int .i64 x.a, .int .i64 (x.b : Int), l, m] 42)).cell? ⟨w.heap.size, 1, none⟩ = some (.int .i64 (x.lo : Int)) := cellK HBX.out 1
  have d2 : (w.alloc (.cells #[.int .i64 (x.kind : Int), .int .i64 (x.lo : Int), .int .i64 (x.hi : Int), .string (bs x.name), .int .i64 (x.num : Int), .int .i64 x.a, .int .i64 (x.b : Int), l, m] 42)).cell? ⟨w.heap.size, 2, none⟩ = some (.int .i64 (x.hi : Int)) := cellK HBX.out 2
  have d3 : (w.alloc (.cells #[.int .i64 (x.kind : Int), .int .i64 (x.lo : Int), .int .i64 (x.hi : Int), .string (bs x.name), .int .i64 (x.num : Int), .int .i64 x.a, .int .i64 (x.b : Int), l, m] 42)).cell? ⟨w.heap.size, 3, none⟩ = some (.string (bs x.name)) := cellK HBX.out 3
  have d4 : (w.alloc (.cells #[.int .i64 (x.kind : Int), .int .i64 (x.lo : Int), .int .i64 (x.hi : Int), .string (bs x.name), .int .i64 (x.num : Int), .int .i64 x.a, .int .i64 (x.b : Int), l, m] 42)).cell? ⟨w.heap.size, 4, none⟩ = some (.int .i64 (x.num : Int)) := cellK HBX.out 4
  have d5 : (w.alloc (.cells #[.int .i64 (x.kind : Int), .int .i64 (x.lo : Int), .int .i64 (x.hi : Int), .string (bs x.name), .int .i64 (x.num : Int), .int .i64 x.a, .int .i64 (x.b : Int), l, m] 42)).cell? ⟨w.heap.size, 5, none⟩ = some (.int .i64 x.a) := cellK HBX.out 5
  have d6 : (w.alloc (.cells #[.int .i64 (x.kind : Int), .int .i64 (x.lo : Int), .int .i64 (x.hi : Int), .string (bs x.name), .int .i64 (x.num : Int), .int .i64 x.a, .int .i64 (x.b : Int), l, m] 42)).cell? ⟨w.heap.size, 6, none⟩ = some (.int .i64 (x.b : Int)) := cellK HBX.out 6
  have d7 : (w.alloc (.cells #[.int .i64 (x.kind : Int), .int .i64 (x.lo : Int), .int .i64 (x.hi : Int), .string (bs x.name), .int .i64 (x.num : Int), .int .i64 x.a, .int .i64 (x.b : Int), l, m] 42)).cell? ⟨w.heap.size, 7, none⟩ = some (l) := cellK HBX.out 7
  have d8 : (w.alloc (.cells #[.int .i64 (x.kind : Int), .int .i64 (x.lo : Int), .int .i64 (x.hi : Int), .string (bs x.name), .int .i64 (x.num : Int), .int .i64 x.a, .int .i64 (x.b : Int), l, m] 42)).cell? ⟨w.heap.size, 8, none⟩ = some (m) := cellK HBX.out 8
  clear h hthen htg h0 IH hst hsh hx h5 hSm hN hd hlen he1
  go_enter Tryz.func90, Tryz.ntmps90
  go_wp2_with (go_at_call 123; refine HTH.out.mono ?_)
  intro e1 w1 h1
  obtain ⟨rfl, h1⟩ := h1
  have H1 := Lib.hid (HCI.out w1 h1)
  clear h1 d0 d1 d2 d3 d4 d5 d6 d7 d8 HCI HTH HBX
  go_wp2
  generalize w.heap.size = bx at H1 ⊢
  go_loopg [10] i (fun kk u wr => ∃ (i k' N : Nat) (x : Sm) (l m : Value) (out : List UInt8), i ≤ kk ∧ Hid (ChI nm nu dec g cl wb e s f sg v0 w0 bx b k target i k' N x l m out wr))
  case atStart => exact ⟨i, k, N, x, l, m, out1, Nat.le_refl _, H1⟩
  case round =>
    clear H1
    obtain ⟨i, k', N, x, l, m, out, hik, HI⟩ := hrel
    obtain ⟨A, c, rfl, hcells⟩ := rw_cells HI.out.sm.rm
    have HIK := Lib.hid hik
    have hin : ∀ a ∈ x.els, a < sg.st.length := by
      obtain ⟨m0, q0, m1, hs⟩ := HI.out.sh
      obtain ⟨_, _, _, _, _, _, _, _, hL⟩ := if_parts hs HI.out.at_ HI.out.five
      have h2 := (hL.lt fun _ _ _ _ h => SSh.le h).2
      have h3 := (List.getElem?_eq_some_iff.1 HI.out.at_).1
      exact fun a ha => Nat.lt_trans (h2 a ha) h3
    have his := Lib.hid (wis_calls H0.out out wr HI.out.txt.at (.slice A x.els.length c) x.els HI.out.sm.rm hin)
    have d8 : wr.cell? ⟨bx, 8, none⟩ = some (.slice A x.els.length c) := cellK HI.out.txt.box 8
    clear hin hik
    cases hoi : oneIf sg.st x.els with
    | none =>
      rw [hoi] at his
      have HOI := Lib.hid hoi
      clear hoi
      have his : Hid (Calls Tryz.prog 124 #[.pointer (some ⟨wb, 0, none⟩), .slice A x.els.length c] wr (IsP false wr)) := his
      go_wp2_with (go_at_call 124; refine his.out.mono ?_)
      intro e2 w2 h2
      obtain ⟨rfl, hB2⟩ := h2
      have H2 := Lib.hid (HI.out.txt.below hB2)
      clear hB2 d8 his
      have d8 : w2.cell? ⟨bx, 8, none⟩ = some (.slice A x.els.length c) := cellK H2.out.box 8
      have HRE := Lib.hid HI.out.rest
      by_cases he : x.els.length = 0
      · have hnil : x.els = [] := List.eq_nil_of_length_eq_zero he
        have HE : Hid (AtP wb e s f v0 w0 target (.returned (.tuple #[])) w2) := Lib.hid ⟨rfl, by
          have h := HRE.out
          rw [hnil, elG_nil, List.append_nil] at h
          rw [← h]; exact H2.out.at⟩
        rw [he] at d8
        clear he hnil hcells
        go_wp2
        go_end0
        exact HE.out
      · have hpos : 0 < x.els.length := by omega
        have hposI : (0 : Int) < (x.els.length : Int) := by omega
        have hTX : Hid (out ++ (elseB ++ byt (blG (stG dec sg.ex sg.st N (b + 1)) b x.els)) = target) := Lib.hid (by
          have h := HRE.out
          rw [elG_none (fun h => he (by rw [h]; rfl)) HOI.out] at h
          exact h)
        have hLN : out.length + ((elseB).length + (byt (blG (stG dec sg.ex sg.st N (b + 1)) b x.els)).length) ≤ 1000000000 := by
          have h := HTL.out
          rw [← hTX.out, List.length_append, List.length_append] at h
          exact h
        have HLN := Lib.hid hLN
        have hBL : Hid (∀ W, At wb e s f v0 w0 (out ++ elseB) W → Calls Tryz.prog 42 #[.pointer (some ⟨wb, 0, none⟩), .slice A x.els.length c, .int .i64 (b : Int)] W (AtP wb e s f v0 w0 target)) := Lib.hid fun W hA => by
          obtain ⟨m0, q0, m1, hs⟩ := HI.out.sh
          obtain ⟨k2, a, mm, q, e1, ha, hE, hT2, hL⟩ := if_parts hs HI.out.at_ HI.out.five
          have hd := HI.out.deep
          have hlt := (hL.lt fun _ _ _ _ h => SSh.le h).2
          have hil := (List.getElem?_eq_some_iff.1 HI.out.at_).1
          have hln := BL.len (fun _ _ _ _ h => SSh.le h) hL
          have hfu := HI.out.fuel
          have hst := HST.out
          have hb := wblock_calls H0.out (out ++ elseB) W hA (.slice A x.els.length c) x.els HI.out.sm.rm b (by omega) (by omega) (stG dec sg.ex sg.st N (b + 1)) (fun c hc => by
            obtain ⟨m2, q2, m3, h2⟩ := BL.mem hL c hc
            have := hlt c hc
            exact HIH.out k2 (by omega) _ _ _ _ h2 N (b + 1) (by omega) (by omega) v0 w0 H0.out) (by rw [List.length_append]; omega)
          rw [List.append_assoc, hTX.out] at hb
          exact hb
        clear he hcells hLN
        go_wp2_with (go_at_call 40; refine (HT.out elseB _).mono ?_)
        intro e3 w3 h3
        obtain ⟨rfl, hB3⟩ := h3
        have hp3 := Lib.hid ((H2.out.below hB3).text H0.out elseB (by have := HLN.out; omega) #[.bool false, .string (bs elseB), .int .i64 0] rfl)
        clear hB3
        go_wp2_with (go_at_call 18; refine hp3.out.mono ?_)
        intro e4 w4 h4
        obtain ⟨rfl, h4⟩ := h4
        have H4 := Lib.hid h4
        clear h4 hp3 d8
        have d8 : w4.cell? ⟨bx, 8, none⟩ = some (.slice A x.els.length c) := cellK H4.out.box 8
        have hbl := Lib.hid (hBL.out w4 H4.out.at)
        go_wp2_with (go_at_call 42; refine hbl.out.mono ?_)
        intro e5 w5 h5
        have HE := Lib.hid h5
        obtain ⟨rfl, _⟩ := h5
        go_wp2
        go_end0
        exact HE.out
    | some j =>
      obtain ⟨hels, y, hy, hy5⟩ := one_if hoi
      have e0 : x.els.length = 1 := by rw [hels]; rfl
      obtain ⟨gm, rfl, hc⟩ := hcells 0 (by omega)
      have hx0 : x.els[0]'(by omega) = j := by simp [hels]
      rw [hx0] at hc
      have his : Hid (Calls Tryz.prog 124 #[.pointer (some ⟨wb, 0, none⟩), .slice (some ⟨gm, 0, none⟩) x.els.length c] wr (IsP true wr)) := Lib.hid (by
        have h := his.out
        rw [hoi] at h
        exact h)
      obtain ⟨l2, m2, hSm2⟩ := H0.out.smIn hy
      obtain ⟨Al2, cl2, rfl, _⟩ := rw_cells hSm2.rl
      obtain ⟨Am2, cm2, rfl, _⟩ := rw_cells hSm2.rm
      have HSM := Lib.hid hSm2
      have HHY := Lib.hid hy
      have HY5 := Lib.hid hy5
      have HOI := Lib.hid hoi
      have HC := Lib.hid hc
      have HELS := Lib.hid hels
      have HE0 := Lib.hid e0
      clear hoi hcells hx0 hc hSm2 hy hy5 hels e0
      go_wp2_with (go_at_call 124; refine his.out.mono ?_)
      intro e2 w2 h2
      obtain ⟨rfl, hB2⟩ := h2
      have H2 := Lib.hid ((HI.out.txt.below hB2).below (Below.refl w2.heap.size w2).drew)
      clear hB2 d8 his
      have d8 : w2.drew.cell? ⟨bx, 8, none⟩ = some (.slice (some ⟨gm, 0, none⟩) 1 c) := HE0.out ▸ (cellK H2.out.box 8)
      have hcj : w2.drew.cell? ⟨gm, 0, none⟩ = some (.int .i64 (j : Int)) := HC.out _ (H2.out.at.wbBelow H0.out)
      obtain ⟨gs, n, c2, hse, hone⟩ := HSM.out.one w2.drew (H2.out.at.wbBelow H0.out)
      have hs : w2.drew.cell? ⟨wb, 1, none⟩ = some (.slice (some ⟨gs, 0, none⟩) n c2) := by rw [← hse]; exact H2.out.at.cellS
      have HSE := Lib.hid hse
      have HONE : Hid (Calls Tryz.prog 69 #[.slice (some ⟨gs, 0, none⟩) n c2, .int .i64 (j : Int)] w2.drew (OneL y (.slice Al2 y.thn.length cl2) (.slice Am2 y.els.length cm2) w2.drew)) := Lib.hid (hone.mono (fun _ _ h => one_lit h))
      have HON : Hid ((#[.int .i64 (y.kind : Int), .int .i64 (y.lo : Int), .int .i64 (y.hi : Int), .string (bs y.name), .int .i64 (y.num : Int), .int .i64 y.a, .int .i64 (y.b : Int), .slice Al2 y.thn.length cl2, .slice Am2 y.els.length cm2] : Array Value).all (·.oneCell') = true) := Lib.hid (all_oneCell_toArray (oneS y (.slice Al2 y.thn.length cl2) (.slice Am2 y.els.length cm2) (rwAt_oneC HSM.out.rl) (rwAt_oneC HSM.out.rm)))
      clear hone hse
      go_wp2_with fail
      go_region_law (first | (go_simp; go_at_call 69; refine HONE.out.mono ?_; intro e3 w3 h3; obtain ⟨rfl, hb3⟩ := h3; have HX3 := Lib.hid (H2.out.below hb3); have q0 : w3.cell? ⟨bx, 0, none⟩ = some (.int .i64 (x.kind : Int)) := cellK HX3.out.box 0; have q1 : w3.cell? ⟨bx, 1, none⟩ = some (.int .i64 (x.lo : Int)) := cellK HX3.out.box 1; have q2 : w3.cell? ⟨bx, 2, none⟩ = some (.int .i64 (x.hi : Int)) := cellK HX3.out.box 2; have q3 : w3.cell? ⟨bx, 3, none⟩ = some (.string (bs x.name)) := cellK HX3.out.box 3; have q4 : w3.cell? ⟨bx, 4, none⟩ = some (.int .i64 (x.num : Int)) := cellK HX3.out.box 4; have q5 : w3.cell? ⟨bx, 5, none⟩ = some (.int .i64 x.a) := cellK HX3.out.box 5; have q6 : w3.cell? ⟨bx, 6, none⟩ = some (.int .i64 (x.b : Int)) := cellK HX3.out.box 6; have q7 : w3.cell? ⟨bx, 7, none⟩ = some (l) := cellK HX3.out.box 7; have q8 : w3.cell? ⟨bx, 8, none⟩ = some (.slice (some ⟨gm, 0, none⟩) x.els.length c) := cellK HX3.out.box 8; have z0 : w3.frozen? ⟨bx, 0, none⟩ = false := frozenK HX3.out.box 0; have z1 : w3.frozen? ⟨bx, 1, none⟩ = false := frozenK HX3.out.box 1; have z2 : w3.frozen? ⟨bx, 2, none⟩ = false := frozenK HX3.out.box 2; have z3 : w3.frozen? ⟨bx, 3, none⟩ = false := frozenK HX3.out.box 3; have z4 : w3.frozen? ⟨bx, 4, none⟩ = false := frozenK HX3.out.box 4; have z5 : w3.frozen? ⟨bx, 5, none⟩ = false := frozenK HX3.out.box 5; have z6 : w3.frozen? ⟨bx, 6, none⟩ = false := frozenK HX3.out.box 6; have z7 : w3.frozen? ⟨bx, 7, none⟩ = false := frozenK HX3.out.box 7; have z8 : w3.frozen? ⟨bx, 8, none⟩ = false := frozenK HX3.out.box 8; clear hb3))
      all_goals
        obtain ⟨hon4, hb4⟩ := set9 (.int .i64 (y.kind : Int)) (.int .i64 (y.lo : Int)) (.int .i64 (y.hi : Int)) (.string (bs y.name)) (.int .i64 (y.num : Int)) (.int .i64 y.a) (.int .i64 (y.b : Int)) (.slice Al2 y.thn.length cl2) (.slice Am2 y.els.length cm2) HX3.out.box
        have HX4 := Lib.hid (HX3.out.store hon4 _ hb4)
        clear hon4 hb4 q0 q1 q2 q3 q4 q5 q6 q7 q8 z0 z1 z2 z3 z4 z5 z6 z7 z8
        generalize (((((((((w3.setCell ⟨bx, 0, none⟩ (.int .i64 (y.kind : Int))).setCell ⟨bx, 1, none⟩ (.int .i64 (y.lo : Int))).setCell ⟨bx, 2, none⟩ (.int .i64 (y.hi : Int))).setCell ⟨bx, 3, none⟩ (.string (bs y.name))).setCell ⟨bx, 4, none⟩ (.int .i64 (y.num : Int))).setCell ⟨bx, 5, none⟩ (.int .i64 y.a)).setCell ⟨bx, 6, none⟩ (.int .i64 (y.b : Int))).setCell ⟨bx, 7, none⟩ (.slice Al2 y.thn.length cl2)).setCell ⟨bx, 8, none⟩ (.slice Am2 y.els.length cm2)) = w4 at HX4 ⊢
        clear HX3
        obtain ⟨N, rfl⟩ : ∃ n, N = n + 1 := ⟨N - 1, by
          obtain ⟨m0, q0, m1, hs⟩ := HI.out.sh
          obtain ⟨_, _, _, _, _, _, _, _, hL⟩ := if_parts hs HI.out.at_ HI.out.five
          have h2 := (hL.lt fun _ _ _ _ h => SSh.le h).2 j (by rw [HELS.out]; simp)
          have := HI.out.fuel
          omega⟩
        have HTX : Hid (out ++ (elseB ++ byt (stG dec sg.ex sg.st (N + 1) b j)) = target) := Lib.hid (by
          have h := HI.out.rest
          rw [elG_some HOI.out] at h
          exact h)
        have HLN : Hid (out.length + (elseB.length + (byt (stG dec sg.ex sg.st (N + 1) b j)).length) ≤ 1000000000) := Lib.hid (by
          have h := HTL.out
          rw [← HTX.out, List.length_append, List.length_append] at h
          exact h)
        have HJ : Hid (∃ k2, (∃ m0 q0 m1, SSh nm nu sg.ex sg.st k2 m0 q0 j m1) ∧ j < N + 1 ∧ (b + k2 ≤ 66 ∧ k2 ≤ k) ∧ j < i) := Lib.hid (by
          obtain ⟨m0, q0, m1, hs⟩ := HI.out.sh
          obtain ⟨k2, _, _, _, e1, _, _, _, hL⟩ := if_parts hs HI.out.at_ HI.out.five
          have h2 := (hL.lt fun _ _ _ _ h => SSh.le h).2 j (by rw [HELS.out]; simp)
          have h3 := BL.mem hL j (by rw [HELS.out]; simp)
          have := HI.out.fuel
          have := HI.out.deep
          exact ⟨k2, h3, by omega, by omega, h2⟩)
        clear d8 hcj hs
        go_wp2_with (go_at_call 40; refine (HT.out elseB _).mono ?_)
        intro e5 w5 h5
        obtain ⟨rfl, hB5⟩ := h5
        have hp5 := Lib.hid ((HX4.out.below hB5).text H0.out elseB (by have := HLN.out; omega) #[.bool false, .string (bs elseB), .int .i64 0] rfl)
        clear hB5
        go_wp2_with (go_at_call 18; refine hp5.out.mono ?_)
        intro e6 w6 h6
        obtain ⟨rfl, h6⟩ := h6
        have H6 := Lib.hid h6
        clear h6 hp5
        have d0 : w6.cell? ⟨bx, 0, none⟩ = some (.int .i64 (y.kind : Int)) := cellK H6.out.box 0
        have d1 : w6.cell? ⟨bx, 1, none⟩ = some (.int .i64 (y.lo : Int)) := cellK H6.out.box 1
        have d2 : w6.cell? ⟨bx, 2, none⟩ = some (.int .i64 (y.hi : Int)) := cellK H6.out.box 2
        have d3 : w6.cell? ⟨bx, 3, none⟩ = some (.string (bs y.name)) := cellK H6.out.box 3
        have d4 : w6.cell? ⟨bx, 4, none⟩ = some (.int .i64 (y.num : Int)) := cellK H6.out.box 4
        have d5 : w6.cell? ⟨bx, 5, none⟩ = some (.int .i64 y.a) := cellK H6.out.box 5
        have d6 : w6.cell? ⟨bx, 6, none⟩ = some (.int .i64 (y.b : Int)) := cellK H6.out.box 6
        have d7 : w6.cell? ⟨bx, 7, none⟩ = some (.slice Al2 y.thn.length cl2) := cellK H6.out.box 7
        have d8 : w6.cell? ⟨bx, 8, none⟩ = some (.slice Am2 y.els.length cm2) := cellK H6.out.box 8
        obtain ⟨k2, hsh2, hN2, hd2, hji⟩ := HJ.out
        obtain ⟨out2, he2, hth2⟩ := H6.out.then H0.out hsh2 HHY.out HY5.out HSM.out hN2 hd2 HIH.out HST.out (by rw [List.length_append]; have := HLN.out; omega)
        have HTH2 := Lib.hid hth2
        have HE2 := Lib.hid he2
        have HSH2 := Lib.hid hsh2
        have HN2 := Lib.hid hN2
        have HD2 := Lib.hid hd2
        have HJI := Lib.hid hji
        clear hth2 he2 hsh2 hN2 hd2 hji
        go_wp2_with (go_at_call 123; refine HTH2.out.mono ?_)
        intro e7 w7 h7
        obtain ⟨rfl, h7⟩ := h7
        have H7 := Lib.hid h7
        clear h7 d0 d1 d2 d3 d4 d5 d6 d7 d8
        go_wp2
        go_roundg j
        case measure => have := HIK.out; have := HJI.out; omega
        case rel => exact ⟨j, k2, N, y, _, _, out2, Nat.le_refl _, Lib.hid ⟨HSH2.out, HHY.out, HY5.out, HSM.out, HN2.out, HD2.out, H7.out, by rw [HE2.out, List.append_assoc]; exact HTX.out⟩⟩
end
end Go.Proofs.YtdeflloidhbpmaaGreatDoor

namespace Go.Proofs.YtdeflloidhbpmaaGreatDoor
open Go.RowKit

section
variable {nm : List UInt8 → Prop} {nu : Nat → Prop} {dec : Nat → List UInt8} {E : List Ex} {S : List Sm}
/-- What is known of a simple statement. -/
structure SmpOk (nm : List UInt8 → Prop) (nu : Nat → Prop) (dec : Nat → List UInt8) (E : List Ex) (S : List Sm) (x : Sm) (i : Nat) : Prop where
  kind : x.kind = 1 ∨ x.kind = 2 ∨ x.kind = 3 ∨ x.kind = 4 ∨ x.kind = 7 ∨ x.kind = 8 ∨ x.kind = 9 ∨ x.kind = 10 ∨ x.kind = 11
  num : x.kind = 2 → nu x.num
  ok : ∀ q ∈ smP dec x, PcOk nm nu E E.length q
  wt : E.length ≤ 2000 → pws (wt dec E) (smP dec x) ≤ 100000
  txt : ∀ N b, byt (stG dec E S (N + 1) b i) = pcsB dec E (smP dec x) ++ [59]
theorem pt_ok {k fi a : Nat} (h : Sh nm nu E k fi a) : PcOk nm nu E E.length (.pt (a : Int)) := .inr ⟨a, k, fi, rfl, h, h.lt.1⟩
theorem pt_wt {k fi a : Nat} (h : Sh nm nu E k fi a) (hE : E.length ≤ 2000) : wt dec E a ≤ 12000 := by
  have := wt_le h (dec := dec)
  have := h.lt.1
  omega
theorem smp_ok {k m0 q0 i m1 : Nat} {x : Sm} (hs : SSh nm nu E S k m0 q0 i m1) (hx : S[i]? = some x) (h5 : x.kind ≠ 5) (h6 : x.kind ≠ 6) : SmpOk nm nu dec E S x i := by
  cases k with
  | zero => exact hs.elim
  | succ k =>
    obtain ⟨y, hy, hb⟩ := hs
    rw [hx] at hy
    obtain rfl := Option.some.inj hy
    have tx : ∀ b, PcOk nm nu E E.length (.tx b) := fun b => .inl ⟨b, rfl⟩
    cases hb with
    | var a h1 h2 h3 =>
      have hk : x.kind = 1 := congrArg Sm.kind h2
      have ha : x.a = (a : Int) := congrArg Sm.a h2
      have e : smP dec x = [.tx ([118, 97, 114, 32] ++ x.name ++ [32, 61, 32]), .pt (a : Int)] := by simp [smP, hk, ha]
      refine ⟨by omega, fun h => by omega, ?_, fun hE => ?_, fun N b => ?_⟩
      · rw [e]; intro q hq
        simp only [List.mem_cons, List.not_mem_nil, or_false] at hq
        rcases hq with rfl | rfl
        · exact tx _
        · exact pt_ok h3
      · rw [e]; have := pt_wt (dec := dec) h3 hE; simp [pws, pwt]; omega
      · rw [e, show stG dec E S (N + 1) b i = (3, kVar) :: gp :: (1, x.name) :: gp :: (4, [61]) :: gp :: (prG dec E E.length a ++ [semi]) by simp [stG, hx, hk, ha]]
        simp only [byt_cons, byt_app, prG_exT h3]
        simp [pcsB, pcB, gp, semi, kVar, byt]
    | arr h1 h2 h3 =>
      have hk : x.kind = 2 := congrArg Sm.kind h3
      have e : smP dec x = [.tx ([118, 97, 114, 32] ++ x.name ++ [91] ++ dec x.num ++ [93])] := by simp [smP, hk]
      refine ⟨by omega, fun _ => h2, ?_, fun hE => ?_, fun N b => ?_⟩
      · rw [e]; intro q hq
        rw [List.mem_singleton] at hq
        rw [hq]; exact tx _
      · rw [e]; simp [pws, pwt]
      · rw [e, show stG dec E S (N + 1) b i = [(3, kVar), gp, (1, x.name), (4, [91]), (2, dec x.num), (4, [93]), semi] by simp [stG, hx, hk]]
        simp [pcsB, pcB, gp, semi, kVar, byt]
    | set a h1 h2 h3 =>
      have hk : x.kind = 3 := congrArg Sm.kind h2
      have ha : x.a = (a : Int) := congrArg Sm.a h2
      have e : smP dec x = [.tx (x.name ++ [32, 61, 32]), .pt (a : Int)] := by simp [smP, hk, ha]
      refine ⟨by omega, fun h => by omega, ?_, fun hE => ?_, fun N b => ?_⟩
      · rw [e]; intro q hq
        simp only [List.mem_cons, List.not_mem_nil, or_false] at hq
        rcases hq with rfl | rfl
        · exact tx _
        · exact pt_ok h3
      · rw [e]; have := pt_wt (dec := dec) h3 hE; simp [pws, pwt]; omega
      · rw [e, show stG dec E S (N + 1) b i = (1, x.name) :: gp :: (4, [61]) :: gp :: (prG dec E E.length a ++ [semi]) by simp [stG, hx, hk, ha]]
        simp only [byt_cons, byt_app, prG_exT h3]
        simp [pcsB, pcB, gp, semi, byt]
    | put a h1 h2 h3 h4 =>
      have hk : x.kind = 4 := congrArg Sm.kind h2
      have ha : x.a = (a : Int) := congrArg Sm.a h2
      have e : smP dec x = [.tx (x.name ++ [91]), .pt (a : Int), .tx [93, 32, 61, 32], .pt (x.b : Int)] := by simp [smP, hk, ha]
      refine ⟨by omega, fun h => by omega, ?_, fun hE => ?_, fun N b => ?_⟩
      · rw [e]; intro q hq
        simp only [List.mem_cons, List.not_mem_nil, or_false] at hq
        rcases hq with rfl | rfl | rfl | rfl
        · exact tx _
        · exact pt_ok h3
        · exact tx _
        · exact pt_ok h4
      · rw [e]; have := pt_wt (dec := dec) h3 hE; have := pt_wt (dec := dec) h4 hE; simp [pws, pwt]; omega
      · rw [e, show stG dec E S (N + 1) b i = (1, x.name) :: (4, [91]) :: (prG dec E E.length a ++ (4, [93]) :: gp :: (4, [61]) :: gp :: (prG dec E E.length x.b ++ [semi])) by simp [stG, hx, hk, ha]]
        simp only [byt_cons, byt_app, prG_exT h3, prG_exT h4]
        simp [pcsB, pcB, gp, semi, byt]
    | cond a m q h1 => exact (h5 (congrArg Sm.kind h1)).elim
    | loop a h1 => exact (h6 (congrArg Sm.kind h1)).elim
    | jump h1 h2 =>
      rcases h1 with hk | hk
      · have e : smP dec x = [.tx [98, 114, 101, 97, 107]] := by simp [smP, hk]
        refine ⟨by omega, fun h => by omega, ?_, fun hE => ?_, fun N b => ?_⟩
        · rw [e]; intro q hq
          rw [List.mem_singleton] at hq
          rw [hq]; exact tx _
        · rw [e]; simp [pws, pwt]
        · rw [e, show stG dec E S (N + 1) b i = [(3, kBreak), semi] by simp [stG, hx, hk]]; rfl
      · have e : smP dec x = [.tx [99, 111, 110, 116, 105, 110, 117, 101]] := by simp [smP, hk]
        refine ⟨by omega, fun h => by omega, ?_, fun hE => ?_, fun N b => ?_⟩
        · rw [e]; intro q hq
          rw [List.mem_singleton] at hq
          rw [hq]; exact tx _
        · rw [e]; simp [pws, pwt]
        · rw [e, show stG dec E S (N + 1) b i = [(3, kContinue), semi] by simp [stG, hx, hk]]; rfl
    | ret0 h1 =>
      have hk : x.kind = 9 := congrArg Sm.kind h1
      have ha : x.a = -1 := congrArg Sm.a h1
      have e : smP dec x = [.tx [114, 101, 116, 117, 114, 110]] := by simp [smP, hk, ansP, ha]
      refine ⟨by omega, fun h => by omega, ?_, fun hE => ?_, fun N b => ?_⟩
      · rw [e]; intro q hq
        rw [List.mem_singleton] at hq
        rw [hq]; exact tx _
      · rw [e]; simp [pws, pwt]
      · rw [e, show stG dec E S (N + 1) b i = [(3, kReturn), semi] by simp [stG, hx, hk, ha]]; rfl
    | ret a h1 h2 =>
      have hk : x.kind = 9 := congrArg Sm.kind h1
      have ha : x.a = (a : Int) := congrArg Sm.a h1
      have hz : ¬ (a : Int) < 0 := by omega
      have e : smP dec x = [.tx [114, 101, 116, 117, 114, 110, 32], .pt (a : Int)] := by simp [smP, hk, ansP, ha, hz]
      refine ⟨by omega, fun h => by omega, ?_, fun hE => ?_, fun N b => ?_⟩
      · rw [e]; intro q hq
        simp only [List.mem_cons, List.not_mem_nil, or_false] at hq
        rcases hq with rfl | rfl
        · exact tx _
        · exact pt_ok h2
      · rw [e]; have := pt_wt (dec := dec) h2 hE; simp [pws, pwt]; omega
      · rw [e, show stG dec E S (N + 1) b i = (3, kReturn) :: gp :: (prG dec E E.length a ++ [semi]) by simp [stG, hx, hk, ha, hz]]
        simp only [byt_cons, byt_app, prG_exT h2]
        simp [pcsB, pcB, gp, semi, kReturn, byt]
    | print a h1 h2 =>
      have hk : x.kind = 10 := congrArg Sm.kind h1
      have ha : x.a = (a : Int) := congrArg Sm.a h1
      have e : smP dec x = [.tx [112, 114, 105, 110, 116, 32], .pt (a : Int)] := by simp [smP, hk, ha]
      refine ⟨by omega, fun h => by omega, ?_, fun hE => ?_, fun N b => ?_⟩
      · rw [e]; intro q hq
        simp only [List.mem_cons, List.not_mem_nil, or_false] at hq
        rcases hq with rfl | rfl
        · exact tx _
        · exact pt_ok h2
      · rw [e]; have := pt_wt (dec := dec) h2 hE; simp [pws, pwt]; omega
      · rw [e, show stG dec E S (N + 1) b i = (3, kPrint) :: gp :: (prG dec E E.length a ++ [semi]) by simp [stG, hx, hk, ha]]
        simp only [byt_cons, byt_app, prG_exT h2]
        simp [pcsB, pcB, gp, semi, kPrint, byt]
    | call a h1 h2 =>
      have hk : x.kind = 11 := congrArg Sm.kind h1
      have ha : x.a = (a : Int) := congrArg Sm.a h1
      have e : smP dec x = [.pt (a : Int)] := by simp [smP, hk, ha]
      refine ⟨by omega, fun h => by omega, ?_, fun hE => ?_, fun N b => ?_⟩
      · rw [e]; intro q hq
        rw [List.mem_singleton] at hq
        rw [hq]; exact pt_ok h2
      · rw [e]; have := pt_wt (dec := dec) h2 hE; simp [pws, pwt]; omega
      · rw [e, show stG dec E S (N + 1) b i = prG dec E E.length a ++ [semi] by simp [stG, hx, hk, ha]]
        simp only [byt_app, prG_exT h2]
        simp [pcsB, pcB, semi, byt]
end
end Go.Proofs.YtdeflloidhbpmaaGreatDoor

namespace Go.Proofs.YtdeflloidhbpmaaGreatDoor
open Go.RowKit

section
variable {nm : List UInt8 → Prop} {nu : Nat → Prop} {dec : Nat → List UInt8} {g cl : Nat → Nat} {wb : Nat} {e s f : Value} {sg : Sg}
theorem smp_name {E : List Ex} {S : List Sm} {k m0 q0 i m1 : Nat} {x : Sm} (hs : SSh nm nu E S k m0 q0 i m1) (hx : S[i]? = some x) : nm x.name ∨ x.name = [] := by
  cases k with
  | zero => exact hs.elim
  | succ k =>
    obtain ⟨y, hy, hb⟩ := hs
    rw [hx] at hy
    obtain rfl := Option.some.inj hy
    cases hb with
    | var a h1 => exact .inl h1
    | arr h1 => exact .inl h1
    | set a h1 => exact .inl h1
    | put a h1 => exact .inl h1
    | cond a m q h1 => exact .inr (congrArg Sm.name h1)
    | loop a h1 => exact .inr (congrArg Sm.name h1)
    | jump h1 h2 => exact .inr (congrArg Sm.name h2)
    | ret0 h1 => exact .inr (congrArg Sm.name h1)
    | ret a h1 => exact .inr (congrArg Sm.name h1)
    | print a h1 => exact .inr (congrArg Sm.name h1)
    | call a h1 => exact .inr (congrArg Sm.name h1)
theorem loop_parts {E : List Ex} {S : List Sm} {k m0 q0 i m1 : Nat} {x : Sm} (hs : SSh nm nu E S k m0 q0 i m1) (hx : S[i]? = some x) (h6 : x.kind = 6) : ∃ (k' a : Nat), k = k' + 1 ∧ x.a = (a : Int) ∧ Sh nm nu E (k' + 1) m0 a ∧ BL (SSh nm nu E S k') x.thn (a + 1) q0 m1 i := by
  cases k with
  | zero => exact hs.elim
  | succ k =>
    obtain ⟨y, hy, hb⟩ := hs
    rw [hx] at hy
    obtain rfl := Option.some.inj hy
    have bad : ∀ {z : Sm}, bareS x = z → z.kind ≠ 6 → False := fun h1 h2 => h2 (by rw [← h1]; exact h6)
    cases hb with
    | var a h1 h2 => exact (bad h2 (by simp)).elim
    | arr h1 h2 h3 => exact (bad h3 (by simp)).elim
    | set a h1 h2 => exact (bad h2 (by simp)).elim
    | put a h1 h2 => exact (bad h2 (by simp)).elim
    | cond a m q h1 => exact (bad h1 (by simp)).elim
    | loop a h1 h2 _ h4 => exact ⟨k, a, rfl, congrArg Sm.a h1, h2, h4⟩
    | jump h1 h2 => rcases h1 with h | h <;> rw [h] at h6 <;> cases h6
    | ret0 h1 => exact (bad h1 (by simp)).elim
    | ret a h1 => exact (bad h1 (by simp)).elim
    | print a h1 => exact (bad h1 (by simp)).elim
    | call a h1 => exact (bad h1 (by simp)).elim
set_option maxRecDepth 100000 in
set_option maxHeartbeats 2000000 in
theorem wstm_if {v0 : Value} {w0 : World} (h0 : Base nm nu dec g cl wb e s f sg v0 w0) (out : List UInt8) (w : World) (h : At wb e s f v0 w0 out w) {k i N b : Nat} {x : Sm} {l m : Value} (hsh : ∃ m0 q0 m1, SSh nm nu sg.ex sg.st k m0 q0 i m1) (hx : sg.st[i]? = some x) (h5 : x.kind = 5) (hSm : SmIn wb s w0 i x l m)
    (hN : i < N + 1) (hd : b + k ≤ 66) (IH : Less nm nu dec g cl wb e s f sg k) (hst : sg.st.length ≤ 100000) (hlen : out.length + (byt (stG dec sg.ex sg.st (N + 1) b i)).length ≤ 1000000000) :
    Calls Tryz.prog 68 #[.pointer (some ⟨wb, 0, none⟩), .agg #[.int .i64 (x.kind : Int), .int .i64 (x.lo : Int), .int .i64 (x.hi : Int), .string (bs x.name), .int .i64 (x.num : Int), .int .i64 x.a, .int .i64 (x.b : Int), l, m], .int .i64 (b : Int)] w (AtP wb e s f v0 w0 (out ++ byt (stG dec sg.ex sg.st (N + 1) b i))) := by
  have HBX := Lib.hid (heap_one w #[.int .i64 (x.kind : Int), .int .i64 (x.lo : Int), .int .i64 (x.hi : Int), .string (bs x.name), .int .i64 (x.num : Int), .int .i64 x.a, .int .i64 (x.b : Int), l, m] 42)
  have hC := Lib.hid (wchoice_calls h0 out _ (h.below ((Below.refl w.heap.size w).alloc (Nat.le_refl _) (.cells #[.int .i64 (x.kind : Int), .int .i64 (x.lo : Int), .int .i64 (x.hi : Int), .string (bs x.name), .int .i64 (x.num : Int), .int .i64 x.a, .int .i64 (x.b : Int), l, m] 42))) hsh hx h5 hSm hN hd IH hst hlen)
  generalize out ++ byt (stG dec sg.ex sg.st (N + 1) b i) = target at hC ⊢
  have d0 : (w.alloc (.cells #[.int .i64 (x.kind : Int), .int .i64 (x.lo : Int), .int .i64 (x.hi : Int), .string (bs x.name), .int .i64 (x.num : Int), .int .i64 x.a, .int .i64 (x.b : Int), l, m] 42)).cell? ⟨w.heap.size, 0, none⟩ = some (.int .i64 (x.kind : Int)) := cellK HBX.out 0
  have d1 : (w.alloc (.cells #[.int .i64 (x.kind : Int), .int .i64 (x.lo : Int), .int .i64 (x.hi : Int), .string (bs x.name), .int .i64 (x.num : Int), .int .i64 x.a, .int .i64 (x.b : Int), l, m] 42)).cell? ⟨w.heap.size, 1, none⟩ = some (.int .i64 (x.lo : Int)) := cellK HBX.out 1
  have d2 : (w.alloc (.cells #[.int .i64 (x.kind : Int), .int .i64 (x.lo : Int), .int .i64 (x.hi : Int), .string (bs x.name), .int .i64 (x.num : Int), .int .i64 x.a, .int .i64 (x.b : Int), l, m] 42)).cell? ⟨w.heap.size, 2, none⟩ = some (.int .i64 (x.hi : Int)) := cellK HBX.out 2
  have d3 : (w.alloc (.cells #[.int .i64 (x.kind : Int), .int .i64 (x.lo : Int), .int .i64 (x.hi : Int), .string (bs x.name), .int .i64 (x.num : Int), .int .i64 x.a, .int .i64 (x.b : Int), l, m] 42)).cell? ⟨w.heap.size, 3, none⟩ = some (.string (bs x.name)) := cellK HBX.out 3
  have d4 : (w.alloc (.cells #[.int .i64 (x.kind : Int), .int .i64 (x.lo : Int), .int .i64 (x.hi : Int), .string (bs x.name), .int .i64 (x.num : Int), .int .i64 x.a, .int .i64 (x.b : Int), l, m] 42)).cell? ⟨w.heap.size, 4, none⟩ = some (.int .i64 (x.num : Int)) := cellK HBX.out 4
  have d5 : (w.alloc (.cells #[.int .i64 (x.kind : Int), .int .i64 (x.lo : Int), .int .i64 (x.hi : Int), .string (bs x.name), .int .i64 (x.num : Int), .int .i64 x.a, .int .i64 (x.b : Int), l, m] 42)).cell? ⟨w.heap.size, 5, none⟩ = some (.int .i64 x.a) := cellK HBX.out 5
  have d6 : (w.alloc (.cells #[.int .i64 (x.kind : Int), .int .i64 (x.lo : Int), .int .i64 (x.hi : Int), .string (bs x.name), .int .i64 (x.num : Int), .int .i64 x.a, .int .i64 (x.b : Int), l, m] 42)).cell? ⟨w.heap.size, 6, none⟩ = some (.int .i64 (x.b : Int)) := cellK HBX.out 6
  have d7 : (w.alloc (.cells #[.int .i64 (x.kind : Int), .int .i64 (x.lo : Int), .int .i64 (x.hi : Int), .string (bs x.name), .int .i64 (x.num : Int), .int .i64 x.a, .int .i64 (x.b : Int), l, m] 42)).cell? ⟨w.heap.size, 7, none⟩ = some (l) := cellK HBX.out 7
  have d8 : (w.alloc (.cells #[.int .i64 (x.kind : Int), .int .i64 (x.lo : Int), .int .i64 (x.hi : Int), .string (bs x.name), .int .i64 (x.num : Int), .int .i64 x.a, .int .i64 (x.b : Int), l, m] 42)).cell? ⟨w.heap.size, 8, none⟩ = some (m) := cellK HBX.out 8
  have e5 : ((x.kind : Int) == 5) = true := keq h5
  clear h0 h hsh hx h5 hSm hN hd IH hst hlen
  go_enter Tryz.func68, Tryz.ntmps68
  go_wp2_with (go_at_call 90; refine hC.out.mono ?_)
  intro e1 w1 h1
  have HE := Lib.hid h1
  obtain ⟨rfl, _⟩ := h1
  go_wp2
  go_end0
  exact HE.out
set_option maxRecDepth 100000 in
set_option maxHeartbeats 2000000 in
theorem wstm_simple {v0 : Value} {w0 : World} (h0 : Base nm nu dec g cl wb e s f sg v0 w0) (out : List UInt8) (w : World) (h : At wb e s f v0 w0 out w) {i : Nat} {x : Sm} {l m : Value} (hs : SmpOk nm nu dec sg.ex sg.st x i) (hnm : x.name.length ≤ 1000000) (hdl : ∀ n, nu n → (dec n).length ≤ 1000) (h5 : x.kind ≠ 5) (h6 : x.kind ≠ 6) (N b : Nat) (hlen : out.length + (byt (stG dec sg.ex sg.st (N + 1) b i)).length ≤ 1000000000) :
    Calls Tryz.prog 68 #[.pointer (some ⟨wb, 0, none⟩), .agg #[.int .i64 (x.kind : Int), .int .i64 (x.lo : Int), .int .i64 (x.hi : Int), .string (bs x.name), .int .i64 (x.num : Int), .int .i64 x.a, .int .i64 (x.b : Int), l, m], .int .i64 (b : Int)] w (AtP wb e s f v0 w0 (out ++ byt (stG dec sg.ex sg.st (N + 1) b i))) := by
  have HBX := Lib.hid (heap_one w #[.int .i64 (x.kind : Int), .int .i64 (x.lo : Int), .int .i64 (x.hi : Int), .string (bs x.name), .int .i64 (x.num : Int), .int .i64 x.a, .int .i64 (x.b : Int), l, m] 42)
  have hB0 := (Below.refl w.heap.size w).alloc (Nat.le_refl _) (.cells #[.int .i64 (x.kind : Int), .int .i64 (x.lo : Int), .int .i64 (x.hi : Int), .string (bs x.name), .int .i64 (x.num : Int), .int .i64 x.a, .int .i64 (x.b : Int), l, m] 42)
  have hA0 := h.below hB0
  have hwb := h.wbBelow h0
  have hM := Lib.hid (wsimple_calls dec x l m (w.alloc (.cells #[.int .i64 (x.kind : Int), .int .i64 (x.lo : Int), .int .i64 (x.hi : Int), .string (bs x.name), .int .i64 (x.num : Int), .int .i64 x.a, .int .i64 (x.b : Int), l, m] 42)) hnm hs.kind (fun h2 => hdl _ (hs.num h2)) (fun h2 W hW => h0.tree.ito x.num (hs.num h2) W ((hA0.wbBelow h0).trans (hW.mono (by have := h0.lo.1; have := hwb.size; have := hB0.size; omega))) (by have := h0.lo.1; have := hwb.size; have := hB0.size; have := hW.size; omega)))
  have HLN : Hid (out.length + (pcsB dec sg.ex (smP dec x)).length + 1 ≤ 1000000000) := Lib.hid (by
    rw [hs.txt, List.length_append] at hlen
    have : ([59] : List UInt8).length = 1 := rfl
    omega)
  have hPT : Hid (∀ W vl, At wb e s f v0 w0 out W → ArrAt W 3 vl (smP dec x).length (pcsV (smP dec x)) → Calls Tryz.prog 18 #[.pointer (some ⟨wb, 0, none⟩), vl] W (AtP wb e s f v0 w0 (out ++ pcsB dec sg.ex (smP dec x)))) := Lib.hid fun W vl hA hl => hA.put h0 vl (smP dec x) hl hs.ok (hs.wt h0.few) (by have := HLN.out; omega)
  have HTG : Hid (out ++ pcsB dec sg.ex (smP dec x) ++ [59] = out ++ byt (stG dec sg.ex sg.st (N + 1) b i)) := Lib.hid (by rw [hs.txt, List.append_assoc])
  generalize out ++ byt (stG dec sg.ex sg.st (N + 1) b i) = target at HTG ⊢
  have HT : Hid (∀ t W, Calls Tryz.prog 40 #[.string (bs t)] W (TxP t W)) := Lib.hid ptextV
  have d0 : (w.alloc (.cells #[.int .i64 (x.kind : Int), .int .i64 (x.lo : Int), .int .i64 (x.hi : Int), .string (bs x.name), .int .i64 (x.num : Int), .int .i64 x.a, .int .i64 (x.b : Int), l, m] 42)).cell? ⟨w.heap.size, 0, none⟩ = some (.int .i64 (x.kind : Int)) := cellK HBX.out 0
  have d1 : (w.alloc (.cells #[.int .i64 (x.kind : Int), .int .i64 (x.lo : Int), .int .i64 (x.hi : Int), .string (bs x.name), .int .i64 (x.num : Int), .int .i64 x.a, .int .i64 (x.b : Int), l, m] 42)).cell? ⟨w.heap.size, 1, none⟩ = some (.int .i64 (x.lo : Int)) := cellK HBX.out 1
  have d2 : (w.alloc (.cells #[.int .i64 (x.kind : Int), .int .i64 (x.lo : Int), .int .i64 (x.hi : Int), .string (bs x.name), .int .i64 (x.num : Int), .int .i64 x.a, .int .i64 (x.b : Int), l, m] 42)).cell? ⟨w.heap.size, 2, none⟩ = some (.int .i64 (x.hi : Int)) := cellK HBX.out 2
  have d3 : (w.alloc (.cells #[.int .i64 (x.kind : Int), .int .i64 (x.lo : Int), .int .i64 (x.hi : Int), .string (bs x.name), .int .i64 (x.num : Int), .int .i64 x.a, .int .i64 (x.b : Int), l, m] 42)).cell? ⟨w.heap.size, 3, none⟩ = some (.string (bs x.name)) := cellK HBX.out 3
  have d4 : (w.alloc (.cells #[.int .i64 (x.kind : Int), .int .i64 (x.lo : Int), .int .i64 (x.hi : Int), .string (bs x.name), .int .i64 (x.num : Int), .int .i64 x.a, .int .i64 (x.b : Int), l, m] 42)).cell? ⟨w.heap.size, 4, none⟩ = some (.int .i64 (x.num : Int)) := cellK HBX.out 4
  have d5 : (w.alloc (.cells #[.int .i64 (x.kind : Int), .int .i64 (x.lo : Int), .int .i64 (x.hi : Int), .string (bs x.name), .int .i64 (x.num : Int), .int .i64 x.a, .int .i64 (x.b : Int), l, m] 42)).cell? ⟨w.heap.size, 5, none⟩ = some (.int .i64 x.a) := cellK HBX.out 5
  have d6 : (w.alloc (.cells #[.int .i64 (x.kind : Int), .int .i64 (x.lo : Int), .int .i64 (x.hi : Int), .string (bs x.name), .int .i64 (x.num : Int), .int .i64 x.a, .int .i64 (x.b : Int), l, m] 42)).cell? ⟨w.heap.size, 6, none⟩ = some (.int .i64 (x.b : Int)) := cellK HBX.out 6
  have d7 : (w.alloc (.cells #[.int .i64 (x.kind : Int), .int .i64 (x.lo : Int), .int .i64 (x.hi : Int), .string (bs x.name), .int .i64 (x.num : Int), .int .i64 x.a, .int .i64 (x.b : Int), l, m] 42)).cell? ⟨w.heap.size, 7, none⟩ = some (l) := cellK HBX.out 7
  have d8 : (w.alloc (.cells #[.int .i64 (x.kind : Int), .int .i64 (x.lo : Int), .int .i64 (x.hi : Int), .string (bs x.name), .int .i64 (x.num : Int), .int .i64 x.a, .int .i64 (x.b : Int), l, m] 42)).cell? ⟨w.heap.size, 8, none⟩ = some (m) := cellK HBX.out 8
  have e5 : ((x.kind : Int) == 5) = false := kne h5
  have e6 : ((x.kind : Int) == 6) = false := kne h6
  have H0 := Lib.hid h0
  have HA0 := Lib.hid hA0
  clear h0 h h5 h6 hlen hs hnm hdl hB0 hA0 hwb
  go_enter Tryz.func68, Tryz.ntmps68
  go_wp2_with (go_at_call 91; refine hM.out.mono ?_)
  intro e1 w1 h1
  obtain ⟨A1, n1, c1, rfl⟩ := h1.form
  have hp1 := Lib.hid (hPT.out w1 _ (HA0.out.below h1.below) h1.arr)
  clear h1
  go_wp2_with (go_at_call 18; refine hp1.out.mono ?_)
  intro e2 w2 h2
  obtain ⟨rfl, h2⟩ := h2
  have H2 := Lib.hid h2
  clear h2 d0 d1 d2 d3 d4 d5 d6 d7 d8
  go_wp2_with (go_at_call 40; refine (HT.out [59] _).mono ?_)
  intro e3 w3 h3
  obtain ⟨rfl, hB3⟩ := h3
  have hp3 := Lib.hid ((H2.out.below hB3).text H0.out [59] (by have := HLN.out; rw [List.length_append]; simp; omega) #[.bool false, .string (bs [59]), .int .i64 0] rfl)
  clear hB3
  go_wp2_with (go_at_call 18; refine hp3.out.mono ?_)
  intro e4 w4 h4
  have HE : Hid (AtP wb e s f v0 w0 target e4 w4) := Lib.hid (by rw [← HTG.out]; exact h4)
  obtain ⟨rfl, _⟩ := h4
  go_wp2
  go_end0
  exact HE.out
set_option maxRecDepth 100000 in
set_option maxHeartbeats 4000000 in
theorem wstm_while {v0 : Value} {w0 : World} (h0 : Base nm nu dec g cl wb e s f sg v0 w0) (out : List UInt8) (w : World) (h : At wb e s f v0 w0 out w) (x : Sm) (l m : Value) (a : Nat) (h6 : x.kind = 6) (ha : x.a = (a : Int)) {k fi : Nat} (hsh : Sh nm nu sg.ex k fi a) (hl : RwAt w0 (fun k => k < wb) l (intsV x.thn)) (b : Nat) (hb : b ≤ 100) (hls : x.thn.length ≤ 100000) (gx : Nat → List Wd)
    (hst : ∀ a ∈ x.thn, StU nm nu dec g cl wb e s f sg (b + 1) a (byt (gx a))) (hlen : out.length + (7 + (exT dec sg.ex a).length + (byt (blG gx b x.thn)).length) ≤ 1000000000) :
    Calls Tryz.prog 68 #[.pointer (some ⟨wb, 0, none⟩), .agg #[.int .i64 (x.kind : Int), .int .i64 (x.lo : Int), .int .i64 (x.hi : Int), .string (bs x.name), .int .i64 (x.num : Int), .int .i64 x.a, .int .i64 (x.b : Int), l, m], .int .i64 (b : Int)] w (AtP wb e s f v0 w0 (out ++ ([119, 104, 105, 108, 101, 32] ++ exT dec sg.ex a ++ [32]) ++ byt (blG gx b x.thn))) := by
  have hT : Hid (∀ t W, Calls Tryz.prog 40 #[.string (bs t)] W (TxP t W)) := Lib.hid ptextV
  have hP := Lib.hid ppartV
  have HBX := Lib.hid (heap_one w #[.int .i64 (x.kind : Int), .int .i64 (x.lo : Int), .int .i64 (x.hi : Int), .string (bs x.name), .int .i64 (x.num : Int), .int .i64 x.a, .int .i64 (x.b : Int), l, m] 42)
  have hB0 := (Below.refl w.heap.size w).alloc (Nat.le_refl _) (.cells #[.int .i64 (x.kind : Int), .int .i64 (x.lo : Int), .int .i64 (x.hi : Int), .string (bs x.name), .int .i64 (x.num : Int), .int .i64 x.a, .int .i64 (x.b : Int), l, m] 42)
  have hwl : w.heap.size < (w.alloc (.cells #[.int .i64 (x.kind : Int), .int .i64 (x.lo : Int), .int .i64 (x.hi : Int), .string (bs x.name), .int .i64 (x.num : Int), .int .i64 x.a, .int .i64 (x.b : Int), l, m] 42)).heap.size := by simp
  obtain ⟨v, p, hw, hsn, hS⟩ := h
  have hw1 : WrAt wb e s f v p out (w.alloc (.cells #[.int .i64 (x.kind : Int), .int .i64 (x.lo : Int), .int .i64 (x.hi : Int), .string (bs x.name), .int .i64 (x.num : Int), .int .i64 x.a, .int .i64 (x.b : Int), l, m] 42)) := hw.sav (sav_of_below [] hB0 (Nat.le_refl _)) (by simp) (fun _ _ => by simp)
  have hS1 := hS.trans (sav_of_below _ hB0 (Nat.le_refl _))
  have HNB : Hid (w.heap.size ∉ PutS wb v) := Lib.hid (by
    intro hm
    rcases List.mem_cons.1 hm with hm | hm
    · have := (Array.getElem?_eq_some_iff.1 hw.blk).1; omega
    · have := (hw.row.lt w.heap.size (by simpa using hm)).2; omega)
  have base1 := h0.at hw1 hS1
  have HBL := Lib.hid (fun W (hA : At wb e s f v (w.alloc (.cells #[.int .i64 (x.kind : Int), .int .i64 (x.lo : Int), .int .i64 (x.hi : Int), .string (bs x.name), .int .i64 (x.num : Int), .int .i64 x.a, .int .i64 (x.b : Int), l, m] 42)) (out ++ ([119, 104, 105, 108, 101, 32] ++ exT dec sg.ex a ++ [32])) W) => wblock_calls base1 _ W hA l x.thn (hl.lowB (hS1.below h0.lo.2 (Nat.le_of_lt h0.lo.1))) b hb hls gx (fun a ha => hst a ha v _ base1) (by
    rw [List.length_append, List.length_append, List.length_append]
    have e1 : ([119, 104, 105, 108, 101, 32] : List UInt8).length = 6 := rfl
    have e2 : ([32] : List UInt8).length = 1 := rfl
    omega))
  have HBK := Lib.hid (fun W t (hA : At wb e s f v (w.alloc (.cells #[.int .i64 (x.kind : Int), .int .i64 (x.lo : Int), .int .i64 (x.hi : Int), .string (bs x.name), .int .i64 (x.num : Int), .int .i64 x.a, .int .i64 (x.b : Int), l, m] 42)) t W) => hA.back hsn hS1)
  have HBASE := Lib.hid base1
  have HAc := Lib.hid (At.refl hw1)
  have HSH := Lib.hid hsh
  have HAE := Lib.hid ha
  have HLN : Hid (out.length + (6 + (exT dec sg.ex a).length + 1) ≤ 1000000000) := Lib.hid (by omega)
  clear hw hw1 hS hS1 hsn base1 h0 hl hst hlen hsh ha hB0 hwl hb hls
  generalize byt (blG gx b x.thn) = tb at HBL ⊢
  have e5 : ((x.kind : Int) == 5) = false := kne (by rw [h6]; decide)
  have e6 : ((x.kind : Int) == 6) = true := keq h6
  have d0 : (w.alloc (.cells #[.int .i64 (x.kind : Int), .int .i64 (x.lo : Int), .int .i64 (x.hi : Int), .string (bs x.name), .int .i64 (x.num : Int), .int .i64 x.a, .int .i64 (x.b : Int), l, m] 42)).cell? ⟨w.heap.size, 0, none⟩ = some (.int .i64 (x.kind : Int)) := cellK HBX.out 0
  clear h6
  go_enter Tryz.func68, Tryz.ntmps68
  go_wp2_with fail
  generalize w.alloc (.cells #[.int .i64 (x.kind : Int), .int .i64 (x.lo : Int), .int .i64 (x.hi : Int), .string (bs x.name), .int .i64 (x.num : Int), .int .i64 x.a, .int .i64 (x.b : Int), l, m] 42) = W0 at *
  have D5 : Hid (W0.cell? ⟨w.heap.size, 5, none⟩ = some (.int .i64 x.a)) := Lib.hid (cellK HBX.out 5)
  have D7 : Hid (W0.cell? ⟨w.heap.size, 7, none⟩ = some l) := Lib.hid (cellK HBX.out 7)
  have HAc := Lib.hid (HAc.out.below (Below.refl W0.heap.size W0).drew)
  have d5 : W0.drew.cell? ⟨w.heap.size, 5, none⟩ = some (.int .i64 x.a) := D5.out
  go_region_held3 (fun w' => w'.cell? ⟨w.heap.size, 5, none⟩ = some (.int .i64 x.a))
      (first | with_reducible exact d5 | with_reducible exact cell_new d5 _)
      (first
        | (go_at_call 40; refine (hT.out _ _).mono ?_; intro e5 w5 h5; obtain ⟨rfl, hb5⟩ := h5; have HAc := Lib.hid (HAc.out.below hb5); have d5 := HAc.out.box HNB.out D5.out; clear hb5)
        | (go_at_call 19; refine (hP.out _ _).mono ?_; rintro e5 w5 ⟨rfl, hb5⟩; have HAc := Lib.hid (HAc.out.below hb5); have d5 := HAc.out.box HNB.out D5.out; clear hb5)
        | (go_at_call 18; refine (HAc.out.three HBASE.out [119, 104, 105, 108, 101, 32] [32] HSH.out HLN.out _ (by rw [HAE.out])).mono ?_; intro e8 w8 h8; obtain ⟨rfl, h8⟩ := h8; have HAc := Lib.hid h8; have d5 := HAc.out.box HNB.out D5.out; clear h8))
  all_goals
    have d7 := HAc.out.box HNB.out D7.out
    have hbl := Lib.hid (HBL.out _ HAc.out)
    go_wp2_with (go_at_call 42; refine hbl.out.mono ?_)
    intro e9 w9 h9
    obtain ⟨rfl, h9⟩ := h9
    have HE := Lib.hid (HBK.out _ _ h9)
    clear h9
    go_wp2
    go_end0
    exact ⟨rfl, HE.out⟩
end
end Go.Proofs.YtdeflloidhbpmaaGreatDoor
