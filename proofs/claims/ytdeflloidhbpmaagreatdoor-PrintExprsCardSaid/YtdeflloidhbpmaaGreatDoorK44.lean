/-
  Every statement writes its text.
  function: a function is written.
  The text that a writer has written.
  print.Print: a program's text.
-/
import Derived.Test.YtdeflloidhbpmaaGreatDoorK43
import Derived.Deep.RegionHeld3
import Derived.Lib.UnsafeStr
import Derived.RegionTactic
namespace Go.Proofs.YtdeflloidhbpmaaGreatDoor
open Go.RowKit

section
variable {nm : List UInt8 → Prop} {nu : Nat → Prop} {dec : Nat → List UInt8} {g cl : Nat → Nat} {wb : Nat} {e s f : Value} {sg : Sg}
theorem wst_all (hdl : ∀ n, nu n → (dec n).length ≤ 1000) (hst : sg.st.length ≤ 100000) : ∀ k m0 q0 i m1, SSh nm nu sg.ex sg.st k m0 q0 i m1 → ∀ N b, i < N → b + k ≤ 66 → StU nm nu dec g cl wb e s f sg b i (byt (stG dec sg.ex sg.st N b i)) := by
  intro k
  induction k using Nat.strongRecOn with
  | ind k ih =>
    intro m0 q0 i m1 hs N b hN hb v0 w0 h0
    have IH : Less nm nu dec g cl wb e s f sg k := fun k' hk m0 q0 a m1 h N b hN hb => ih k' hk m0 q0 a m1 h N b hN hb
    obtain ⟨N, rfl⟩ : ∃ n, N = n + 1 := ⟨N - 1, by omega⟩
    obtain ⟨x, hx⟩ : ∃ x, sg.st[i]? = some x := by
      cases k with
      | zero => exact hs.elim
      | succ k => obtain ⟨x, hx, _⟩ := hs; exact ⟨x, hx⟩
    obtain ⟨l, m, hSm⟩ := h0.smIn hx
    refine ⟨x, l, m, hSm, fun out w hA hlen => ?_⟩
    by_cases h5 : x.kind = 5
    · exact wstm_if h0 out w hA ⟨m0, q0, m1, hs⟩ hx h5 hSm hN hb IH hst hlen
    · by_cases h6 : x.kind = 6
      · obtain ⟨k', a, rfl, ha, hE, hL⟩ := loop_parts hs hx h6
        have e1 := stG_while (dec := dec) (N := N) (b := b) hx h6 ha hE
        have hlt := (hL.lt fun _ _ _ _ h => SSh.le h).2
        have hil := (List.getElem?_eq_some_iff.1 hx).1
        have hln := BL.len (fun _ _ _ _ h => SSh.le h) hL
        rw [e1] at hlen ⊢
        have hw := wstm_while h0 out w hA x l m a h6 ha hE hSm.rl b (by omega) (by omega) (stG dec sg.ex sg.st N (b + 1)) (fun c hc => by
          obtain ⟨m2, q2, m3, h2⟩ := BL.mem hL c hc
          have := hlt c hc
          exact IH k' (by omega) _ _ _ _ h2 N (b + 1) (by omega) (by omega)) (by
          simp only [List.length_append, List.length_cons, List.length_nil] at hlen
          omega)
        rw [List.append_assoc] at hw
        exact hw
      · have hn : x.name.length ≤ 1000000 := by
          rcases smp_name hs hx with h | h
          · exact h0.nms _ h
          · rw [h]; exact Nat.zero_le _
        exact wstm_simple h0 out w hA (smp_ok hs hx h5 h6) hn hdl h5 h6 N b hlen
end
end Go.Proofs.YtdeflloidhbpmaaGreatDoor

namespace Go.Proofs.YtdeflloidhbpmaaGreatDoor
open Go.RowKit

section
variable {nm : List UInt8 → Prop} {nu : Nat → Prop} {dec : Nat → List UInt8} {g cl : Nat → Nat} {wb : Nat} {e s f : Value} {sg : Sg}
theorem joinB_tail : ∀ l : List (List UInt8), (l.flatMap fun b => [44, 32] ++ b) = byt (nmTailG l)
  | [] => rfl
  | a :: r => by
    show ([44, 32] ++ a) ++ (r.flatMap fun b => [44, 32] ++ b) = _
    rw [joinB_tail r]
    simp [nmTailG, byt_cons, gp]
theorem joinB_nmG (l : List (List UInt8)) : joinB l = byt (nmG l) := by
  cases l with
  | nil => rfl
  | cons a r =>
    show a ++ (r.flatMap fun b => [44, 32] ++ b) = _
    rw [joinB_tail r]
    simp [nmG, byt_cons]
theorem byt_fnG {E : List Ex} {S : List Sm} (y : Fu) : byt (fnG dec E S y) = ([102, 117, 110, 99, 32] ++ y.name ++ [40] ++ joinB y.params ++ [41, 32]) ++ (if y.ty = 1 then [105, 110, 116, 32] else []) ++ byt (blG (stG dec E S S.length 1) 0 y.body) ++ [10] := by
  unfold fnG
  simp only [byt_cons, byt_app, joinB_nmG]
  by_cases h : y.ty = 1
  · simp [h, byt, gp, nl, kFunc, kInt]
  · simp [h, byt, gp, nl, kFunc]
def JoP (b : List UInt8) (w : World) (e : Ending) (w' : World) : Prop := e = .returned (.string (bs b)) ∧ Below w.heap.size w w'
set_option maxRecDepth 100000 in
set_option maxHeartbeats 4000000 in
theorem wfunction_calls (hdl : ∀ n, nu n → (dec n).length ≤ 1000) (hst : sg.st.length ≤ 100000) {v0 : Value} {w0 : World} (h0 : Base nm nu dec g cl wb e s f sg v0 w0) (out : List UInt8) (w : World) (h : At wb e s f v0 w0 out w) (y : Fu) (Ap : Option Addr) (cp : Nat) (m : Value)
    (hnm : y.name.length ≤ 1000000) (hpl : y.params.length ≤ 100000) (hcp : y.params.length ≤ cp) (hR : RwAt w0 (fun k => k < wb) (.slice Ap y.params.length cp) (strsV y.params)) (hm : RwAt w0 (fun k => k < wb) m (intsV y.body)) {m0 q0 m1 q1 : Nat} (hq : q1 ≤ sg.st.length) (hb : BL (SSh nm nu sg.ex sg.st 64) y.body m0 q0 m1 q1)
    (hlen : out.length + (byt (fnG dec sg.ex sg.st y)).length ≤ 1000000000) :
    Calls Tryz.prog 24 #[.pointer (some ⟨wb, 0, none⟩), .agg #[.string (bs y.name), .int .i64 (y.lo : Int), .int .i64 (y.hi : Int), .slice Ap y.params.length cp, .int .i64 (y.ty : Int), m]] w (AtP wb e s f v0 w0 (out ++ byt (fnG dec sg.ex sg.st y))) := by
  rw [byt_fnG] at hlen ⊢
  have hjl : (joinB y.params).length ≤ 1000000000 := by simp only [List.length_append] at hlen; omega
  have s0 : (9223372036854775807 < ((⟨#[102, 117, 110, 99, 32]⟩ : ByteArray)).size + (bs y.name).size) = False := by simp only [bs_size]; simp [ByteArray.size]; omega
  have s1 : (9223372036854775807 < 5 + (bs y.name).size) = False := by simp only [bs_size]; simp; omega
  have s2 : (9223372036854775807 < ((⟨#[102, 117, 110, 99, 32]⟩ : ByteArray) ++ bs y.name).size + ((⟨#[40]⟩ : ByteArray)).size) = False := by simp only [ByteArray.size_append, bs_size]; simp [ByteArray.size]; omega
  have s3 : (9223372036854775807 < 5 + (bs y.name).size + 1) = False := by simp only [bs_size]; simp; omega
  have s4 : (9223372036854775807 < ((⟨#[102, 117, 110, 99, 32]⟩ : ByteArray) ++ bs y.name ++ (⟨#[40]⟩ : ByteArray)).size + (bs (joinB y.params)).size) = False := by simp only [ByteArray.size_append, bs_size]; simp [ByteArray.size]; omega
  have s5 : (9223372036854775807 < 5 + (bs y.name).size + 1 + (bs (joinB y.params)).size) = False := by simp only [bs_size]; simp; omega
  have s6 : (9223372036854775807 < ((⟨#[102, 117, 110, 99, 32]⟩ : ByteArray) ++ bs y.name ++ (⟨#[40]⟩ : ByteArray) ++ bs (joinB y.params)).size + ((⟨#[41, 32]⟩ : ByteArray)).size) = False := by simp only [ByteArray.size_append, bs_size]; simp [ByteArray.size]; omega
  have s7 : (9223372036854775807 < 5 + (bs y.name).size + 1 + (bs (joinB y.params)).size + 2) = False := by simp only [bs_size]; simp; omega
  have HS : Hid ((⟨#[102, 117, 110, 99, 32]⟩ : ByteArray) ++ bs y.name ++ (⟨#[40]⟩ : ByteArray) ++ bs (joinB y.params) ++ (⟨#[41, 32]⟩ : ByteArray) = bs ([102, 117, 110, 99, 32] ++ y.name ++ [40] ++ joinB y.params ++ [41, 32])) := Lib.hid (by rw [show (⟨#[102, 117, 110, 99, 32]⟩ : ByteArray) = bs [102, 117, 110, 99, 32] from rfl, show (⟨#[40]⟩ : ByteArray) = bs [40] from rfl, show (⟨#[41, 32]⟩ : ByteArray) = bs [41, 32] from rfl]; simp only [bs_app])
  have HBX := Lib.hid (heap_one w #[.string (bs y.name), .int .i64 (y.lo : Int), .int .i64 (y.hi : Int), .slice Ap y.params.length cp, .int .i64 (y.ty : Int), m] 69)
  have HX := Lib.hid (h.newBox #[.string (bs y.name), .int .i64 (y.lo : Int), .int .i64 (y.hi : Int), .slice Ap y.params.length cp, .int .i64 (y.ty : Int), m] 69)
  have HJ : Hid (∀ W, Below wb w0 W → Calls Tryz.prog 41 #[.slice Ap y.params.length cp, .string ⟨#[44, 32]⟩] W (JoP (joinB y.params) W)) := Lib.hid fun W hW => join_calls Ap cp y.params W hpl hjl (rwAt_true (hR.lowB hW)) hcp
  have HT : Hid (∀ t W, Calls Tryz.prog 40 #[.string t] W fun e w' => e = .returned (.agg #[.bool false, .string t, .int .i64 0]) ∧ Below W.heap.size W w') := Lib.hid ptextB
  have HT2 : Hid (∀ t W, Calls Tryz.prog 40 #[.string (bs t)] W (TxP t W)) := Lib.hid ptextV
  have hlt := (hb.lt fun _ _ _ _ h => SSh.le h).2
  have hln := BL.len (fun _ _ _ _ h => SSh.le h) hb
  have HBL : Hid (∀ out W, At wb e s f v0 w0 out W → out.length + (byt (blG (stG dec sg.ex sg.st sg.st.length 1) 0 y.body)).length ≤ 1000000000 → Calls Tryz.prog 42 #[.pointer (some ⟨wb, 0, none⟩), m, .int .i64 0] W (AtP wb e s f v0 w0 (out ++ byt (blG (stG dec sg.ex sg.st sg.st.length 1) 0 y.body)))) := Lib.hid fun out W hA hl =>
    wblock_calls h0 out W hA m y.body hm 0 (by omega) (by omega) (stG dec sg.ex sg.st sg.st.length 1) (fun c hc => by
      obtain ⟨m2, q2, m3, h2⟩ := BL.mem hb c hc
      have := hlt c hc
      exact wst_all hdl hst 64 _ _ _ _ h2 sg.st.length 1 (by omega) (by omega) v0 w0 h0) hl
  have H0 := Lib.hid h0
  generalize hbt : byt (blG (stG dec sg.ex sg.st sg.st.length 1) 0 y.body) = bt at HBL hlen ⊢
  clear hbt h h0 hR hm hb hlt hln hq hst hdl hnm hpl hcp
  by_cases hty : y.ty = 1
  · rw [if_pos hty] at hlen ⊢
    have e1 : ((y.ty : Int) == 1) = true := keq hty
    have HLN : Hid ((out ++ ([102, 117, 110, 99, 32] ++ y.name ++ [40] ++ joinB y.params ++ [41, 32])).length + 4 + bt.length + 1 ≤ 1000000000) := Lib.hid (by
      simp only [List.length_append, List.length_cons, List.length_nil] at hlen ⊢; omega)
    have HL1 : Hid (out.length + (([102, 117, 110, 99, 32] ++ y.name ++ [40] ++ joinB y.params ++ [41, 32])).length ≤ 1000000000) := Lib.hid (by
      simp only [List.length_append, List.length_cons, List.length_nil] at hlen ⊢; omega)
    have HTG : Hid (out ++ ([102, 117, 110, 99, 32] ++ y.name ++ [40] ++ joinB y.params ++ [41, 32]) ++ [105, 110, 116, 32] ++ bt ++ [10] = out ++ (([102, 117, 110, 99, 32] ++ y.name ++ [40] ++ joinB y.params ++ [41, 32]) ++ [105, 110, 116, 32] ++ bt ++ [10])) := Lib.hid (by simp only [List.append_assoc])
    generalize out ++ (([102, 117, 110, 99, 32] ++ y.name ++ [40] ++ joinB y.params ++ [41, 32]) ++ [105, 110, 116, 32] ++ bt ++ [10]) = target at HTG ⊢
    clear hty hlen hjl
    go_enter Tryz.func24, Tryz.ntmps24
    go_wp2_with fail
    generalize w.alloc (.cells #[.string (bs y.name), .int .i64 (y.lo : Int), .int .i64 (y.hi : Int), .slice Ap y.params.length cp, .int .i64 (y.ty : Int), m] 69) = W0 at *
    have HXc := Lib.hid (HX.out.below (Below.refl W0.heap.size W0).drew)
    have d0 : W0.drew.cell? ⟨w.heap.size, 0, none⟩ = some (.string (bs y.name)) := cellK HXc.out.box 0
    have d3 : W0.drew.cell? ⟨w.heap.size, 3, none⟩ = some (.slice Ap y.params.length cp) := cellK HXc.out.box 3
    go_region_held3 (fun w' => w'.cell? ⟨w.heap.size, 0, none⟩ = some (.string (bs y.name)) ∧ w'.cell? ⟨w.heap.size, 3, none⟩ = some (.slice Ap y.params.length cp))
        (first | with_reducible exact ⟨d0, d3⟩ | with_reducible exact ⟨cell_new d0 _, cell_new d3 _⟩)
        (first
          | (go_at_call 41; refine (HJ.out _ (HXc.out.at.wbBelow H0.out)).mono ?_; intro e5 w5 h5; obtain ⟨rfl, hb5⟩ := h5; have HXc := Lib.hid (HXc.out.below hb5); have d0 : w5.cell? ⟨w.heap.size, 0, none⟩ = some (.string (bs y.name)) := cellK HXc.out.box 0; have d3 : w5.cell? ⟨w.heap.size, 3, none⟩ = some (.slice Ap y.params.length cp) := cellK HXc.out.box 3; clear hb5)
          | (go_at_call 40; refine (HT.out _ _).mono ?_; rintro e5 w5 ⟨rfl, hb5⟩; have HXc := Lib.hid (HXc.out.below hb5); have d0 : w5.cell? ⟨w.heap.size, 0, none⟩ = some (.string (bs y.name)) := cellK HXc.out.box 0; have d3 : w5.cell? ⟨w.heap.size, 3, none⟩ = some (.slice Ap y.params.length cp) := cellK HXc.out.box 3; clear hb5)
          | (go_at_call 18; refine (HXc.out.text H0.out ([102, 117, 110, 99, 32] ++ y.name ++ [40] ++ joinB y.params ++ [41, 32]) HL1.out _ (by rw [HS.out])).mono ?_; intro e8 w8 h8; obtain ⟨rfl, h8⟩ := h8; have HXc := Lib.hid h8; have d0 : w8.cell? ⟨w.heap.size, 0, none⟩ = some (.string (bs y.name)) := cellK HXc.out.box 0; have d3 : w8.cell? ⟨w.heap.size, 3, none⟩ = some (.slice Ap y.params.length cp) := cellK HXc.out.box 3; clear h8))
    all_goals
      clear d0 d3
      generalize out ++ ([102, 117, 110, 99, 32] ++ y.name ++ [40] ++ joinB y.params ++ [41, 32]) = out1 at HXc HLN HTG
      have d4 := cellK HXc.out.box 4
      simp at d4
      go_wp2_with (go_at_call 40; refine (HT2.out [105, 110, 116, 32] _).mono ?_)
      intro e12 w12 h12
      obtain ⟨rfl, hB12⟩ := h12
      have hp12 := Lib.hid ((HXc.out.below hB12).text H0.out [105, 110, 116, 32] (by have := HLN.out; simp; omega) #[.bool false, .string (bs [105, 110, 116, 32]), .int .i64 0] rfl)
      clear hB12
      go_wp2_with (go_at_call 18; refine hp12.out.mono ?_)
      intro e13 w13 h13
      obtain ⟨rfl, h13⟩ := h13
      have HX13 := Lib.hid h13
      clear h13 hp12 d4
      have d5 : w13.cell? ⟨w.heap.size, 5, none⟩ = some m := cellK HX13.out.box 5
      have hbl := Lib.hid (HBL.out _ _ HX13.out.at (by have := HLN.out; rw [List.length_append]; simp; omega))
      go_wp2_with (go_at_call 42; refine hbl.out.mono ?_)
      intro e9 w9 h9
      obtain ⟨rfl, h9⟩ := h9
      have H9 := Lib.hid h9
      clear h9 hbl
      go_wp2_with (go_at_call 40; refine (HT2.out [10] _).mono ?_)
      intro e10 w10 h10
      obtain ⟨rfl, hB10⟩ := h10
      have hp10 := Lib.hid ((H9.out.below hB10).text H0.out [10] (by have := HLN.out; rw [List.length_append, List.length_append]; simp; omega) #[.bool false, .string (bs [10]), .int .i64 0] rfl)
      clear hB10
      go_wp2_with (go_at_call 18; refine hp10.out.mono ?_)
      intro e11 w11 h11
      have HE : Hid (AtP wb e s f v0 w0 target e11 w11) := Lib.hid (by rw [← HTG.out]; exact h11)
      obtain ⟨rfl, _⟩ := h11
      go_wp2
      go_end0
      exact HE.out
  · rw [if_neg hty, List.append_nil] at hlen ⊢
    have e1 : ((y.ty : Int) == 1) = false := kne hty
    have HLN : Hid ((out ++ ([102, 117, 110, 99, 32] ++ y.name ++ [40] ++ joinB y.params ++ [41, 32])).length + bt.length + 1 ≤ 1000000000) := Lib.hid (by
      simp only [List.length_append, List.length_cons, List.length_nil] at hlen ⊢; omega)
    have HL1 : Hid (out.length + (([102, 117, 110, 99, 32] ++ y.name ++ [40] ++ joinB y.params ++ [41, 32])).length ≤ 1000000000) := Lib.hid (by
      simp only [List.length_append, List.length_cons, List.length_nil] at hlen ⊢; omega)
    have HTG : Hid (out ++ ([102, 117, 110, 99, 32] ++ y.name ++ [40] ++ joinB y.params ++ [41, 32]) ++ bt ++ [10] = out ++ (([102, 117, 110, 99, 32] ++ y.name ++ [40] ++ joinB y.params ++ [41, 32]) ++ bt ++ [10])) := Lib.hid (by simp only [List.append_assoc])
    generalize out ++ (([102, 117, 110, 99, 32] ++ y.name ++ [40] ++ joinB y.params ++ [41, 32]) ++ bt ++ [10]) = target at HTG ⊢
    clear hty hlen hjl
    go_enter Tryz.func24, Tryz.ntmps24
    go_wp2_with fail
    generalize w.alloc (.cells #[.string (bs y.name), .int .i64 (y.lo : Int), .int .i64 (y.hi : Int), .slice Ap y.params.length cp, .int .i64 (y.ty : Int), m] 69) = W0 at *
    have HXc := Lib.hid (HX.out.below (Below.refl W0.heap.size W0).drew)
    have d0 : W0.drew.cell? ⟨w.heap.size, 0, none⟩ = some (.string (bs y.name)) := cellK HXc.out.box 0
    have d3 : W0.drew.cell? ⟨w.heap.size, 3, none⟩ = some (.slice Ap y.params.length cp) := cellK HXc.out.box 3
    go_region_held3 (fun w' => w'.cell? ⟨w.heap.size, 0, none⟩ = some (.string (bs y.name)) ∧ w'.cell? ⟨w.heap.size, 3, none⟩ = some (.slice Ap y.params.length cp))
        (first | with_reducible exact ⟨d0, d3⟩ | with_reducible exact ⟨cell_new d0 _, cell_new d3 _⟩)
        (first
          | (go_at_call 41; refine (HJ.out _ (HXc.out.at.wbBelow H0.out)).mono ?_; intro e5 w5 h5; obtain ⟨rfl, hb5⟩ := h5; have HXc := Lib.hid (HXc.out.below hb5); have d0 : w5.cell? ⟨w.heap.size, 0, none⟩ = some (.string (bs y.name)) := cellK HXc.out.box 0; have d3 : w5.cell? ⟨w.heap.size, 3, none⟩ = some (.slice Ap y.params.length cp) := cellK HXc.out.box 3; clear hb5)
          | (go_at_call 40; refine (HT.out _ _).mono ?_; rintro e5 w5 ⟨rfl, hb5⟩; have HXc := Lib.hid (HXc.out.below hb5); have d0 : w5.cell? ⟨w.heap.size, 0, none⟩ = some (.string (bs y.name)) := cellK HXc.out.box 0; have d3 : w5.cell? ⟨w.heap.size, 3, none⟩ = some (.slice Ap y.params.length cp) := cellK HXc.out.box 3; clear hb5)
          | (go_at_call 18; refine (HXc.out.text H0.out ([102, 117, 110, 99, 32] ++ y.name ++ [40] ++ joinB y.params ++ [41, 32]) HL1.out _ (by rw [HS.out])).mono ?_; intro e8 w8 h8; obtain ⟨rfl, h8⟩ := h8; have HXc := Lib.hid h8; have d0 : w8.cell? ⟨w.heap.size, 0, none⟩ = some (.string (bs y.name)) := cellK HXc.out.box 0; have d3 : w8.cell? ⟨w.heap.size, 3, none⟩ = some (.slice Ap y.params.length cp) := cellK HXc.out.box 3; clear h8))
    all_goals
      clear d0 d3
      generalize out ++ ([102, 117, 110, 99, 32] ++ y.name ++ [40] ++ joinB y.params ++ [41, 32]) = out1 at HXc HLN HTG
      have d4 := cellK HXc.out.box 4
      simp at d4
      have d5 : w8.cell? ⟨w.heap.size, 5, none⟩ = some m := cellK HXc.out.box 5
      have hbl := Lib.hid (HBL.out _ _ HXc.out.at (by have := HLN.out; omega))
      go_wp2_with (go_at_call 42; refine hbl.out.mono ?_)
      intro e9 w9 h9
      obtain ⟨rfl, h9⟩ := h9
      have H9 := Lib.hid h9
      clear h9 hbl
      go_wp2_with (go_at_call 40; refine (HT2.out [10] _).mono ?_)
      intro e10 w10 h10
      obtain ⟨rfl, hB10⟩ := h10
      have hp10 := Lib.hid ((H9.out.below hB10).text H0.out [10] (by have := HLN.out; rw [List.length_append]; simp; omega) #[.bool false, .string (bs [10]), .int .i64 0] rfl)
      clear hB10
      go_wp2_with (go_at_call 18; refine hp10.out.mono ?_)
      intro e11 w11 h11
      have HE : Hid (AtP wb e s f v0 w0 target e11 w11) := Lib.hid (by rw [← HTG.out]; exact h11)
      obtain ⟨rfl, _⟩ := h11
      go_wp2
      go_end0
      exact HE.out
end
end Go.Proofs.YtdeflloidhbpmaaGreatDoor

namespace Go.Proofs.YtdeflloidhbpmaaGreatDoor
open Go.RowKit

theorem Tryz.cellsU8 : Tryz.prog.cellsOf 5 = 1 := by kernel_rfl
set_option maxRecDepth 100000 in
set_option maxHeartbeats 1000000 in
theorem bstring_calls (wb : Nat) (e s f v : Value) (p : Option Addr) (out : List UInt8) (w : World) (h : WrAt wb e s f v p out w) (h0 : out ≠ []) :
    Calls Tryz.prog 20 #[.pointer (some ⟨wb, 3, none⟩)] w fun e0 w' => e0 = .returned (.string (bs out)) ∧ Below wb w w' := by
  have hl0 : out.length ≠ 0 := by simpa using h0
  have hown := h.row
  obtain ⟨g, cap, cur, rfl, hbg, hg, hnc, hcm, hcs, htake⟩ : ∃ g cap cur, v = .slice (some ⟨g, 0, none⟩) out.length cap ∧ wb + 1 ≤ g ∧ w.heap[g]? = some (.cells cur 5 (0, 0)) ∧ out.length ≤ cap ∧ cap ≤ maxLen ∧ cur.size = cap * 1 ∧ cur.toList.take (out.length * 1) = byV out := by
    rcases hown.2 with ⟨_, hz⟩ | ⟨g, cap, cur, hv, r⟩
    · exact absurd hz hl0
    · exact ⟨g, cap, cur, hv, r⟩
  have c4 : w.drew.cell? ⟨wb, 4, none⟩ = some (.slice (some ⟨g, 0, none⟩) out.length cap) := cellK h.blk 4
  have hSD : (Builtin.unsafeSliceData_ #[52] 104 #[.slice (some ⟨g, 0, none⟩) out.length cap]).run Tryz.prog w.drew = .ok (.pointer (some ⟨g, 0, none⟩)) w.drew :=
    Lib.run_unsafeSliceData_row _ _ _ _ _ _ (by omega)
  have hUS : (Builtin.unsafeString_ #[104, 3] 9 #[.pointer (some ⟨g, 0, none⟩), .int .i64 out.length]).run Tryz.prog w.drew = .ok (.string (bs out)) (w.drew.freeze ⟨g, 0, none⟩ out.length) := by
    refine Lib.run_unsafeString_row w.drew 104 3 9 5 Tryz.underlying104 Tryz.cellsU8 g cur.size (by have hg' : w.drew.heap[g]? = some (.cells cur 5 (0, 0)) := hg; simp [World.shape?, hg']) out h0 (by omega) (by unfold maxLen at hcm; omega) ?_
    intro j x hx
    have := hown.cells (g := g) rfl j (.int .u8 x.toNat) (by simp [byV, hx])
    exact this
  have HB : Hid (Below wb w (w.drew.freeze ⟨g, 0, none⟩ out.length)) := Lib.hid (Lib.below_freeze (Below.drew (Below.refl wb w)) (p := ⟨g, 0, none⟩) (by show wb ≤ g; omega) _)
  clear h hown hg hnc hcm hcs htake hl0 h0 hbg
  go_enter Tryz.func20, Tryz.ntmps20
  go_wp2
  go_region
  all_goals
    go_wp2
    go_ret
    exact ⟨rfl, HB.out⟩
end Go.Proofs.YtdeflloidhbpmaaGreatDoor

namespace Go.Proofs.YtdeflloidhbpmaaGreatDoor
open Go.RowKit

section
variable {nm : List UInt8 → Prop} {nu : Nat → Prop} {dec : Nat → List UInt8} {g cl : Nat → Nat} {wb : Nat} {e s f : Value} {sg : Sg}
/-- The function of a place. -/
theorem Base.fuIn {v0 : Value} {w0 : World} (h0 : Base nm nu dec g cl wb e s f sg v0 w0) {i : Nat} (hi : i < sg.fn.length) :
    ∃ gf c Ap cp m, f = .slice (some ⟨gf, 0, none⟩) sg.fn.length c ∧ sg.fn[i].params.length ≤ cp ∧ RwAt w0 (fun k => k < wb) (.slice Ap sg.fn[i].params.length cp) (strsV sg.fn[i].params) ∧ RwAt w0 (fun k => k < wb) m (intsV sg.fn[i].body) ∧
      ∀ W, Below wb w0 W → W.cell? ⟨gf, i * 6, none⟩ = some (.string (bs sg.fn[i].name)) ∧ W.cell? ⟨gf, i * 6 + 1, none⟩ = some (.int .i64 (sg.fn[i].lo : Int)) ∧ W.cell? ⟨gf, i * 6 + 2, none⟩ = some (.int .i64 (sg.fn[i].hi : Int)) ∧
        W.cell? ⟨gf, i * 6 + 3, none⟩ = some (.slice Ap sg.fn[i].params.length cp) ∧ W.cell? ⟨gf, i * 6 + 4, none⟩ = some (.int .i64 (sg.fn[i].ty : Int)) ∧ W.cell? ⟨gf, i * 6 + 5, none⟩ = some m := by
  obtain ⟨A1, c1, A2, c2, A3, c3, he⟩ := h0.tree.tree.form
  obtain ⟨rfl, rfl, rfl⟩ : e = .slice A1 sg.ex.length c1 ∧ s = .slice A2 sg.st.length c2 ∧ f = .slice A3 sg.fn.length c3 := by
    injection he with he; simp at he; exact he
  obtain ⟨ve, vs, vf, ce, cs, cf, e0, _, _, ⟨ha, hb⟩, _, _, hr⟩ := h0.tree.tree
  obtain ⟨rfl, rfl, rfl⟩ : ve = .slice A1 sg.ex.length c1 ∧ vs = .slice A2 sg.st.length c2 ∧ vf = .slice A3 sg.fn.length c3 := by
    injection e0 with e0; simp at e0; obtain ⟨a, b, c⟩ := e0; exact ⟨a.symm, b.symm, c.symm⟩
  obtain ⟨gf, rfl, hg, hc⟩ := arr_get ha (by omega)
  obtain ⟨hh, ⟨l, m, rfl, hl, hm⟩, hget⟩ := hr.get FuC.len i hi
  have hgw : gf < wb := hb (by omega) gf rfl
  have hk : ∀ {v : Value} {vs : List Value}, RwAt w0 (fun g => g < w0.heap.size ∧ (fun k => k < wb) g) v vs → RwAt w0 (fun k => k < wb) v vs := fun h => by
    obtain ⟨A, c, h1, h2, h3⟩ := h
    exact ⟨A, c, h1, fun g hg => ⟨(h2 g hg).1.2, (h2 g hg).2⟩, h3⟩
  have hl2 := hk hl
  obtain ⟨Ap, cp, e1, e2, e3⟩ := hl
  subst e1
  rw [strsV_len] at hl2 hget
  have hcell : ∀ W, Below wb w0 W → ∀ j u, j < 6 → (fuV sg.fn[i] (.slice Ap sg.fn[i].params.length (sg.fn[i].params.length + cp)) m)[j]? = some u → W.cell? ⟨gf, i * 6 + j, none⟩ = some u := fun W hB j u hj hu => (hB.cell (p := ⟨gf, i * 6 + j, none⟩) hgw).trans (hc _ _ ((hget j hj).trans hu))
  refine ⟨gf, c3, Ap, sg.fn[i].params.length + cp, m, rfl, Nat.le_add_right _ _, hl2, hk hm, fun W hB => ?_⟩
  have := hcell W hB
  exact ⟨this 0 _ (by decide) rfl, this 1 _ (by decide) rfl, this 2 _ (by decide) rfl, this 3 _ (by decide) rfl, this 4 _ (by decide) rfl, this 5 _ (by decide) rfl⟩
theorem FL.mem {P : Fu → Nat → Nat → Nat → Nat → Prop} (hP : ∀ f m0 q0 m1 q1, P f m0 q0 m1 q1 → q0 ≤ q1) : ∀ {l : List Fu} {m0 q0 m1 q1 : Nat}, FL P l m0 q0 m1 q1 → q0 ≤ q1 ∧ ∀ y ∈ l, ∃ m0 q0 m2 q2, P y m0 q0 m2 q2 ∧ q2 ≤ q1
  | [], _, _, _, _, ⟨_, h⟩ => ⟨by omega, fun y hy => by cases hy⟩
  | c :: r, _, _, _, _, ⟨m, q, h1, h2⟩ => by
    obtain ⟨e1, e2⟩ := FL.mem hP h2
    have := hP _ _ _ _ _ h1
    refine ⟨by omega, fun y hy => ?_⟩
    rcases List.mem_cons.1 hy with rfl | hy
    · exact ⟨_, _, _, _, h1, e1⟩
    · exact e2 y hy
def progB (dec : Nat → List UInt8) (sg : Sg) (n : Nat) : List UInt8 := byt ((sg.fn.take n).flatMap (fnG dec sg.ex sg.st))
theorem progB_succ (n : Nat) (h : n < sg.fn.length) : progB dec sg (n + 1) = progB dec sg n ++ byt (fnG dec sg.ex sg.st sg.fn[n]) := by
  unfold progB
  rw [List.take_succ_eq_append_getElem h, List.flatMap_append, byt_app]
  simp [byt]
theorem progB_le (n : Nat) : (progB dec sg n).length ≤ (byt (progG dec sg)).length := by
  unfold progB progG
  conv => rhs; rw [← List.take_append_drop n sg.fn]
  rw [List.flatMap_append, byt_app, List.length_append]
  omega
theorem progB_all : progB dec sg sg.fn.length = byt (progG dec sg) := by unfold progB progG; rw [List.take_length]
theorem fnG_ne (y : Fu) : byt (fnG dec sg.ex sg.st y) ≠ [] := by rw [byt_fnG]; simp
end
end Go.Proofs.YtdeflloidhbpmaaGreatDoor
