/-
  print.Print: the walk.
-/
import Derived.Test.YtdeflloidhbpmaaGreatDoorK44
namespace Go.Proofs.YtdeflloidhbpmaaGreatDoor
open Go.RowKit

def PrP (t : List UInt8) (w : World) (e : Ending) (w' : World) : Prop := e = .returned (.string (bs t)) ∧ Below w.heap.size w w'
section
variable {nm : List UInt8 → Prop} {nu : Nat → Prop} {dec : Nat → List UInt8} {g cl : Nat → Nat} {e s f : Value} {sg : Sg}
/-- What Print asks of the world that it is called in. -/
structure PrIn (nm : List UInt8 → Prop) (nu : Nat → Prop) (dec : Nat → List UInt8) (g cl : Nat → Nat) (e s f : Value) (sg : Sg) (w : World) : Prop where
  lev : Levs g cl w
  lo : 0 < w.heap.size ∧ ∀ i, i < 5 → g i < w.heap.size
  tree : TrB w.heap.size w (.agg #[e, s, f]) sg
  ito : ∀ n, nu n → ∀ w1, Below w.heap.size w w1 → Calls Tryz.prog 86 #[.int .i64 (n : Int)] w1 fun e w' => e = .returned (.string (bs (dec n))) ∧ Below w1.heap.size w1 w'
  num : ∀ x ∈ sg.ex, x.kind = 1 → nu x.num
  lens : ∀ x ∈ sg.ex, x.list.length ≤ 10000
  nms : ∀ b, nm b → b.length ≤ 1000000
  few : sg.ex.length ≤ 2000
  dl : ∀ n, nu n → (dec n).length ≤ 1000
  st : sg.st.length ≤ 100000
  fn : 0 < sg.fn.length ∧ sg.fn.length ≤ 100000
  sh : FL (FSh nm nu sg.ex sg.st) sg.fn 0 0 sg.ex.length sg.st.length
  pars : ∀ y ∈ sg.fn, y.params.length ≤ 100000
  len : (byt (progG dec sg)).length ≤ 1000000000
theorem FSh.le {E : List Ex} {S : List Sm} {y : Fu} {m0 q0 m1 q1 : Nat} (h : FSh nm nu E S y m0 q0 m1 q1) : q0 ≤ q1 := (h.body.lt fun _ _ _ _ h => SSh.le h).1
theorem PrIn.base {w W : World} (h : PrIn nm nu dec g cl e s f sg w) (hB : Below w.heap.size w W) (wb : Nat) (hwb : w.heap.size ≤ wb) (hw : W.heap[wb]? = some (.cells #[e, s, f, .pointer none, .slice none 0 0] 56)) : Base nm nu dec g cl wb e s f sg (.slice none 0 0) W where
  tree := { lev := h.lev.below hB
            lo := ⟨Nat.lt_of_lt_of_le h.lo.1 hwb, fun i hi => Nat.lt_of_lt_of_le (h.lo.2 i hi) hwb⟩
            tree := (h.tree.keep hB).up hwb
            ito := fun n hn w1 h1 _ => h.ito n hn w1 (hB.trans (h1.mono hwb))
            num := h.num
            lens := h.lens }
  wr := ⟨none, [], hw, .inl rfl, own_zero _ _ _ _⟩
  nms := h.nms
  few := h.few
set_option maxRecDepth 100000 in
set_option maxHeartbeats 4000000 in
theorem wprint_calls {w : World} (h : PrIn nm nu dec g cl e s f sg w) : Calls Tryz.prog 11 #[.agg #[e, s, f]] w (PrP (byt (progG dec sg)) w) := by
  obtain ⟨A1, c1, A2, c2, A3, c3, he⟩ := h.tree.form
  obtain ⟨rfl, rfl, rfl⟩ : e = .slice A1 sg.ex.length c1 ∧ s = .slice A2 sg.st.length c2 ∧ f = .slice A3 sg.fn.length c3 := by
    injection he with he; simp at he; exact he
  clear he
  have HH := Lib.hid h
  clear h
  have hB2 := below_two w (.cells #[.slice A1 sg.ex.length c1, .slice A2 sg.st.length c2, .slice A3 sg.fn.length c3] 27) (.cells #[.slice A1 sg.ex.length c1, .slice A2 sg.st.length c2, .slice A3 sg.fn.length c3, .pointer none, .slice none 0 0] 56)
  have hbl := heap_two w (.cells #[.slice A1 sg.ex.length c1, .slice A2 sg.st.length c2, .slice A3 sg.fn.length c3] 27) #[.slice A1 sg.ex.length c1, .slice A2 sg.st.length c2, .slice A3 sg.fn.length c3, .pointer none, .slice none 0 0] 56
  have HB2 := Lib.hid hB2
  have HBL := Lib.hid hbl
  clear hB2 hbl
  have c0 : ((w.alloc (.cells #[.slice A1 sg.ex.length c1, .slice A2 sg.st.length c2, .slice A3 sg.fn.length c3] 27)).alloc (.cells #[.slice A1 sg.ex.length c1, .slice A2 sg.st.length c2, .slice A3 sg.fn.length c3, .pointer none, .slice none 0 0] 56)).cell? ⟨w.heap.size + 1, 2, none⟩ = some (.slice A3 sg.fn.length c3) := cellK HBL.out 2
  go_enter Tryz.func11, Tryz.ntmps11
  go_wp2
  clear c0
  have HBS := Lib.hid (HH.out.base HB2.out (w.heap.size + 1) (Nat.le_succ _) HBL.out)
  generalize ((w.alloc (.cells #[.slice A1 sg.ex.length c1, .slice A2 sg.st.length c2, .slice A3 sg.fn.length c3] 27)).alloc (.cells #[.slice A1 sg.ex.length c1, .slice A2 sg.st.length c2, .slice A3 sg.fn.length c3, .pointer none, .slice none 0 0] 56)) = W0 at HB2 HBL HBS ⊢
  generalize hwb : w.heap.size + 1 = wb at HBL HBS ⊢
  have HST : Hid (At wb (.slice A1 sg.ex.length c1) (.slice A2 sg.st.length c2) (.slice A3 sg.fn.length c3) (.slice none 0 0) W0 [] W0) := Lib.hid (At.refl (p := none) ⟨HBL.out, .inl rfl, own_zero _ _ _ _⟩)
  have HWB := Lib.hid hwb
  clear hwb HBL
  go_loopw [12] (fun a wr => ∃ i : Nat, i ≤ sg.fn.length ∧ a = .int .i64 i ∧ Hid (At wb (.slice A1 sg.ex.length c1) (.slice A2 sg.st.length c2) (.slice A3 sg.fn.length c3) (.slice none 0 0) W0 (progB dec sg i) wr)) (fun a _ => sg.fn.length - (intOf a).toNat)
  case atStart => exact ⟨0, Nat.zero_le _, rfl, HST⟩
  case round =>
    clear HST
    obtain ⟨i, hi, rfl, HI⟩ := hrel
    have hfl := HH.out.fn.2
    by_cases hlt : i < sg.fn.length
    · obtain ⟨gf, c, Ap, cp, m, hf, hcp, hR, hM, hcl⟩ := HBS.out.fuIn hlt
      have hsh : ∃ m0 q0 m1 q1, FSh nm nu sg.ex sg.st sg.fn[i] m0 q0 m1 q1 ∧ q1 ≤ sg.st.length := (FL.mem (fun _ _ _ _ _ h => FSh.le h) HH.out.sh).2 _ (List.getElem_mem hlt)
      have hpl := HH.out.pars _ (List.getElem_mem hlt)
      have hps := progB_succ (dec := dec) (sg := sg) i hlt
      have hle := progB_le (dec := dec) (sg := sg) (i + 1)
      rw [hps, List.length_append] at hle
      generalize sg.fn[i] = y at hcp hR hcl hM hsh hpl hps hle
      obtain ⟨Am, cm, rfl, _⟩ := rw_cells hM
      injection hf with e1 e2 e3
      subst e1 e3
      obtain ⟨m0, q0, m1, q1, hF, hq1⟩ := hsh
      have HF : Hid (∀ W, At wb (.slice A1 sg.ex.length c1) (.slice A2 sg.st.length c2) (.slice (some ⟨gf, 0, none⟩) sg.fn.length c3) (.slice none 0 0) W0 (progB dec sg i) W → Calls Tryz.prog 24 #[.pointer (some ⟨wb, 0, none⟩), .agg #[.string (bs y.name), .int .i64 (y.lo : Int), .int .i64 (y.hi : Int), .slice Ap y.params.length cp, .int .i64 (y.ty : Int), .slice Am y.body.length cm]] W (AtP wb (.slice A1 sg.ex.length c1) (.slice A2 sg.st.length c2) (.slice (some ⟨gf, 0, none⟩) sg.fn.length c3) (.slice none 0 0) W0 (progB dec sg (i + 1)))) := Lib.hid fun W hA => by
        rw [hps]
        exact wfunction_calls HH.out.dl HH.out.st HBS.out (progB dec sg i) W hA y Ap cp _ (HH.out.nms _ hF.name) hpl hcp hR hM hq1 hF.body (by have := HH.out.len; omega)
      obtain ⟨q0, q1, q2, q3, q4, q5⟩ := hcl wr (HI.out.wbBelow HBS.out)
      have h3 : (i : Int) < (sg.fn.length : Int) := by omega
      have h0 : 0 ≤ (i : Int) := by omega
      have k0 : ∀ o, (wr.alloc o).cell? ⟨gf, i * 6, none⟩ = some (.string (bs y.name)) := fun o => cell_new q0 o
      have k1 : ∀ o, (wr.alloc o).cell? ⟨gf, i * 6 + 1, none⟩ = some (.int .i64 (y.lo : Int)) := fun o => cell_new q1 o
      have k2 : ∀ o, (wr.alloc o).cell? ⟨gf, i * 6 + 2, none⟩ = some (.int .i64 (y.hi : Int)) := fun o => cell_new q2 o
      have k3 : ∀ o, (wr.alloc o).cell? ⟨gf, i * 6 + 3, none⟩ = some (.slice Ap y.params.length cp) := fun o => cell_new q3 o
      have k4 : ∀ o, (wr.alloc o).cell? ⟨gf, i * 6 + 4, none⟩ = some (.int .i64 (y.ty : Int)) := fun o => cell_new q4 o
      have k5 : ∀ o, (wr.alloc o).cell? ⟨gf, i * 6 + 5, none⟩ = some (.slice Am y.body.length cm) := fun o => cell_new q5 o
      clear hcl hR hM hcp hpl hps hle hF hq1
      go_wp2_with fail
      have hfn := Lib.hid (HF.out _ (HI.out.below ((Below.refl wr.heap.size wr).alloc (Nat.le_refl _) (.cells #[.string (bs y.name), .int .i64 (y.lo : Int), .int .i64 (y.hi : Int), .slice Ap y.params.length cp, .int .i64 (y.ty : Int), .slice Am y.body.length cm] 69))))
      go_wp2_with (go_at_call 24; refine hfn.out.mono ?_)
      intro e5 w5 h5
      obtain ⟨rfl, h5⟩ := h5
      have H5 := Lib.hid h5
      clear h5 hfn q0 q1 q2 q3 q4 q5 k0 k1 k2 k3 k4 k5
      go_wp2
      go_roundw
      case rel => exact ⟨i + 1, by omega, by go_num, H5⟩
      case measure => simp [intOf]; omega
    · obtain rfl : i = sg.fn.length := by omega
      obtain ⟨v, p, hW, _, hS⟩ := HI.out
      have hne : progB dec sg sg.fn.length ≠ [] := by
        intro h
        have h1 := HH.out.fn.1
        have h2 := progB_succ (dec := dec) (sg := sg) (sg.fn.length - 1) (by omega)
        rw [Nat.sub_add_cancel h1, h] at h2
        have h3 := congrArg List.length h2
        have h4 := fnG_ne (dec := dec) (sg := sg) sg.fn[sg.fn.length - 1]
        rw [List.length_append, List.length_nil] at h3
        exact h4 (List.eq_nil_of_length_eq_zero (by omega))
      have hst := Lib.hid (bstring_calls wb _ _ _ v p _ wr hW hne)
      have HBW : Hid (Below w.heap.size w wr) := Lib.hid (HB2.out.trans ((HI.out.wbBelow HBS.out).mono (by have := HWB.out; omega)))
      have HWL : Hid (w.heap.size ≤ wb) := Lib.hid (by have := HWB.out; omega)
      rw [progB_all] at hst
      clear hW hS hne
      go_wp2_with (go_at_call 20; refine hst.out.mono ?_)
      rintro e5 w5 ⟨rfl, hB5⟩
      have HB5 := Lib.hid (HBW.out.trans (hB5.mono HWL.out))
      clear hB5
      go_wp2
      go_ret
      exact ⟨rfl, HB5.out⟩
end
end Go.Proofs.YtdeflloidhbpmaaGreatDoor
