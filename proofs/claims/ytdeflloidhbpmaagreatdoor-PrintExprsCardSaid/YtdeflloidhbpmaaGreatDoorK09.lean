/-
  Expressions: rows of operands.
  What a text takes in memory.
-/
import Derived.Test.YtdeflloidhbpmaaGreatDoorK08
import Derived.Test.YtdeflloidhbpmaaGreatDoorRows
import Derived.KernelRfl
import Derived.WalkKit
namespace Go.Proofs.YtdeflloidhbpmaaGreatDoor
open Go.RowKit

theorem OutP.back {α : Type} {C : Cx} {S S' : Nat → Prop} {d : Nat} {val : α → Value} {r : Rs α} {w0 w w' : World} {e : Ending} (h : OutP C S' d val r w e w') (hS : ∀ b, S b → S' b) (hk : Keep C S w0 w) : OutP C S d val r w0 e w' := by
  cases r with
  | no c i => exact h.no hk hS
  | ok a s => exact ⟨h.1, h.2.1.sub hS, hk.trans (h.2.2.sub hS)⟩

set_option maxRecDepth 100000 in
set_option maxHeartbeats 1000000 in
theorem product_row {C : Cx} {dep : Int} {op : Ps Nat} (hp : PartC C 184 dep (op)) (hf : Fine C.T 0 (op)) : PartC C 178 dep (productM C.T op) := by
  refine ⟨fun args w => by simp [go_sem], fun S d s w h => ?_⟩
  have hmf : ∀ (fn : Fn) (first cap : Array Value) (w : World), (Instr.makeFunc fn first cap).run Tryz.prog w = .ok (.func fn first cap) w := fun _ _ _ _ => rfl
  have HC := Lib.hid (row_calls C (fun b => S b ∨ b = w.heap.size) d s 184 w.heap.size 3 3 dep (op) sgMul (by decide) (by decide) hp hf (w.alloc (.cells #[.string ⟨#[42]⟩, .string ⟨#[47]⟩, .string ⟨#[37]⟩] 9)) (h.allocS _) (sgAt_alloc w sgMul _ rfl 3 rfl) (.inr rfl))
  have HB := Lib.hid (fun (r : Rs Nat) (e : Ending) (w' : World) (hh : OutP C (fun b => S b ∨ b = w.heap.size) d natV r (w.alloc (.cells #[.string ⟨#[42]⟩, .string ⟨#[47]⟩, .string ⟨#[37]⟩] 9)) e w') => hh.back (S := S) (fun _ h => .inl h) (Keep.alloc h _))
  have e : productM C.T op s = rowM C.T (op) sgMul s := rfl
  rw [e]
  generalize rowM C.T (op) sgMul s = r at HC ⊢
  clear h hp hf e
  go_enter Tryz.func178, Tryz.ntmps178
  go_wp2_with fail
  refine HC.out.mono ?_
  intro e w1 h1
  have h2 := HB.out _ _ _ h1
  have H2 := Lib.hid h2
  clear h1
  cases r with
  | no c i =>
    obtain rfl := h2.1
    go_wp2
    exact ⟨rfl, H2.out⟩
  | ok a s1 =>
    obtain ⟨rfl, _, _⟩ := h2
    unfold natV at H2 ⊢
    go_wp2
    go_ret
    exact H2.out

set_option maxRecDepth 100000 in
set_option maxHeartbeats 1000000 in
theorem sum_row {C : Cx} {dep : Int} {op : Ps Nat} (hp : PartC C 178 dep (productM C.T op)) (hf : Fine C.T 0 (productM C.T op)) : PartC C 174 dep (sumM C.T op) := by
  refine ⟨fun args w => by simp [go_sem], fun S d s w h => ?_⟩
  have hmf : ∀ (fn : Fn) (first cap : Array Value) (w : World), (Instr.makeFunc fn first cap).run Tryz.prog w = .ok (.func fn first cap) w := fun _ _ _ _ => rfl
  have HC := Lib.hid (row_calls C (fun b => S b ∨ b = w.heap.size) d s 178 w.heap.size 2 2 dep (productM C.T op) sgAdd (by decide) (by decide) hp hf (w.alloc (.cells #[.string ⟨#[43]⟩, .string ⟨#[45]⟩] 9)) (h.allocS _) (sgAt_alloc w sgAdd _ rfl 2 rfl) (.inr rfl))
  have HB := Lib.hid (fun (r : Rs Nat) (e : Ending) (w' : World) (hh : OutP C (fun b => S b ∨ b = w.heap.size) d natV r (w.alloc (.cells #[.string ⟨#[43]⟩, .string ⟨#[45]⟩] 9)) e w') => hh.back (S := S) (fun _ h => .inl h) (Keep.alloc h _))
  have e : sumM C.T op s = rowM C.T (productM C.T op) sgAdd s := rfl
  rw [e]
  generalize rowM C.T (productM C.T op) sgAdd s = r at HC ⊢
  clear h hp hf e
  go_enter Tryz.func174, Tryz.ntmps174
  go_wp2_with fail
  refine HC.out.mono ?_
  intro e w1 h1
  have h2 := HB.out _ _ _ h1
  have H2 := Lib.hid h2
  clear h1
  cases r with
  | no c i =>
    obtain rfl := h2.1
    go_wp2
    exact ⟨rfl, H2.out⟩
  | ok a s1 =>
    obtain ⟨rfl, _, _⟩ := h2
    unfold natV at H2 ⊢
    go_wp2
    go_ret
    exact H2.out

set_option maxRecDepth 100000 in
set_option maxHeartbeats 1000000 in
theorem comparison_row {C : Cx} {dep : Int} {op : Ps Nat} (hp : PartC C 174 dep (sumM C.T op)) : PartC C 169 dep (comparisonM C.T op) := by
  refine ⟨fun args w => by simp [go_sem], fun S d s w h => ?_⟩
  have hmf : ∀ (fn : Fn) (first cap : Array Value) (w : World), (Instr.makeFunc fn first cap).run Tryz.prog w = .ok (.func fn first cap) w := fun _ _ _ _ => rfl
  have HS := Lib.hid hp
  obtain ⟨R, hR⟩ : ∃ R, comparisonM C.T op s = R := ⟨_, rfl⟩
  rw [hR]
  have HR := Lib.hid hR
  unfold comparisonM at HR
  have H := Lib.hid h
  clear h hR
  clear hp
  generalize hlo : (cur C.T s).lo = lo at HR
  go_enter Tryz.func169, Tryz.ntmps169
  have hfr := Lib.hid (from_calls C S d s w H.out)
  rw [hlo] at hfr
  clear hlo
  go_wp2_with fail
  refine (hfr.out).mono ?_
  rintro e w1 ⟨rfl, hB⟩
  have P1 := Lib.hid (H.out.below hB)
  have K1 := Lib.hid ((Keep.refl C S w).trans (H.out.belowK hB))
  clear hB
  go_wp2_with fail
  refine (HS.out.2 S d s _ P1.out).mono ?_
  intro e w2 h2
  generalize hr : sumM C.T op s = r at h2
  cases r with
  | no c i =>
    obtain rfl : R = .no c i := HR.out.symm.trans (bd_no hr)
    clear hr
    obtain rfl := h2.1
    go_wp2
    exact ⟨rfl, h2.no K1.out fun _ h => h⟩
  | ok a s2 =>
    have HR2 := Lib.hid ((bd_ok hr).symm.trans HR.out)
    clear hr HR
    obtain ⟨rfl, hp, hk⟩ := h2
    have P2 := Lib.hid hp
    have K2 := Lib.hid (K1.out.trans hk)
    clear hp hk
    unfold natV
    have his := Lib.hid (isL_calls C S d s2 sgCmp _ rfl 6 rfl (by decide) w2 P2.out _ rfl)
    cases hb : isP C.T sgCmp s2
    · rw [hb] at his
      have HRt3 := Lib.hid ((ifF hb).symm.trans HR2.out)
      clear hb HR2
      go_wp2_with fail
      refine (his.out).mono ?_
      rintro e w3 ⟨rfl, hB⟩
      have P3 := Lib.hid (P2.out.below hB)
      have K3 := Lib.hid (K2.out.trans (P2.out.belowK hB))
      clear hB
      go_wp2
      go_ret
      obtain rfl : R = .ok a s2 := HRt3.out.symm
      exact ⟨rfl, P3.out, K3.out⟩
    · rw [hb] at his
      have HRt3 := Lib.hid ((ifT hb).symm.trans HR2.out)
      have hbT := Lib.hid hb
      clear hb HR2
      go_wp2_with fail
      refine (his.out).mono ?_
      rintro e w3 ⟨rfl, hB⟩
      have P3 := Lib.hid (P2.out.below hB)
      have K3 := Lib.hid (K2.out.trans (P2.out.belowK hB))
      clear hB
      go_wp2_with fail
      refine (pair_calls C S d s2 lo a 174 dep (sumM C.T op) HS.out _ P3.out (P3.out.tk.isP (l := sgCmp) (by decide) P3.out.lt hbT.out)).mono ?_
      intro e w4 h4
      generalize hr : pairM C.T (sumM C.T op) lo a s2 = r at h4
      cases r with
      | no c i =>
        obtain rfl : R = .no c i := HRt3.out.symm.trans (hr)
        clear hr
        obtain rfl := h4.1
        go_wp2
        exact ⟨rfl, h4.no K3.out fun _ h => h⟩
      | ok b s4 =>
        obtain rfl : R = .ok b s4 := HRt3.out.symm.trans hr
        clear hr HRt3
        obtain ⟨rfl, hp, hk⟩ := h4
        have P4 := Lib.hid hp
        have K4 := Lib.hid (K3.out.trans hk)
        clear hp hk
        unfold natV
        go_wp2
        go_ret
        exact ⟨rfl, P4.out.less (by omega), K4.out⟩

set_option maxRecDepth 100000 in
set_option maxHeartbeats 1000000 in
theorem conjunction_row {C : Cx} {dep : Int} {op : Ps Nat} (hp : PartC C 169 dep (comparisonM C.T op)) (hf : Fine C.T 0 (comparisonM C.T op)) : PartC C 164 dep (conjunctionM C.T op) := by
  refine ⟨fun args w => by simp [go_sem], fun S d s w h => ?_⟩
  have hmf : ∀ (fn : Fn) (first cap : Array Value) (w : World), (Instr.makeFunc fn first cap).run Tryz.prog w = .ok (.func fn first cap) w := fun _ _ _ _ => rfl
  have HC := Lib.hid (row_calls C (fun b => S b ∨ b = w.heap.size) d s 169 w.heap.size 1 1 dep (comparisonM C.T op) sgAnd (by decide) (by decide) hp hf (w.alloc (.cells #[.string ⟨#[38, 38]⟩] 9)) (h.allocS _) (sgAt_alloc w sgAnd _ rfl 1 rfl) (.inr rfl))
  have HB := Lib.hid (fun (r : Rs Nat) (e : Ending) (w' : World) (hh : OutP C (fun b => S b ∨ b = w.heap.size) d natV r (w.alloc (.cells #[.string ⟨#[38, 38]⟩] 9)) e w') => hh.back (S := S) (fun _ h => .inl h) (Keep.alloc h _))
  have e : conjunctionM C.T op s = rowM C.T (comparisonM C.T op) sgAnd s := rfl
  rw [e]
  generalize rowM C.T (comparisonM C.T op) sgAnd s = r at HC ⊢
  clear h hp hf e
  go_enter Tryz.func164, Tryz.ntmps164
  go_wp2_with fail
  refine HC.out.mono ?_
  intro e w1 h1
  have h2 := HB.out _ _ _ h1
  have H2 := Lib.hid h2
  clear h1
  cases r with
  | no c i =>
    obtain rfl := h2.1
    go_wp2
    exact ⟨rfl, H2.out⟩
  | ok a s1 =>
    obtain ⟨rfl, _, _⟩ := h2
    unfold natV at H2 ⊢
    go_wp2
    go_ret
    exact H2.out

set_option maxRecDepth 100000 in
set_option maxHeartbeats 1000000 in
theorem expression_row {C : Cx} {dep : Int} {op : Ps Nat} (hp : PartC C 164 dep (conjunctionM C.T op)) (hf : Fine C.T 0 (conjunctionM C.T op)) : PartC C 156 dep (expressionM C.T op) := by
  refine ⟨fun args w => by simp [go_sem], fun S d s w h => ?_⟩
  have hmf : ∀ (fn : Fn) (first cap : Array Value) (w : World), (Instr.makeFunc fn first cap).run Tryz.prog w = .ok (.func fn first cap) w := fun _ _ _ _ => rfl
  have HC := Lib.hid (row_calls C (fun b => S b ∨ b = w.heap.size) d s 164 w.heap.size 1 1 dep (conjunctionM C.T op) sgOr (by decide) (by decide) hp hf (w.alloc (.cells #[.string ⟨#[124, 124]⟩] 9)) (h.allocS _) (sgAt_alloc w sgOr _ rfl 1 rfl) (.inr rfl))
  have HB := Lib.hid (fun (r : Rs Nat) (e : Ending) (w' : World) (hh : OutP C (fun b => S b ∨ b = w.heap.size) d natV r (w.alloc (.cells #[.string ⟨#[124, 124]⟩] 9)) e w') => hh.back (S := S) (fun _ h => .inl h) (Keep.alloc h _))
  have e : expressionM C.T op s = rowM C.T (conjunctionM C.T op) sgOr s := rfl
  rw [e]
  generalize rowM C.T (conjunctionM C.T op) sgOr s = r at HC ⊢
  clear h hp hf e
  go_enter Tryz.func156, Tryz.ntmps156
  go_wp2_with fail
  refine HC.out.mono ?_
  intro e w1 h1
  have h2 := HB.out _ _ _ h1
  have H2 := Lib.hid h2
  clear h1
  cases r with
  | no c i =>
    obtain rfl := h2.1
    go_wp2
    exact ⟨rfl, H2.out⟩
  | ok a s1 =>
    obtain ⟨rfl, _, _⟩ := h2
    unfold natV at H2 ⊢
    go_wp2
    go_ret
    exact H2.out

theorem expression_part {C : Cx} {dep : Int} {op : Ps Nat} (hT : TkOk C.T) (hp : PartC C 184 dep op) (hf : Fine C.T 0 op) : PartC C 156 dep (expressionM C.T op) :=
  expression_row (conjunction_row (comparison_row (sum_row (product_row hp hf) (fine_row hT hf (by decide)))) (fine_comparison hT hf)) (fine_row hT (fine_comparison hT hf) (by decide))

end Go.Proofs.YtdeflloidhbpmaaGreatDoor

namespace Go.Proofs.YtdeflloidhbpmaaGreatDoor
theorem Tryz.infoStr2 : (Tryz.prog.info? 9).map (fun i => (i.zero, i.size, i.bytes)) = some (some (.string ⟨#[]⟩), 1, 16) := by kernel_rfl
end Go.Proofs.YtdeflloidhbpmaaGreatDoor
