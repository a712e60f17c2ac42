/-
  Lists between brackets: parameters, arguments.
-/
import Derived.Test.YtdeflloidhbpmaaGreatDoorK09
namespace Go.Proofs.YtdeflloidhbpmaaGreatDoor
open Go.RowKit

/-- What comes of a call that answers a list. -/
def OutL {α : Type} (C : Cx) (S : Nat → Prop) (d : Nat) (mk : List α → List Value) (r : Rs (List α)) (w : World) (e : Ending) (w' : World) : Prop :=
  match r with
  | .ok l s' => ∃ v, e = .returned v ∧ RwAt w' (Fresh C S) v (mk l) ∧ PAt C (With S v) d s' w' ∧ Keep C S w w'
  | .no c i => e = PanicE c ∧ Gone C c i w' ∧ Keep C S w w'
theorem OutP.toL {α β : Type} {C : Cx} {S S' : Nat → Prop} {d d' : Nat} {val : α → Value} {mk : List β → List Value} {c i : Nat} {w0 w w' : World} {e : Ending} (h : OutP C S d val (.no c i : Rs α) w e w') (hk : Keep C S' w0 w) (hS : ∀ b, S' b → S b) : OutL C S' d' mk (.no c i : Rs (List β)) w0 e w' :=
  ⟨h.1, h.2.1, hk.trans (h.2.2.sub hS)⟩
theorem OutL.toP {α β : Type} {C : Cx} {S S' : Nat → Prop} {d d' : Nat} {val : α → Value} {mk : List β → List Value} {c i : Nat} {w0 w w' : World} {e : Ending} (h : OutL C S d mk (.no c i : Rs (List β)) w e w') (hk : Keep C S' w0 w) (hS : ∀ b, S' b → S b) : OutP C S' d' val (.no c i : Rs α) w0 e w' :=
  ⟨h.1, h.2.1, hk.trans (h.2.2.sub hS)⟩
/-- What a function value without arguments answers, while S and what is below it is as it was in w0. -/
def OneC {α : Type} (C : Cx) (S : Nat → Prop) (w0 : World) (j : Nat) (caps : Array Value) (val : α → Value) (one : Ps α) : Prop :=
  (∀ args w, (callFunc j args).run Tryz.prog w = .ok (.enter j args) w) ∧ ∀ S' d s w, (∀ b, S b → S' b) → Keep C S w0 w → PAt C S' d s w → Calls Tryz.prog j caps w (OutP C S' d val (one s) w)
/-- What follows a part. -/
def Leads {α β : Type} (R2 : Rs α) (f : α → Ps β) (R : Rs β) : Prop := match R2 with
  | .no c i => R = .no c i
  | .ok l s' => f l s' = R
/-- The list so far. -/
def ListI {α : Type} (C : Cx) (S : Nat → Prop) (d : Nat) (e : TypeId) (mk : List α → List Value) (F : Nat → List α → Ps (List α)) (R : Rs (List α)) (w : World) (n : Nat) (out : List α) (s : Sg) (v : Value) (wr : World) : Prop :=
  PAt C (With S v) d s wr ∧ Keep C S w wr ∧ F n out s = R ∧ C.T.length ≤ n + s.at_ ∧ wr.ownsRow w.heap.size e 1 v out.length (mk out) ∧ out.length ≤ s.at_
theorem with_nil {S : Nat → Prop} {b : Nat} (h : With S (.slice none 0 0) b) : S b := by
  rcases h with h | h
  · exact h
  · cases h
theorem own_nil (w : World) (base : Nat) (e : TypeId) : w.ownsRow base e 1 (.slice none 0 0) 0 [] := ⟨rfl, .inl ⟨rfl, rfl⟩⟩
/-- Behind an append to what a value owns. -/
theorem PAt.grown {C : Cx} {S : Nat → Prop} {d : Nat} {s : Sg} {w w' : World} {v v' : Value} (h : PAt C (With S v) d s w) (hg : w.grownBy w' v.ownBlock) (hv : ∀ g, v'.ownBlock = some g → (v.ownBlock = some g ∨ g = w.heap.size) ∧ g < w'.heap.size) : PAt C (With S v') d s w' :=
  h.move hg.size (fun k hk hn => hg.block k hk fun e => hn (.inr e.symm)) fun b hb => by
    rcases hb with hb | hb
    · exact ⟨Nat.lt_of_lt_of_le (h.sLt b (.inl hb)).2 hg.size, .inl (.inl hb)⟩
    · have h1 := hv b hb
      exact ⟨h1.2, h1.1.imp .inr (fun e => by omega)⟩
theorem Keep.grown {C : Cx} {S : Nat → Prop} {a w w' : World} {v : Value} (h : Keep C S a w) (hg : w.grownBy w' v.ownBlock) (hq : C.q ≤ w.heap.size) (hS : ∀ b, S b → b < w.heap.size) (hv : ∀ g, v.ownBlock = some g → C.q ≤ g ∧ ¬ S g) : Keep C S a w' :=
  ⟨h.below.grown hg hq fun k hk => (hv k hk).1, fun b hb => (hg.block b (hS b hb) fun e => (hv b e.symm).2 hb).trans (h.kept b hb)⟩
theorem fresh_own {C : Cx} {S : Nat → Prop} {d : Nat} {s : Sg} {w0 w : World} {n : Nat} {e : TypeId} {sz : Nat} {v : Value} {xs : List Value} (h0 : PAt C S d s w0) (ho : w.ownsRow w0.heap.size e sz v n xs) : ∀ g, v.ownBlock = some g → Fresh C S g := fun g hg => by
  have h1 := own_blk ho g hg
  exact ⟨by have := h0.qlt; omega, fun e => by have := (h0.sLt g e).2; omega⟩
theorem newsOne (W : World) (a : Value) (t : TypeId) (n : Nat) (hn : W.heap.size = n) : ∀ j u, [a][j]? = some u → (W.alloc (.cells #[a] t)).cell? ((⟨n, 0, none⟩ : Addr).add j) = some u := by
  subst hn
  intro j u hu
  match j with
  | 0 => simpa [Addr.add] using hu
  | j + 1 => simp at hu
theorem own_alloc {w : World} {base n : Nat} {e : TypeId} {sz : Nat} {v : Value} {xs : List Value} (h : w.ownsRow base e sz v n xs) (o : Obj) : (w.alloc o).ownsRow base e sz v n xs :=
  own_keep h fun g hg => Below.heap_alloc w o g (own_blk h g hg).2
theorem own_kept {C : Cx} {S : Nat → Prop} {w w' : World} {base n : Nat} {e : TypeId} {sz : Nat} {v : Value} {xs : List Value} (h : w.ownsRow base e sz v n xs) (hk : Keep C (With S v) w w') : w'.ownsRow base e sz v n xs :=
  own_keep h fun g hg => hk.kept g (.inr hg)

set_option maxRecDepth 100000 in
set_option maxHeartbeats 1000000 in
theorem listI_calls (C : Cx) (S : Nat → Prop) (d : Nat) (s : Sg) (j : Nat) (caps : Array Value) (one : Ps (Nat)) (w : World) (h : PAt C S d s w) (ho : OneC C S w j caps natV one) (hf : Fine C.T 1 one) :
    Calls Tryz.prog 170 #[.pointer (some ⟨C.q, 0, none⟩), .func (.func j) #[] caps] w (OutL C S (d + 2) intsV (listM C.T one s) w) := by
  obtain ⟨i0, hi0, hz0, hz1, hz2⟩ := info_parts Tryz.infoInt
  have hent := ho.1
  have HO := Lib.hid ho.2
  have HF := Lib.hid hf
  obtain ⟨R, hR⟩ : ∃ R, listM C.T one s = R := ⟨_, rfl⟩
  rw [hR]
  have HR := Lib.hid hR
  unfold listM at HR
  have H := Lib.hid h
  have hq := h.qlt
  clear h ho hf hR
  go_enter Tryz.func170, Tryz.ntmps170
  go_wp2_with fail
  refine (takeL_calls C S d s [[40]] _ rfl 1 rfl (by decide) (by decide) w H.out _ (by simp)).mono ?_
  intro e w1 h1
  generalize hr : takeP C.T [[40]] s = r at h1
  cases r with
  | no c i =>
    obtain rfl : R = .no c i := HR.out.symm.trans (bd_no hr)
    clear hr
    obtain rfl := h1.1
    go_wp2
    exact ⟨rfl, h1.toL (Keep.refl C S w) fun _ h => h⟩
  | ok o s1 =>
    have HR1 := Lib.hid ((bd_ok hr).symm.trans HR.out)
    clear hr HR
    obtain ⟨rfl, hp, hk⟩ := h1
    have hw1 := hk.below.size
    have P1 := Lib.hid hp
    have K1 := Lib.hid hk
    clear hp hk
    obtain ⟨R2, hR2⟩ : ∃ R2, listL C.T one (C.T.length + 1) [] s1 = R2 := ⟨_, rfl⟩
    have HL := Lib.hid hR2
    have HRR : Hid (Leads R2 (fun l => bd (takeP C.T [[41]]) fun _ => okP l) R) := Lib.hid (by
      cases R2 with
      | no c i => exact HR1.out.symm.trans (bd_no hR2)
      | ok l s' => exact (bd_ok hR2).symm.trans HR1.out)
    clear hR2 HR1
    unfold strV
    go_wp2
    go_loopw [5] (fun v wr => ∃ (n : Nat) (out : List (Nat)) (s' : Sg), ListI C S (d + 1) 3 intsV (listL C.T one) R2 w n out s' v wr) (fun _ wr => C.T.length - atOf C.q wr)
    case atStart => exact ⟨C.T.length + 1, [], s1, P1.out.sub fun _ h => with_nil h, K1.out, HL.out, by omega, own_nil _ _ _, Nat.zero_le _⟩
    case round =>
      obtain ⟨n, out, s2, h1, h2, h3, h4, h5, h6⟩ := hrel
      have hlt := h1.lt
      have hlen := h1.len
      have P2 := Lib.hid h1
      have K2 := Lib.hid h2
      have HR2 := Lib.hid h3
      have hat := Lib.hid h1.atOf
      have hown := Lib.hid h5
      have hws := h2.below.size
      obtain ⟨A, cv, rfl⟩ := own_form h5
      clear h1 h2 h3 h5 HL
      obtain ⟨n, rfl⟩ : ∃ j, n = j + 1 := ⟨n - 1, by omega⟩
      unfold listL at HR2
      have his := Lib.hid (isL_calls C (With S (.slice A out.length cv)) (d + 1) s2 [[41]] _ rfl 1 rfl (by decide) wr P2.out _ rfl)
      cases hb : isP C.T [[41]] s2
      · rw [hb] at his
        have HR3 := Lib.hid ((ifF hb).symm.trans HR2.out)
        clear hb HR2
        go_wp2_with fail
        refine his.out.mono ?_
        rintro e w3 ⟨rfl, hB⟩
        have P3 := Lib.hid (P2.out.below hB)
        have KB := Lib.hid (P2.out.belowK hB)
        have K3 := Lib.hid (K2.out.trans (KB.out.sub fun _ h => .inl h))
        have hown3 := Lib.hid (own_kept hown.out KB.out)
        clear hB
        by_cases h0 : out.length = 0
        · have hd : decide ((0 : Int) < (out.length : Int)) = false := decide_eq_false (by omega)
          have hd2 : decide (0 < out.length) = false := decide_eq_false (by omega)
          have HR4 : Hid (bd one (fun x => listL C.T one n (out ++ [x])) s2 = R2) := Lib.hid (by
            have := HR3.out
            rw [if_pos h0] at this
            exact this)
          have Q4 := P3
          have L4 := K3
          have o4 := hown3
          have hadv0 : s2.at_ ≤ s2.at_ := Nat.le_refl _
          clear HR3 h0
          go_wp2_with fail
          refine (HO.out (With S (.slice A out.length cv)) (d + 1) s2 _ (fun _ h => .inl h) L4.out Q4.out).mono ?_
          intro e w5 h5'
          generalize hr : one s2 = r at h5'
          cases r with
          | no c i =>
            obtain rfl : R2 = .no c i := HR4.out.symm.trans (bd_no hr)
            obtain rfl : R = .no c i := HRR.out
            clear hr
            obtain rfl := h5'.1
            go_wp2
            exact ⟨rfl, h5'.toL L4.out fun _ h => .inl h⟩
          | ok x s5 =>
            have HR5 := Lib.hid ((bd_ok hr).symm.trans HR4.out)
            have hadv : s2.at_ + 1 ≤ s5.at_ := by have := HF.out s2 Q4.out.lt; rw [hr] at this; exact this.1
            clear hr HR4
            obtain ⟨rfl, hp, hk⟩ := h5'
            have P5 := Lib.hid hp
            have K5 := Lib.hid (L4.out.trans (hk.sub fun _ h => .inl h))
            have o5 := Lib.hid (own_kept o4.out hk)
            have hq5 := hp.qlt
            have hs5 := Lib.hid hp.sLt
            have hw5 := K5.out.below.size
            have hlt5 := hp.lt
            clear hp hk
            unfold natV
            go_wp2_with (at_builtin; go_loud (refine wpList_append_lies _ rfl _ _ 40 rfl w.heap.size 3 i0 (.int .i64 0) 1 8 Tryz.underlying40 hi0 hz0 hz1 hz2 rfl (by decide) (.slice A out.length cv) _ _ rfl (own_alloc o5.out _) ⟨w5.heap.size, 0, none⟩ 1 1 [Value.int .i64 (x : Int)] rfl rfl (newsOne _ _ _ _ rfl) (fun x hx => by simp at hx; subst hx; rfl) (by decide) (by unfold maxLen; omega) (by omega) (by simp <;> omega) (w5.heap.size + 1) (by simp) ?_; intro g cap w6 hown' hgrow hl1 hl2; have HG := Lib.hid hgrow; have HO6 := Lib.hid hown'; clear hgrow hown'))
            have P6 := Lib.hid ((P5.out.alloc (.cells #[Value.int .i64 (x : Int)] 3)).grown (v' := .slice (some ⟨g, 0, none⟩) (out.length + 1) cap) HG.out (fun b hb => by obtain rfl : g = b := (by simpa [Value.ownBlock] using hb); exact ⟨hl1.imp id (fun e => by simp [e]), hl2⟩))
            have K6 := Lib.hid ((K5.out.trans (Keep.alloc (P5.out.sub fun _ h => .inl h) (.cells #[Value.int .i64 (x : Int)] 3))).grown HG.out (by simp; omega) (fun b hb => by have := (hs5.out b (.inl hb)).2; simp; omega) (fun b hb => by have := fresh_own H.out o5.out b hb; exact ⟨Nat.le_of_lt this.1, this.2⟩))
            have hat6 := Lib.hid P6.out.atOf
            go_roundw
            case rel => exact ⟨n, out ++ [x], s5, P6.out, K6.out, HR5.out, by omega, (by rw [List.length_append, show intsV (out ++ [x]) = intsV out ++ [Value.int .i64 (x : Int)] from by simp [intsV]]; exact HO6.out), by simp; omega⟩
            case measure =>
              rw [hat6.out, hat.out]
              omega
        · have hd : decide ((0 : Int) < (out.length : Int)) = true := decide_eq_true (by omega)
          have hd2 : decide (0 < out.length) = true := decide_eq_true (by omega)
          have HR4 : Hid (bd (takeP C.T [[44]]) (fun _ => bd one (fun x => listL C.T one n (out ++ [x]))) s2 = R2) := Lib.hid (by
            have := HR3.out
            rw [if_neg h0] at this
            exact this)
          have HFT := Lib.hid (fine_takeP P3.out.tk (l := [[44]]) (by decide) s2 hlt)
          clear HR3 h0
          go_wp2_with fail
          refine (takeL_calls C (With S (.slice A out.length cv)) (d + 1) s2 [[44]] _ rfl 1 rfl (by decide) (by decide) _ P3.out _ (by simp)).mono ?_
          intro e w4 h4'
          generalize hr : takeP C.T [[44]] s2 = r at h4'
          cases r with
          | no c i =>
            obtain rfl : R2 = .no c i := HR4.out.symm.trans (bd_no hr)
            obtain rfl : R = .no c i := HRR.out
            clear hr
            obtain rfl := h4'.1
            go_wp2
            exact ⟨rfl, h4'.toL K3.out fun _ h => .inl h⟩
          | ok o2 s3 =>
            have HR5 := Lib.hid ((bd_ok hr).symm.trans HR4.out)
            have hadv0 : s2.at_ ≤ s3.at_ := by have := HFT.out; rw [hr] at this; omega
            clear hr HR4
            obtain ⟨rfl, hp, hk⟩ := h4'
            have Q4 := Lib.hid (hp.less (Nat.le_succ _))
            have L4 := Lib.hid (K3.out.trans (hk.sub fun _ h => .inl h))
            have o4 := Lib.hid (own_kept hown3.out hk)
            have HR4 := HR5
            clear hp hk HR5
            unfold strV
            go_wp2_with fail
            refine (HO.out (With S (.slice A out.length cv)) (d + 1) s3 _ (fun _ h => .inl h) L4.out Q4.out).mono ?_
            intro e w5 h5'
            generalize hr : one s3 = r at h5'
            cases r with
            | no c i =>
              obtain rfl : R2 = .no c i := HR4.out.symm.trans (bd_no hr)
              obtain rfl : R = .no c i := HRR.out
              clear hr
              obtain rfl := h5'.1
              go_wp2
              exact ⟨rfl, h5'.toL L4.out fun _ h => .inl h⟩
            | ok x s5 =>
              have HR5 := Lib.hid ((bd_ok hr).symm.trans HR4.out)
              have hadv : s3.at_ + 1 ≤ s5.at_ := by have := HF.out s3 Q4.out.lt; rw [hr] at this; exact this.1
              clear hr HR4
              obtain ⟨rfl, hp, hk⟩ := h5'
              have P5 := Lib.hid hp
              have K5 := Lib.hid (L4.out.trans (hk.sub fun _ h => .inl h))
              have o5 := Lib.hid (own_kept o4.out hk)
              have hq5 := hp.qlt
              have hs5 := Lib.hid hp.sLt
              have hw5 := K5.out.below.size
              have hlt5 := hp.lt
              clear hp hk
              unfold natV
              go_wp2_with (at_builtin; go_loud (refine wpList_append_lies _ rfl _ _ 40 rfl w.heap.size 3 i0 (.int .i64 0) 1 8 Tryz.underlying40 hi0 hz0 hz1 hz2 rfl (by decide) (.slice A out.length cv) _ _ rfl (own_alloc o5.out _) ⟨w5.heap.size, 0, none⟩ 1 1 [Value.int .i64 (x : Int)] rfl rfl (newsOne _ _ _ _ rfl) (fun x hx => by simp at hx; subst hx; rfl) (by decide) (by unfold maxLen; omega) (by omega) (by simp <;> omega) (w5.heap.size + 1) (by simp) ?_; intro g cap w6 hown' hgrow hl1 hl2; have HG := Lib.hid hgrow; have HO6 := Lib.hid hown'; clear hgrow hown'))
              have P6 := Lib.hid ((P5.out.alloc (.cells #[Value.int .i64 (x : Int)] 3)).grown (v' := .slice (some ⟨g, 0, none⟩) (out.length + 1) cap) HG.out (fun b hb => by obtain rfl : g = b := (by simpa [Value.ownBlock] using hb); exact ⟨hl1.imp id (fun e => by simp [e]), hl2⟩))
              have K6 := Lib.hid ((K5.out.trans (Keep.alloc (P5.out.sub fun _ h => .inl h) (.cells #[Value.int .i64 (x : Int)] 3))).grown HG.out (by simp; omega) (fun b hb => by have := (hs5.out b (.inl hb)).2; simp; omega) (fun b hb => by have := fresh_own H.out o5.out b hb; exact ⟨Nat.le_of_lt this.1, this.2⟩))
              have hat6 := Lib.hid P6.out.atOf
              go_roundw
              case rel => exact ⟨n, out ++ [x], s5, P6.out, K6.out, HR5.out, by omega, (by rw [List.length_append, show intsV (out ++ [x]) = intsV out ++ [Value.int .i64 (x : Int)] from by simp [intsV]]; exact HO6.out), by simp; omega⟩
              case measure =>
                rw [hat6.out, hat.out]
                omega
      · rw [hb] at his
        have HR3 := Lib.hid ((ifT hb).symm.trans HR2.out)
        clear hb HR2
        go_wp2_with fail
        refine his.out.mono ?_
        rintro e w3 ⟨rfl, hB⟩
        have P3 := Lib.hid (P2.out.below hB)
        have KB := Lib.hid (P2.out.belowK hB)
        have K3 := Lib.hid (K2.out.trans (KB.out.sub fun _ h => .inl h))
        have hown3 := Lib.hid (own_kept hown.out KB.out)
        clear hB
        obtain rfl : R2 = .ok out s2 := HR3.out.symm
        have HR4 := Lib.hid HRR.out
        clear HR3 HRR
        go_wp2_with fail
        refine (takeL_calls C (With S (.slice A out.length cv)) (d + 1) s2 [[41]] _ rfl 1 rfl (by decide) (by decide) _ P3.out _ (by simp)).mono ?_
        intro e w4 h4'
        generalize hr : takeP C.T [[41]] s2 = r at h4'
        cases r with
        | no c i =>
          obtain rfl : R = .no c i := HR4.out.symm.trans (bd_no hr)
          clear hr
          obtain rfl := h4'.1
          go_wp2
          exact ⟨rfl, h4'.toL K3.out fun _ h => .inl h⟩
        | ok o2 s3 =>
          obtain rfl : R = .ok out s3 := HR4.out.symm.trans (bd_ok hr)
          clear hr HR4
          obtain ⟨rfl, hp, hk⟩ := h4'
          have HE := Lib.hid (show OutL C S (d + 2) intsV (.ok out s3) w (.returned (.slice A out.length cv)) w4 from ⟨_, rfl, rwAt_of_own (own_kept hown3.out hk) _ (fresh_own H.out hown3.out), hp, K3.out.trans (hk.sub fun _ h => .inl h)⟩)
          clear hp hk
          unfold strV
          go_wp2
          go_ret
          exact HE.out

set_option maxRecDepth 100000 in
set_option maxHeartbeats 1000000 in
theorem listT_calls (C : Cx) (S : Nat → Prop) (d : Nat) (s : Sg) (j : Nat) (caps : Array Value) (one : Ps (List UInt8)) (w : World) (h : PAt C S d s w) (ho : OneC C S w j caps strV one) (hf : Fine C.T 1 one) :
    Calls Tryz.prog 106 #[.pointer (some ⟨C.q, 0, none⟩), .func (.func j) #[] caps] w (OutL C S (d + 2) strsV (listM C.T one s) w) := by
  obtain ⟨i0, hi0, hz0, hz1, hz2⟩ := info_parts Tryz.infoStr2
  have hent := ho.1
  have HO := Lib.hid ho.2
  have HF := Lib.hid hf
  obtain ⟨R, hR⟩ : ∃ R, listM C.T one s = R := ⟨_, rfl⟩
  rw [hR]
  have HR := Lib.hid hR
  unfold listM at HR
  have H := Lib.hid h
  have hq := h.qlt
  clear h ho hf hR
  go_enter Tryz.func106, Tryz.ntmps106
  go_wp2_with fail
  refine (takeL_calls C S d s [[40]] _ rfl 1 rfl (by decide) (by decide) w H.out _ (by simp)).mono ?_
  intro e w1 h1
  generalize hr : takeP C.T [[40]] s = r at h1
  cases r with
  | no c i =>
    obtain rfl : R = .no c i := HR.out.symm.trans (bd_no hr)
    clear hr
    obtain rfl := h1.1
    go_wp2
    exact ⟨rfl, h1.toL (Keep.refl C S w) fun _ h => h⟩
  | ok o s1 =>
    have HR1 := Lib.hid ((bd_ok hr).symm.trans HR.out)
    clear hr HR
    obtain ⟨rfl, hp, hk⟩ := h1
    have hw1 := hk.below.size
    have P1 := Lib.hid hp
    have K1 := Lib.hid hk
    clear hp hk
    obtain ⟨R2, hR2⟩ : ∃ R2, listL C.T one (C.T.length + 1) [] s1 = R2 := ⟨_, rfl⟩
    have HL := Lib.hid hR2
    have HRR : Hid (Leads R2 (fun l => bd (takeP C.T [[41]]) fun _ => okP l) R) := Lib.hid (by
      cases R2 with
      | no c i => exact HR1.out.symm.trans (bd_no hR2)
      | ok l s' => exact (bd_ok hR2).symm.trans HR1.out)
    clear hR2 HR1
    unfold strV
    go_wp2
    go_loopw [5] (fun v wr => ∃ (n : Nat) (out : List (List UInt8)) (s' : Sg), ListI C S (d + 1) 9 strsV (listL C.T one) R2 w n out s' v wr) (fun _ wr => C.T.length - atOf C.q wr)
    case atStart => exact ⟨C.T.length + 1, [], s1, P1.out.sub fun _ h => with_nil h, K1.out, HL.out, by omega, own_nil _ _ _, Nat.zero_le _⟩
    case round =>
      obtain ⟨n, out, s2, h1, h2, h3, h4, h5, h6⟩ := hrel
      have hlt := h1.lt
      have hlen := h1.len
      have P2 := Lib.hid h1
      have K2 := Lib.hid h2
      have HR2 := Lib.hid h3
      have hat := Lib.hid h1.atOf
      have hown := Lib.hid h5
      have hws := h2.below.size
      obtain ⟨A, cv, rfl⟩ := own_form h5
      clear h1 h2 h3 h5 HL
      obtain ⟨n, rfl⟩ : ∃ j, n = j + 1 := ⟨n - 1, by omega⟩
      unfold listL at HR2
      have his := Lib.hid (isL_calls C (With S (.slice A out.length cv)) (d + 1) s2 [[41]] _ rfl 1 rfl (by decide) wr P2.out _ rfl)
      cases hb : isP C.T [[41]] s2
      · rw [hb] at his
        have HR3 := Lib.hid ((ifF hb).symm.trans HR2.out)
        clear hb HR2
        go_wp2_with fail
        refine his.out.mono ?_
        rintro e w3 ⟨rfl, hB⟩
        have P3 := Lib.hid (P2.out.below hB)
        have KB := Lib.hid (P2.out.belowK hB)
        have K3 := Lib.hid (K2.out.trans (KB.out.sub fun _ h => .inl h))
        have hown3 := Lib.hid (own_kept hown.out KB.out)
        clear hB
        by_cases h0 : out.length = 0
        · have hd : decide ((0 : Int) < (out.length : Int)) = false := decide_eq_false (by omega)
          have hd2 : decide (0 < out.length) = false := decide_eq_false (by omega)
          have HR4 : Hid (bd one (fun x => listL C.T one n (out ++ [x])) s2 = R2) := Lib.hid (by
            have := HR3.out
            rw [if_pos h0] at this
            exact this)
          have Q4 := P3
          have L4 := K3
          have o4 := hown3
          have hadv0 : s2.at_ ≤ s2.at_ := Nat.le_refl _
          clear HR3 h0
          go_wp2_with fail
          refine (HO.out (With S (.slice A out.length cv)) (d + 1) s2 _ (fun _ h => .inl h) L4.out Q4.out).mono ?_
          intro e w5 h5'
          generalize hr : one s2 = r at h5'
          cases r with
          | no c i =>
            obtain rfl : R2 = .no c i := HR4.out.symm.trans (bd_no hr)
            obtain rfl : R = .no c i := HRR.out
            clear hr
            obtain rfl := h5'.1
            go_wp2
            exact ⟨rfl, h5'.toL L4.out fun _ h => .inl h⟩
          | ok x s5 =>
            have HR5 := Lib.hid ((bd_ok hr).symm.trans HR4.out)
            have hadv : s2.at_ + 1 ≤ s5.at_ := by have := HF.out s2 Q4.out.lt; rw [hr] at this; exact this.1
            clear hr HR4
            obtain ⟨rfl, hp, hk⟩ := h5'
            have P5 := Lib.hid hp
            have K5 := Lib.hid (L4.out.trans (hk.sub fun _ h => .inl h))
            have o5 := Lib.hid (own_kept o4.out hk)
            have hq5 := hp.qlt
            have hs5 := Lib.hid hp.sLt
            have hw5 := K5.out.below.size
            have hlt5 := hp.lt
            clear hp hk
            unfold strV
            go_wp2_with (at_builtin; go_loud (refine wpList_append_lies _ rfl _ _ 67 rfl w.heap.size 9 i0 (.string ⟨#[]⟩) 1 16 Tryz.underlying67 hi0 hz0 hz1 hz2 rfl (by decide) (.slice A out.length cv) _ _ rfl (own_alloc o5.out _) ⟨w5.heap.size, 0, none⟩ 1 1 [Value.string (bs x)] rfl rfl (newsOne _ _ _ _ rfl) (fun x hx => by simp at hx; subst hx; rfl) (by decide) (by unfold maxLen; omega) (by omega) (by simp <;> omega) (w5.heap.size + 1) (by simp) ?_; intro g cap w6 hown' hgrow hl1 hl2; have HG := Lib.hid hgrow; have HO6 := Lib.hid hown'; clear hgrow hown'))
            have P6 := Lib.hid ((P5.out.alloc (.cells #[Value.string (bs x)] 9)).grown (v' := .slice (some ⟨g, 0, none⟩) (out.length + 1) cap) HG.out (fun b hb => by obtain rfl : g = b := (by simpa [Value.ownBlock] using hb); exact ⟨hl1.imp id (fun e => by simp [e]), hl2⟩))
            have K6 := Lib.hid ((K5.out.trans (Keep.alloc (P5.out.sub fun _ h => .inl h) (.cells #[Value.string (bs x)] 9))).grown HG.out (by simp; omega) (fun b hb => by have := (hs5.out b (.inl hb)).2; simp; omega) (fun b hb => by have := fresh_own H.out o5.out b hb; exact ⟨Nat.le_of_lt this.1, this.2⟩))
            have hat6 := Lib.hid P6.out.atOf
            go_roundw
            case rel => exact ⟨n, out ++ [x], s5, P6.out, K6.out, HR5.out, by omega, (by rw [List.length_append, show strsV (out ++ [x]) = strsV out ++ [Value.string (bs x)] from by simp [strsV]]; exact HO6.out), by simp; omega⟩
            case measure =>
              rw [hat6.out, hat.out]
              omega
        · have hd : decide ((0 : Int) < (out.length : Int)) = true := decide_eq_true (by omega)
          have hd2 : decide (0 < out.length) = true := decide_eq_true (by omega)
          have HR4 : Hid (bd (takeP C.T [[44]]) (fun _ => bd one (fun x => listL C.T one n (out ++ [x]))) s2 = R2) := Lib.hid (by
            have := HR3.out
            rw [if_neg h0] at this
            exact this)
          have HFT := Lib.hid (fine_takeP P3.out.tk (l := [[44]]) (by decide) s2 hlt)
          clear HR3 h0
          go_wp2_with fail
          refine (takeL_calls C (With S (.slice A out.length cv)) (d + 1) s2 [[44]] _ rfl 1 rfl (by decide) (by decide) _ P3.out _ (by simp)).mono ?_
          intro e w4 h4'
          generalize hr : takeP C.T [[44]] s2 = r at h4'
          cases r with
          | no c i =>
            obtain rfl : R2 = .no c i := HR4.out.symm.trans (bd_no hr)
            obtain rfl : R = .no c i := HRR.out
            clear hr
            obtain rfl := h4'.1
            go_wp2
            exact ⟨rfl, h4'.toL K3.out fun _ h => .inl h⟩
          | ok o2 s3 =>
            have HR5 := Lib.hid ((bd_ok hr).symm.trans HR4.out)
            have hadv0 : s2.at_ ≤ s3.at_ := by have := HFT.out; rw [hr] at this; omega
            clear hr HR4
            obtain ⟨rfl, hp, hk⟩ := h4'
            have Q4 := Lib.hid (hp.less (Nat.le_succ _))
            have L4 := Lib.hid (K3.out.trans (hk.sub fun _ h => .inl h))
            have o4 := Lib.hid (own_kept hown3.out hk)
            have HR4 := HR5
            clear hp hk HR5
            unfold strV
            go_wp2_with fail
            refine (HO.out (With S (.slice A out.length cv)) (d + 1) s3 _ (fun _ h => .inl h) L4.out Q4.out).mono ?_
            intro e w5 h5'
            generalize hr : one s3 = r at h5'
            cases r with
            | no c i =>
              obtain rfl : R2 = .no c i := HR4.out.symm.trans (bd_no hr)
              obtain rfl : R = .no c i := HRR.out
              clear hr
              obtain rfl := h5'.1
              go_wp2
              exact ⟨rfl, h5'.toL L4.out fun _ h => .inl h⟩
            | ok x s5 =>
              have HR5 := Lib.hid ((bd_ok hr).symm.trans HR4.out)
              have hadv : s3.at_ + 1 ≤ s5.at_ := by have := HF.out s3 Q4.out.lt; rw [hr] at this; exact this.1
              clear hr HR4
              obtain ⟨rfl, hp, hk⟩ := h5'
              have P5 := Lib.hid hp
              have K5 := Lib.hid (L4.out.trans (hk.sub fun _ h => .inl h))
              have o5 := Lib.hid (own_kept o4.out hk)
              have hq5 := hp.qlt
              have hs5 := Lib.hid hp.sLt
              have hw5 := K5.out.below.size
              have hlt5 := hp.lt
              clear hp hk
              unfold strV
              go_wp2_with (at_builtin; go_loud (refine wpList_append_lies _ rfl _ _ 67 rfl w.heap.size 9 i0 (.string ⟨#[]⟩) 1 16 Tryz.underlying67 hi0 hz0 hz1 hz2 rfl (by decide) (.slice A out.length cv) _ _ rfl (own_alloc o5.out _) ⟨w5.heap.size, 0, none⟩ 1 1 [Value.string (bs x)] rfl rfl (newsOne _ _ _ _ rfl) (fun x hx => by simp at hx; subst hx; rfl) (by decide) (by unfold maxLen; omega) (by omega) (by simp <;> omega) (w5.heap.size + 1) (by simp) ?_; intro g cap w6 hown' hgrow hl1 hl2; have HG := Lib.hid hgrow; have HO6 := Lib.hid hown'; clear hgrow hown'))
              have P6 := Lib.hid ((P5.out.alloc (.cells #[Value.string (bs x)] 9)).grown (v' := .slice (some ⟨g, 0, none⟩) (out.length + 1) cap) HG.out (fun b hb => by obtain rfl : g = b := (by simpa [Value.ownBlock] using hb); exact ⟨hl1.imp id (fun e => by simp [e]), hl2⟩))
              have K6 := Lib.hid ((K5.out.trans (Keep.alloc (P5.out.sub fun _ h => .inl h) (.cells #[Value.string (bs x)] 9))).grown HG.out (by simp; omega) (fun b hb => by have := (hs5.out b (.inl hb)).2; simp; omega) (fun b hb => by have := fresh_own H.out o5.out b hb; exact ⟨Nat.le_of_lt this.1, this.2⟩))
              have hat6 := Lib.hid P6.out.atOf
              go_roundw
              case rel => exact ⟨n, out ++ [x], s5, P6.out, K6.out, HR5.out, by omega, (by rw [List.length_append, show strsV (out ++ [x]) = strsV out ++ [Value.string (bs x)] from by simp [strsV]]; exact HO6.out), by simp; omega⟩
              case measure =>
                rw [hat6.out, hat.out]
                omega
      · rw [hb] at his
        have HR3 := Lib.hid ((ifT hb).symm.trans HR2.out)
        clear hb HR2
        go_wp2_with fail
        refine his.out.mono ?_
        rintro e w3 ⟨rfl, hB⟩
        have P3 := Lib.hid (P2.out.below hB)
        have KB := Lib.hid (P2.out.belowK hB)
        have K3 := Lib.hid (K2.out.trans (KB.out.sub fun _ h => .inl h))
        have hown3 := Lib.hid (own_kept hown.out KB.out)
        clear hB
        obtain rfl : R2 = .ok out s2 := HR3.out.symm
        have HR4 := Lib.hid HRR.out
        clear HR3 HRR
        go_wp2_with fail
        refine (takeL_calls C (With S (.slice A out.length cv)) (d + 1) s2 [[41]] _ rfl 1 rfl (by decide) (by decide) _ P3.out _ (by simp)).mono ?_
        intro e w4 h4'
        generalize hr : takeP C.T [[41]] s2 = r at h4'
        cases r with
        | no c i =>
          obtain rfl : R = .no c i := HR4.out.symm.trans (bd_no hr)
          clear hr
          obtain rfl := h4'.1
          go_wp2
          exact ⟨rfl, h4'.toL K3.out fun _ h => .inl h⟩
        | ok o2 s3 =>
          obtain rfl : R = .ok out s3 := HR4.out.symm.trans (bd_ok hr)
          clear hr HR4
          obtain ⟨rfl, hp, hk⟩ := h4'
          have HE := Lib.hid (show OutL C S (d + 2) strsV (.ok out s3) w (.returned (.slice A out.length cv)) w4 from ⟨_, rfl, rwAt_of_own (own_kept hown3.out hk) _ (fresh_own H.out hown3.out), hp, K3.out.trans (hk.sub fun _ h => .inl h)⟩)
          clear hp hk
          unfold strV
          go_wp2
          go_ret
          exact HE.out

end Go.Proofs.YtdeflloidhbpmaaGreatDoor
