/-
  Rows of parts, with signs between them.
-/
import Derived.Test.YtdeflloidhbpmaaGreatDoorK07
namespace Go.Proofs.YtdeflloidhbpmaaGreatDoor
open Go.RowKit

theorem sgAt_alloc (w : World) (l : List (List UInt8)) (V : Array Value) (hV : V = (l.map fun b => Value.string (bs b)).toArray) (n : Nat) (hn : n = l.length) : SgAt (w.alloc (.cells V 9)) w.heap.size n l := by
  subst hV hn
  refine ⟨rfl, by simp, fun i hi => ?_⟩
  have h := heap_one w (l.map fun b => Value.string (bs b)).toArray 9
  generalize w.alloc (.cells (l.map fun b => Value.string (bs b)).toArray 9) = W at h
  simp [World.cell?, h, hi]
/-- is, of signs that are laid. -/
theorem isL_calls (C : Cx) (S : Nat → Prop) (d : Nat) (s : Sg) (l : List (List UInt8)) (V : Array Value) (hV : V = (l.map fun b => Value.string (bs b)).toArray) (n : Nat) (hn : n = l.length) (hl : n ≤ 100000) (w : World) (h : PAt C S d s w) (g : Nat) (hg : w.heap.size = g) :
    Calls Tryz.prog 101 #[.pointer (some ⟨C.q, 0, none⟩), .slice (some ⟨g, 0, none⟩) n n] (w.alloc (.cells V 9)) fun e w' => e = .returned (.bool (isP C.T l s)) ∧ Below w.heap.size w w' := by
  subst hg
  exact (is_calls C S d s w.heap.size n n l hl _ (h.alloc _) (sgAt_alloc w l V hV n hn)).mono fun _ _ ⟨h1, h2⟩ => ⟨h1, ((Below.refl _ w).alloc (Nat.le_refl _) _).trans (h2.mono (by simp))⟩
/-- take, of signs that are laid. -/
theorem takeL_calls (C : Cx) (S : Nat → Prop) (d : Nat) (s : Sg) (l : List (List UInt8)) (V : Array Value) (hV : V = (l.map fun b => Value.string (bs b)).toArray) (n : Nat) (hn : n = l.length) (hl : n ≤ 100000) (hne : [] ∉ l) (w : World) (h : PAt C S d s w) (g : Nat) (hg : w.heap.size = g) :
    Calls Tryz.prog 104 #[.pointer (some ⟨C.q, 0, none⟩), .slice (some ⟨g, 0, none⟩) n n] (w.alloc (.cells V 9)) (OutP C S (d + 1) strV (takeP C.T l s) w) := by
  subst hg
  exact (take_calls C S d s w.heap.size n n l hne hl _ (h.alloc _) (sgAt_alloc w l V hV n hn)).mono fun e w' h2 => by
    cases hr : takeP C.T l s with
    | no c i => rw [hr] at h2; exact h2.no (Keep.alloc h _) fun _ h => h
    | ok a s' => rw [hr] at h2; exact ⟨h2.1, h2.2.1, (Keep.alloc h _).trans h2.2.2⟩
theorem ifT {α : Type} {b : Bool} {x y : α} (h : b = true) : (if b = true then x else y) = x := if_pos h
theorem ifF {α : Type} {b : Bool} {x y : α} (h : b = false) : (if b = true then x else y) = y := if_neg (by rw [h]; simp)

/-- A part that a function value stands for. -/
def PartC (C : Cx) (j : Nat) (dep : Int) (part : Ps Nat) : Prop :=
  (∀ args w, (callFunc j args).run Tryz.prog w = .ok (.enter j args) w) ∧ ∀ S d s w, PAt C S d s w → Calls Tryz.prog j #[.pointer (some ⟨C.q, 0, none⟩), .int .i64 dep] w (OutP C S d natV (part s) w)

set_option maxRecDepth 100000 in
set_option maxHeartbeats 1000000 in
theorem pair_calls (C : Cx) (S : Nat → Prop) (d : Nat) (s : Sg) (lo a j : Nat) (dep : Int) (part : Ps Nat) (hp : PartC C j dep part) (w : World) (h : PAt C S d s w) (hl : s.at_ + 1 < C.T.length) :
    Calls Tryz.prog 168 #[.pointer (some ⟨C.q, 0, none⟩), .int .i64 (lo : Int), .int .i64 (a : Int), .func (.func j) #[.pointer (some ⟨C.q, 0, none⟩)] #[], .int .i64 dep] w (OutP C S d natV (pairM C.T part lo a s) w) := by
  have hent := hp.1
  have HP := Lib.hid hp.2
  have hnx := Lib.hid (next_calls C S d s w h hl)
  obtain ⟨R, hR⟩ : ∃ R, pairM C.T part lo a s = R := ⟨_, rfl⟩
  rw [hR]
  have HR := Lib.hid hR
  unfold pairM at HR
  clear hp h hR hl
  go_enter Tryz.func168, Tryz.ntmps168
  go_wp2_with fail
  refine hnx.out.mono ?_
  intro e w1 h1
  generalize hr : nextP C.T s = r at h1
  cases r with
  | no c i =>
    obtain rfl : R = .no c i := HR.out.symm.trans (bd_no hr)
    clear hr
    obtain rfl := h1.1
    go_wp2
    exact ⟨rfl, h1.no (Keep.refl _ _ _) fun _ h => h⟩
  | ok o s1 =>
    have HR1 := Lib.hid ((bd_ok hr).symm.trans HR.out)
    clear hr HR
    obtain ⟨rfl, h2, h3⟩ := h1
    have P1 := Lib.hid h2
    have K1 := Lib.hid h3
    clear h2 h3
    unfold strV
    go_wp2_with fail
    refine (HP.out S (d + 1) s1 _ P1.out).mono ?_
    intro e w2 h2
    generalize hr : part s1 = r at h2
    cases r with
    | no c i =>
      obtain rfl : R = .no c i := HR1.out.symm.trans (bd_no hr)
      clear hr
      obtain rfl := h2.1
      go_wp2
      exact ⟨rfl, h2.no K1.out fun _ h => h⟩
    | ok b s2 =>
      have HR2 := Lib.hid ((bd_ok hr).symm.trans HR1.out)
      clear hr HR1
      obtain ⟨rfl, h3, h4⟩ := h2
      have K2 := Lib.hid (K1.out.trans h4)
      have HU := Lib.hid (put_calls C S d s2 lo { kind := 9, op := o, a := a, b := b } (.slice none 0 0) ⟨rfl, rfl⟩ w2 (h3.sub (fun x hx => by rcases hx with hx | hx; exact hx; cases hx)) (rwAt_nil _ _))
      clear h3 h4
      unfold natV
      go_wp2_with fail
      refine HU.out.mono ?_
      intro e w3 h3
      generalize hr : putE C.T lo { kind := 9, op := o, a := a, b := b } s2 = r at h3
      obtain rfl : R = r := HR2.out.symm.trans hr
      cases R with
      | no c i => cases hr
      | ok v s3 =>
        clear hr
        obtain ⟨rfl, h4, h5⟩ := h3
        unfold natV
        go_wp2
        go_ret
        exact ⟨rfl, h4, K2.out.trans h5⟩

/-- How many tokens a parser in memory has taken. -/
def atOf (q : Nat) (w : World) : Nat := match w.cell? ⟨q, 2, none⟩ with | some v => (intOf v).toNat | none => 0
theorem PAt.atOf {C : Cx} {S : Nat → Prop} {d : Nat} {s : Sg} {w : World} (h : PAt C S d s w) : Go.Proofs.YtdeflloidhbpmaaGreatDoor.atOf C.q w = s.at_ := by
  obtain ⟨_, _, _, _, _, _, _, h⟩ := h
  unfold Go.Proofs.YtdeflloidhbpmaaGreatDoor.atOf
  rw [h.cells.2.2.1]
  simp [intOf]
theorem pair_at {T : List Tk} {part : Ps Nat} (hf : Fine T 0 part) {lo a v : Nat} {s s' : Sg} (hl : s.at_ + 1 < T.length) (h : pairM T part lo a s = .ok v s') : s.at_ + 1 ≤ s'.at_ := by
  have := fine_if (T := T) (c := fun x => decide (x.at_ + 1 < T.length)) (m := 0) (f := fun o => bd part fun b => putE T lo { kind := 9, op := o, a := a, b := b }) (y := fun s => .no 3 s.at_) (fun x _ hx => by simpa using hx) (fun o => fine_bd (n := 0) hf fun b => fine_putE _ _) (fine_no 3 (.inl rfl)) s (by omega)
  have hd : decide (s.at_ + 1 < T.length) = true := decide_eq_true hl
  simp only [hd, if_true] at this
  unfold pairM at h
  rw [h] at this
  exact this.1
def RowI (C : Cx) (S : Nat → Prop) (d : Nat) (part : Ps Nat) (l : List (List UInt8)) (lo : Nat) (R : Rs Nat) (w : World) (n a : Nat) (s : Sg) (wr : World) : Prop :=
  PAt C S d s wr ∧ Keep C S w wr ∧ rowL C.T part l lo n a s = R ∧ C.T.length ≤ n + s.at_

set_option maxRecDepth 100000 in
set_option maxHeartbeats 1000000 in
theorem row_calls (C : Cx) (S : Nat → Prop) (d : Nat) (s : Sg) (j g n c : Nat) (dep : Int) (part : Ps Nat) (l : List (List UInt8)) (hn : n ≤ 100000) (hne : [] ∉ l) (hp : PartC C j dep part) (hf : Fine C.T 0 part) (w : World) (h : PAt C S d s w) (hx : SgAt w g n l) (hg : S g) :
    Calls Tryz.prog 163 #[.pointer (some ⟨C.q, 0, none⟩), .func (.func j) #[.pointer (some ⟨C.q, 0, none⟩)] #[], .int .i64 dep, .slice (some ⟨g, 0, none⟩) n c] w (OutP C S d natV (rowM C.T part l s) w) := by
  have hent := hp.1
  have HP := Lib.hid hp
  have HF := Lib.hid hf
  have HX := Lib.hid (fun W (hk : Keep C S w W) => hx.keep hk.below.size (hk.kept g hg))
  have hfr := Lib.hid (from_calls C S d s w h)
  have H := Lib.hid h
  obtain ⟨R, hR⟩ : ∃ R, rowM C.T part l s = R := ⟨_, rfl⟩
  rw [hR]
  have HR := Lib.hid hR
  unfold rowM at HR
  clear hp h hR hx hg hf
  generalize (cur C.T s).lo = lo at hfr HR
  go_enter Tryz.func163, Tryz.ntmps163
  go_wp2_with fail
  refine hfr.out.mono ?_
  rintro e w1 ⟨rfl, hB⟩
  have P1 := Lib.hid (H.out.below hB)
  have K1 := Lib.hid (H.out.belowK hB)
  clear hB
  go_wp2_with fail
  refine (HP.out.2 S d s _ P1.out).mono ?_
  intro e w2 h2
  generalize hr : part s = r at h2
  cases r with
  | no c i =>
    obtain rfl : R = .no c i := HR.out.symm.trans (bd_no hr)
    clear hr
    obtain rfl := h2.1
    go_wp2
    exact ⟨rfl, h2.no K1.out fun _ h => h⟩
  | ok a s1 =>
    have HR1 := Lib.hid ((bd_ok hr).symm.trans HR.out)
    clear hr HR
    obtain ⟨rfl, h3, h4⟩ := h2
    have P2 := Lib.hid h3
    have K2 := Lib.hid (K1.out.trans h4)
    clear h3 h4
    unfold natV
    go_wp2
    go_loopw [10] (fun v wr => ∃ (n a : Nat) (s' : Sg), v = .int .i64 (a : Int) ∧ RowI C S d part l lo R w n a s' wr) (fun _ wr => C.T.length - atOf C.q wr)
    case atStart => exact ⟨C.T.length + 1, a, s1, rfl, P2.out, K2.out, HR1.out, by omega⟩
    case round =>
      obtain ⟨k, a', s2, rfl, h1, h2, h3, h4⟩ := hrel
      have P3 := Lib.hid h1
      have K3 := Lib.hid h2
      have HR2 := Lib.hid h3
      have hlt := h1.lt
      have hat := Lib.hid h1.atOf
      clear h1 h2 h3 HR1
      obtain ⟨k, rfl⟩ : ∃ j, k = j + 1 := ⟨k - 1, by omega⟩
      unfold rowL at HR2
      have his := Lib.hid (is_calls C S d s2 g n c l hn wr P3.out (HX.out _ K3.out))
      cases hb : isP C.T l s2
      · rw [hb] at his
        have HR3 := Lib.hid ((ifF hb).symm.trans HR2.out)
        clear hb HR2
        go_wp2_with fail
        refine his.out.mono ?_
        rintro e w3 ⟨rfl, hB⟩
        have P4 := Lib.hid (P3.out.below hB)
        have K4 := Lib.hid (K3.out.trans (P3.out.belowK hB))
        clear hB
        go_wp2
        go_ret
        obtain rfl : R = .ok a' s2 := HR3.out.symm
        exact ⟨rfl, P4.out, K4.out⟩
      · rw [hb] at his
        have hl := HP.out
        have hl1 := P3.out.tk.isP hne hlt hb
        have HR3 := Lib.hid ((ifT hb).symm.trans HR2.out)
        clear hb HR2 hl
        go_wp2_with fail
        refine his.out.mono ?_
        rintro e w3 ⟨rfl, hB⟩
        have P4 := Lib.hid (P3.out.below hB)
        have K4 := Lib.hid (K3.out.trans (P3.out.belowK hB))
        clear hB
        go_wp2_with fail
        refine (pair_calls C S d s2 lo a' j dep part HP.out _ P4.out hl1).mono ?_
        intro e w4 h4'
        generalize hr : pairM C.T part lo a' s2 = r at h4'
        cases r with
        | no c i =>
          obtain rfl : R = .no c i := HR3.out.symm.trans (bd_no hr)
          clear hr
          obtain rfl := h4'.1
          go_wp2
          exact ⟨rfl, h4'.no K4.out fun _ h => h⟩
        | ok b s3 =>
          have HR4 := Lib.hid ((bd_ok hr).symm.trans HR3.out)
          have hadv := pair_at HF.out hl1 hr
          clear hr HR3
          obtain ⟨rfl, h5, h6⟩ := h4'
          have hat4 := Lib.hid h5.atOf
          unfold natV
          go_wp2
          go_roundw
          case rel => exact ⟨k, b, s3, rfl, h5, K4.out.trans h6, HR4.out, by omega⟩
          case measure =>
            rw [hat4.out, hat.out]
            omega

end Go.Proofs.YtdeflloidhbpmaaGreatDoor
