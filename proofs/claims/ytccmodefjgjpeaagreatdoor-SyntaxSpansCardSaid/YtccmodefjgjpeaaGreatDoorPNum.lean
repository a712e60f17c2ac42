/-
  Numbers.
-/
import Derived.Test.YtccmodefjgjpeaaGreatDoorPExpr
import Derived.Test.YtccmodefjgjpeaaGreatDoorShelfA
namespace Go.Proofs.YtccmodefjgjpeaaGreatDoor
open Go.RowKit

theorem decFrom_digits (l : List UInt8) : ∀ acc, (∀ c ∈ l, 48 ≤ c.toNat ∧ c.toNat ≤ 57) → Lib.decFrom acc l = some (l.foldl (fun n c => n * 10 + (c.toNat - 48)) acc) := by
  induction l with
  | nil => intro acc _; rfl
  | cons b r ih =>
    intro acc h
    have hb := h b (by simp)
    simp only [Lib.decFrom, Lib.digitVal, if_pos hb, List.foldl_cons]
    exact ih _ fun c hc => h c (by simp [hc])
theorem atoi_digits (l : List UInt8) (hne : l ≠ []) (h : ∀ c ∈ l, 48 ≤ c.toNat ∧ c.toNat ≤ 57) : Lib.atoi l = some ((numOf l : Nat) : Int) := by
  cases l with
  | nil => exact absurd rfl hne
  | cons b r =>
    have hb := h b (by simp)
    have h45 : (b == 45) = false := by rw [beq_eq_false_iff_ne]; rintro rfl; simp at hb
    have h43 : (b == 43) = false := by rw [beq_eq_false_iff_ne]; rintro rfl; simp at hb
    simp only [Lib.atoi, h45, h43, Lib.decNat, decFrom_digits _ 0 h]
    rfl
theorem below_bytes (w : World) (e : TypeId) (t : ByteArray) : Below w.heap.size w (Lib.bytesWorld w e t) :=
  ⟨rfl, rfl, rfl, by rw [Lib.bytesWorld_size]; omega, fun k hk => Lib.bytesWorld_at_old w e t k hk⟩
theorem atoi_calls (l : List UInt8) (hne : l ≠ []) (h18 : l.length ≤ 18) (h : ∀ c ∈ l, 48 ≤ c.toNat ∧ c.toNat ≤ 57) (w : World) :
    Calls Tryz.prog 183 #[.string (bs l)] w fun e w' => e = .returned (.tuple #[.int .i64 ((numOf l : Nat) : Int), .nilIface]) ∧ Below w.heap.size w w' :=
  (Any.strconv_Atoi Tryz.atoiL (bs l) _ (by rw [bs_size]; exact h18) (by rw [bs_toList]; exact atoi_digits l hne h) w).mono fun _ _ ⟨h1, t, h2⟩ => ⟨h1, by rw [h2]; exact below_bytes w _ t⟩
theorem takeK_txt {T : List Tk} {k : Nat} {s s1 : Sg} {o : List UInt8} (h : takeK T k s = .ok o s1) : isK T k s = true ∧ o = (cur T s).txt := by
  unfold takeK at h
  by_cases hi : isK T k s = true
  · rw [if_pos hi] at h
    unfold nextP at h
    by_cases hm : 1000 < s.st.length
    · rw [if_pos hm] at h; cases h
    · rw [if_neg hm] at h; injection h with h1 h2; exact ⟨hi, h1.symm⟩
  · rw [if_neg hi] at h; cases h
theorem num_txt {T : List Tk} (hT : TkOk T) {s s1 : Sg} {o : List UInt8} (hl : s.at_ < T.length) (h : takeK T 2 s = .ok o s1) : o ≠ [] ∧ o.length ≤ 18 ∧ ∀ c ∈ o, 48 ≤ c.toNat ∧ c.toNat ≤ 57 := by
  obtain ⟨h1, rfl⟩ := takeK_txt h
  rw [cur_at hl]
  refine hT.num _ hl ?_
  unfold isK at h1
  rw [cur_at hl] at h1
  exact beq_iff_eq.1 h1

set_option maxRecDepth 100000 in
set_option maxHeartbeats 1000000 in
theorem number_calls (C : Cx) (S : Nat → Prop) (d : Nat) (s : Sg) (w : World) (h : PAt C S d s w) : Calls Tryz.prog 175 #[.pointer (some ⟨C.q, 0, none⟩)] w (OutP C S (d + 1) natV (numberM C.T s) w) := by
  obtain ⟨R, hR⟩ : ∃ R, numberM C.T s = R := ⟨_, rfl⟩
  rw [hR]
  have HR := Lib.hid hR
  unfold numberM at HR
  have H := Lib.hid h
  clear h hR
  have HN := Lib.hid (fun o s1 => num_txt (T := C.T) (s := s) (s1 := s1) (o := o) H.out.tk H.out.lt)
  go_enter Tryz.func175, Tryz.ntmps175
  go_wp2_with fail
  refine (takeA_calls C S d s 2 (by decide) w H.out).mono ?_
  intro e w1 h1
  generalize hr : takeK C.T 2 s = r at h1
  cases r with
  | no c i =>
    obtain rfl : R = .no c i := HR.out.symm.trans (bd_no hr)
    clear hr
    obtain rfl := h1.1
    go_wp2
    exact ⟨rfl, h1.no (Keep.refl C S w) fun _ h => h⟩
  | ok o s1 =>
    have HD := Lib.hid (HN.out o s1 hr)
    have HR1 := Lib.hid ((bd_ok hr).symm.trans HR.out)
    clear hr HR
    obtain ⟨rfl, hp, hk⟩ := h1
    have P1 := Lib.hid hp
    have K1 := Lib.hid ((Keep.refl C S w).trans hk)
    clear hp hk
    have ha := Lib.hid (fun W => atoi_calls o HD.out.1 HD.out.2.1 HD.out.2.2 W)
    unfold strV
    go_wp2_with fail
    refine (ha.out _).mono ?_
    rintro e w2 ⟨rfl, hB⟩
    have P2 := Lib.hid (P1.out.below hB)
    have K2 := Lib.hid (K1.out.trans (P1.out.belowK hB))
    clear hB
    obtain rfl : R = .ok (numOf o) s1 := HR1.out.symm
    go_wp2
    go_ret
    exact ⟨rfl, P2.out, K2.out⟩

end Go.Proofs.YtccmodefjgjpeaaGreatDoor
