/-
  The statement TokenNumbers, gone through.
-/
import Derived.Test.YtgkgmlmipcnhbaaDoorNamesLaw
namespace Go.Proofs.YtgkgmlmipcnhbaaDoor
open Go.RowKit

/-- A slice value reads as the bytes zs, in a block below B. -/
def ByAt (w : World) (B : Nat) (A : Option Addr) (n : Nat) (zs : List Int) : Prop :=
  zs.length = n ∧ (0 < n → ∃ b off, A = some ⟨b, off, none⟩ ∧ b < B ∧ ∀ i (h : i < zs.length), w.cell? ⟨b, off + i, none⟩ = some (.int .u8 zs[i]))
theorem ByAt.below {w w' : World} {B B' : Nat} {A : Option Addr} {n : Nat} {zs : List Int} (h : ByAt w B A n zs) (hb : Below B' w w') (hB : B ≤ B') : ByAt w' B A n zs :=
  ⟨h.1, fun hn => by
    obtain ⟨b, off, rfl, hlt, hc⟩ := h.2 hn
    exact ⟨b, off, rfl, hlt, fun i hi => (hb.cell (p := ⟨b, off + i, none⟩) (by simp; omega)).trans (hc i hi)⟩⟩
theorem ByAt.get {w : World} {B : Nat} {A : Option Addr} {n : Nat} {zs : List Int} (h : ByAt w B A n zs) (i : Nat) (hi : i < n) : ∃ b off, A = some ⟨b, off, none⟩ ∧ b < B ∧ ∃ h : i < zs.length, w.cell? ⟨b, off + i, none⟩ = some (.int .u8 zs[i]) := by
  obtain ⟨b, off, e, hlt, hc⟩ := h.2 (by omega)
  have hx : i < zs.length := by rw [h.1]; exact hi
  exact ⟨b, off, e, hlt, hx, hc i hx⟩

/-- The digit of a number. -/
def dg (z : Int) : UInt8 := UInt8.ofNat (48 + (z % 10).toNat)
theorem dg_nat (z : Int) (_h : 0 ≤ z) : ((dg z).toNat : Int) = 48 + z % 10 := by
  have h1 : 0 ≤ z % 10 := Int.emod_nonneg _ (by omega)
  have h2 : z % 10 < 10 := Int.emod_lt_of_pos _ (by omega)
  unfold dg
  simp
  omega
theorem dg_dig (z : Int) (h : 0 ≤ z) : isDig (dg z) = true := by
  have h1 : 0 ≤ z % 10 := Int.emod_nonneg _ (by omega)
  have h2 : z % 10 < 10 := Int.emod_lt_of_pos _ (by omega)
  have := dg_nat z h
  rw [isDig_int, this]
  simp
  omega
def digs (zs : List Int) (i : Nat) : ByteArray := bs ((zs.take i).map dg)
theorem digs_size (zs : List Int) (i : Nat) (h : i ≤ zs.length) : (digs zs i).size = i := by unfold digs; rw [bs_size, List.length_map, List.length_take]; omega
theorem digs_succ (zs : List Int) (i : Nat) (h : i < zs.length) : digs zs i ++ ⟨#[dg zs[i]]⟩ = digs zs (i + 1) := by
  apply bs_eq.2
  rw [bs_append, List.take_succ_eq_append_getElem h]
  unfold digs
  rw [bs_toList, List.map_append]
  rfl

theorem dig_first (d : UInt8) (h : isDig d = true) : isBl d = false ∧ d ≠ 35 ∧ isLet d = false := by
  have key : ∀ n : Fin 256, isDig (UInt8.ofNat n.1) = true → isBl (UInt8.ofNat n.1) = false ∧ UInt8.ofNat n.1 ≠ 35 ∧ isLet (UInt8.ofNat n.1) = false := by decide +kernel
  have := key ⟨d.toNat, UInt8.toNat_lt d⟩
  simp only [UInt8.ofNat_toNat] at this
  exact this h
/-- A number's digits behind 'x ': where the number is none, and what the tokens are. -/
theorem num_toks (ds : List UInt8) (hne : ds ≠ []) (hd : ∀ d ∈ ds, isDig d = true) :
    ((decide (18 < ds.length) || (decide (1 < ds.length) && ds.head? == some 48)) = true → (toks (120 :: 32 :: ds) 0).2 = some 2) ∧
    ((decide (18 < ds.length) || (decide (1 < ds.length) && ds.head? == some 48)) = false → toks (120 :: 32 :: ds) 0 = ([⟨1, 0, 1⟩, ⟨2, 2, 2 + ds.length⟩, ⟨0, 2 + ds.length, 2 + ds.length⟩], none)) := by
  cases ds with
  | nil => exact absurd rfl hne
  | cons d r =>
    obtain ⟨f1, f2, f3⟩ := dig_first d (hd d (by simp))
    have e1 : nextT (120 :: 32 :: d :: r) 0 = ⟨1, 0, 1⟩ := by
      have hs : skipTo false (120 :: 32 :: d :: r) 0 = 0 := rfl
      have hr : run isAl (120 :: 32 :: d :: r) = 1 := by
        rw [run_cons, if_pos (by decide), run_cons, if_neg (by decide)]
      simp only [nextT, hs, List.drop_zero, tokL]
      rw [if_pos (by decide), hr]
      rfl
    have b1 : nextBad (120 :: 32 :: d :: r) 0 = false := by unfold nextBad; rw [e1]; rfl
    have hrun : run isDig (d :: r) = (d :: r).length := by
      have := run_append isDig (d :: r) [] hd
      rw [List.append_nil] at this
      rw [this]; rfl
    have hnb : numBad (d :: r) (d :: r).length = (decide (18 < (d :: r).length) || (decide (1 < (d :: r).length) && (d :: r).head? == some 48)) := by
      unfold numBad
      have : (d :: r)[(d :: r).length]? = none := List.getElem?_eq_none (Nat.le_refl _)
      rw [this, Bool.or_false]
    have hs2 : skipTo false (120 :: 32 :: d :: r) 1 = 2 := by
      unfold skipTo
      simp only [List.drop_succ_cons, List.drop_zero, skipL]
      rw [if_pos (by decide), if_neg (by rw [f1]; simp), if_neg f2]
    have hd2 : (120 :: 32 :: d :: r).drop 2 = d :: r := rfl
    have ht : tokL (d :: r) = if numBad (d :: r) (d :: r).length then (0, 0) else (2, (d :: r).length) := by
      rw [← hrun]
      simp only [tokL]
      rw [if_neg (by rw [f3]; simp), if_pos (hd d (by simp))]
    have hl : (120 :: 32 :: d :: r).length = 2 + (d :: r).length := by simp only [List.length_cons]; omega
    have hm := toks_more (120 :: 32 :: d :: r) 0 (Nat.zero_le _) b1 (by rw [e1]; decide)
    rw [e1] at hm
    dsimp only at hm
    rw [hnb] at ht
    constructor
    · intro hb
      rw [hb, if_pos rfl] at ht
      have e2 : nextT (120 :: 32 :: d :: r) 1 = ⟨0, 2, 2⟩ := by
        simp only [nextT, hs2, hd2, ht, Nat.add_zero]
      have b2 : nextBad (120 :: 32 :: d :: r) 1 = true := by unfold nextBad; rw [e2]; simp
      rw [hm, toks_bad _ 1 b2, e2]
    · intro hb
      rw [hb, if_neg (by simp)] at ht
      have e2 : nextT (120 :: 32 :: d :: r) 1 = ⟨2, 2, 2 + (d :: r).length⟩ := by
        simp only [nextT, hs2, hd2, ht]
      have b2 : nextBad (120 :: 32 :: d :: r) 1 = false := by
        unfold nextBad; rw [e2]
        have : (2 + (d :: r).length == 2) = false := by rw [beq_eq_false_iff_ne]; simp
        dsimp only
        rw [this]; rfl
      have e3 : nextT (120 :: 32 :: d :: r) (2 + (d :: r).length) = ⟨0, 2 + (d :: r).length, 2 + (d :: r).length⟩ := by
        have hs3 : skipTo false (120 :: 32 :: d :: r) (2 + (d :: r).length) = 2 + (d :: r).length := skipTo_end _ _ _ (by rw [hl]; exact Nat.le_refl _)
        simp only [nextT, hs3]
        rw [List.drop_eq_nil_of_le (by rw [hl]; exact Nat.le_refl _)]
        rfl
      have b3 : nextBad (120 :: 32 :: d :: r) (2 + (d :: r).length) = false := by unfold nextBad; rw [e3, hl]; simp
      rw [hm, toks_more _ 1 (by simp) b2 (by rw [e2]; exact (by decide : (2 : Nat) ≠ 0)), e2]
      dsimp only
      rw [toks_end _ _ b3 (by rw [e3]), e3]

set_option maxRecDepth 100000 in
set_option maxHeartbeats 2000000 in
/-- TokenNumbers answers true, and leaves what there was. -/
theorem numbers_walk (A : Option Addr) (c : Nat) (zs : List Int) (hw : ∀ z ∈ zs, 0 ≤ z ∧ z < 256) (w : World) (hT : Tabs w) (hA : ByAt w w.heap.size A zs.length zs) :
    Calls Tryd.prog 10 #[.slice A zs.length c] w fun e w' => e = .returned (.bool true) ∧ Below w.heap.size w w' := by
  by_cases hs : zs.length ≤ 40 ∧ 0 < zs.length
  · obtain ⟨hs1, hs2⟩ := hs
    have hs0 : decide ((40 : Int) < (zs.length : Int)) = false := by simp; omega
    have hs3 : ((zs.length : Int) == 0) = false := by rw [beq_eq_false_iff_ne]; omega
    have HT := Lib.hid hT
    have HA := Lib.hid hA
    have HW := Lib.hid hw
    clear hT hA hw
    go_enter Tryd.func10, Tryd.ntmps10
    go_wp2_with fail
    refine (awake_calls _ HT.out).mono ?_
    rintro e w1 ⟨rfl, hB1⟩
    have HT1 := Lib.hid (HT.out.below hB1 HT.out.2.2)
    have HA1 := Lib.hid (HA.out.below hB1 (Nat.le_refl _))
    have hz1 := hB1.size
    have hw1 : 2 ≤ w1.heap.size := HT1.out.2.2
    go_wp2
    go_loopw [3, 24] (fun v a wr => ∃ i : Nat, i ≤ zs.length ∧ a = .int .i64 i ∧ v = .string (digs zs i) ∧ Below w1.heap.size w1 wr) (fun _ a _ => zs.length - (intOf a).toNat)
    case atStart => exact ⟨0, Nat.zero_le _, rfl, rfl, Below.refl _ _⟩
    case round =>
      obtain ⟨i, hi, rfl, rfl, hB⟩ := hrel
      have hbs := hB.size
      by_cases hlt : i < zs.length
      · obtain ⟨b, off, rfl, hbl, hxl, d0⟩ := (HA1.out.below hB hz1).get i hlt
        obtain ⟨z0, z1⟩ := HW.out zs[i] (List.getElem_mem hlt)
        have HS := Lib.hid (digs_succ zs i hlt)
        have hdz := dg_nat zs[i] z0
        have hsz := digs_size zs i hi
        generalize hgz : zs[i] = z at d0 z0 z1 HS hdz
        clear hgz
        have hdz' : 48 + z % 10 = ((dg z).toNat : Int) := hdz.symm
        have hcv := conv1 wr (dg z)
        have hi0 : (0 : Int) ≤ (i : Int) := by omega
        have hi1 : (i : Int) < (zs.length : Int) := by omega
        have hvs : (9223372036854775807 < (digs zs i).size + (⟨#[dg z]⟩ : ByteArray).size) = False := eq_false (by rw [hsz, show (⟨#[dg z]⟩ : ByteArray).size = 1 from rfl]; omega)
        have hvs2 : (9223372036854775807 < (digs zs i).size + 1) = False := eq_false (by rw [hsz]; omega)
        have hB4 := hB.alloc hbs (.cells #[.int .u8 ((dg z).toNat : Int)] 5)
        clear hdz hsz
        go_wp2
        go_roundw
        case rel => exact ⟨i + 1, by omega, by go_num, by rw [← HS.out], hB4⟩
        case measure => simp [intOf]; omega
      · obtain rfl : i = zs.length := by omega
        have hsz := digs_size zs zs.length (Nat.le_refl _)
        have hl : (digs zs zs.length).data.toList = zs.map dg := by unfold digs; rw [bs_toList, List.take_of_length_le (Nat.le_refl _)]
        have hxl : ((⟨#[120, 32]⟩ : ByteArray) ++ digs zs zs.length).data.toList = 120 :: 32 :: zs.map dg := by rw [bs_append, hl]; rfl
        have hxs : ((⟨#[120, 32]⟩ : ByteArray) ++ digs zs zs.length).size = 2 + zs.length := by rw [← sizeL, hxl]; simp only [List.length_cons, List.length_map]; omega
        have hnt := num_toks (zs.map dg) (by intro e; have := congrArg List.length e; simp at this; subst this; simp at hs2) (fun d hd => by
          obtain ⟨z, hz', rfl⟩ := List.mem_map.1 hd
          exact dg_dig z (HW.out z hz').1)
        rw [← hxl, List.length_map] at hnt
        have hp0 : 0 < (digs zs zs.length).size := by rw [hsz]; exact hs2
        have hh : ((zs.map dg).head? == some 48) = (((digs zs zs.length)[0].toNat : Int) == 48) := by
          have e0 : (zs.map dg).head? = some ((digs zs zs.length)[0]) := by
            rw [← hl, List.head?_eq_getElem?, List.getElem?_eq_getElem (by rw [sizeL]; exact hp0)]
            rfl
          have e1 := beq_int ((digs zs zs.length)[0]) 48 (by omega)
          rw [e0, show ((48 : Int)) = ((48 : Nat) : Int) from rfl, ← e1]
          rfl
        rw [hh] at hnt
        have HNT := Lib.hid hnt
        have HAX := Lib.hid (fun W hW => all_calls ((⟨#[120, 32]⟩ : ByteArray) ++ digs zs zs.length) (by omega) W hW)
        have HT2 := Lib.hid (HT1.out.below hB hw1)
        have hB2 := hB1.trans (hB.mono hz1)
        have hvs : (9223372036854775807 < (⟨#[120, 32]⟩ : ByteArray).size + (digs zs zs.length).size) = False := eq_false (by rw [hsz, show (⟨#[120, 32]⟩ : ByteArray).size = 2 from rfl]; omega)
        have hvs2 : (9223372036854775807 < 2 + (digs zs zs.length).size) = False := eq_false (by rw [hsz]; omega)
        have hq1 : (0 : Int) < (zs.length : Int) := by omega
        clear hl hxl hnt hh hB hB1 hz1 HW HA1 HT1 HT HA
        clear hxs
        go_wp2_with fail
        refine (HAX.out _ HT2.out).mono ?_
        rintro e w3 ⟨hB3, h3⟩
        have hB4 := hB2.trans (hB3.mono hB2.size)
        clear hB3 hvs hvs2
        cases ha : decide ((18 : Int) < (zs.length : Int)) <;> cases hb : decide ((1 : Int) < (zs.length : Int)) <;> cases hc : (((digs zs zs.length)[0].toNat : Int) == 48)
        all_goals
          have ha' : decide (18 < zs.length) = decide ((18 : Int) < (zs.length : Int)) := by rw [Bool.eq_iff_iff]; simp; omega
          have hb' : decide (1 < zs.length) = decide ((1 : Int) < (zs.length : Int)) := by rw [Bool.eq_iff_iff]; simp; omega
          have h4 := HNT.out
          rw [ha', hb', ha, hb, hc] at h4
          clear ha' hb'
          first
            | (have h5 := h4.1 rfl
               rcases h3 with ⟨p, hp, rfl⟩ | ⟨hp, _⟩
               · rw [h5] at hp
                 cases hp
                 clear h4 h5
                 go_wp2
                 go_ret
                 exact ⟨rfl, hB4⟩
               · rw [h5] at hp; cases hp)
            | (have h5 := h4.2 rfl
               rw [h5] at h3
               rcases h3 with ⟨p, hp, _⟩ | ⟨_, A3, c3, rfl, ht⟩
               · cases hp
               · obtain ⟨b, off, rfl, hbl, hcc⟩ := ht.2 (by simp)
                 obtain ⟨c0, c1, c2⟩ := hcc 1 (by simp)
                 clear hcc ht h4 h5
                 dsimp only [List.getElem_cons_succ, List.getElem_cons_zero] at c0 c1 c2
                 go_wp2
                 go_ret
                 exact ⟨rfl, hB4⟩)
  · by_cases hs1 : 40 < zs.length
    · have hs' : (40 : Int) < (zs.length : Int) := by omega
      go_enter Tryd.func10, Tryd.ntmps10
      go_wp2_with fail
      refine (awake_calls _ hT).mono ?_
      rintro e w1 ⟨rfl, hB1⟩
      have hT1 := Lib.hid (hT.below hB1 hT.2.2)
      go_wp2_with fail
      refine (awake_calls _ hT1.out).mono ?_
      rintro e w2 ⟨rfl, hB2⟩
      go_wp2
      go_ret
      exact ⟨rfl, hB1.trans (hB2.mono hB1.size)⟩
    · have hs0 : decide ((40 : Int) < (zs.length : Int)) = false := by simp; omega
      have hs3 : ((zs.length : Int) == 0) = true := by rw [beq_iff_eq]; omega
      go_enter Tryd.func10, Tryd.ntmps10
      go_wp2_with fail
      refine (awake_calls _ hT).mono ?_
      rintro e w1 ⟨rfl, hB1⟩
      have hT1 := Lib.hid (hT.below hB1 hT.2.2)
      go_wp2_with fail
      refine (awake_calls _ hT1.out).mono ?_
      rintro e w2 ⟨rfl, hB2⟩
      go_wp2
      go_ret
      exact ⟨rfl, hB1.trans (hB2.mono hB1.size)⟩
end Go.Proofs.YtgkgmlmipcnhbaaDoor
