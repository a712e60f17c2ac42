/-
  page.Good, page.Cut, token.Text: tokens' bytes.
  syntax.Parse: a text's program, or where something is wrong, and what.
  The library's contracts of strconv.Itoa, strings.Repeat and strings.Join, laid at this program's own functions.
-/
import Derived.Test.YtdeflloidhbpmaaGreatDoorK22
import Derived.Test.YtdeflloidhbpmaaGreatDoorK11
import Derived.Test.YtdeflloidhbpmaaGreatDoorK19
import Derived.Test.YtdeflloidhbpmaaGreatDoorK18
import Derived.Shelf.Strconv.Itoa3
import Derived.Shelf.SlGeneric
import Derived.Ground.NamesProg
import Derived.Test.YtdeflloidhbpmaaGreatDoorProg
namespace Go.Proofs.YtdeflloidhbpmaaGreatDoor
open Go.RowKit

theorem clone_calls (s : ByteArray) (hs : s.size ≤ 100000) (w : World) : Calls Tryz.prog 100 #[.string s] w fun e w' => e = .returned (.string s) ∧ Below w.heap.size w w' :=
  Any.stringslite_Clone Tryz.cloneL s w (by omega)
set_option maxRecDepth 100000 in
set_option maxHeartbeats 400000 in
theorem sclone_calls (s : ByteArray) (hs : s.size ≤ 100000) (w : World) : Calls Tryz.prog 73 #[.string s] w fun e w' => e = .returned (.string s) ∧ Below w.heap.size w w' := by
  have hc := Lib.hid (fun w => clone_calls s hs w)
  go_enter Tryz.func73, Tryz.ntmps73
  go_wp2_with fail
  refine (hc.out _).mono ?_
  rintro e w' ⟨rfl, hB⟩
  go_wp2
  go_ret
  exact ⟨rfl, hB⟩
set_option maxRecDepth 100000 in
set_option maxHeartbeats 400000 in
/-- page.Good, of a span of the text. -/
theorem good_calls (a b n : Nat) (hab : a ≤ b) (hb : b ≤ n) (w : World) : Calls Tryz.prog 72 #[.agg #[.int .i64 (a : Int), .int .i64 (b : Int)], .int .i64 (n : Int)] w fun e w' => e = .returned (.bool true) ∧ w.alloc (.cells #[.int .i64 (a : Int), .int .i64 (b : Int)] 39) = w' := by
  have h1 : (0 : Int) ≤ (a : Int) := by omega
  have h2 : (a : Int) ≤ (b : Int) := by omega
  have h3 : (b : Int) ≤ (n : Int) := by omega
  go_enter Tryz.func72, Tryz.ntmps72
  go_wp2
  go_ret
  exact ⟨rfl, rfl⟩
set_option maxRecDepth 100000 in
set_option maxHeartbeats 400000 in
theorem cut_calls (s : ByteArray) (hs : s.size ≤ 100000) (a b : Nat) (hab : a ≤ b) (hb : b ≤ s.size) (w : World) :
    Calls Tryz.prog 46 #[.string s, .agg #[.int .i64 (a : Int), .int .i64 (b : Int)]] w fun e w' => e = .returned (.string (s.extract a b)) ∧ Below w.heap.size w w' := by
  have hcall := Lib.hid (fun W => good_calls a b s.size hab hb W)
  have hcl := Lib.hid (fun w => sclone_calls (s.extract a b) (by simp; omega) w)
  go_enter Tryz.func46, Tryz.ntmps46
  go_wp2_with fail
  refine (hcall.out _).mono ?_
  rintro e w1 ⟨rfl, rfl⟩
  go_wp2_with fail
  refine (hcl.out _).mono ?_
  rintro e w2 ⟨rfl, hB⟩
  go_wp2
  go_ret
  exact ⟨rfl, (((Below.refl _ w).alloc (Nat.le_refl _) _).alloc (by simp) _).trans (hB.mono (by simp; omega))⟩
theorem extract_bs (s : ByteArray) (x : Tok) : s.extract x.lo x.hi = bs (bytesOf s.data.toList x) := bs_eq.2 (extract_list s x.lo x.hi)

/-- What Text answers. -/
def TextPost (s : ByteArray) (xs : List Tok) (w : World) (e : Ending) (w' : World) : Prop :=
  ∃ A c, e = .returned (.slice A xs.length c) ∧ StrAt w' w'.heap.size A xs.length (xs.map (bytesOf s.data.toList)) ∧ Below w.heap.size w w'
theorem map_take_succ (f : Tok → List UInt8) (xs : List Tok) (i : Nat) (h : i < xs.length) : (xs.take (i + 1)).map f = (xs.take i).map f ++ [f xs[i]] := by
  rw [List.take_succ_eq_append_getElem h, List.map_append]; rfl
theorem news1a (W : World) (a : Value) (t : TypeId) (n : Nat) (hn : W.heap.size = n) : ∀ j u, [a][j]? = some u → (W.alloc (.cells #[a] t)).cell? ((⟨n, 0, none⟩ : Addr).add j) = some u := by
  subst hn; exact news1 W a t

set_option maxRecDepth 100000 in
set_option maxHeartbeats 1000000 in
theorem text_calls (s : ByteArray) (hs : s.size ≤ 100000) (A : Option Addr) (c : Nat) (xs : List Tok) (hn : xs.length ≤ 100001) (w : World) (hx : TkAt w w.heap.size A xs.length xs) (hg : ∀ i (h : i < xs.length), (xs[i]).lo ≤ (xs[i]).hi ∧ (xs[i]).hi ≤ s.size) :
    Calls Tryz.prog 27 #[.string s, .slice A xs.length c] w (TextPost s xs w) := by
  obtain ⟨i0, hi, hz0, hz1, hz2⟩ := info_parts Tryz.infoStr
  have HX := Lib.hid hx
  have HGD := Lib.hid hg
  clear hx hg
  go_enter Tryz.func27, Tryz.ntmps27
  go_wp2
  go_loopw [5, 10] (fun v a wr => ∃ i : Nat, i ≤ xs.length ∧ a = .int .i64 i ∧ wr.ownsRow w.heap.size 9 1 v i (flatW ((xs.take i).map (bytesOf s.data.toList))) ∧ Below w.heap.size w wr) (fun _ a _ => xs.length - (intOf a).toNat)
  case atStart => exact ⟨0, by omega, rfl, ⟨by simp [flatW], .inl ⟨rfl, by simp⟩⟩, Below.refl _ _⟩
  case round =>
    obtain ⟨i, hin, rfl, hown, hB⟩ := hrel
    have hbs := hB.size
    by_cases hlt : i < xs.length
    · have HT := Lib.hid (map_take_succ (bytesOf s.data.toList) xs i hlt)
      obtain ⟨b, off, rfl, hbl, hxl, c0, c1, c2⟩ := (HX.out.below hB (Nat.le_refl _)).get i hlt
      have hgd := HGD.out i hlt
      have HE := Lib.hid (extract_bs s xs[i])
      generalize hgx : xs[i] = x at HT c0 c1 c2 hgd HE
      clear hgx
      obtain ⟨kd, lo, hi'⟩ := x
      dsimp only at c0 c1 c2 hgd HE
      obtain ⟨g1, g2⟩ := hgd
      have hi0 : (0 : Int) ≤ (i : Int) := by omega
      have hi1 : (i : Int) < (xs.length : Int) := by omega
      have hcut := Lib.hid (fun W => cut_calls s hs lo hi' g1 g2 W)
      go_wp2_with fail
      refine (hcut.out _).mono ?_
      rintro e w2 ⟨rfl, hB2⟩
      have hown2 := own_below (hown.alloc _) hB2
      have hB3 := (hB.alloc hbs _).trans (hB2.mono (by simp; omega))
      have hbs2 := hB3.size
      clear hB2
      go_wp2_with (at_builtin; refine wpList_append_own _ rfl _ _ 67 rfl w.heap.size 9 i0 (.string ⟨#[]⟩) 1 16 Tryz.underlying67 hi hz0 hz1 hz2 rfl (by decide) u5 _ _ rfl (hown2.alloc _) ⟨w2.heap.size, 0, none⟩ 1 1 [.string (s.extract lo hi')] rfl rfl (news1 _ _ _) (fun x hx => by simp at hx; subst hx; rfl) (by unfold maxLen; omega) (by omega) (by simp; omega) ?_; intro v' w3 hown' hgrow _; have HG := Lib.hid hgrow; clear hgrow)
      have hB4 := below_append (hB3.alloc hB3.size _) (Nat.le_refl _) (hown2.alloc _) HG.out
      go_roundw
      case rel =>
        refine ⟨i + 1, by omega, by go_num, ?_, hB4⟩
        rw [HT.out, flatW_append]
        rw [HE.out] at hown'
        exact hown'
      case measure => simp [intOf]; omega
    · obtain rfl : i = xs.length := by omega
      have HT := Lib.hid (show xs.take xs.length = xs from List.take_of_length_le (Nat.le_refl _))
      rw [HT.out] at hown
      rcases hown.2 with ⟨rfl, h0⟩ | ⟨g, cap, cur, rfl, hb, hg, hnc, hcm, hcs, ht⟩
      · have hsp := strAt_of_own (c := 0) (A := none) (n := 0) (xs := xs.map (bytesOf s.data.toList)) (by rw [h0] at hown; exact hown)
        have HP := Lib.hid (show TextPost s xs w (.returned (.slice none 0 0)) wr from ⟨none, 0, by rw [h0], by rw [h0]; exact hsp, hB⟩)
        clear hsp hown h0
        go_wp2
        go_ret
        exact HP.out
      · clear hg hnc hcm hcs ht
        have hsp := strAt_of_own hown
        have HP := Lib.hid (show TextPost s xs w (.returned (.slice (some ⟨g, 0, none⟩) xs.length cap)) wr from ⟨_, cap, rfl, hsp, hB⟩)
        clear hsp hown hb
        go_wp2
        go_ret
        exact HP.out

end Go.Proofs.YtdeflloidhbpmaaGreatDoor

namespace Go.Proofs.YtdeflloidhbpmaaGreatDoor
open Go.RowKit

def nilT : Value := .agg #[.slice none 0 0, .slice none 0 0, .slice none 0 0]
/-- What Parse answers. -/
def PsPost (t : List UInt8) (w : World) (e : Ending) (w' : World) : Prop :=
  Below w.heap.size w w' ∧ match parseT t with
  | .bad p c => e = .returned (.tuple #[nilT, .int .i64 (p : Int), .int .i64 (c : Int)])
  | .good s => ∃ v, e = .returned (.tuple #[v, .int .i64 0, .int .i64 0]) ∧ TrAt w' v s
theorem psPost_bad {t : List UInt8} {p c : Nat} {w w' : World} (h : parseT t = .bad p c) (hB : Below w.heap.size w w') : PsPost t w (.returned (.tuple #[nilT, .int .i64 (p : Int), .int .i64 (c : Int)])) w' := by
  refine ⟨hB, ?_⟩
  rw [h]
theorem psPost_good {t : List UInt8} {s : Sg} {v : Value} {w w' : World} (h : parseT t = .good s) (hB : Below w.heap.size w w') (ht : TrAt w' v s) : PsPost t w (.returned (.tuple #[v, .int .i64 0, .int .i64 0])) w' := by
  refine ⟨hB, ?_⟩
  rw [h]
  exact ⟨v, rfl, ht⟩
theorem own_zero (w : World) (base : Nat) (e : TypeId) (sz : Nat) : w.ownsRow base e sz (.slice none 0 0) 0 [] := ⟨by simp, .inl ⟨rfl, rfl⟩⟩
/-- A parser that has taken nothing. -/
theorem pat_start (T : List Tk) (hT : TkOk T) (hl : T.length ≤ 20001) (w : World) (bt ot ct bx ox cx : Nat) (hbt : bt < w.heap.size) (hbx : bx < w.heap.size)
    (hc : ∀ i (h : i < T.length), w.cell? ⟨bt, ot + i * 3, none⟩ = some (.int .i64 (T[i].kind : Int)) ∧ w.cell? ⟨bt, ot + i * 3 + 1, none⟩ = some (.int .i64 (T[i].lo : Int)) ∧ w.cell? ⟨bt, ot + i * 3 + 2, none⟩ = some (.int .i64 (T[i].hi : Int)) ∧ w.cell? ⟨bx, ox + i, none⟩ = some (.string (bs T[i].txt))) :
    PAt ⟨w.heap.size, .slice (some ⟨bt, ot, none⟩) T.length ct, .slice (some ⟨bx, ox, none⟩) T.length cx, T⟩ (fun _ => False) 0 start
      (w.alloc (.cells #[.slice (some ⟨bt, ot, none⟩) T.length ct, .slice (some ⟨bx, ox, none⟩) T.length cx, .int .i64 0, .int .i64 0, .slice none 0 0, .slice none 0 0, .slice none 0 0] 83)) := by
  refine ⟨Nat.le_refl _, .slice none 0 0, .slice none 0 0, .slice none 0 0, [], [], [], ?_⟩
  exact { box := heap_one w _ _
          toks := ⟨bt, ot, ct, bx, ox, cx, rfl, rfl, hbt, hbx, fun i hi => by
            obtain ⟨c1, c2, c3, c4⟩ := hc i hi
            have hk := fun k hk => Below.heap_alloc w (.cells #[.slice (some ⟨bt, ot, none⟩) T.length ct, .slice (some ⟨bx, ox, none⟩) T.length cx, .int .i64 0, .int .i64 0, .slice none 0 0, .slice none 0 0, .slice none 0 0] 83) k hk
            exact ⟨(World.cell?_of_block (a := ⟨bt, _, none⟩) (hk bt hbt)).trans c1, (World.cell?_of_block (a := ⟨bt, _, none⟩) (hk bt hbt)).trans c2, (World.cell?_of_block (a := ⟨bt, _, none⟩) (hk bt hbt)).trans c3, (World.cell?_of_block (a := ⟨bx, _, none⟩) (hk bx hbx)).trans c4⟩⟩
          lt := hT.pos, len := hl, tk := hT, sLt := fun _ h => absurd h (fun h => h)
          oe := own_zero _ _ _ _, os := own_zero _ _ _ _, of := own_zero _ _ _ _
          re := rfl, rs := rfl, rf := rfl
          de := fun g hg => (by cases hg), ds := fun g hg => (by cases hg), df := fun g hg => (by cases hg) }

set_option maxRecDepth 100000 in
set_option maxHeartbeats 1000000 in
theorem front_calls (s : ByteArray) (hs : s.size ≤ 20000) (w : World) (hw : Tabs w) :
    Calls Tryz.prog 13 #[.string s] w (PsPost s.data.toList w) := by
  have HA := Lib.hid (fun W hW => all_calls s hs W hW)
  have HT := Lib.hid hw
  have hw2 := hw.2.2
  have P0 := Lib.hid ((Below.refl w.heap.size w).alloc (Nat.le_refl _) (.cells #[.slice none 0 0, .slice none 0 0, .slice none 0 0] 27))
  have bA0 := Lib.hid (heap_one w #[.slice none 0 0, .slice none 0 0, .slice none 0 0] 27)
  clear hw
  go_enter Tryz.func13, Tryz.ntmps13
  go_wp2_with fail
  refine (HA.out _ (HT.out.below P0.out hw2)).mono ?_
  rintro e w1 ⟨hB1, h1⟩
  have HB1 := Lib.hid (P0.out.trans (hB1.mono P0.out.size))
  have bA1 := Lib.hid ((hB1.block w.heap.size (blk_lt bA0.out)).trans bA0.out)
  clear hB1
  rcases h1 with ⟨p, hp, rfl⟩ | ⟨hp, A, c, rfl, ht⟩
  · have HP : Hid (parseT s.data.toList = .bad p 2) := Lib.hid (by unfold parseT; rw [hp])
    clear hp
    have f0 : w1.frozen? ⟨w.heap.size, 0, none⟩ = false := by simp [World.frozen?, bA1.out]
    have f1 : w1.frozen? ⟨w.heap.size, 1, none⟩ = false := by simp [World.frozen?, bA1.out]
    have f2 : w1.frozen? ⟨w.heap.size, 2, none⟩ = false := by simp [World.frozen?, bA1.out]
    have q0 : w1.cell? ⟨w.heap.size, 0, none⟩ = some (.slice none 0 0) := by simp [World.cell?, bA1.out]
    have q1 : w1.cell? ⟨w.heap.size, 1, none⟩ = some (.slice none 0 0) := by simp [World.cell?, bA1.out]
    have q2 : w1.cell? ⟨w.heap.size, 2, none⟩ = some (.slice none 0 0) := by simp [World.cell?, bA1.out]
    go_wp2
    refine bodyPost_ret (v := .tuple #[nilT, .int .i64 (p : Int), .int .i64 ((2 : Nat) : Int)]) (by simp [results, Tryz.results13, go_sem, q0, q1, q2, nilT]) rfl ?_
    exact psPost_bad HP.out (((HB1.out.setCell (p := ⟨w.heap.size, 0, none⟩) (Nat.le_refl _) _).setCell (p := ⟨w.heap.size, 1, none⟩) (Nat.le_refl _) _).setCell (p := ⟨w.heap.size, 2, none⟩) (Nat.le_refl _) _)
  · have HP := Lib.hid hp
    have hok := tksL_ok s.data.toList hp
    have h20 : (toks s.data.toList 0).1.length ≤ 20001 := by
      have := toks_len' s.data.toList
      rw [sizeL] at this
      omega
    obtain ⟨pre, hpre, hin⟩ := toks_tk s.data.toList hp
    have hpos : 0 < (toks s.data.toList 0).1.length := by rw [hpre]; simp
    have hgood : ∀ i (h : i < (toks s.data.toList 0).1.length), ((toks s.data.toList 0).1[i]).lo ≤ ((toks s.data.toList 0).1[i]).hi ∧ ((toks s.data.toList 0).1[i]).hi ≤ s.size := by
      intro i h
      have hm : (toks s.data.toList 0).1[i] ∈ (toks s.data.toList 0).1 := List.getElem_mem h
      generalize (toks s.data.toList 0).1[i] = x at hm ⊢
      rw [hpre] at hm
      rcases List.mem_append.1 hm with hm | hm
      · obtain ⟨_, a2, a3, _⟩ := hin x hm
        rw [← sizeL]; exact ⟨by omega, a3⟩
      · simp at hm; subst hm; simp
    have hTX := Lib.hid (text_calls s (by omega) A c (toks s.data.toList 0).1 (by omega) w1 ht hgood)
    have hRS : Hid (∀ R, programM (tksL s.data.toList) start = R → parseT s.data.toList = (match R with | .ok _ s' => .good s' | .no c i => .bad (loAt (tksL s.data.toList) i) c)) := Lib.hid (by
      rintro R rfl
      unfold parseT
      rw [hp]
      cases programM (tksL s.data.toList) start <;> rfl)
    obtain ⟨bt, ot, rfl, hbt, hct⟩ := ht.2 hpos
    have HOK := Lib.hid hok
    have HCT := Lib.hid hct
    have hT : tksL s.data.toList = (toks s.data.toList 0).1.map (tkOf s.data.toList) := rfl
    generalize tksL s.data.toList = T at hT HOK hRS
    generalize (toks s.data.toList 0).1 = xs at *
    have HTl : Hid (xs.length = T.length) := Lib.hid (by rw [hT]; simp)
    have HT2 := Lib.hid hT
    clear hok hct hgood hpre hin hp HP
    clear hT
    go_wp2_with fail
    refine hTX.out.mono ?_
    rintro e w2 ⟨A2, c2, rfl, hst, hB2⟩
    obtain ⟨bx, ox, rfl, hbx, hcx⟩ := hst.2 hpos
    have hTl := HTl.out
    have HB2 := Lib.hid (HB1.out.trans (hB2.mono HB1.out.size))
    have bA2 := Lib.hid ((hB2.block w.heap.size (blk_lt bA1.out)).trans bA1.out)
    have hbt2 : bt < w2.heap.size := Nat.lt_of_lt_of_le hbt hB2.size
    have hps := pat_start T HOK.out (by omega) w2 bt ot c bx ox c2 hbt2 hbx (fun i hi => by
      have hi' : i < xs.length := by omega
      have hTi : T[i] = tkOf s.data.toList xs[i] := by
        have h1 : T[i]? = some (tkOf s.data.toList xs[i]) := by rw [HT2.out, List.getElem?_map, List.getElem?_eq_getElem hi']; rfl
        rw [List.getElem?_eq_getElem hi] at h1
        exact Option.some.inj h1
      rw [hTi]
      obtain ⟨a1, a2, a3⟩ := HCT.out i hi'
      have hk := fun o => hB2.cell (p := ⟨bt, o, none⟩) hbt
      have h4 := hcx i (by simpa using hi')
      rw [List.getElem_map] at h4
      exact ⟨(hk _).trans a1, (hk _).trans a2, (hk _).trans a3, h4⟩)
    have hPC := parse_calls _ start _ hps
    have HAL := Lib.hid (Below.heap_alloc w2 (.cells #[.slice (some ⟨bt, ot, none⟩) T.length c, .slice (some ⟨bx, ox, none⟩) T.length c2, .int .i64 0, .int .i64 0, .slice none 0 0, .slice none 0 0, .slice none 0 0] 83) w.heap.size (blk_lt bA2.out))
    have HBL := Lib.hid ((Below.refl w2.heap.size w2).alloc (Nat.le_refl _) (.cells #[.slice (some ⟨bt, ot, none⟩) T.length c, .slice (some ⟨bx, ox, none⟩) T.length c2, .int .i64 0, .int .i64 0, .slice none 0 0, .slice none 0 0, .slice none 0 0] 83))
    have hRX := Lib.hid (hRS.out _ rfl)
    generalize hR : programM T start = R at hPC hRX
    rw [← hTl] at hPC HAL HBL
    clear hTl
    have HPC := Lib.hid hPC
    have hwl := Lib.hid (blk_lt bA2.out)
    clear hPC hps hcx hst hB2 hR HCT HT2 hRS
    go_wp2_with fail
    refine HPC.out.mono ?_
    intro e w3 h3
    cases R with
    | no cd i =>
      obtain ⟨rfl, _, hB3⟩ := h3
      have HB3 := Lib.hid (HB2.out.trans ((HBL.out.mono (Nat.le_of_lt (blk_lt bA2.out))).trans (hB3.mono (Nat.le_of_lt (blk_lt bA2.out)))))
      have bA3 := Lib.hid ((hB3.block w.heap.size hwl.out).trans (HAL.out.trans bA2.out))
      have HP := Lib.hid (show parseT s.data.toList = .bad (loAt T i) cd from hRX.out)
      have f0 : w3.frozen? ⟨w.heap.size, 0, none⟩ = false := by simp [World.frozen?, bA3.out]
      have f1 : w3.frozen? ⟨w.heap.size, 1, none⟩ = false := by simp [World.frozen?, bA3.out]
      have f2 : w3.frozen? ⟨w.heap.size, 2, none⟩ = false := by simp [World.frozen?, bA3.out]
      have q0 : w3.cell? ⟨w.heap.size, 0, none⟩ = some (.slice none 0 0) := by simp [World.cell?, bA3.out]
      have q1 : w3.cell? ⟨w.heap.size, 1, none⟩ = some (.slice none 0 0) := by simp [World.cell?, bA3.out]
      have q2 : w3.cell? ⟨w.heap.size, 2, none⟩ = some (.slice none 0 0) := by simp [World.cell?, bA3.out]
      clear hB3 hRX
      generalize loAt T i = p at HP ⊢
      go_wp2
      refine bodyPost_ret (v := .tuple #[nilT, .int .i64 (p : Int), .int .i64 (cd : Int)]) (by simp [results, Tryz.results13, go_sem, q0, q1, q2, nilT]) rfl ?_
      exact psPost_bad HP.out (((HB3.out.setCell (p := ⟨w.heap.size, 0, none⟩) (Nat.le_refl _) _).setCell (p := ⟨w.heap.size, 1, none⟩) (Nat.le_refl _) _).setCell (p := ⟨w.heap.size, 2, none⟩) (Nat.le_refl _) _)
    | ok u s' =>
      obtain ⟨v, rfl, htr, hB3⟩ := h3
      obtain ⟨A1, c1, A3, c3, A4, c4, rfl⟩ := htr.form
      have HB3 := Lib.hid (HB2.out.trans ((HBL.out.mono (Nat.le_of_lt (blk_lt bA2.out))).trans (hB3.mono (Nat.le_of_lt (blk_lt bA2.out)))))
      have bA3 := Lib.hid ((hB3.block w.heap.size hwl.out).trans (HAL.out.trans bA2.out))
      have HP := Lib.hid (show parseT s.data.toList = .good s' from hRX.out)
      have HT3 := Lib.hid htr
      have f0 : w3.frozen? ⟨w.heap.size, 0, none⟩ = false := by simp [World.frozen?, bA3.out]
      have f1 : w3.frozen? ⟨w.heap.size, 1, none⟩ = false := by simp [World.frozen?, bA3.out]
      have f2 : w3.frozen? ⟨w.heap.size, 2, none⟩ = false := by simp [World.frozen?, bA3.out]
      have q0 : w3.cell? ⟨w.heap.size, 0, none⟩ = some (.slice none 0 0) := by simp [World.cell?, bA3.out]
      have q1 : w3.cell? ⟨w.heap.size, 1, none⟩ = some (.slice none 0 0) := by simp [World.cell?, bA3.out]
      have q2 : w3.cell? ⟨w.heap.size, 2, none⟩ = some (.slice none 0 0) := by simp [World.cell?, bA3.out]
      clear hB3 hRX htr
      go_wp2
      refine bodyPost_ret (v := .tuple #[.agg #[.slice A1 s'.ex.length c1, .slice A3 s'.st.length c3, .slice A4 s'.fn.length c4], .int .i64 0, .int .i64 0]) (by simp [results, Tryz.results13, go_sem, q0, q1, q2]) rfl ?_
      have ho := (((Only.refl w.heap.size w3).set 0 (.slice A1 s'.ex.length c1)).set 1 (.slice A3 s'.st.length c3)).set 2 (.slice A4 s'.fn.length c4)
      have hwl2 := hwl.out
      exact psPost_good HP.out (((HB3.out.setCell (p := ⟨w.heap.size, 0, none⟩) (Nat.le_refl _) _).setCell (p := ⟨w.heap.size, 1, none⟩) (Nat.le_refl _) _).setCell (p := ⟨w.heap.size, 2, none⟩) (Nat.le_refl _) _) (HT3.out.keep (by rw [ho.size]; exact Nat.le_refl _) (fun k _ (hk : w2.heap.size < k) => ho.block k (by omega)) fun _ _ => trivial)

end Go.Proofs.YtdeflloidhbpmaaGreatDoor

namespace Go.Proofs
open Go.Shelf
def Tryz.itoaL_ren : Go.Shelf.Ren := ⟨fun | 171 => 86 | 243 => 118 | 246 => 135 | 283 => 144 | 284 => 145 | 285 => 146 | 286 => 147 | 129 => 152 | 317 => 151 | 318 => 153 | 319 => 154 | 320 => 155 | 337 => 161 | 338 => 162 | n => n, fun | 3 => 3 | 9 => 9 | 2 => 2 | 4 => 4 | 171 => 184 | 0 => 0 | 53 => 177 | 37 => 52 | 5 => 5 | 173 => 187 | 212 => 190 | 51 => 174 | 20 => 20 | 213 => 191 | 46 => 164 | 232 => 196 | 233 => 197 | n => n, fun | 17 => 4 | 18 => 5 | 19 => 6 | n => n⟩
theorem Tryz.itoaL : Go.Proofs.LaysM.n171 Tryz.prog Tryz.itoaL_ren := {
  mixed := by kernel_rfl
  f129 := Tryz.func152.trans (congrArg some (by kernel_rfl))
  f171 := Tryz.func86.trans (congrArg some (by kernel_rfl))
  f243 := Tryz.func118.trans (congrArg some (by kernel_rfl))
  f246 := Tryz.func135.trans (congrArg some (by kernel_rfl))
  f283 := Tryz.func144.trans (congrArg some (by kernel_rfl))
  f284 := Tryz.func145.trans (congrArg some (by kernel_rfl))
  f285 := Tryz.func146.trans (congrArg some (by kernel_rfl))
  f286 := Tryz.func147.trans (congrArg some (by kernel_rfl))
  f317 := Tryz.func151.trans (congrArg some (by kernel_rfl))
  f318 := Tryz.func153.trans (congrArg some (by kernel_rfl))
  f319 := Tryz.func154.trans (congrArg some (by kernel_rfl))
  f320 := Tryz.func155.trans (congrArg some (by kernel_rfl))
  f337 := Tryz.func161.trans (congrArg some (by kernel_rfl))
  f338 := Tryz.func162.trans (congrArg some (by kernel_rfl))
  t0 := Tryz.underlying0
  a0 := Tryz.isAgg0
  z0 := Tryz.sizeOf0
  v0 := Tryz.zeroValue0
  t2 := Tryz.underlying2
  a2 := Tryz.isAgg2
  z2 := Tryz.sizeOf2
  v2 := Tryz.zeroValue2
  t3 := Tryz.underlying3
  a3 := Tryz.isAgg3
  z3 := Tryz.sizeOf3
  v3 := Tryz.zeroValue3
  t4 := Tryz.underlying4
  a4 := Tryz.isAgg4
  z4 := Tryz.sizeOf4
  v4 := Tryz.zeroValue4
  t5 := Tryz.underlying5
  a5 := Tryz.isAgg5
  z5 := Tryz.sizeOf5
  v5 := Tryz.zeroValue5
  t9 := Tryz.underlying9
  a9 := Tryz.isAgg9
  z9 := Tryz.sizeOf9
  v9 := Tryz.zeroValue9
  t20 := Tryz.underlying20
  a20 := Tryz.isAgg20
  z20 := Tryz.sizeOf20
  v20 := Tryz.zeroValue20
  t37 := Tryz.underlying52
  a37 := Tryz.isAgg52
  z37 := Tryz.sizeOf52
  v37 := Tryz.zeroValue52
  t46 := Tryz.underlying164
  a46 := Tryz.isAgg164
  z46 := Tryz.sizeOf164
  v46 := Tryz.zeroValue164
  t51 := Tryz.underlying174
  a51 := Tryz.isAgg174
  z51 := Tryz.sizeOf174
  v51 := Tryz.zeroValue174
  t53 := Tryz.underlying177
  a53 := Tryz.isAgg177
  z53 := Tryz.sizeOf177
  v53 := Tryz.zeroValue177
  t171 := Tryz.underlying184
  a171 := Tryz.isAgg184
  z171 := Tryz.sizeOf184
  v171 := Tryz.zeroValue184
  t173 := Tryz.underlying187
  a173 := Tryz.isAgg187
  z173 := Tryz.sizeOf187
  v173 := Tryz.zeroValue187
  t212 := Tryz.underlying190
  a212 := Tryz.isAgg190
  z212 := Tryz.sizeOf190
  v212 := Tryz.zeroValue190
  t213 := Tryz.underlying191
  a213 := Tryz.isAgg191
  z213 := Tryz.sizeOf191
  t232 := Tryz.underlying196
  a232 := Tryz.isAgg196
  z232 := Tryz.sizeOf196
  v232 := Tryz.zeroValue196
  t233 := Tryz.underlying197
  a233 := Tryz.isAgg197
  z233 := Tryz.sizeOf197
  v233 := Tryz.zeroValue197
  g17 := by kernel_rfl
  g18 := by kernel_rfl
  g19 := by kernel_rfl
  i0 := by kernel_rfl
  i2 := by kernel_rfl
  i3 := by kernel_rfl
  i4 := by kernel_rfl
  i5 := by kernel_rfl
  i9 := by kernel_rfl
  i20 := by kernel_rfl
  i37 := by kernel_rfl
  i46 := by kernel_rfl
  i51 := by kernel_rfl
  i53 := by kernel_rfl
  i171 := by kernel_rfl
  i173 := by kernel_rfl
  i212 := by kernel_rfl
  i232 := by kernel_rfl
  i233 := by kernel_rfl
  m17 := by kernel_rfl
  m18 := by kernel_rfl
  m19 := by kernel_rfl }
def Tryz.repeatL_ren : Go.Shelf.Ren := ⟨fun | 105 => 89 | 212 => 120 | 99 => 121 | 165 => 66 | 166 => 39 | 170 => 122 | 169 => 20 | 263 => 136 | 264 => 137 | 206 => 138 | 240 => 65 | 241 => 88 | 276 => 87 | 277 => 119 | n => n, fun | 9 => 9 | 3 => 3 | 4 => 4 | 20 => 20 | 0 => 0 | 46 => 164 | 109 => 165 | 5 => 5 | 72 => 54 | 76 => 102 | 51 => 174 | 146 => 175 | 53 => 177 | 148 => 178 | 70 => 51 | 37 => 52 | 75 => 101 | 127 => 104 | 164 => 140 | 80 => 61 | n => n, fun | n => n⟩
theorem Tryz.repeatL : Go.Proofs.Lays.n105 Tryz.prog Tryz.repeatL_ren := {
  mixed := by kernel_rfl
  f99 := Tryz.func121.trans (congrArg some (by kernel_rfl))
  f105 := Tryz.func89.trans (congrArg some (by kernel_rfl))
  f165 := Tryz.func66.trans (congrArg some (by kernel_rfl))
  f166 := Tryz.func39.trans (congrArg some (by kernel_rfl))
  f169 := Tryz.func20.trans (congrArg some (by kernel_rfl))
  f170 := Tryz.func122.trans (congrArg some (by kernel_rfl))
  f206 := Tryz.func138.trans (congrArg some (by kernel_rfl))
  f212 := Tryz.func120.trans (congrArg some (by kernel_rfl))
  f240 := Tryz.func65.trans (congrArg some (by kernel_rfl))
  f241 := Tryz.func88.trans (congrArg some (by kernel_rfl))
  f263 := Tryz.func136.trans (congrArg some (by kernel_rfl))
  f264 := Tryz.func137.trans (congrArg some (by kernel_rfl))
  f276 := Tryz.func87.trans (congrArg some (by kernel_rfl))
  f277 := Tryz.func119.trans (congrArg some (by kernel_rfl))
  t0 := Tryz.underlying0
  a0 := Tryz.isAgg0
  z0 := Tryz.sizeOf0
  v0 := Tryz.zeroValue0
  t3 := Tryz.underlying3
  a3 := Tryz.isAgg3
  z3 := Tryz.sizeOf3
  v3 := Tryz.zeroValue3
  t4 := Tryz.underlying4
  a4 := Tryz.isAgg4
  z4 := Tryz.sizeOf4
  v4 := Tryz.zeroValue4
  t5 := Tryz.underlying5
  a5 := Tryz.isAgg5
  z5 := Tryz.sizeOf5
  v5 := Tryz.zeroValue5
  t9 := Tryz.underlying9
  a9 := Tryz.isAgg9
  z9 := Tryz.sizeOf9
  v9 := Tryz.zeroValue9
  t20 := Tryz.underlying20
  a20 := Tryz.isAgg20
  z20 := Tryz.sizeOf20
  v20 := Tryz.zeroValue20
  t37 := Tryz.underlying52
  a37 := Tryz.isAgg52
  z37 := Tryz.sizeOf52
  v37 := Tryz.zeroValue52
  t46 := Tryz.underlying164
  a46 := Tryz.isAgg164
  z46 := Tryz.sizeOf164
  v46 := Tryz.zeroValue164
  t51 := Tryz.underlying174
  a51 := Tryz.isAgg174
  z51 := Tryz.sizeOf174
  v51 := Tryz.zeroValue174
  t53 := Tryz.underlying177
  a53 := Tryz.isAgg177
  z53 := Tryz.sizeOf177
  v53 := Tryz.zeroValue177
  t70 := Tryz.underlying51
  a70 := Tryz.isAgg51
  z70 := Tryz.sizeOf51
  v70 := Tryz.zeroValue51
  t72 := Tryz.underlying54
  a72 := Tryz.isAgg54
  z72 := Tryz.sizeOf54
  v72 := Tryz.zeroValue54
  t75 := Tryz.underlying101
  a75 := Tryz.isAgg101
  z75 := Tryz.sizeOf101
  v75 := Tryz.zeroValue101
  t76 := Tryz.underlying102
  a76 := Tryz.isAgg102
  z76 := Tryz.sizeOf102
  v76 := Tryz.zeroValue102
  t109 := Tryz.underlying165
  a109 := Tryz.isAgg165
  z109 := Tryz.sizeOf165
  v109 := Tryz.zeroValue165
  t127 := Tryz.underlying104
  a127 := Tryz.isAgg104
  z127 := Tryz.sizeOf104
  v127 := Tryz.zeroValue104
  t146 := Tryz.underlying175
  a146 := Tryz.isAgg175
  z146 := Tryz.sizeOf175
  v146 := Tryz.zeroValue175
  t148 := Tryz.underlying178
  a148 := Tryz.isAgg178
  z148 := Tryz.sizeOf178
  v148 := Tryz.zeroValue178
  t164 := Tryz.underlying140
  a164 := Tryz.isAgg140
  z164 := Tryz.sizeOf140
  v164 := Tryz.zeroValue140 }
def Tryz.joinL_ren : Go.Shelf.Ren := ⟨fun | 156 => 41 | 165 => 66 | 166 => 39 | 169 => 20 | 240 => 65 | 241 => 88 | 276 => 87 | 277 => 119 | n => n, fun | 31 => 67 | 9 => 9 | 3 => 3 | 4 => 4 | 0 => 0 | 20 => 20 | 72 => 54 | 76 => 102 | 70 => 51 | 37 => 52 | 75 => 101 | 127 => 104 | 164 => 140 | 5 => 5 | 80 => 61 | n => n, fun | n => n⟩
theorem Tryz.joinL : Go.Proofs.Lays.n156 Tryz.prog Tryz.joinL_ren := {
  mixed := by kernel_rfl
  f156 := Tryz.func41.trans (congrArg some (by kernel_rfl))
  f165 := Tryz.func66.trans (congrArg some (by kernel_rfl))
  f166 := Tryz.func39.trans (congrArg some (by kernel_rfl))
  f169 := Tryz.func20.trans (congrArg some (by kernel_rfl))
  f240 := Tryz.func65.trans (congrArg some (by kernel_rfl))
  f241 := Tryz.func88.trans (congrArg some (by kernel_rfl))
  f276 := Tryz.func87.trans (congrArg some (by kernel_rfl))
  f277 := Tryz.func119.trans (congrArg some (by kernel_rfl))
  t0 := Tryz.underlying0
  a0 := Tryz.isAgg0
  z0 := Tryz.sizeOf0
  v0 := Tryz.zeroValue0
  t3 := Tryz.underlying3
  a3 := Tryz.isAgg3
  z3 := Tryz.sizeOf3
  v3 := Tryz.zeroValue3
  t4 := Tryz.underlying4
  a4 := Tryz.isAgg4
  z4 := Tryz.sizeOf4
  v4 := Tryz.zeroValue4
  t9 := Tryz.underlying9
  a9 := Tryz.isAgg9
  z9 := Tryz.sizeOf9
  v9 := Tryz.zeroValue9
  t20 := Tryz.underlying20
  a20 := Tryz.isAgg20
  z20 := Tryz.sizeOf20
  v20 := Tryz.zeroValue20
  t31 := Tryz.underlying67
  a31 := Tryz.isAgg67
  z31 := Tryz.sizeOf67
  v31 := Tryz.zeroValue67
  t37 := Tryz.underlying52
  a37 := Tryz.isAgg52
  z37 := Tryz.sizeOf52
  v37 := Tryz.zeroValue52
  t70 := Tryz.underlying51
  a70 := Tryz.isAgg51
  z70 := Tryz.sizeOf51
  v70 := Tryz.zeroValue51
  t72 := Tryz.underlying54
  a72 := Tryz.isAgg54
  z72 := Tryz.sizeOf54
  v72 := Tryz.zeroValue54
  t75 := Tryz.underlying101
  a75 := Tryz.isAgg101
  z75 := Tryz.sizeOf101
  v75 := Tryz.zeroValue101
  t76 := Tryz.underlying102
  a76 := Tryz.isAgg102
  z76 := Tryz.sizeOf102
  v76 := Tryz.zeroValue102
  t127 := Tryz.underlying104
  a127 := Tryz.isAgg104
  z127 := Tryz.sizeOf104
  v127 := Tryz.zeroValue104
  t164 := Tryz.underlying140
  a164 := Tryz.isAgg140
  z164 := Tryz.sizeOf140
  v164 := Tryz.zeroValue140 }
end Go.Proofs
