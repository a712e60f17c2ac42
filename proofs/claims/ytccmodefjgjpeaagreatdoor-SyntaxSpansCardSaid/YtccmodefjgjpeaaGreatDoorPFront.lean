/-
  syntax.Parse: a text's program, or where something is wrong, and what.
-/
import Derived.Test.YtccmodefjgjpeaaGreatDoorPParse
import Derived.Test.YtccmodefjgjpeaaGreatDoorPTok
import Derived.Test.YtccmodefjgjpeaaGreatDoorTextA
namespace Go.Proofs.YtccmodefjgjpeaaGreatDoor
open Go.RowKit

def nilT : Value := .agg #[.slice none 0 0, .slice none 0 0, .slice none 0 0]
/-- What Parse answers. -/
def PsPost (t : List UInt8) (w : World) (e : Ending) (w' : World) : Prop :=
  Below w.heap.size w w' ∧ match parseT t with
  | .bad p c => e = .returned (.tuple #[nilT, .int .i64 (p : Int), .int .i64 (c : Int)])
  | .good s => ∃ v, e = .returned (.tuple #[v, .int .i64 0, .int .i64 0]) ∧ TrAt w' v s
theorem psPost_bad {t : List UInt8} {p c : Nat} {w w' : World} (h : parseT t = .bad p c) (hB : Below w.heap.size w w') : PsPost t w (.returned (.tuple #[nilT, .int .i64 (p : Int), .int .i64 (c : Int)])) w' := by
  refine ⟨hB, ?_⟩
  rw [h]
theorem psPost_good {t : List UInt8} {s : Sg} {v : Value} {w w' : World} (h : parseT t = .good s) (hB : Below w.heap.size w w') (ht : TrAt w' v s) : PsPost t w (.returned (.tuple #[v, .int .i64 0, .int .i64 0])) w' := by
  refine ⟨hB, ?_⟩
  rw [h]
  exact ⟨v, rfl, ht⟩
theorem own_zero (w : World) (base : Nat) (e : TypeId) (sz : Nat) : w.ownsRow base e sz (.slice none 0 0) 0 [] := ⟨by simp, .inl ⟨rfl, rfl⟩⟩
/-- A parser that has taken nothing. -/
theorem pat_start (T : List Tk) (hT : TkOk T) (hl : T.length ≤ 20001) (w : World) (bt ot ct bx ox cx : Nat) (hbt : bt < w.heap.size) (hbx : bx < w.heap.size)
    (hc : ∀ i (h : i < T.length), w.cell? ⟨bt, ot + i * 3, none⟩ = some (.int .i64 (T[i].kind : Int)) ∧ w.cell? ⟨bt, ot + i * 3 + 1, none⟩ = some (.int .i64 (T[i].lo : Int)) ∧ w.cell? ⟨bt, ot + i * 3 + 2, none⟩ = some (.int .i64 (T[i].hi : Int)) ∧ w.cell? ⟨bx, ox + i, none⟩ = some (.string (bs T[i].txt))) :
    PAt ⟨w.heap.size, .slice (some ⟨bt, ot, none⟩) T.length ct, .slice (some ⟨bx, ox, none⟩) T.length cx, T⟩ (fun _ => False) 0 start
      (w.alloc (.cells #[.slice (some ⟨bt, ot, none⟩) T.length ct, .slice (some ⟨bx, ox, none⟩) T.length cx, .int .i64 0, .int .i64 0, .slice none 0 0, .slice none 0 0, .slice none 0 0] 69)) := by
  refine ⟨Nat.le_refl _, .slice none 0 0, .slice none 0 0, .slice none 0 0, [], [], [], ?_⟩
  exact { box := heap_one w _ _
          toks := ⟨bt, ot, ct, bx, ox, cx, rfl, rfl, hbt, hbx, fun i hi => by
            obtain ⟨c1, c2, c3, c4⟩ := hc i hi
            have hk := fun k hk => Below.heap_alloc w (.cells #[.slice (some ⟨bt, ot, none⟩) T.length ct, .slice (some ⟨bx, ox, none⟩) T.length cx, .int .i64 0, .int .i64 0, .slice none 0 0, .slice none 0 0, .slice none 0 0] 69) k hk
            exact ⟨(World.cell?_of_block (a := ⟨bt, _, none⟩) (hk bt hbt)).trans c1, (World.cell?_of_block (a := ⟨bt, _, none⟩) (hk bt hbt)).trans c2, (World.cell?_of_block (a := ⟨bt, _, none⟩) (hk bt hbt)).trans c3, (World.cell?_of_block (a := ⟨bx, _, none⟩) (hk bx hbx)).trans c4⟩⟩
          lt := hT.pos, len := hl, tk := hT, sLt := fun _ h => absurd h (fun h => h)
          oe := own_zero _ _ _ _, os := own_zero _ _ _ _, of := own_zero _ _ _ _
          re := rfl, rs := rfl, rf := rfl
          de := fun g hg => (by cases hg), ds := fun g hg => (by cases hg), df := fun g hg => (by cases hg) }

set_option maxRecDepth 100000 in
set_option maxHeartbeats 1000000 in
theorem front_calls (s : ByteArray) (hs : s.size ≤ 20000) (w : World) (hw : Tabs w) :
    Calls Tryz.prog 15 #[.string s] w (PsPost s.data.toList w) := by
  have HA := Lib.hid (fun W hW => all_calls s hs W hW)
  have HT := Lib.hid hw
  have hw2 := hw.2.2
  have P0 := Lib.hid ((Below.refl w.heap.size w).alloc (Nat.le_refl _) (.cells #[.slice none 0 0, .slice none 0 0, .slice none 0 0] 27))
  have bA0 := Lib.hid (heap_one w #[.slice none 0 0, .slice none 0 0, .slice none 0 0] 27)
  clear hw
  go_enter Tryz.func15, Tryz.ntmps15
  go_wp2_with fail
  refine (HA.out _ (HT.out.below P0.out hw2)).mono ?_
  rintro e w1 ⟨hB1, h1⟩
  have HB1 := Lib.hid (P0.out.trans (hB1.mono P0.out.size))
  have bA1 := Lib.hid ((hB1.block w.heap.size (blk_lt bA0.out)).trans bA0.out)
  clear hB1
  rcases h1 with ⟨p, hp, rfl⟩ | ⟨hp, A, c, rfl, ht⟩
  · have HP : Hid (parseT s.data.toList = .bad p 2) := Lib.hid (by unfold parseT; rw [hp])
    clear hp
    have f0 : w1.frozen? ⟨w.heap.size, 0, none⟩ = false := by simp [World.frozen?, bA1.out]
    have f1 : w1.frozen? ⟨w.heap.size, 1, none⟩ = false := by simp [World.frozen?, bA1.out]
    have f2 : w1.frozen? ⟨w.heap.size, 2, none⟩ = false := by simp [World.frozen?, bA1.out]
    have q0 : w1.cell? ⟨w.heap.size, 0, none⟩ = some (.slice none 0 0) := by simp [World.cell?, bA1.out]
    have q1 : w1.cell? ⟨w.heap.size, 1, none⟩ = some (.slice none 0 0) := by simp [World.cell?, bA1.out]
    have q2 : w1.cell? ⟨w.heap.size, 2, none⟩ = some (.slice none 0 0) := by simp [World.cell?, bA1.out]
    go_wp2
    refine bodyPost_ret (v := .tuple #[nilT, .int .i64 (p : Int), .int .i64 ((2 : Nat) : Int)]) (by simp [results, Tryz.results15, go_sem, q0, q1, q2, nilT]) rfl ?_
    exact psPost_bad HP.out (((HB1.out.setCell (p := ⟨w.heap.size, 0, none⟩) (Nat.le_refl _) _).setCell (p := ⟨w.heap.size, 1, none⟩) (Nat.le_refl _) _).setCell (p := ⟨w.heap.size, 2, none⟩) (Nat.le_refl _) _)
  · have HP := Lib.hid hp
    have hok := tksL_ok s.data.toList hp
    have h20 : (toks s.data.toList 0).1.length ≤ 20001 := by
      have := toks_len' s.data.toList
      rw [sizeL] at this
      omega
    obtain ⟨pre, hpre, hin⟩ := toks_tk s.data.toList hp
    have hpos : 0 < (toks s.data.toList 0).1.length := by rw [hpre]; simp
    have hgood : ∀ i (h : i < (toks s.data.toList 0).1.length), ((toks s.data.toList 0).1[i]).lo ≤ ((toks s.data.toList 0).1[i]).hi ∧ ((toks s.data.toList 0).1[i]).hi ≤ s.size := by
      intro i h
      have hm : (toks s.data.toList 0).1[i] ∈ (toks s.data.toList 0).1 := List.getElem_mem h
      generalize (toks s.data.toList 0).1[i] = x at hm ⊢
      rw [hpre] at hm
      rcases List.mem_append.1 hm with hm | hm
      · obtain ⟨_, a2, a3, _⟩ := hin x hm
        rw [← sizeL]; exact ⟨by omega, a3⟩
      · simp at hm; subst hm; simp
    have hTX := Lib.hid (text_calls s (by omega) A c (toks s.data.toList 0).1 (by omega) w1 ht hgood)
    have hRS : Hid (∀ R, programM (tksL s.data.toList) start = R → parseT s.data.toList = (match R with | .ok _ s' => .good s' | .no c i => .bad (loAt (tksL s.data.toList) i) c)) := Lib.hid (by
      rintro R rfl
      unfold parseT
      rw [hp]
      cases programM (tksL s.data.toList) start <;> rfl)
    obtain ⟨bt, ot, rfl, hbt, hct⟩ := ht.2 hpos
    have HOK := Lib.hid hok
    have HCT := Lib.hid hct
    have hT : tksL s.data.toList = (toks s.data.toList 0).1.map (tkOf s.data.toList) := rfl
    generalize tksL s.data.toList = T at hT HOK hRS
    generalize (toks s.data.toList 0).1 = xs at *
    have HTl : Hid (xs.length = T.length) := Lib.hid (by rw [hT]; simp)
    have HT2 := Lib.hid hT
    clear hok hct hgood hpre hin hp HP
    clear hT
    go_wp2_with fail
    refine hTX.out.mono ?_
    rintro e w2 ⟨A2, c2, rfl, hst, hB2⟩
    obtain ⟨bx, ox, rfl, hbx, hcx⟩ := hst.2 hpos
    have hTl := HTl.out
    have HB2 := Lib.hid (HB1.out.trans (hB2.mono HB1.out.size))
    have bA2 := Lib.hid ((hB2.block w.heap.size (blk_lt bA1.out)).trans bA1.out)
    have hbt2 : bt < w2.heap.size := Nat.lt_of_lt_of_le hbt hB2.size
    have hps := pat_start T HOK.out (by omega) w2 bt ot c bx ox c2 hbt2 hbx (fun i hi => by
      have hi' : i < xs.length := by omega
      have hTi : T[i] = tkOf s.data.toList xs[i] := by
        have h1 : T[i]? = some (tkOf s.data.toList xs[i]) := by rw [HT2.out, List.getElem?_map, List.getElem?_eq_getElem hi']; rfl
        rw [List.getElem?_eq_getElem hi] at h1
        exact Option.some.inj h1
      rw [hTi]
      obtain ⟨a1, a2, a3⟩ := HCT.out i hi'
      have hk := fun o => hB2.cell (p := ⟨bt, o, none⟩) hbt
      have h4 := hcx i (by simpa using hi')
      rw [List.getElem_map] at h4
      exact ⟨(hk _).trans a1, (hk _).trans a2, (hk _).trans a3, h4⟩)
    have hPC := parse_calls _ start _ hps
    have HAL := Lib.hid (Below.heap_alloc w2 (.cells #[.slice (some ⟨bt, ot, none⟩) T.length c, .slice (some ⟨bx, ox, none⟩) T.length c2, .int .i64 0, .int .i64 0, .slice none 0 0, .slice none 0 0, .slice none 0 0] 69) w.heap.size (blk_lt bA2.out))
    have HBL := Lib.hid ((Below.refl w2.heap.size w2).alloc (Nat.le_refl _) (.cells #[.slice (some ⟨bt, ot, none⟩) T.length c, .slice (some ⟨bx, ox, none⟩) T.length c2, .int .i64 0, .int .i64 0, .slice none 0 0, .slice none 0 0, .slice none 0 0] 69))
    have hRX := Lib.hid (hRS.out _ rfl)
    generalize hR : programM T start = R at hPC hRX
    rw [← hTl] at hPC HAL HBL
    clear hTl
    have HPC := Lib.hid hPC
    have hwl := Lib.hid (blk_lt bA2.out)
    clear hPC hps hcx hst hB2 hR HCT HT2 hRS
    go_wp2_with fail
    refine HPC.out.mono ?_
    intro e w3 h3
    cases R with
    | no cd i =>
      obtain ⟨rfl, _, hB3⟩ := h3
      have HB3 := Lib.hid (HB2.out.trans ((HBL.out.mono (Nat.le_of_lt (blk_lt bA2.out))).trans (hB3.mono (Nat.le_of_lt (blk_lt bA2.out)))))
      have bA3 := Lib.hid ((hB3.block w.heap.size hwl.out).trans (HAL.out.trans bA2.out))
      have HP := Lib.hid (show parseT s.data.toList = .bad (loAt T i) cd from hRX.out)
      have f0 : w3.frozen? ⟨w.heap.size, 0, none⟩ = false := by simp [World.frozen?, bA3.out]
      have f1 : w3.frozen? ⟨w.heap.size, 1, none⟩ = false := by simp [World.frozen?, bA3.out]
      have f2 : w3.frozen? ⟨w.heap.size, 2, none⟩ = false := by simp [World.frozen?, bA3.out]
      have q0 : w3.cell? ⟨w.heap.size, 0, none⟩ = some (.slice none 0 0) := by simp [World.cell?, bA3.out]
      have q1 : w3.cell? ⟨w.heap.size, 1, none⟩ = some (.slice none 0 0) := by simp [World.cell?, bA3.out]
      have q2 : w3.cell? ⟨w.heap.size, 2, none⟩ = some (.slice none 0 0) := by simp [World.cell?, bA3.out]
      clear hB3 hRX
      generalize loAt T i = p at HP ⊢
      go_wp2
      refine bodyPost_ret (v := .tuple #[nilT, .int .i64 (p : Int), .int .i64 (cd : Int)]) (by simp [results, Tryz.results15, go_sem, q0, q1, q2, nilT]) rfl ?_
      exact psPost_bad HP.out (((HB3.out.setCell (p := ⟨w.heap.size, 0, none⟩) (Nat.le_refl _) _).setCell (p := ⟨w.heap.size, 1, none⟩) (Nat.le_refl _) _).setCell (p := ⟨w.heap.size, 2, none⟩) (Nat.le_refl _) _)
    | ok u s' =>
      obtain ⟨v, rfl, htr, hB3⟩ := h3
      obtain ⟨A1, c1, A3, c3, A4, c4, rfl⟩ := htr.form
      have HB3 := Lib.hid (HB2.out.trans ((HBL.out.mono (Nat.le_of_lt (blk_lt bA2.out))).trans (hB3.mono (Nat.le_of_lt (blk_lt bA2.out)))))
      have bA3 := Lib.hid ((hB3.block w.heap.size hwl.out).trans (HAL.out.trans bA2.out))
      have HP := Lib.hid (show parseT s.data.toList = .good s' from hRX.out)
      have HT3 := Lib.hid htr
      have f0 : w3.frozen? ⟨w.heap.size, 0, none⟩ = false := by simp [World.frozen?, bA3.out]
      have f1 : w3.frozen? ⟨w.heap.size, 1, none⟩ = false := by simp [World.frozen?, bA3.out]
      have f2 : w3.frozen? ⟨w.heap.size, 2, none⟩ = false := by simp [World.frozen?, bA3.out]
      have q0 : w3.cell? ⟨w.heap.size, 0, none⟩ = some (.slice none 0 0) := by simp [World.cell?, bA3.out]
      have q1 : w3.cell? ⟨w.heap.size, 1, none⟩ = some (.slice none 0 0) := by simp [World.cell?, bA3.out]
      have q2 : w3.cell? ⟨w.heap.size, 2, none⟩ = some (.slice none 0 0) := by simp [World.cell?, bA3.out]
      clear hB3 hRX htr
      go_wp2
      refine bodyPost_ret (v := .tuple #[.agg #[.slice A1 s'.ex.length c1, .slice A3 s'.st.length c3, .slice A4 s'.fn.length c4], .int .i64 0, .int .i64 0]) (by simp [results, Tryz.results15, go_sem, q0, q1, q2]) rfl ?_
      have ho := (((Only.refl w.heap.size w3).set 0 (.slice A1 s'.ex.length c1)).set 1 (.slice A3 s'.st.length c3)).set 2 (.slice A4 s'.fn.length c4)
      have hwl2 := hwl.out
      exact psPost_good HP.out (((HB3.out.setCell (p := ⟨w.heap.size, 0, none⟩) (Nat.le_refl _) _).setCell (p := ⟨w.heap.size, 1, none⟩) (Nat.le_refl _) _).setCell (p := ⟨w.heap.size, 2, none⟩) (Nat.le_refl _) _) (HT3.out.keep (by rw [ho.size]; exact Nat.le_refl _) (fun k _ (hk : w2.heap.size < k) => ho.block k (by omega)) fun _ _ => trivial)

end Go.Proofs.YtccmodefjgjpeaaGreatDoor
