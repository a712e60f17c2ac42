/-
  code: a procedure's heights are found (find).
-/
import Derived.Test.YtbhlockoeiedcaaGreatDoorCoK
import Derived.Deep.LoopGhost
namespace Go.Proofs.YtbhlockoeiedcaaGreatDoor
open Go.RowKit

theorem ownCut {w : World} {base n g cap : Nat} {e : TypeId} {xs : List Value} {x : Value} (h : w.ownsRow base e 1 (.slice (some ⟨g, 0, none⟩) (n + 1) cap) (n + 1) (xs ++ [x])) : w.ownsRow base e 1 (.slice (some ⟨g, 0, none⟩) n cap) n xs := by
  have hl : xs.length = n := by have := h.1; simp at this; omega
  rcases h.2 with ⟨h0, _⟩ | ⟨g', cap', cur, hv, hb, hg, h1, h2, h3, h4⟩
  · cases h0
  · injection hv with e1 e2 e3
    injection e1 with e1
    injection e1 with e1
    subst e1 e3
    refine ⟨by omega, .inr ⟨g, cap, cur, rfl, hb, hg, by omega, h2, h3, ?_⟩⟩
    have h5 := congrArg (List.take n) h4
    rw [List.take_take, Nat.min_eq_left (by omega), List.take_append_of_le_length (by omega), List.take_of_length_le (by omega : xs.length ≤ n)] at h5
    rw [Nat.mul_one]
    exact h5
theorem ownForm {w : World} {base n : Nat} {e : TypeId} {v : Value} {xs : List Value} (h : w.ownsRow base e 1 v (n + 1) xs) : ∃ g cap, v = .slice (some ⟨g, 0, none⟩) (n + 1) cap ∧ base ≤ g ∧ n + 1 ≤ cap ∧ cap ≤ maxLen ∧ ∀ j u, xs[j]? = some u → w.cell? ⟨g, j, none⟩ = some u := by
  have h' := h
  rcases h.2 with ⟨_, h0⟩ | ⟨g, cap, cur, rfl, hb, hg, h1, h2, h3, h4⟩
  · omega
  · refine ⟨g, cap, rfl, hb, h1, h2, fun j u hu => ?_⟩
    have := h'.cells (g := g) rfl j u hu
    rwa [Addr.add_lit, Nat.zero_add] at this

section
variable {c : CoM} {A A2 : Option Addr} {c1 c2 : Nat} {p : PrM} {q gH f : Nat} {hs : List Int} {vW : Value} {ws : List Nat} {w : World}
theorem Fd.pop {g cap a : Nat} (h : Fd c A c1 A2 c2 p q gH f hs (.slice (some ⟨g, 0, none⟩) (ws.length + 1) cap) (ws ++ [a]) w) : Fd c A c1 A2 c2 p q gH f hs (.slice (some ⟨g, 0, none⟩) ws.length cap) ws (w.setCell ⟨f, 9, none⟩ (.slice (some ⟨g, 0, none⟩) ws.length cap)) ∧ FK gH f w (w.setCell ⟨f, 9, none⟩ (.slice (some ⟨g, 0, none⟩) ws.length cap)) := by
  have hl := h.lt
  have hf := h.flt
  have hk : ∀ k, k ≠ f → (w.setCell ⟨f, 9, none⟩ (.slice (some ⟨g, 0, none⟩) ws.length cap)).heap[k]? = w.heap[k]? := fun k hk => setNe w f 9 _ k hk
  have hw := h.wait
  rw [List.length_append, List.length_singleton, wsL_snoc] at hw
  have hw2 := ownCut hw
  refine ⟨⟨?_, (hk gH (by omega)).trans h.hts, own_keepC hw2 fun g' hg' => hk g' (by have := (own_ltC hw2 g' hg').1; omega), ?_, ?_, h.lt, h.len, h.few⟩, rfl, rfl, rfl, by simp, fun k h1 _ => hk k (by omega)⟩
  · rw [setAt w f 9 _ _ _ _ h.box]; rfl
  · exact h.co.keep fun b o hb => World.cell?_of_block (a := ⟨b, o, none⟩) (hk b (by omega))
  · exact h.shp.at' (fun o => World.cell?_of_block (a := ⟨0, o, none⟩) (hk 0 (by omega))) (by simp; omega)

/-- What find leaves. -/
def FindP (c : CoM) (_A : Option Addr) (_c1 : Nat) (_A2 : Option Addr) (_c2 : Nat) (_p : PrM) (_q gH f F T : Nat) (hs0 : List Int) (w : World) (e : Ending) (w' : World) : Prop :=
  ∃ b : Bool, e = .returned (.bool b) ∧ FK gH f w w' ∧ (b = true → ∃ hs, w'.heap[gH]? = some (.cells (intsL hs).toArray 3 (0, 0)) ∧ hs.length = c.is.length ∧ HtsP c F T hs ∧ ∀ i, ¬ (F ≤ i ∧ i < T) → hAt hs i = hAt hs0 i) ∧ (b = false → Wrong c F T)
structure FI (c : CoM) (A : Option Addr) (c1 : Nat) (A2 : Option Addr) (c2 : Nat) (p : PrM) (q gH f F T : Nat) (hs0 : List Int) (b : Bool) (hs : List Int) (vW : Value) (ws : List Nat) (gk : Nat) (w w' : World) : Prop where
  fk : FK gH f w w'
  fd : Fd c A c1 A2 c2 p q gH f hs vW ws w'
  yes : b = true → Fnd c F T hs0 hs ws [] ∧ 2 * unset hs + ws.length ≤ gk ∧ gk ≤ 300000
  no : b = false → Wrong c F T

set_option maxRecDepth 100000 in
set_option maxHeartbeats 4000000 in
theorem find_calls (hs0 : List Int) (h : Fd c A c1 A2 c2 p q gH f hs0 (.slice none 0 0) [] w) (F T : Nat) (hF : p.frm = (F : Int)) (hT : p.to = (T : Int)) (hFT : F < T) (hl : T ≤ c.is.length) (hp : ∀ y ∈ c.ps, prOk y) (hb : ∀ x ∈ body c p, inOk p c.ps.length x) (h0 : ∀ i, F ≤ i → i < T → hAt hs0 i = -1) :
    Calls Tryz.prog 26 #[.pointer (some ⟨f, 0, none⟩)] w (FindP c A c1 A2 c2 p q gH f F T hs0 w) := by
  have hcells := h.cells
  obtain ⟨_, _, d3, _⟩ := hcells
  rw [hF] at d3
  obtain ⟨hM, hFnd⟩ := fnd_start (c := c) hFT hl h.len h0
  have HL := Lib.hid (lead_calls h T F 0 hT hl (by simp))
  rw [hM] at HL
  have hlen := h.len
  have hun : unset (hs0.set F 0) ≤ hs0.length := by
    have := List.countP_le_length (p := fun x : Int => x == -1) (l := hs0.set F 0)
    rw [List.length_set] at this
    exact this
  have hfew := h.few
  have HSTART : Hid (∀ vW' W, Fd c A c1 A2 c2 p q gH f (hs0.set F 0) vW' [F] W → FK gH f w W → FI c A c1 A2 c2 p q gH f F T hs0 true (hs0.set F 0) vW' [F] (2 * hs0.length + 1) w W) := Lib.hid fun vW' W h1 h2 => ⟨h2, h1, fun _ => ⟨hFnd, by simp; omega, by omega⟩, fun e => (by cases e)⟩
  have HFROM : Hid (∀ (hs' : List Int) (g' cap' : Nat) (ws' : List Nat) (a : Nat) (W : World) (gk : Nat), FI c A c1 A2 c2 p q gH f F T hs0 true hs' (.slice (some ⟨g', 0, none⟩) (ws'.length + 1) cap') (ws' ++ [a]) gk w W → Calls Tryz.prog 52 #[.pointer (some ⟨f, 0, none⟩), .int .i64 (a : Int)] (W.setCell ⟨f, 9, none⟩ (.slice (some ⟨g', 0, none⟩) ws'.length cap')) (fun e w' => ∃ b hs2 vW2 ws2, e = .returned (.bool b) ∧ FI c A c1 A2 c2 p q gH f F T hs0 b hs2 vW2 ws2 (gk - 1) w w' ∧ 1 ≤ gk)) := Lib.hid fun hs' g' cap' ws' a W gk hI => by
    obtain ⟨hn, hgk, hg3⟩ := hI.yes rfl
    obtain ⟨hfd, hfk⟩ := hI.fd.pop
    obtain ⟨m1, m2, m3⟩ := hn.wait a (by simp)
    have hmet := (hn.met a m1 m2).1
    have hokk := fromM_ok hl hF hT hb hn
    rw [List.length_append, List.length_singleton] at hgk
    refine (leadFrom_calls hfd F T hF hT hl hp a (by omega) (hb _ (ins_body hF hT hl m1 m2)) (by omega) (by omega)).mono ?_
    rintro e w' ⟨he, vW', hfd', hfk'⟩
    refine ⟨_, _, vW', _, he, ⟨(hI.fk.trans hfk).trans hfk', hfd', fun hy => ?_, fun hno => hokk.1 hno⟩, by omega⟩
    obtain ⟨k1, k2⟩ := hokk.2 hy
    exact ⟨k2, by omega, by omega⟩
  have HEND : Hid (∀ (hs' : List Int) (vW' : Value) (gk : Nat) (W : World), FI c A c1 A2 c2 p q gH f F T hs0 true hs' vW' [] gk w W → FindP c A c1 A2 c2 p q gH f F T hs0 w (.returned (.bool true)) W) := Lib.hid fun hs' vW' gk W hI => by
    obtain ⟨hn, _, _⟩ := hI.yes rfl
    exact ⟨true, rfl, hI.fk, fun _ => ⟨hs', hI.fd.hts, hn.len, hn.hts, hn.out⟩, fun e => (by cases e)⟩
  clear hlen hFnd hM hT hF hb hp hun h h0
  go_enter Tryz.func26, Tryz.ntmps26
  go_wp2_with (go_at_call 51; refine HL.out.mono ?_; rintro e w1 ⟨rfl, vW1, hfd1, hfk1⟩; have HI1 := Lib.hid (HSTART.out vW1 w1 hfd1 hfk1); clear hfd1 hfk1)
  clear HSTART HL d3
  go_loopg [3] (2 * hs0.length + 1) (fun gk v wr => ∃ b hs' vW' ws', v = .bool b ∧ Hid (FI c A c1 A2 c2 p q gH f F T hs0 b hs' vW' ws' gk w wr))
  case atStart => exact ⟨true, _, _, _, rfl, HI1⟩
  case round =>
    obtain ⟨b, hs', vW', ws', rfl, HI⟩ := hrel
    cases b with
    | false =>
      go_wp2
      go_ret
      exact ⟨false, rfl, HI.out.fk, fun e => (by cases e), fun _ => HI.out.no rfl⟩
    | true =>
      rcases List.eq_nil_or_concat ws' with rfl | ⟨ws2, a, rfl⟩
      · have hwt := HI.out.fd.wait
        obtain ⟨A9, c9, rfl⟩ := own_sliceC hwt
        obtain ⟨_, _, _, _, _, d9, _⟩ := HI.out.fd.cells
        have HE := Lib.hid (HEND.out _ _ _ _ HI.out)
        clear HFROM hwt
        go_wp2
        go_ret
        exact HE.out
      · rw [List.concat_eq_append] at HI
        have hwt := HI.out.fd.wait
        rw [List.length_append, List.length_singleton] at hwt
        obtain ⟨g, cap, rfl, hbg, hnc, hcm, hcl⟩ := ownForm hwt
        have ha := hcl ws2.length (.int .i64 (a : Int)) (by rw [wsL_snoc, List.getElem?_append_right (by simp [wsL])]; simp [wsL])
        obtain ⟨_, _, _, _, _, d9, dfz⟩ := HI.out.fd.cells
        have dfz := dfz 9
        have HFR := Lib.hid (HFROM.out _ _ _ _ _ _ _ HI.out)
        generalize hN : ws2.length = N at *
        have HNN := Lib.hid hN
        have k0 : (0 : Int) ≤ (N : Int) := by omega
        have k1 : (N : Int) < (N : Int) + 1 := by omega
        have k2 : (N : Int) ≤ (cap : Int) := by omega
        have k3 : (N : Int) + 1 ≤ 300001 := by
          have := (HI.out.yes rfl).2
          rw [List.length_append, List.length_singleton, HNN.out] at this
          omega
        clear HFROM HEND hwt hcl hN HI hbg
        go_wp2_with (go_at_call 52; refine HFR.out.mono ?_; rintro e w5 ⟨b5, hs5, vW5, ws5, rfl, hI5, hgk⟩; have HI5 := Lib.hid hI5; clear hI5)
        go_roundg (gk - 1)
        case measure => omega
        case rel => exact ⟨b5, hs5, vW5, ws5, rfl, HI5⟩
end

end Go.Proofs.YtbhlockoeiedcaaGreatDoor
