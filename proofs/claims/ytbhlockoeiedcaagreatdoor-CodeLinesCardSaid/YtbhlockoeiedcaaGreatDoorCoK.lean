/-
  code: an instruction leads to those that may come next (leadFrom): all.
-/
import Derived.Test.YtbhlockoeiedcaaGreatDoorCoJl
import Derived.Test.YtbhlockoeiedcaaGreatDoorCoJr
import Derived.Test.YtbhlockoeiedcaaGreatDoorCoJj
import Derived.Test.YtbhlockoeiedcaaGreatDoorCoJn
import Derived.Test.YtbhlockoeiedcaaGreatDoorCoJty
import Derived.Test.YtbhlockoeiedcaaGreatDoorCoJtx
import Derived.Test.YtbhlockoeiedcaaGreatDoorCoJay
import Derived.Test.YtbhlockoeiedcaaGreatDoorCoJax
import Derived.Test.YtbhlockoeiedcaaGreatDoorCoJby
import Derived.Test.YtbhlockoeiedcaaGreatDoorCoJbx
namespace Go.Proofs.YtbhlockoeiedcaaGreatDoor
open Go.RowKit
section
variable {c : CoM} {A A2 : Option Addr} {c1 c2 : Nat} {p : PrM} {q gH f : Nat} {hs : List Int} {vW : Value} {ws : List Nat} {w : World}

theorem leadFrom_calls (h : Fd c A c1 A2 c2 p q gH f hs vW ws w) (F T : Nat) (hF : p.frm = (F : Int)) (hT : p.to = (T : Int)) (hl : T ≤ c.is.length) (hp : ∀ y ∈ c.ps, prOk y) (a : Nat) (ha : a < c.is.length) (hok : inOk p c.ps.length (insAt c a)) (h0 : 0 ≤ hAt hs a ∧ hAt hs a ≤ 200) (hw : ws.length ≤ 999990) :
    Calls Tryz.prog 52 #[.pointer (some ⟨f, 0, none⟩), .int .i64 (a : Int)] w (LeadP c A c1 A2 c2 p q gH f (fromM c T hs ws a) w) := by
  by_cases hge : hAt hs a < takesM c (insAt c a)
  · exact from_low h F T hF hT hl hp a ha hok h0 hw hge
  · by_cases h27 : (insAt c a).op = 27
    · exact from_ret h F T hF hT hl hp a ha hok h0 hw hge h27
    · by_cases h22 : (insAt c a).op = 22
      · exact from_jump h F T hF hT hl hp a ha hok h0 hw hge h22
      · by_cases h23 : (insAt c a).op = 23
        · obtain ⟨k, hk⟩ := inOk_place hok hF (by omega)
          by_cases hR : (leadM T hs ws (k, hAt hs a - takesM c (insAt c a) + leavesM c (insAt c a))).1 = true
          · exact from_two_yes h F T hF hT hl hp a ha hok h0 hw hge h23 k hk hR
          · exact from_two_no h F T hF hT hl hp a ha hok h0 hw hge h23 k hk hR
        · by_cases h24 : (insAt c a).op = 24
          · obtain ⟨k, hk⟩ := inOk_place hok hF (by omega)
            by_cases hR : (leadM T hs ws (k, hAt hs a)).1 = true
            · exact from_and24_yes h F T hF hT hl hp a ha hok h0 hw hge h24 k hk hR
            · exact from_and24_no h F T hF hT hl hp a ha hok h0 hw hge h24 k hk hR
          by_cases h25 : (insAt c a).op = 25
          · obtain ⟨k, hk⟩ := inOk_place hok hF (by omega)
            by_cases hR : (leadM T hs ws (k, hAt hs a)).1 = true
            · exact from_and25_yes h F T hF hT hl hp a ha hok h0 hw hge h25 k hk hR
            · exact from_and25_no h F T hF hT hl hp a ha hok h0 hw hge h25 k hk hR
          · exact from_next h F T hF hT hl hp a ha hok h0 hw hge ⟨h27, by omega⟩
end

end Go.Proofs.YtbhlockoeiedcaaGreatDoor
