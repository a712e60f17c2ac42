/-
  No cell of these rows narrows 'for every input' (looked for: loops, veiled, ifaces, maps, wideKeys, modest, calm, conditions, laid).
  DERIVED. THE GIVEN ROWS OF THIS SEAT. 8 by the template 'for every input the law returns true; each argument reads behind the call as it read before'; 0 by the template 'total and deterministic' (their statements: YtjimkfniahndhaaTotals.lean).
  GIVEN WITH THE SEED: the statements are not yours to turn. If you find one false, say at which input.
  Laid BY PROGRAM, IN A SANDBOX (cutbox-rows.mjs): the forced cells as the released guide's own fill.sh prints them over the translation 36345554a79293c9… (all of the seat's roots in one cut). By AI agents, Wed Nov 11 2026. No macro, syntax, notation, axiom, sorry.
-/
import Derived.Test.YtjimkfniahndhaaChecked
import GoSem.Claim
import GoSem.ClaimJoined
import GoSem.ClaimMapViews
import Derived.JoinedTies
import Derived.KernelRfl
namespace Go.Proofs.Ytjimkfniahndhaa
/- THE CELL 'sum', in the pinned program and in every row, IS THE sha256 OF THE DUMP (.gsa) THAT YtjimkfniahndhaaProg.lean LOADS. Nothing in Lean hashes anything: it is a label: what it is worth is what the hold of that sum in a sandbox is worth. -/
noncomputable def Try.pinned : Pinned := { name := "ytjimkfniahndhaa", sum := "36345554a79293c9271fc08f84de2ceafefc8a4f2c04338a274ee6eea182e842", checked := Try.checked }
namespace Rows
def none {H : Type} : Left H := { results := [], args := [] }

/-- 'rewindlaw01.PagePlaces': WHATEVER THE INPUT: true; the input reads as it did. -/
def pagePlacesSpec : ChangeSpec := { name := "pagePlaces", fn := fun _ => fun
  | [d1, d2] => { results := [.lit (.bool true)], args := [d1, d2] }
  | _ => none }
def pagePlacesRow : OpenClaim := { program := "ytjimkfniahndhaa", sum := "36345554a79293c9271fc08f84de2ceafefc8a4f2c04338a274ee6eea182e842", func := "rewind/rewindlaw01.PagePlaces", spec := "pagePlaces", unfollowed := true, recurses := true, apart := false }
def PagePlacesSaid : Prop := pagePlacesRow.holds Try.pinned (OpenSpec.ofChange pagePlacesSpec)

/-- ITS FALSE NEIGHBOUR: 'it returns false'. Refute it at one input. -/
def pagePlacesWrong : ChangeSpec := { name := "pagePlaces", fn := fun _ => fun
  | [d1, d2] => { results := [.lit (.bool false)], args := [d1, d2] }
  | _ => none }
def PagePlacesWrongFalsely : Prop := pagePlacesRow.holds Try.pinned (OpenSpec.ofChange pagePlacesWrong)

/-- 'rewindlaw01.PageAts': WHATEVER THE INPUT: true; the input reads as it did. -/
def pageAtsSpec : ChangeSpec := { name := "pageAts", fn := fun _ => fun
  | [d1, d2, d3] => { results := [.lit (.bool true)], args := [d1, d2, d3] }
  | _ => none }
def pageAtsRow : OpenClaim := { program := "ytjimkfniahndhaa", sum := "36345554a79293c9271fc08f84de2ceafefc8a4f2c04338a274ee6eea182e842", func := "rewind/rewindlaw01.PageAts", spec := "pageAts", unfollowed := true, recurses := true, apart := false }
def PageAtsSaid : Prop := pageAtsRow.holds Try.pinned (OpenSpec.ofChange pageAtsSpec)

/-- ITS FALSE NEIGHBOUR: 'it returns false'. Refute it at one input. -/
def pageAtsWrong : ChangeSpec := { name := "pageAts", fn := fun _ => fun
  | [d1, d2, d3] => { results := [.lit (.bool false)], args := [d1, d2, d3] }
  | _ => none }
def PageAtsWrongFalsely : Prop := pageAtsRow.holds Try.pinned (OpenSpec.ofChange pageAtsWrong)

/-- 'rewindlaw01.PageLines': WHATEVER THE INPUT: true; the input reads as it did. -/
def pageLinesSpec : ChangeSpec := { name := "pageLines", fn := fun _ => fun
  | [d1, d2] => { results := [.lit (.bool true)], args := [d1, d2] }
  | _ => none }
def pageLinesRow : OpenClaim := { program := "ytjimkfniahndhaa", sum := "36345554a79293c9271fc08f84de2ceafefc8a4f2c04338a274ee6eea182e842", func := "rewind/rewindlaw01.PageLines", spec := "pageLines", unfollowed := true, recurses := true, apart := false }
def PageLinesSaid : Prop := pageLinesRow.holds Try.pinned (OpenSpec.ofChange pageLinesSpec)

/-- ITS FALSE NEIGHBOUR: 'it returns false'. Refute it at one input. -/
def pageLinesWrong : ChangeSpec := { name := "pageLines", fn := fun _ => fun
  | [d1, d2] => { results := [.lit (.bool false)], args := [d1, d2] }
  | _ => none }
def PageLinesWrongFalsely : Prop := pageLinesRow.holds Try.pinned (OpenSpec.ofChange pageLinesWrong)

/-- 'rewindlaw01.PageBlanks': WHATEVER THE INPUT: true; the input reads as it did. -/
def pageBlanksSpec : ChangeSpec := { name := "pageBlanks", fn := fun _ => fun
  | [d1, d2] => { results := [.lit (.bool true)], args := [d1, d2] }
  | _ => none }
def pageBlanksRow : OpenClaim := { program := "ytjimkfniahndhaa", sum := "36345554a79293c9271fc08f84de2ceafefc8a4f2c04338a274ee6eea182e842", func := "rewind/rewindlaw01.PageBlanks", spec := "pageBlanks", unfollowed := true, recurses := true, apart := false }
def PageBlanksSaid : Prop := pageBlanksRow.holds Try.pinned (OpenSpec.ofChange pageBlanksSpec)

/-- ITS FALSE NEIGHBOUR: 'it returns false'. Refute it at one input. -/
def pageBlanksWrong : ChangeSpec := { name := "pageBlanks", fn := fun _ => fun
  | [d1, d2] => { results := [.lit (.bool false)], args := [d1, d2] }
  | _ => none }
def PageBlanksWrongFalsely : Prop := pageBlanksRow.holds Try.pinned (OpenSpec.ofChange pageBlanksWrong)

/-- 'rewindlaw01.PageCuts': WHATEVER THE INPUT: true; the input reads as it did. -/
def pageCutsSpec : ChangeSpec := { name := "pageCuts", fn := fun _ => fun
  | [d1, d2] => { results := [.lit (.bool true)], args := [d1, d2] }
  | _ => none }
def pageCutsRow : OpenClaim := { program := "ytjimkfniahndhaa", sum := "36345554a79293c9271fc08f84de2ceafefc8a4f2c04338a274ee6eea182e842", func := "rewind/rewindlaw01.PageCuts", spec := "pageCuts", unfollowed := true, recurses := true, apart := false }
def PageCutsSaid : Prop := pageCutsRow.holds Try.pinned (OpenSpec.ofChange pageCutsSpec)

/-- ITS FALSE NEIGHBOUR: 'it returns false'. Refute it at one input. -/
def pageCutsWrong : ChangeSpec := { name := "pageCuts", fn := fun _ => fun
  | [d1, d2] => { results := [.lit (.bool false)], args := [d1, d2] }
  | _ => none }
def PageCutsWrongFalsely : Prop := pageCutsRow.holds Try.pinned (OpenSpec.ofChange pageCutsWrong)

/-- 'rewindlaw01.PageLinesAt': WHATEVER THE INPUT: true; the input reads as it did. -/
def pageLinesAtSpec : ChangeSpec := { name := "pageLinesAt", fn := fun _ => fun
  | [d1, d2, d3] => { results := [.lit (.bool true)], args := [d1, d2, d3] }
  | _ => none }
def pageLinesAtRow : OpenClaim := { program := "ytjimkfniahndhaa", sum := "36345554a79293c9271fc08f84de2ceafefc8a4f2c04338a274ee6eea182e842", func := "rewind/rewindlaw01.PageLinesAt", spec := "pageLinesAt", unfollowed := true, recurses := true, apart := false }
def PageLinesAtSaid : Prop := pageLinesAtRow.holds Try.pinned (OpenSpec.ofChange pageLinesAtSpec)

/-- ITS FALSE NEIGHBOUR: 'it returns false'. Refute it at one input. -/
def pageLinesAtWrong : ChangeSpec := { name := "pageLinesAt", fn := fun _ => fun
  | [d1, d2, d3] => { results := [.lit (.bool false)], args := [d1, d2, d3] }
  | _ => none }
def PageLinesAtWrongFalsely : Prop := pageLinesAtRow.holds Try.pinned (OpenSpec.ofChange pageLinesAtWrong)

/-- 'rewindlaw01.PageGoods': WHATEVER THE INPUT: true; the input reads as it did. -/
def pageGoodsSpec : ChangeSpec := { name := "pageGoods", fn := fun _ => fun
  | [d1, d2] => { results := [.lit (.bool true)], args := [d1, d2] }
  | _ => none }
def pageGoodsRow : OpenClaim := { program := "ytjimkfniahndhaa", sum := "36345554a79293c9271fc08f84de2ceafefc8a4f2c04338a274ee6eea182e842", func := "rewind/rewindlaw01.PageGoods", spec := "pageGoods", unfollowed := true, recurses := true, apart := false }
def PageGoodsSaid : Prop := pageGoodsRow.holds Try.pinned (OpenSpec.ofChange pageGoodsSpec)

/-- ITS FALSE NEIGHBOUR: 'it returns false'. Refute it at one input. -/
def pageGoodsWrong : ChangeSpec := { name := "pageGoods", fn := fun _ => fun
  | [d1, d2] => { results := [.lit (.bool false)], args := [d1, d2] }
  | _ => none }
def PageGoodsWrongFalsely : Prop := pageGoodsRow.holds Try.pinned (OpenSpec.ofChange pageGoodsWrong)

/-- 'rewindlaw01.PageJoins': WHATEVER THE INPUT: true; the input reads as it did. -/
def pageJoinsSpec : ChangeSpec := { name := "pageJoins", fn := fun _ => fun
  | [d1, d2] => { results := [.lit (.bool true)], args := [d1, d2] }
  | _ => none }
def pageJoinsRow : OpenClaim := { program := "ytjimkfniahndhaa", sum := "36345554a79293c9271fc08f84de2ceafefc8a4f2c04338a274ee6eea182e842", func := "rewind/rewindlaw01.PageJoins", spec := "pageJoins", unfollowed := true, recurses := true, apart := false }
def PageJoinsSaid : Prop := pageJoinsRow.holds Try.pinned (OpenSpec.ofChange pageJoinsSpec)

/-- ITS FALSE NEIGHBOUR: 'it returns false'. Refute it at one input. -/
def pageJoinsWrong : ChangeSpec := { name := "pageJoins", fn := fun _ => fun
  | [d1, d2] => { results := [.lit (.bool false)], args := [d1, d2] }
  | _ => none }
def PageJoinsWrongFalsely : Prop := pageJoinsRow.holds Try.pinned (OpenSpec.ofChange pageJoinsWrong)

/- THE SECOND FORM. 'bulk': how many values and letters a reading holds, each counted each time it is reached (what is shared counts as often as it is met; a slice's spare places count too). A statement '..UptoSaid' is the law's where the arguments, and the package variables that the reading takes, are together of bulk at most 1048576: NARROWER than '..Said'. Prove '..Said' where nothing that the law and all that it calls make is longer than what came in: it says more and counts as full. Else prove '..UptoSaid'. A law counts once. -/
mutual
def uptoBulk {H : Type} : DataW H → Nat
  | .lit (.string bytes) => bytes.length + 1
  | .lit _ => 1
  | .nil => 1
  | .ptr d => uptoBulk d + 1
  | .slice elems spare => uptoBulkAll elems + uptoBulkAll spare + 1
  | .agg parts => uptoBulkAll parts + 1
  | .iface _ d => uptoBulk d + 1
  | .map entries => uptoBulkEntries entries + 1
  | .held _ => 1
def uptoBulkAll {H : Type} : List (DataW H) → Nat
  | [] => 0
  | d :: r => uptoBulk d + uptoBulkAll r
def uptoBulkEntries {H : Type} : List (Lit × DataW H) → Nat
  | [] => 0
  | x :: r => uptoBulkEntry x + uptoBulkEntries r
def uptoBulkEntry {H : Type} : Lit × DataW H → Nat
  | (.string bytes, d) => bytes.length + uptoBulk d + 1
  | (_, d) => uptoBulk d + 1
 end
def uptoSmall : (H : Type) → List (DataW H) → Bool := fun _ ds => decide (uptoBulkAll ds ≤ 1048576)
def OpenSpec.upto (s : _root_.Go.ChangeSpec) : _root_.Go.OpenSpec := { _root_.Go.OpenSpec.ofChange s with cond := some uptoSmall }

/-- 'rewindlaw01.PagePlaces', WHERE WHAT IT READS IS OF BULK AT MOST 1048576: true; the input reads as it did. -/
def pagePlacesUptoRow : OpenClaim := { program := "ytjimkfniahndhaa", sum := "36345554a79293c9271fc08f84de2ceafefc8a4f2c04338a274ee6eea182e842", func := "rewind/rewindlaw01.PagePlaces", spec := "pagePlaces", unfollowed := true, recurses := true, apart := false, narrowed := true }
def PagePlacesUptoSaid : Prop := pagePlacesUptoRow.holds Try.pinned (OpenSpec.upto pagePlacesSpec)

/-- 'rewindlaw01.PageAts', WHERE WHAT IT READS IS OF BULK AT MOST 1048576: true; the input reads as it did. -/
def pageAtsUptoRow : OpenClaim := { program := "ytjimkfniahndhaa", sum := "36345554a79293c9271fc08f84de2ceafefc8a4f2c04338a274ee6eea182e842", func := "rewind/rewindlaw01.PageAts", spec := "pageAts", unfollowed := true, recurses := true, apart := false, narrowed := true }
def PageAtsUptoSaid : Prop := pageAtsUptoRow.holds Try.pinned (OpenSpec.upto pageAtsSpec)

/-- 'rewindlaw01.PageLines', WHERE WHAT IT READS IS OF BULK AT MOST 1048576: true; the input reads as it did. -/
def pageLinesUptoRow : OpenClaim := { program := "ytjimkfniahndhaa", sum := "36345554a79293c9271fc08f84de2ceafefc8a4f2c04338a274ee6eea182e842", func := "rewind/rewindlaw01.PageLines", spec := "pageLines", unfollowed := true, recurses := true, apart := false, narrowed := true }
def PageLinesUptoSaid : Prop := pageLinesUptoRow.holds Try.pinned (OpenSpec.upto pageLinesSpec)

/-- 'rewindlaw01.PageBlanks', WHERE WHAT IT READS IS OF BULK AT MOST 1048576: true; the input reads as it did. -/
def pageBlanksUptoRow : OpenClaim := { program := "ytjimkfniahndhaa", sum := "36345554a79293c9271fc08f84de2ceafefc8a4f2c04338a274ee6eea182e842", func := "rewind/rewindlaw01.PageBlanks", spec := "pageBlanks", unfollowed := true, recurses := true, apart := false, narrowed := true }
def PageBlanksUptoSaid : Prop := pageBlanksUptoRow.holds Try.pinned (OpenSpec.upto pageBlanksSpec)

/-- 'rewindlaw01.PageCuts', WHERE WHAT IT READS IS OF BULK AT MOST 1048576: true; the input reads as it did. -/
def pageCutsUptoRow : OpenClaim := { program := "ytjimkfniahndhaa", sum := "36345554a79293c9271fc08f84de2ceafefc8a4f2c04338a274ee6eea182e842", func := "rewind/rewindlaw01.PageCuts", spec := "pageCuts", unfollowed := true, recurses := true, apart := false, narrowed := true }
def PageCutsUptoSaid : Prop := pageCutsUptoRow.holds Try.pinned (OpenSpec.upto pageCutsSpec)

/-- 'rewindlaw01.PageLinesAt', WHERE WHAT IT READS IS OF BULK AT MOST 1048576: true; the input reads as it did. -/
def pageLinesAtUptoRow : OpenClaim := { program := "ytjimkfniahndhaa", sum := "36345554a79293c9271fc08f84de2ceafefc8a4f2c04338a274ee6eea182e842", func := "rewind/rewindlaw01.PageLinesAt", spec := "pageLinesAt", unfollowed := true, recurses := true, apart := false, narrowed := true }
def PageLinesAtUptoSaid : Prop := pageLinesAtUptoRow.holds Try.pinned (OpenSpec.upto pageLinesAtSpec)

/-- 'rewindlaw01.PageGoods', WHERE WHAT IT READS IS OF BULK AT MOST 1048576: true; the input reads as it did. -/
def pageGoodsUptoRow : OpenClaim := { program := "ytjimkfniahndhaa", sum := "36345554a79293c9271fc08f84de2ceafefc8a4f2c04338a274ee6eea182e842", func := "rewind/rewindlaw01.PageGoods", spec := "pageGoods", unfollowed := true, recurses := true, apart := false, narrowed := true }
def PageGoodsUptoSaid : Prop := pageGoodsUptoRow.holds Try.pinned (OpenSpec.upto pageGoodsSpec)

/-- 'rewindlaw01.PageJoins', WHERE WHAT IT READS IS OF BULK AT MOST 1048576: true; the input reads as it did. -/
def pageJoinsUptoRow : OpenClaim := { program := "ytjimkfniahndhaa", sum := "36345554a79293c9271fc08f84de2ceafefc8a4f2c04338a274ee6eea182e842", func := "rewind/rewindlaw01.PageJoins", spec := "pageJoins", unfollowed := true, recurses := true, apart := false, narrowed := true }
def PageJoinsUptoSaid : Prop := pageJoinsUptoRow.holds Try.pinned (OpenSpec.upto pageJoinsSpec)

end Rows
end Go.Proofs.Ytjimkfniahndhaa
