/-
  DERIVED. GIVEN WITH THE SEED: THE CARDS: each row of YtdknejmhlfpdfaaGreatDoorRows.lean that lists a variable, with what it lists TIED to the program's text (the seventh form; the later family's looks); each row that meets fmt, with fmt's text TOLD by the authors' own Lean function (tested against real Go, not proved from fmt's source: count such statements apart). THE CARD IS WHAT COUNTS. Prove the row's statement (the work); the ties are given (YtdknejmhlfpdfaaGreatDoorTie.lean); close each card by the builder's one call (the guide's Derived/Test/ToyasCard.lean, 'card_holds'). Laid BY PROGRAM, IN A SANDBOX (cutbox-door.mjs). By AI agents, Wed Nov 11 2026. No macro, syntax, notation, axiom, sorry.
-/
import Derived.Test.YtdknejmhlfpdfaaGreatDoorRows
import GoSem.ClaimSeven
namespace Go.Proofs.YtdknejmhlfpdfaaGreatDoor
namespace Rows

/-- THE TIED CARD OF 'rewindlaw18.OrderParses'. -/
def orderParsesCard : Claim7 := { stood := { row := orderParsesRow, standIns := [], harness := (true, "2c24cf80f19b837640b867bbbea984c30eda7c4495f955e06073792338b5085c"), looks := true }, kinds := [], alts := [], laidByText := true, laidKinds := [.data, .data, .data, .data, .sentinel, .sentinel, .data, .data, .data, .pinned], laidTests := true, laidLooks := .later }
def OrderParsesCardSaid : Prop := Claim7.holds Tryz.pinned (.plain (OpenSpec.ofChange orderParsesSpec)) orderParsesCard

/-- THE TIED CARD OF 'rewindlaw18.OrderGoods'. -/
def orderGoodsCard : Claim7 := { stood := { row := orderGoodsRow, standIns := [], harness := (true, "2c24cf80f19b837640b867bbbea984c30eda7c4495f955e06073792338b5085c"), looks := true }, kinds := [], alts := [], laidByText := true, laidKinds := [.data, .data, .data, .data, .sentinel, .sentinel, .data, .data, .data, .pinned], laidTests := true, laidLooks := .later }
def OrderGoodsCardSaid : Prop := Claim7.holds Tryz.pinned (.plain (OpenSpec.ofChange orderGoodsSpec)) orderGoodsCard

/-- THE SECOND FORM's CARD OF 'rewindlaw18.OrderParses'. -/
def orderParsesUptoCard : Claim7 := { stood := { row := orderParsesUptoRow, standIns := [], harness := (true, "2c24cf80f19b837640b867bbbea984c30eda7c4495f955e06073792338b5085c"), looks := true }, kinds := [], alts := [], laidByText := true, laidKinds := [.data, .data, .data, .data, .sentinel, .sentinel, .data, .data, .data, .pinned], laidTests := true, laidLooks := .later }
def OrderParsesUptoCardSaid : Prop := Claim7.holds Tryz.pinned (.plain (OpenSpec.upto orderParsesSpec)) orderParsesUptoCard

/-- THE SECOND FORM's CARD OF 'rewindlaw18.OrderGoods'. -/
def orderGoodsUptoCard : Claim7 := { stood := { row := orderGoodsUptoRow, standIns := [], harness := (true, "2c24cf80f19b837640b867bbbea984c30eda7c4495f955e06073792338b5085c"), looks := true }, kinds := [], alts := [], laidByText := true, laidKinds := [.data, .data, .data, .data, .sentinel, .sentinel, .data, .data, .data, .pinned], laidTests := true, laidLooks := .later }
def OrderGoodsUptoCardSaid : Prop := Claim7.holds Tryz.pinned (.plain (OpenSpec.upto orderGoodsSpec)) orderGoodsUptoCard
end Rows
end Go.Proofs.YtdknejmhlfpdfaaGreatDoor
