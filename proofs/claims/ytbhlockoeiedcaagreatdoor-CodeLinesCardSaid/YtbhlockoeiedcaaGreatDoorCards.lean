/-
  DERIVED. GIVEN WITH THE SEED: THE CARDS: each row of YtbhlockoeiedcaaGreatDoorRows.lean that lists a variable, with what it lists TIED to the program's text (the seventh form; the later family's looks); each row that meets fmt, with fmt's text TOLD by the authors' own Lean function (tested against real Go, not proved from fmt's source: count such statements apart). THE CARD IS WHAT COUNTS. Prove the row's statement (the work); the ties are given (YtbhlockoeiedcaaGreatDoorTie.lean); close each card by the builder's one call (the guide's Derived/Test/ToyasCard.lean, 'card_holds'). Laid BY PROGRAM, IN A SANDBOX (cutbox-door.mjs). By AI agents, Wed Nov 11 2026. No macro, syntax, notation, axiom, sorry.
-/
import Derived.Test.YtbhlockoeiedcaaGreatDoorRows
import GoSem.ClaimSeven
namespace Go.Proofs.YtbhlockoeiedcaaGreatDoor
namespace Rows

/-- THE TIED CARD OF 'rewindlaw10.CodeGoods'. -/
def codeGoodsCard : Claim7 := { stood := { row := codeGoodsRow, standIns := [], harness := (true, "b4b1c29f4f754abb6b2f10ef2d1c8a22d82412bc2b56c184e2170703d41dc9ae"), looks := true }, kinds := [], alts := [], laidByText := true, laidKinds := [.data, .data, .data, .data, .sentinel, .sentinel, .data, .data, .data, .pinned], laidTests := true, laidLooks := .later }
def CodeGoodsCardSaid : Prop := Claim7.holds Tryz.pinned (.plain (OpenSpec.ofChange codeGoodsSpec)) codeGoodsCard

/-- THE TIED CARD OF 'rewindlaw10.CodePrints'. -/
def codePrintsCard : Claim7 := { stood := { row := codePrintsRow, standIns := [], harness := (true, "b4b1c29f4f754abb6b2f10ef2d1c8a22d82412bc2b56c184e2170703d41dc9ae"), looks := true }, kinds := [], alts := [], laidByText := true, laidKinds := [.data, .data, .data, .data, .sentinel, .sentinel, .data, .data, .data, .pinned], laidTests := true, laidLooks := .later }
def CodePrintsCardSaid : Prop := Claim7.holds Tryz.pinned (.plain (OpenSpec.ofChange codePrintsSpec)) codePrintsCard

/-- THE TIED CARD OF 'rewindlaw10.CodeParses'. -/
def codeParsesCard : Claim7 := { stood := { row := codeParsesRow, standIns := [], harness := (true, "b4b1c29f4f754abb6b2f10ef2d1c8a22d82412bc2b56c184e2170703d41dc9ae"), looks := true }, kinds := [], alts := [], laidByText := true, laidKinds := [.data, .data, .data, .data, .sentinel, .sentinel, .data, .data, .data, .pinned], laidTests := true, laidLooks := .later }
def CodeParsesCardSaid : Prop := Claim7.holds Tryz.pinned (.plain (OpenSpec.ofChange codeParsesSpec)) codeParsesCard

/-- THE TIED CARD OF 'rewindlaw10.CodeLines'. -/
def codeLinesCard : Claim7 := { stood := { row := codeLinesRow, standIns := [], harness := (true, "b4b1c29f4f754abb6b2f10ef2d1c8a22d82412bc2b56c184e2170703d41dc9ae"), looks := true }, kinds := [], alts := [], laidByText := true, laidKinds := [.data, .data, .data, .data, .sentinel, .sentinel, .data, .data, .data, .pinned], laidTests := true, laidLooks := .later }
def CodeLinesCardSaid : Prop := Claim7.holds Tryz.pinned (.plain (OpenSpec.ofChange codeLinesSpec)) codeLinesCard

/-- THE TIED CARD OF 'rewindlaw11.MakeTwice'. -/
def makeTwiceCard : Claim7 := { stood := { row := makeTwiceRow, standIns := [], harness := (true, "b4b1c29f4f754abb6b2f10ef2d1c8a22d82412bc2b56c184e2170703d41dc9ae"), looks := true }, kinds := [], alts := [], laidByText := true, laidKinds := [.data, .data, .data, .data, .sentinel, .sentinel, .data, .data, .data, .pinned], laidTests := true, laidLooks := .later }
def MakeTwiceCardSaid : Prop := Claim7.holds Tryz.pinned (.plain (OpenSpec.ofChange makeTwiceSpec)) makeTwiceCard

/-- THE SECOND FORM's CARD OF 'rewindlaw10.CodeGoods'. -/
def codeGoodsUptoCard : Claim7 := { stood := { row := codeGoodsUptoRow, standIns := [], harness := (true, "b4b1c29f4f754abb6b2f10ef2d1c8a22d82412bc2b56c184e2170703d41dc9ae"), looks := true }, kinds := [], alts := [], laidByText := true, laidKinds := [.data, .data, .data, .data, .sentinel, .sentinel, .data, .data, .data, .pinned], laidTests := true, laidLooks := .later }
def CodeGoodsUptoCardSaid : Prop := Claim7.holds Tryz.pinned (.plain (OpenSpec.upto codeGoodsSpec)) codeGoodsUptoCard

/-- THE SECOND FORM's CARD OF 'rewindlaw10.CodePrints'. -/
def codePrintsUptoCard : Claim7 := { stood := { row := codePrintsUptoRow, standIns := [], harness := (true, "b4b1c29f4f754abb6b2f10ef2d1c8a22d82412bc2b56c184e2170703d41dc9ae"), looks := true }, kinds := [], alts := [], laidByText := true, laidKinds := [.data, .data, .data, .data, .sentinel, .sentinel, .data, .data, .data, .pinned], laidTests := true, laidLooks := .later }
def CodePrintsUptoCardSaid : Prop := Claim7.holds Tryz.pinned (.plain (OpenSpec.upto codePrintsSpec)) codePrintsUptoCard

/-- THE SECOND FORM's CARD OF 'rewindlaw10.CodeParses'. -/
def codeParsesUptoCard : Claim7 := { stood := { row := codeParsesUptoRow, standIns := [], harness := (true, "b4b1c29f4f754abb6b2f10ef2d1c8a22d82412bc2b56c184e2170703d41dc9ae"), looks := true }, kinds := [], alts := [], laidByText := true, laidKinds := [.data, .data, .data, .data, .sentinel, .sentinel, .data, .data, .data, .pinned], laidTests := true, laidLooks := .later }
def CodeParsesUptoCardSaid : Prop := Claim7.holds Tryz.pinned (.plain (OpenSpec.upto codeParsesSpec)) codeParsesUptoCard

/-- THE SECOND FORM's CARD OF 'rewindlaw10.CodeLines'. -/
def codeLinesUptoCard : Claim7 := { stood := { row := codeLinesUptoRow, standIns := [], harness := (true, "b4b1c29f4f754abb6b2f10ef2d1c8a22d82412bc2b56c184e2170703d41dc9ae"), looks := true }, kinds := [], alts := [], laidByText := true, laidKinds := [.data, .data, .data, .data, .sentinel, .sentinel, .data, .data, .data, .pinned], laidTests := true, laidLooks := .later }
def CodeLinesUptoCardSaid : Prop := Claim7.holds Tryz.pinned (.plain (OpenSpec.upto codeLinesSpec)) codeLinesUptoCard

/-- THE SECOND FORM's CARD OF 'rewindlaw11.MakeTwice'. -/
def makeTwiceUptoCard : Claim7 := { stood := { row := makeTwiceUptoRow, standIns := [], harness := (true, "b4b1c29f4f754abb6b2f10ef2d1c8a22d82412bc2b56c184e2170703d41dc9ae"), looks := true }, kinds := [], alts := [], laidByText := true, laidKinds := [.data, .data, .data, .data, .sentinel, .sentinel, .data, .data, .data, .pinned], laidTests := true, laidLooks := .later }
def MakeTwiceUptoCardSaid : Prop := Claim7.holds Tryz.pinned (.plain (OpenSpec.upto makeTwiceSpec)) makeTwiceUptoCard
end Rows
end Go.Proofs.YtbhlockoeiedcaaGreatDoor
