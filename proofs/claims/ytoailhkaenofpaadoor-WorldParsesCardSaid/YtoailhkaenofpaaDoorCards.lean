/-
  DERIVED. GIVEN WITH THE SEED: THE CARDS: each row of YtoailhkaenofpaaDoorRows.lean that lists a variable, with what it lists TIED to the program's text (the seventh form; the later family's looks); each row that meets fmt, with fmt's text TOLD by the authors' own Lean function (tested against real Go, not proved from fmt's source: count such statements apart). THE CARD IS WHAT COUNTS. Prove the row's statement (the work); the ties are given (YtoailhkaenofpaaDoorTie.lean); close each card by the builder's one call (the guide's Derived/Test/ToyasCard.lean, 'card_holds'). Laid BY PROGRAM, IN A SANDBOX (cutbox-door.mjs). By AI agents, Wed Nov 11 2026. No macro, syntax, notation, axiom, sorry.
-/
import Derived.Test.YtoailhkaenofpaaDoorRows
import GoSem.ClaimSeven
namespace Go.Proofs.YtoailhkaenofpaaDoor
namespace Rows

/-- THE TIED CARD OF 'rewindlaw12.WorldTexts'. -/
def worldTextsCard : Claim7 := { stood := { row := worldTextsRow, standIns := [], harness := (true, "51c2bce2cc481834ddedb1033f100c3339db7ff5b2d4257bc4b43628ea5e39c6"), looks := true }, kinds := [], alts := [], laidByText := true, laidKinds := [.data, .data, .data, .data, .sentinel, .sentinel, .pinned], laidTests := true, laidLooks := .later }
def WorldTextsCardSaid : Prop := Claim7.holds Tryd.pinned (.plain (OpenSpec.ofChange worldTextsSpec)) worldTextsCard

/-- THE TIED CARD OF 'rewindlaw12.WorldParses'. -/
def worldParsesCard : Claim7 := { stood := { row := worldParsesRow, standIns := [], harness := (true, "51c2bce2cc481834ddedb1033f100c3339db7ff5b2d4257bc4b43628ea5e39c6"), looks := true }, kinds := [], alts := [], laidByText := true, laidKinds := [.data, .data, .data, .data, .sentinel, .sentinel, .pinned], laidTests := true, laidLooks := .later }
def WorldParsesCardSaid : Prop := Claim7.holds Tryd.pinned (.plain (OpenSpec.ofChange worldParsesSpec)) worldParsesCard

/-- THE TIED CARD OF 'rewindlaw12.WorldTapes'. -/
def worldTapesCard : Claim7 := { stood := { row := worldTapesRow, standIns := [], harness := (true, "51c2bce2cc481834ddedb1033f100c3339db7ff5b2d4257bc4b43628ea5e39c6"), looks := true }, kinds := [], alts := [], laidByText := true, laidKinds := [.data, .data, .data, .data, .sentinel, .sentinel, .pinned], laidTests := true, laidLooks := .later }
def WorldTapesCardSaid : Prop := Claim7.holds Tryd.pinned (.plain (OpenSpec.ofChange worldTapesSpec)) worldTapesCard

/-- THE TIED CARD OF 'rewindlaw12.WorldOthers'. -/
def worldOthersCard : Claim7 := { stood := { row := worldOthersRow, standIns := [], harness := (true, "51c2bce2cc481834ddedb1033f100c3339db7ff5b2d4257bc4b43628ea5e39c6"), looks := true }, kinds := [], alts := [], laidByText := true, laidKinds := [.data, .data, .data, .data, .sentinel, .sentinel, .pinned], laidTests := true, laidLooks := .later }
def WorldOthersCardSaid : Prop := Claim7.holds Tryd.pinned (.plain (OpenSpec.ofChange worldOthersSpec)) worldOthersCard

/-- THE TIED CARD OF 'rewindlaw12.WorldAlls'. -/
def worldAllsCard : Claim7 := { stood := { row := worldAllsRow, standIns := [], harness := (true, "51c2bce2cc481834ddedb1033f100c3339db7ff5b2d4257bc4b43628ea5e39c6"), looks := true }, kinds := [], alts := [], laidByText := true, laidKinds := [.data, .data, .data, .data, .sentinel, .sentinel, .pinned], laidTests := true, laidLooks := .later }
def WorldAllsCardSaid : Prop := Claim7.holds Tryd.pinned (.plain (OpenSpec.ofChange worldAllsSpec)) worldAllsCard

/-- THE SECOND FORM's CARD OF 'rewindlaw12.WorldTexts'. -/
def worldTextsUptoCard : Claim7 := { stood := { row := worldTextsUptoRow, standIns := [], harness := (true, "51c2bce2cc481834ddedb1033f100c3339db7ff5b2d4257bc4b43628ea5e39c6"), looks := true }, kinds := [], alts := [], laidByText := true, laidKinds := [.data, .data, .data, .data, .sentinel, .sentinel, .pinned], laidTests := true, laidLooks := .later }
def WorldTextsUptoCardSaid : Prop := Claim7.holds Tryd.pinned (.plain (OpenSpec.upto worldTextsSpec)) worldTextsUptoCard

/-- THE SECOND FORM's CARD OF 'rewindlaw12.WorldParses'. -/
def worldParsesUptoCard : Claim7 := { stood := { row := worldParsesUptoRow, standIns := [], harness := (true, "51c2bce2cc481834ddedb1033f100c3339db7ff5b2d4257bc4b43628ea5e39c6"), looks := true }, kinds := [], alts := [], laidByText := true, laidKinds := [.data, .data, .data, .data, .sentinel, .sentinel, .pinned], laidTests := true, laidLooks := .later }
def WorldParsesUptoCardSaid : Prop := Claim7.holds Tryd.pinned (.plain (OpenSpec.upto worldParsesSpec)) worldParsesUptoCard

/-- THE SECOND FORM's CARD OF 'rewindlaw12.WorldTapes'. -/
def worldTapesUptoCard : Claim7 := { stood := { row := worldTapesUptoRow, standIns := [], harness := (true, "51c2bce2cc481834ddedb1033f100c3339db7ff5b2d4257bc4b43628ea5e39c6"), looks := true }, kinds := [], alts := [], laidByText := true, laidKinds := [.data, .data, .data, .data, .sentinel, .sentinel, .pinned], laidTests := true, laidLooks := .later }
def WorldTapesUptoCardSaid : Prop := Claim7.holds Tryd.pinned (.plain (OpenSpec.upto worldTapesSpec)) worldTapesUptoCard

/-- THE SECOND FORM's CARD OF 'rewindlaw12.WorldOthers'. -/
def worldOthersUptoCard : Claim7 := { stood := { row := worldOthersUptoRow, standIns := [], harness := (true, "51c2bce2cc481834ddedb1033f100c3339db7ff5b2d4257bc4b43628ea5e39c6"), looks := true }, kinds := [], alts := [], laidByText := true, laidKinds := [.data, .data, .data, .data, .sentinel, .sentinel, .pinned], laidTests := true, laidLooks := .later }
def WorldOthersUptoCardSaid : Prop := Claim7.holds Tryd.pinned (.plain (OpenSpec.upto worldOthersSpec)) worldOthersUptoCard

/-- THE SECOND FORM's CARD OF 'rewindlaw12.WorldAlls'. -/
def worldAllsUptoCard : Claim7 := { stood := { row := worldAllsUptoRow, standIns := [], harness := (true, "51c2bce2cc481834ddedb1033f100c3339db7ff5b2d4257bc4b43628ea5e39c6"), looks := true }, kinds := [], alts := [], laidByText := true, laidKinds := [.data, .data, .data, .data, .sentinel, .sentinel, .pinned], laidTests := true, laidLooks := .later }
def WorldAllsUptoCardSaid : Prop := Claim7.holds Tryd.pinned (.plain (OpenSpec.upto worldAllsSpec)) worldAllsUptoCard
end Rows
end Go.Proofs.YtoailhkaenofpaaDoor
