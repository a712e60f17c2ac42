/-
  DERIVED. GIVEN WITH THE SEED: THE CARDS: each row of YtdknejmhlfpdfaaDoorRows.lean that lists a variable, with what it lists TIED to the program's text (the seventh form; the later family's looks); each row that meets fmt, with fmt's text TOLD by the authors' own Lean function (tested against real Go, not proved from fmt's source: count such statements apart). THE CARD IS WHAT COUNTS. Prove the row's statement (the work); the ties are given (YtdknejmhlfpdfaaDoorTie.lean); close each card by the builder's one call (the guide's Derived/Test/ToyasCard.lean, 'card_holds'). Laid BY PROGRAM, IN A SANDBOX (cutbox-door.mjs). By AI agents, Wed Nov 11 2026. No macro, syntax, notation, axiom, sorry.
-/
import Derived.Test.YtdknejmhlfpdfaaDoorRows
import GoSem.ClaimSeven
namespace Go.Proofs.YtdknejmhlfpdfaaDoor
namespace Rows

/-- THE TIED CARD OF 'rewindlaw18.OrderWords'. -/
def orderWordsCard : Claim7 := { stood := { row := orderWordsRow, standIns := [], harness := (true, "2105a1c67574fe60dd5b7d3395fa4faf2c153bb20c22c3ef1e80743150e56eca"), looks := true }, kinds := [], alts := [], laidByText := true, laidKinds := [.data, .data, .data, .data, .sentinel, .sentinel, .data, .data, .data, .pinned], laidTests := true, laidLooks := .later }
def OrderWordsCardSaid : Prop := Claim7.holds Tryd.pinned (.plain (OpenSpec.ofChange orderWordsSpec)) orderWordsCard

/-- THE TIED CARD OF 'rewindlaw18.OrderBlanks'. -/
def orderBlanksCard : Claim7 := { stood := { row := orderBlanksRow, standIns := [], harness := (true, "2105a1c67574fe60dd5b7d3395fa4faf2c153bb20c22c3ef1e80743150e56eca"), looks := true }, kinds := [], alts := [], laidByText := true, laidKinds := [.data, .data, .data, .data, .sentinel, .sentinel, .data, .data, .data, .pinned], laidTests := true, laidLooks := .later }
def OrderBlanksCardSaid : Prop := Claim7.holds Tryd.pinned (.plain (OpenSpec.ofChange orderBlanksSpec)) orderBlanksCard

/-- THE TIED CARD OF 'rewindlaw18.OrderOthers'. -/
def orderOthersCard : Claim7 := { stood := { row := orderOthersRow, standIns := [], harness := (true, "2105a1c67574fe60dd5b7d3395fa4faf2c153bb20c22c3ef1e80743150e56eca"), looks := true }, kinds := [], alts := [], laidByText := true, laidKinds := [.data, .data, .data, .data, .sentinel, .sentinel, .data, .data, .data, .pinned], laidTests := true, laidLooks := .later }
def OrderOthersCardSaid : Prop := Claim7.holds Tryd.pinned (.plain (OpenSpec.ofChange orderOthersSpec)) orderOthersCard

/-- THE TIED CARD OF 'rewindlaw18.OrderLongs'. -/
def orderLongsCard : Claim7 := { stood := { row := orderLongsRow, standIns := [], harness := (true, "2105a1c67574fe60dd5b7d3395fa4faf2c153bb20c22c3ef1e80743150e56eca"), looks := true }, kinds := [], alts := [], laidByText := true, laidKinds := [.data, .data, .data, .data, .sentinel, .sentinel, .data, .data, .data, .pinned], laidTests := true, laidLooks := .later }
def OrderLongsCardSaid : Prop := Claim7.holds Tryd.pinned (.plain (OpenSpec.ofChange orderLongsSpec)) orderLongsCard

/-- THE SECOND FORM's CARD OF 'rewindlaw18.OrderWords'. -/
def orderWordsUptoCard : Claim7 := { stood := { row := orderWordsUptoRow, standIns := [], harness := (true, "2105a1c67574fe60dd5b7d3395fa4faf2c153bb20c22c3ef1e80743150e56eca"), looks := true }, kinds := [], alts := [], laidByText := true, laidKinds := [.data, .data, .data, .data, .sentinel, .sentinel, .data, .data, .data, .pinned], laidTests := true, laidLooks := .later }
def OrderWordsUptoCardSaid : Prop := Claim7.holds Tryd.pinned (.plain (OpenSpec.upto orderWordsSpec)) orderWordsUptoCard

/-- THE SECOND FORM's CARD OF 'rewindlaw18.OrderBlanks'. -/
def orderBlanksUptoCard : Claim7 := { stood := { row := orderBlanksUptoRow, standIns := [], harness := (true, "2105a1c67574fe60dd5b7d3395fa4faf2c153bb20c22c3ef1e80743150e56eca"), looks := true }, kinds := [], alts := [], laidByText := true, laidKinds := [.data, .data, .data, .data, .sentinel, .sentinel, .data, .data, .data, .pinned], laidTests := true, laidLooks := .later }
def OrderBlanksUptoCardSaid : Prop := Claim7.holds Tryd.pinned (.plain (OpenSpec.upto orderBlanksSpec)) orderBlanksUptoCard

/-- THE SECOND FORM's CARD OF 'rewindlaw18.OrderOthers'. -/
def orderOthersUptoCard : Claim7 := { stood := { row := orderOthersUptoRow, standIns := [], harness := (true, "2105a1c67574fe60dd5b7d3395fa4faf2c153bb20c22c3ef1e80743150e56eca"), looks := true }, kinds := [], alts := [], laidByText := true, laidKinds := [.data, .data, .data, .data, .sentinel, .sentinel, .data, .data, .data, .pinned], laidTests := true, laidLooks := .later }
def OrderOthersUptoCardSaid : Prop := Claim7.holds Tryd.pinned (.plain (OpenSpec.upto orderOthersSpec)) orderOthersUptoCard

/-- THE SECOND FORM's CARD OF 'rewindlaw18.OrderLongs'. -/
def orderLongsUptoCard : Claim7 := { stood := { row := orderLongsUptoRow, standIns := [], harness := (true, "2105a1c67574fe60dd5b7d3395fa4faf2c153bb20c22c3ef1e80743150e56eca"), looks := true }, kinds := [], alts := [], laidByText := true, laidKinds := [.data, .data, .data, .data, .sentinel, .sentinel, .data, .data, .data, .pinned], laidTests := true, laidLooks := .later }
def OrderLongsUptoCardSaid : Prop := Claim7.holds Tryd.pinned (.plain (OpenSpec.upto orderLongsSpec)) orderLongsUptoCard
end Rows
end Go.Proofs.YtdknejmhlfpdfaaDoor
