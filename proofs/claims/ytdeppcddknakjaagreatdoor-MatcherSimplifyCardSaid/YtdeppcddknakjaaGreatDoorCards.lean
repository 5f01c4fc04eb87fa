/-
  DERIVED. GIVEN WITH THE SEED: THE CARDS: each row of YtdeppcddknakjaaGreatDoorRows.lean that lists a variable, with what it lists TIED to the program's text (the seventh form; the later family's looks); each row that meets fmt, with fmt's text TOLD by the authors' own Lean function (tested against real Go, not proved from fmt's source: count such statements apart). THE CARD IS WHAT COUNTS. Prove the row's statement (the work); the ties are given (YtdeppcddknakjaaGreatDoorTie.lean); close each card by the builder's one call (the guide's Derived/Test/ToyasCard.lean, 'card_holds'). Laid BY PROGRAM, IN A SANDBOX (cutbox-door.mjs). By AI agents, Wed Nov 11 2026. No macro, syntax, notation, axiom, sorry.
-/
import Derived.Test.YtdeppcddknakjaaGreatDoorRows
import GoSem.ClaimSeven
namespace Go.Proofs.YtdeppcddknakjaaGreatDoor
namespace Rows

/-- THE TIED CARD OF 'lookoutlaw07.MatcherMatches'. -/
def matcherMatchesCard : Claim7 := { stood := { row := matcherMatchesRow, standIns := [], harness := (true, "126e80e8a37fb66c813ddb1f4b050526e7878a6494eb724fb5d42db2ec55942f"), looks := false }, kinds := [], alts := [], laidByText := true, laidKinds := [.data, .data, .pinned], laidTests := true, laidLooks := .later }
def MatcherMatchesCardSaid : Prop := Claim7.holds Tryz.pinned (.plain (OpenSpec.ofChange matcherMatchesSpec)) matcherMatchesCard

/-- THE TIED CARD OF 'lookoutlaw07.MatcherText'. -/
def matcherTextCard : Claim7 := { stood := { row := matcherTextRow, standIns := [], harness := (true, "126e80e8a37fb66c813ddb1f4b050526e7878a6494eb724fb5d42db2ec55942f"), looks := false }, kinds := [], alts := [], laidByText := true, laidKinds := [.data, .data, .pinned], laidTests := true, laidLooks := .later }
def MatcherTextCardSaid : Prop := Claim7.holds Tryz.pinned (.plain (OpenSpec.ofChange matcherTextSpec)) matcherTextCard

/-- THE TIED CARD OF 'lookoutlaw07.MatcherSimplify'. -/
def matcherSimplifyCard : Claim7 := { stood := { row := matcherSimplifyRow, standIns := [], harness := (true, "126e80e8a37fb66c813ddb1f4b050526e7878a6494eb724fb5d42db2ec55942f"), looks := false }, kinds := [], alts := [], laidByText := true, laidKinds := [.data, .data, .pinned], laidTests := true, laidLooks := .later }
def MatcherSimplifyCardSaid : Prop := Claim7.holds Tryz.pinned (.plain (OpenSpec.ofChange matcherSimplifySpec)) matcherSimplifyCard

/-- THE TIED CARD OF 'lookoutlaw07.MatcherNegate'. -/
def matcherNegateCard : Claim7 := { stood := { row := matcherNegateRow, standIns := [], harness := (true, "126e80e8a37fb66c813ddb1f4b050526e7878a6494eb724fb5d42db2ec55942f"), looks := false }, kinds := [], alts := [], laidByText := true, laidKinds := [.data, .data, .pinned], laidTests := true, laidLooks := .later }
def MatcherNegateCardSaid : Prop := Claim7.holds Tryz.pinned (.plain (OpenSpec.ofChange matcherNegateSpec)) matcherNegateCard

/-- THE TIED CARD OF 'lookoutlaw07.MatcherSame'. -/
def matcherSameCard : Claim7 := { stood := { row := matcherSameRow, standIns := [], harness := (true, "126e80e8a37fb66c813ddb1f4b050526e7878a6494eb724fb5d42db2ec55942f"), looks := false }, kinds := [], alts := [], laidByText := true, laidKinds := [.data, .data, .pinned], laidTests := true, laidLooks := .later }
def MatcherSameCardSaid : Prop := Claim7.holds Tryz.pinned (.plain (OpenSpec.ofChange matcherSameSpec)) matcherSameCard

/-- THE TIED CARD OF 'lookoutlaw07.MatcherOrder'. -/
def matcherOrderCard : Claim7 := { stood := { row := matcherOrderRow, standIns := [], harness := (true, "126e80e8a37fb66c813ddb1f4b050526e7878a6494eb724fb5d42db2ec55942f"), looks := false }, kinds := [], alts := [], laidByText := true, laidKinds := [.data, .data, .pinned], laidTests := true, laidLooks := .later }
def MatcherOrderCardSaid : Prop := Claim7.holds Tryz.pinned (.plain (OpenSpec.ofChange matcherOrderSpec)) matcherOrderCard

/-- THE TIED CARD OF 'lookoutlaw07.MatcherImplies'. -/
def matcherImpliesCard : Claim7 := { stood := { row := matcherImpliesRow, standIns := [], harness := (true, "126e80e8a37fb66c813ddb1f4b050526e7878a6494eb724fb5d42db2ec55942f"), looks := false }, kinds := [], alts := [], laidByText := true, laidKinds := [.data, .data, .pinned], laidTests := true, laidLooks := .later }
def MatcherImpliesCardSaid : Prop := Claim7.holds Tryz.pinned (.plain (OpenSpec.ofChange matcherImpliesSpec)) matcherImpliesCard

/-- THE TIED CARD OF 'lookoutlaw07.MatcherDecides'. -/
def matcherDecidesCard : Claim7 := { stood := { row := matcherDecidesRow, standIns := [], harness := (true, "126e80e8a37fb66c813ddb1f4b050526e7878a6494eb724fb5d42db2ec55942f"), looks := false }, kinds := [], alts := [], laidByText := true, laidKinds := [.data, .data, .pinned], laidTests := true, laidLooks := .later }
def MatcherDecidesCardSaid : Prop := Claim7.holds Tryz.pinned (.plain (OpenSpec.ofChange matcherDecidesSpec)) matcherDecidesCard

/-- THE TIED CARD OF 'lookoutlaw07.MatcherRoundTrip'. -/
def matcherRoundTripCard : Claim7 := { stood := { row := matcherRoundTripRow, standIns := [], harness := (true, "126e80e8a37fb66c813ddb1f4b050526e7878a6494eb724fb5d42db2ec55942f"), looks := false }, kinds := [], alts := [], laidByText := true, laidKinds := [.data, .data, .pinned], laidTests := true, laidLooks := .later }
def MatcherRoundTripCardSaid : Prop := Claim7.holds Tryz.pinned (.plain (OpenSpec.ofChange matcherRoundTripSpec)) matcherRoundTripCard

/-- THE SECOND FORM's CARD OF 'lookoutlaw07.MatcherMatches'. -/
def matcherMatchesUptoCard : Claim7 := { stood := { row := matcherMatchesUptoRow, standIns := [], harness := (true, "126e80e8a37fb66c813ddb1f4b050526e7878a6494eb724fb5d42db2ec55942f"), looks := false }, kinds := [], alts := [], laidByText := true, laidKinds := [.data, .data, .pinned], laidTests := true, laidLooks := .later }
def MatcherMatchesUptoCardSaid : Prop := Claim7.holds Tryz.pinned (.plain (OpenSpec.upto matcherMatchesSpec)) matcherMatchesUptoCard

/-- THE SECOND FORM's CARD OF 'lookoutlaw07.MatcherText'. -/
def matcherTextUptoCard : Claim7 := { stood := { row := matcherTextUptoRow, standIns := [], harness := (true, "126e80e8a37fb66c813ddb1f4b050526e7878a6494eb724fb5d42db2ec55942f"), looks := false }, kinds := [], alts := [], laidByText := true, laidKinds := [.data, .data, .pinned], laidTests := true, laidLooks := .later }
def MatcherTextUptoCardSaid : Prop := Claim7.holds Tryz.pinned (.plain (OpenSpec.upto matcherTextSpec)) matcherTextUptoCard

/-- THE SECOND FORM's CARD OF 'lookoutlaw07.MatcherSimplify'. -/
def matcherSimplifyUptoCard : Claim7 := { stood := { row := matcherSimplifyUptoRow, standIns := [], harness := (true, "126e80e8a37fb66c813ddb1f4b050526e7878a6494eb724fb5d42db2ec55942f"), looks := false }, kinds := [], alts := [], laidByText := true, laidKinds := [.data, .data, .pinned], laidTests := true, laidLooks := .later }
def MatcherSimplifyUptoCardSaid : Prop := Claim7.holds Tryz.pinned (.plain (OpenSpec.upto matcherSimplifySpec)) matcherSimplifyUptoCard

/-- THE SECOND FORM's CARD OF 'lookoutlaw07.MatcherNegate'. -/
def matcherNegateUptoCard : Claim7 := { stood := { row := matcherNegateUptoRow, standIns := [], harness := (true, "126e80e8a37fb66c813ddb1f4b050526e7878a6494eb724fb5d42db2ec55942f"), looks := false }, kinds := [], alts := [], laidByText := true, laidKinds := [.data, .data, .pinned], laidTests := true, laidLooks := .later }
def MatcherNegateUptoCardSaid : Prop := Claim7.holds Tryz.pinned (.plain (OpenSpec.upto matcherNegateSpec)) matcherNegateUptoCard

/-- THE SECOND FORM's CARD OF 'lookoutlaw07.MatcherSame'. -/
def matcherSameUptoCard : Claim7 := { stood := { row := matcherSameUptoRow, standIns := [], harness := (true, "126e80e8a37fb66c813ddb1f4b050526e7878a6494eb724fb5d42db2ec55942f"), looks := false }, kinds := [], alts := [], laidByText := true, laidKinds := [.data, .data, .pinned], laidTests := true, laidLooks := .later }
def MatcherSameUptoCardSaid : Prop := Claim7.holds Tryz.pinned (.plain (OpenSpec.upto matcherSameSpec)) matcherSameUptoCard

/-- THE SECOND FORM's CARD OF 'lookoutlaw07.MatcherOrder'. -/
def matcherOrderUptoCard : Claim7 := { stood := { row := matcherOrderUptoRow, standIns := [], harness := (true, "126e80e8a37fb66c813ddb1f4b050526e7878a6494eb724fb5d42db2ec55942f"), looks := false }, kinds := [], alts := [], laidByText := true, laidKinds := [.data, .data, .pinned], laidTests := true, laidLooks := .later }
def MatcherOrderUptoCardSaid : Prop := Claim7.holds Tryz.pinned (.plain (OpenSpec.upto matcherOrderSpec)) matcherOrderUptoCard

/-- THE SECOND FORM's CARD OF 'lookoutlaw07.MatcherImplies'. -/
def matcherImpliesUptoCard : Claim7 := { stood := { row := matcherImpliesUptoRow, standIns := [], harness := (true, "126e80e8a37fb66c813ddb1f4b050526e7878a6494eb724fb5d42db2ec55942f"), looks := false }, kinds := [], alts := [], laidByText := true, laidKinds := [.data, .data, .pinned], laidTests := true, laidLooks := .later }
def MatcherImpliesUptoCardSaid : Prop := Claim7.holds Tryz.pinned (.plain (OpenSpec.upto matcherImpliesSpec)) matcherImpliesUptoCard

/-- THE SECOND FORM's CARD OF 'lookoutlaw07.MatcherDecides'. -/
def matcherDecidesUptoCard : Claim7 := { stood := { row := matcherDecidesUptoRow, standIns := [], harness := (true, "126e80e8a37fb66c813ddb1f4b050526e7878a6494eb724fb5d42db2ec55942f"), looks := false }, kinds := [], alts := [], laidByText := true, laidKinds := [.data, .data, .pinned], laidTests := true, laidLooks := .later }
def MatcherDecidesUptoCardSaid : Prop := Claim7.holds Tryz.pinned (.plain (OpenSpec.upto matcherDecidesSpec)) matcherDecidesUptoCard

/-- THE SECOND FORM's CARD OF 'lookoutlaw07.MatcherRoundTrip'. -/
def matcherRoundTripUptoCard : Claim7 := { stood := { row := matcherRoundTripUptoRow, standIns := [], harness := (true, "126e80e8a37fb66c813ddb1f4b050526e7878a6494eb724fb5d42db2ec55942f"), looks := false }, kinds := [], alts := [], laidByText := true, laidKinds := [.data, .data, .pinned], laidTests := true, laidLooks := .later }
def MatcherRoundTripUptoCardSaid : Prop := Claim7.holds Tryz.pinned (.plain (OpenSpec.upto matcherRoundTripSpec)) matcherRoundTripUptoCard
end Rows
end Go.Proofs.YtdeppcddknakjaaGreatDoor
