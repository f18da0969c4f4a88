/-
  DERIVED. GIVEN WITH THE SEED: THE CARDS: each row of YteemnnajfiimlaaDoorRows.lean that lists a variable, with what it lists TIED to the program's text (the seventh form; the later family's looks); each row that meets fmt, with fmt's text TOLD by the authors' own Lean function (tested against real Go, not proved from fmt's source: count such statements apart). THE CARD IS WHAT COUNTS. Prove the row's statement (the work); the ties are given (YteemnnajfiimlaaDoorTie.lean); close each card by the builder's one call (the guide's Derived/Test/ToyasCard.lean, 'card_holds'). Laid BY PROGRAM, IN A SANDBOX (cutbox-door.mjs). By AI agents, Wed Nov 11 2026. No macro, syntax, notation, axiom, sorry.
-/
import Derived.Test.YteemnnajfiimlaaDoorRows
import GoSem.ClaimSeven
namespace Go.Proofs.YteemnnajfiimlaaDoor
namespace Rows

/-- THE TIED CARD OF 'fundadminlaw05.DateExact'. -/
def dateExactCard : Claim7 := { stood := { row := dateExactRow, standIns := [], harness := (true, "227c3b31a29d77d94b17a9a0b7e1542b9da6822593559d61ea67a989aea36bd2"), looks := true }, kinds := [], alts := [], laidByText := true, laidKinds := [.data, .data, .data, .sentinel, .sentinel], laidTests := true, laidLooks := .later }
def DateExactCardSaid : Prop := Claim7.holds Tryd.pinned (.plain (OpenSpec.ofChange dateExactSpec)) dateExactCard

/-- THE TIED CARD OF 'fundadminlaw05.DateDays'. -/
def dateDaysCard : Claim7 := { stood := { row := dateDaysRow, standIns := [], harness := (true, "227c3b31a29d77d94b17a9a0b7e1542b9da6822593559d61ea67a989aea36bd2"), looks := true }, kinds := [], alts := [], laidByText := true, laidKinds := [.data, .data, .data, .sentinel, .sentinel], laidTests := true, laidLooks := .later }
def DateDaysCardSaid : Prop := Claim7.holds Tryd.pinned (.plain (OpenSpec.ofChange dateDaysSpec)) dateDaysCard

/-- THE TIED CARD OF 'fundadminlaw05.DateTexts'. -/
def dateTextsCard : Claim7 := { stood := { row := dateTextsRow, standIns := [], harness := (true, "227c3b31a29d77d94b17a9a0b7e1542b9da6822593559d61ea67a989aea36bd2"), looks := true }, kinds := [], alts := [], laidByText := true, laidKinds := [.data, .data, .data, .sentinel, .sentinel], laidTests := true, laidLooks := .later }
def DateTextsCardSaid : Prop := Claim7.holds Tryd.pinned (.plain (OpenSpec.ofChange dateTextsSpec)) dateTextsCard

/-- THE TIED CARD OF 'fundadminlaw05.DateReads'. -/
def dateReadsCard : Claim7 := { stood := { row := dateReadsRow, standIns := [], harness := (true, "227c3b31a29d77d94b17a9a0b7e1542b9da6822593559d61ea67a989aea36bd2"), looks := true }, kinds := [], alts := [], laidByText := true, laidKinds := [.data, .data, .data, .sentinel, .sentinel], laidTests := true, laidLooks := .later }
def DateReadsCardSaid : Prop := Claim7.holds Tryd.pinned (.plain (OpenSpec.ofChange dateReadsSpec)) dateReadsCard

/-- THE TIED CARD OF 'fundadminlaw05.DateInverse'. -/
def dateInverseCard : Claim7 := { stood := { row := dateInverseRow, standIns := [], harness := (true, "227c3b31a29d77d94b17a9a0b7e1542b9da6822593559d61ea67a989aea36bd2"), looks := true }, kinds := [], alts := [], laidByText := true, laidKinds := [.data, .data, .data, .sentinel, .sentinel], laidTests := true, laidLooks := .later }
def DateInverseCardSaid : Prop := Claim7.holds Tryd.pinned (.plain (OpenSpec.ofChange dateInverseSpec)) dateInverseCard

/-- THE TIED CARD OF 'fundadminlaw05.DateWeeks'. -/
def dateWeeksCard : Claim7 := { stood := { row := dateWeeksRow, standIns := [], harness := (true, "227c3b31a29d77d94b17a9a0b7e1542b9da6822593559d61ea67a989aea36bd2"), looks := true }, kinds := [], alts := [], laidByText := true, laidKinds := [.data, .data, .data, .sentinel, .sentinel], laidTests := true, laidLooks := .later }
def DateWeeksCardSaid : Prop := Claim7.holds Tryd.pinned (.plain (OpenSpec.ofChange dateWeeksSpec)) dateWeeksCard

/-- THE TIED CARD OF 'fundadminlaw05.DateMonths'. -/
def dateMonthsCard : Claim7 := { stood := { row := dateMonthsRow, standIns := [], harness := (true, "227c3b31a29d77d94b17a9a0b7e1542b9da6822593559d61ea67a989aea36bd2"), looks := true }, kinds := [], alts := [], laidByText := true, laidKinds := [.data, .data, .data, .sentinel, .sentinel], laidTests := true, laidLooks := .later }
def DateMonthsCardSaid : Prop := Claim7.holds Tryd.pinned (.plain (OpenSpec.ofChange dateMonthsSpec)) dateMonthsCard

/-- THE TIED CARD OF 'fundadminlaw05.DateEnds'. -/
def dateEndsCard : Claim7 := { stood := { row := dateEndsRow, standIns := [], harness := (true, "227c3b31a29d77d94b17a9a0b7e1542b9da6822593559d61ea67a989aea36bd2"), looks := true }, kinds := [], alts := [], laidByText := true, laidKinds := [.data, .data, .data, .sentinel, .sentinel], laidTests := true, laidLooks := .later }
def DateEndsCardSaid : Prop := Claim7.holds Tryd.pinned (.plain (OpenSpec.ofChange dateEndsSpec)) dateEndsCard

/-- THE SECOND FORM's CARD OF 'fundadminlaw05.DateExact'. -/
def dateExactUptoCard : Claim7 := { stood := { row := dateExactUptoRow, standIns := [], harness := (true, "227c3b31a29d77d94b17a9a0b7e1542b9da6822593559d61ea67a989aea36bd2"), looks := true }, kinds := [], alts := [], laidByText := true, laidKinds := [.data, .data, .data, .sentinel, .sentinel], laidTests := true, laidLooks := .later }
def DateExactUptoCardSaid : Prop := Claim7.holds Tryd.pinned (.plain (OpenSpec.upto dateExactSpec)) dateExactUptoCard

/-- THE SECOND FORM's CARD OF 'fundadminlaw05.DateDays'. -/
def dateDaysUptoCard : Claim7 := { stood := { row := dateDaysUptoRow, standIns := [], harness := (true, "227c3b31a29d77d94b17a9a0b7e1542b9da6822593559d61ea67a989aea36bd2"), looks := true }, kinds := [], alts := [], laidByText := true, laidKinds := [.data, .data, .data, .sentinel, .sentinel], laidTests := true, laidLooks := .later }
def DateDaysUptoCardSaid : Prop := Claim7.holds Tryd.pinned (.plain (OpenSpec.upto dateDaysSpec)) dateDaysUptoCard

/-- THE SECOND FORM's CARD OF 'fundadminlaw05.DateTexts'. -/
def dateTextsUptoCard : Claim7 := { stood := { row := dateTextsUptoRow, standIns := [], harness := (true, "227c3b31a29d77d94b17a9a0b7e1542b9da6822593559d61ea67a989aea36bd2"), looks := true }, kinds := [], alts := [], laidByText := true, laidKinds := [.data, .data, .data, .sentinel, .sentinel], laidTests := true, laidLooks := .later }
def DateTextsUptoCardSaid : Prop := Claim7.holds Tryd.pinned (.plain (OpenSpec.upto dateTextsSpec)) dateTextsUptoCard

/-- THE SECOND FORM's CARD OF 'fundadminlaw05.DateReads'. -/
def dateReadsUptoCard : Claim7 := { stood := { row := dateReadsUptoRow, standIns := [], harness := (true, "227c3b31a29d77d94b17a9a0b7e1542b9da6822593559d61ea67a989aea36bd2"), looks := true }, kinds := [], alts := [], laidByText := true, laidKinds := [.data, .data, .data, .sentinel, .sentinel], laidTests := true, laidLooks := .later }
def DateReadsUptoCardSaid : Prop := Claim7.holds Tryd.pinned (.plain (OpenSpec.upto dateReadsSpec)) dateReadsUptoCard

/-- THE SECOND FORM's CARD OF 'fundadminlaw05.DateInverse'. -/
def dateInverseUptoCard : Claim7 := { stood := { row := dateInverseUptoRow, standIns := [], harness := (true, "227c3b31a29d77d94b17a9a0b7e1542b9da6822593559d61ea67a989aea36bd2"), looks := true }, kinds := [], alts := [], laidByText := true, laidKinds := [.data, .data, .data, .sentinel, .sentinel], laidTests := true, laidLooks := .later }
def DateInverseUptoCardSaid : Prop := Claim7.holds Tryd.pinned (.plain (OpenSpec.upto dateInverseSpec)) dateInverseUptoCard

/-- THE SECOND FORM's CARD OF 'fundadminlaw05.DateWeeks'. -/
def dateWeeksUptoCard : Claim7 := { stood := { row := dateWeeksUptoRow, standIns := [], harness := (true, "227c3b31a29d77d94b17a9a0b7e1542b9da6822593559d61ea67a989aea36bd2"), looks := true }, kinds := [], alts := [], laidByText := true, laidKinds := [.data, .data, .data, .sentinel, .sentinel], laidTests := true, laidLooks := .later }
def DateWeeksUptoCardSaid : Prop := Claim7.holds Tryd.pinned (.plain (OpenSpec.upto dateWeeksSpec)) dateWeeksUptoCard

/-- THE SECOND FORM's CARD OF 'fundadminlaw05.DateMonths'. -/
def dateMonthsUptoCard : Claim7 := { stood := { row := dateMonthsUptoRow, standIns := [], harness := (true, "227c3b31a29d77d94b17a9a0b7e1542b9da6822593559d61ea67a989aea36bd2"), looks := true }, kinds := [], alts := [], laidByText := true, laidKinds := [.data, .data, .data, .sentinel, .sentinel], laidTests := true, laidLooks := .later }
def DateMonthsUptoCardSaid : Prop := Claim7.holds Tryd.pinned (.plain (OpenSpec.upto dateMonthsSpec)) dateMonthsUptoCard

/-- THE SECOND FORM's CARD OF 'fundadminlaw05.DateEnds'. -/
def dateEndsUptoCard : Claim7 := { stood := { row := dateEndsUptoRow, standIns := [], harness := (true, "227c3b31a29d77d94b17a9a0b7e1542b9da6822593559d61ea67a989aea36bd2"), looks := true }, kinds := [], alts := [], laidByText := true, laidKinds := [.data, .data, .data, .sentinel, .sentinel], laidTests := true, laidLooks := .later }
def DateEndsUptoCardSaid : Prop := Claim7.holds Tryd.pinned (.plain (OpenSpec.upto dateEndsSpec)) dateEndsUptoCard
end Rows
end Go.Proofs.YteemnnajfiimlaaDoor
