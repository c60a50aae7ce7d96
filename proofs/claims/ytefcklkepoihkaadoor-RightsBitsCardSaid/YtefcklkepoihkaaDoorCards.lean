/-
  DERIVED. GIVEN WITH THE SEED: THE CARDS: each row of YtefcklkepoihkaaDoorRows.lean that lists a variable, with what it lists TIED to the program's text (the seventh form; the later family's looks); each row that meets fmt, with fmt's text TOLD by the authors' own Lean function (tested against real Go, not proved from fmt's source: count such statements apart). THE CARD IS WHAT COUNTS. Prove the row's statement (the work); the ties are given (YtefcklkepoihkaaDoorTie.lean); close each card by the builder's one call (the guide's Derived/Test/ToyasCard.lean, 'card_holds'). Laid BY PROGRAM, IN A SANDBOX (cutbox-door.mjs). By AI agents, Wed Nov 11 2026. No macro, syntax, notation, axiom, sorry.
-/
import Derived.Test.YtefcklkepoihkaaDoorRows
import GoSem.ClaimSeven
namespace Go.Proofs.YtefcklkepoihkaaDoor
namespace Rows

/-- THE TIED CARD OF 'jacinthlaw04.RightsDefaults'. -/
def rightsDefaultsCard : Claim7 := { stood := { row := rightsDefaultsRow, standIns := [], harness := (true, "8454827351fbbf40afe3f359230f1a3e3ec0505f8d56b52e48ad17c1a3137ef3"), looks := false }, kinds := [], alts := [], laidByText := true, laidKinds := [.data, .data], laidTests := true, laidLooks := .later }
def RightsDefaultsCardSaid : Prop := Claim7.holds Tryd.pinned (.plain (OpenSpec.ofChange rightsDefaultsSpec)) rightsDefaultsCard

/-- THE TIED CARD OF 'jacinthlaw04.RightsBits'. -/
def rightsBitsCard : Claim7 := { stood := { row := rightsBitsRow, standIns := [], harness := (true, "8454827351fbbf40afe3f359230f1a3e3ec0505f8d56b52e48ad17c1a3137ef3"), looks := false }, kinds := [], alts := [], laidByText := true, laidKinds := [.data], laidTests := true, laidLooks := .later }
def RightsBitsCardSaid : Prop := Claim7.holds Tryd.pinned (.plain (OpenSpec.ofChange rightsBitsSpec)) rightsBitsCard

/-- THE TIED CARD OF 'jacinthlaw04.RightsReduces'. -/
def rightsReducesCard : Claim7 := { stood := { row := rightsReducesRow, standIns := [], harness := (true, "8454827351fbbf40afe3f359230f1a3e3ec0505f8d56b52e48ad17c1a3137ef3"), looks := false }, kinds := [], alts := [], laidByText := true, laidKinds := [.data], laidTests := true, laidLooks := .later }
def RightsReducesCardSaid : Prop := Claim7.holds Tryd.pinned (.plain (OpenSpec.ofChange rightsReducesSpec)) rightsReducesCard

/-- THE TIED CARD OF 'jacinthlaw04.RightsTexts'. -/
def rightsTextsCard : Claim7 := { stood := { row := rightsTextsRow, standIns := [], harness := (true, "8454827351fbbf40afe3f359230f1a3e3ec0505f8d56b52e48ad17c1a3137ef3"), looks := false }, kinds := [], alts := [], laidByText := true, laidKinds := [.data], laidTests := true, laidLooks := .later }
def RightsTextsCardSaid : Prop := Claim7.holds Tryd.pinned (.plain (OpenSpec.ofChange rightsTextsSpec)) rightsTextsCard

/-- THE TIED CARD OF 'jacinthlaw04.RightsSets'. -/
def rightsSetsCard : Claim7 := { stood := { row := rightsSetsRow, standIns := [], harness := (true, "8454827351fbbf40afe3f359230f1a3e3ec0505f8d56b52e48ad17c1a3137ef3"), looks := false }, kinds := [], alts := [], laidByText := true, laidKinds := [.data], laidTests := true, laidLooks := .later }
def RightsSetsCardSaid : Prop := Claim7.holds Tryd.pinned (.plain (OpenSpec.ofChange rightsSetsSpec)) rightsSetsCard

/-- THE TIED CARD OF 'jacinthlaw04.RightsKinds'. -/
def rightsKindsCard : Claim7 := { stood := { row := rightsKindsRow, standIns := [], harness := (true, "8454827351fbbf40afe3f359230f1a3e3ec0505f8d56b52e48ad17c1a3137ef3"), looks := false }, kinds := [], alts := [], laidByText := true, laidKinds := [.data, .data], laidTests := true, laidLooks := .later }
def RightsKindsCardSaid : Prop := Claim7.holds Tryd.pinned (.plain (OpenSpec.ofChange rightsKindsSpec)) rightsKindsCard

/-- THE SECOND FORM's CARD OF 'jacinthlaw04.RightsDefaults'. -/
def rightsDefaultsUptoCard : Claim7 := { stood := { row := rightsDefaultsUptoRow, standIns := [], harness := (true, "8454827351fbbf40afe3f359230f1a3e3ec0505f8d56b52e48ad17c1a3137ef3"), looks := false }, kinds := [], alts := [], laidByText := true, laidKinds := [.data, .data], laidTests := true, laidLooks := .later }
def RightsDefaultsUptoCardSaid : Prop := Claim7.holds Tryd.pinned (.plain (OpenSpec.upto rightsDefaultsSpec)) rightsDefaultsUptoCard

/-- THE SECOND FORM's CARD OF 'jacinthlaw04.RightsBits'. -/
def rightsBitsUptoCard : Claim7 := { stood := { row := rightsBitsUptoRow, standIns := [], harness := (true, "8454827351fbbf40afe3f359230f1a3e3ec0505f8d56b52e48ad17c1a3137ef3"), looks := false }, kinds := [], alts := [], laidByText := true, laidKinds := [.data], laidTests := true, laidLooks := .later }
def RightsBitsUptoCardSaid : Prop := Claim7.holds Tryd.pinned (.plain (OpenSpec.upto rightsBitsSpec)) rightsBitsUptoCard

/-- THE SECOND FORM's CARD OF 'jacinthlaw04.RightsReduces'. -/
def rightsReducesUptoCard : Claim7 := { stood := { row := rightsReducesUptoRow, standIns := [], harness := (true, "8454827351fbbf40afe3f359230f1a3e3ec0505f8d56b52e48ad17c1a3137ef3"), looks := false }, kinds := [], alts := [], laidByText := true, laidKinds := [.data], laidTests := true, laidLooks := .later }
def RightsReducesUptoCardSaid : Prop := Claim7.holds Tryd.pinned (.plain (OpenSpec.upto rightsReducesSpec)) rightsReducesUptoCard

/-- THE SECOND FORM's CARD OF 'jacinthlaw04.RightsTexts'. -/
def rightsTextsUptoCard : Claim7 := { stood := { row := rightsTextsUptoRow, standIns := [], harness := (true, "8454827351fbbf40afe3f359230f1a3e3ec0505f8d56b52e48ad17c1a3137ef3"), looks := false }, kinds := [], alts := [], laidByText := true, laidKinds := [.data], laidTests := true, laidLooks := .later }
def RightsTextsUptoCardSaid : Prop := Claim7.holds Tryd.pinned (.plain (OpenSpec.upto rightsTextsSpec)) rightsTextsUptoCard

/-- THE SECOND FORM's CARD OF 'jacinthlaw04.RightsSets'. -/
def rightsSetsUptoCard : Claim7 := { stood := { row := rightsSetsUptoRow, standIns := [], harness := (true, "8454827351fbbf40afe3f359230f1a3e3ec0505f8d56b52e48ad17c1a3137ef3"), looks := false }, kinds := [], alts := [], laidByText := true, laidKinds := [.data], laidTests := true, laidLooks := .later }
def RightsSetsUptoCardSaid : Prop := Claim7.holds Tryd.pinned (.plain (OpenSpec.upto rightsSetsSpec)) rightsSetsUptoCard

/-- THE SECOND FORM's CARD OF 'jacinthlaw04.RightsKinds'. -/
def rightsKindsUptoCard : Claim7 := { stood := { row := rightsKindsUptoRow, standIns := [], harness := (true, "8454827351fbbf40afe3f359230f1a3e3ec0505f8d56b52e48ad17c1a3137ef3"), looks := false }, kinds := [], alts := [], laidByText := true, laidKinds := [.data, .data], laidTests := true, laidLooks := .later }
def RightsKindsUptoCardSaid : Prop := Claim7.holds Tryd.pinned (.plain (OpenSpec.upto rightsKindsSpec)) rightsKindsUptoCard
end Rows
end Go.Proofs.YtefcklkepoihkaaDoor
