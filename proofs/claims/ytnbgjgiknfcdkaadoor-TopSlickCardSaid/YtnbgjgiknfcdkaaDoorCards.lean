/-
  DERIVED. GIVEN WITH THE SEED: THE CARDS: each row of YtnbgjgiknfcdkaaDoorRows.lean that lists a variable, with what it lists TIED to the program's text (the seventh form; the later family's looks); each row that meets fmt, with fmt's text TOLD by the authors' own Lean function (tested against real Go, not proved from fmt's source: count such statements apart). THE CARD IS WHAT COUNTS. Prove the row's statement (the work); the ties are given (YtnbgjgiknfcdkaaDoorTie.lean); close each card by the builder's one call (the guide's Derived/Test/ToyasCard.lean, 'card_holds'). Laid BY PROGRAM, IN A SANDBOX (cutbox-door.mjs). By AI agents, Wed Nov 11 2026. No macro, syntax, notation, axiom, sorry.
-/
import Derived.Test.YtnbgjgiknfcdkaaDoorRows
import GoSem.ClaimSeven
namespace Go.Proofs.YtnbgjgiknfcdkaaDoor
namespace Rows

/-- THE TIED CARD OF 'skimmerlaw02.SlickBays'. -/
def slickBaysCard : Claim7 := { stood := { row := slickBaysRow, standIns := [], harness := (true, "38a074445a3967dedbdfb9374eda118d846433fb573c587a55d7c5edfad1e3dd"), looks := false }, kinds := [], alts := [], laidByText := true, laidKinds := [.data], laidTests := true, laidLooks := .later }
def SlickBaysCardSaid : Prop := Claim7.holds Tryd.pinned (.plain (OpenSpec.ofChange slickBaysSpec)) slickBaysCard

/-- THE TIED CARD OF 'skimmerlaw02.SlickMoves'. -/
def slickMovesCard : Claim7 := { stood := { row := slickMovesRow, standIns := [], harness := (true, "38a074445a3967dedbdfb9374eda118d846433fb573c587a55d7c5edfad1e3dd"), looks := false }, kinds := [], alts := [], laidByText := true, laidKinds := [.data], laidTests := true, laidLooks := .later }
def SlickMovesCardSaid : Prop := Claim7.holds Tryd.pinned (.plain (OpenSpec.ofChange slickMovesSpec)) slickMovesCard

/-- THE TIED CARD OF 'skimmerlaw02.SlickCosts'. -/
def slickCostsCard : Claim7 := { stood := { row := slickCostsRow, standIns := [], harness := (true, "38a074445a3967dedbdfb9374eda118d846433fb573c587a55d7c5edfad1e3dd"), looks := false }, kinds := [], alts := [], laidByText := true, laidKinds := [.data], laidTests := true, laidLooks := .later }
def SlickCostsCardSaid : Prop := Claim7.holds Tryd.pinned (.plain (OpenSpec.ofChange slickCostsSpec)) slickCostsCard

/-- THE TIED CARD OF 'skimmerlaw02.SlickSums'. -/
def slickSumsCard : Claim7 := { stood := { row := slickSumsRow, standIns := [], harness := (true, "38a074445a3967dedbdfb9374eda118d846433fb573c587a55d7c5edfad1e3dd"), looks := false }, kinds := [], alts := [], laidByText := true, laidKinds := [.data], laidTests := true, laidLooks := .later }
def SlickSumsCardSaid : Prop := Claim7.holds Tryd.pinned (.plain (OpenSpec.ofChange slickSumsSpec)) slickSumsCard

/-- THE TIED CARD OF 'skimmerlaw02.SlickWorst'. -/
def slickWorstCard : Claim7 := { stood := { row := slickWorstRow, standIns := [], harness := (true, "38a074445a3967dedbdfb9374eda118d846433fb573c587a55d7c5edfad1e3dd"), looks := false }, kinds := [], alts := [], laidByText := true, laidKinds := [.data], laidTests := true, laidLooks := .later }
def SlickWorstCardSaid : Prop := Claim7.holds Tryd.pinned (.plain (OpenSpec.ofChange slickWorstSpec)) slickWorstCard

/-- THE TIED CARD OF 'skimmerlaw02.SlickMirrors'. -/
def slickMirrorsCard : Claim7 := { stood := { row := slickMirrorsRow, standIns := [], harness := (true, "38a074445a3967dedbdfb9374eda118d846433fb573c587a55d7c5edfad1e3dd"), looks := false }, kinds := [], alts := [], laidByText := true, laidKinds := [.data], laidTests := true, laidLooks := .later }
def SlickMirrorsCardSaid : Prop := Claim7.holds Tryd.pinned (.plain (OpenSpec.ofChange slickMirrorsSpec)) slickMirrorsCard

/-- THE TIED CARD OF 'skimmerlaw02.SlickMass'. -/
def slickMassCard : Claim7 := { stood := { row := slickMassRow, standIns := [], harness := (true, "38a074445a3967dedbdfb9374eda118d846433fb573c587a55d7c5edfad1e3dd"), looks := false }, kinds := [], alts := [], laidByText := true, laidKinds := [.data], laidTests := true, laidLooks := .later }
def SlickMassCardSaid : Prop := Claim7.holds Tryd.pinned (.plain (OpenSpec.ofChange slickMassSpec)) slickMassCard

/-- THE TIED CARD OF 'skimmerlaw02.SlickAdds'. -/
def slickAddsCard : Claim7 := { stood := { row := slickAddsRow, standIns := [], harness := (true, "38a074445a3967dedbdfb9374eda118d846433fb573c587a55d7c5edfad1e3dd"), looks := false }, kinds := [], alts := [], laidByText := true, laidKinds := [.data], laidTests := true, laidLooks := .later }
def SlickAddsCardSaid : Prop := Claim7.holds Tryd.pinned (.plain (OpenSpec.ofChange slickAddsSpec)) slickAddsCard

/-- THE TIED CARD OF 'skimmerlaw02.SlickBoth'. -/
def slickBothCard : Claim7 := { stood := { row := slickBothRow, standIns := [], harness := (true, "38a074445a3967dedbdfb9374eda118d846433fb573c587a55d7c5edfad1e3dd"), looks := false }, kinds := [], alts := [], laidByText := true, laidKinds := [.data], laidTests := true, laidLooks := .later }
def SlickBothCardSaid : Prop := Claim7.holds Tryd.pinned (.plain (OpenSpec.ofChange slickBothSpec)) slickBothCard

/-- THE TIED CARD OF 'skimmerlaw02.SlickSpreads'. -/
def slickSpreadsCard : Claim7 := { stood := { row := slickSpreadsRow, standIns := [], harness := (true, "38a074445a3967dedbdfb9374eda118d846433fb573c587a55d7c5edfad1e3dd"), looks := false }, kinds := [], alts := [], laidByText := true, laidKinds := [.data], laidTests := true, laidLooks := .later }
def SlickSpreadsCardSaid : Prop := Claim7.holds Tryd.pinned (.plain (OpenSpec.ofChange slickSpreadsSpec)) slickSpreadsCard

/-- THE TIED CARD OF 'skimmerlaw02.SlickTurns'. -/
def slickTurnsCard : Claim7 := { stood := { row := slickTurnsRow, standIns := [], harness := (true, "38a074445a3967dedbdfb9374eda118d846433fb573c587a55d7c5edfad1e3dd"), looks := false }, kinds := [], alts := [], laidByText := true, laidKinds := [.data], laidTests := true, laidLooks := .later }
def SlickTurnsCardSaid : Prop := Claim7.holds Tryd.pinned (.plain (OpenSpec.ofChange slickTurnsSpec)) slickTurnsCard

/-- THE TIED CARD OF 'skimmertop.TopSlick'. -/
def topSlickCard : Claim7 := { stood := { row := topSlickRow, standIns := [], harness := (true, "38a074445a3967dedbdfb9374eda118d846433fb573c587a55d7c5edfad1e3dd"), looks := false }, kinds := [], alts := [], laidByText := true, laidKinds := [.data], laidTests := true, laidLooks := .later }
def TopSlickCardSaid : Prop := Claim7.holds Tryd.pinned (.plain (OpenSpec.ofChange topSlickSpec)) topSlickCard

/-- THE SECOND FORM's CARD OF 'skimmerlaw02.SlickBays'. -/
def slickBaysUptoCard : Claim7 := { stood := { row := slickBaysUptoRow, standIns := [], harness := (true, "38a074445a3967dedbdfb9374eda118d846433fb573c587a55d7c5edfad1e3dd"), looks := false }, kinds := [], alts := [], laidByText := true, laidKinds := [.data], laidTests := true, laidLooks := .later }
def SlickBaysUptoCardSaid : Prop := Claim7.holds Tryd.pinned (.plain (OpenSpec.upto slickBaysSpec)) slickBaysUptoCard

/-- THE SECOND FORM's CARD OF 'skimmerlaw02.SlickMoves'. -/
def slickMovesUptoCard : Claim7 := { stood := { row := slickMovesUptoRow, standIns := [], harness := (true, "38a074445a3967dedbdfb9374eda118d846433fb573c587a55d7c5edfad1e3dd"), looks := false }, kinds := [], alts := [], laidByText := true, laidKinds := [.data], laidTests := true, laidLooks := .later }
def SlickMovesUptoCardSaid : Prop := Claim7.holds Tryd.pinned (.plain (OpenSpec.upto slickMovesSpec)) slickMovesUptoCard

/-- THE SECOND FORM's CARD OF 'skimmerlaw02.SlickCosts'. -/
def slickCostsUptoCard : Claim7 := { stood := { row := slickCostsUptoRow, standIns := [], harness := (true, "38a074445a3967dedbdfb9374eda118d846433fb573c587a55d7c5edfad1e3dd"), looks := false }, kinds := [], alts := [], laidByText := true, laidKinds := [.data], laidTests := true, laidLooks := .later }
def SlickCostsUptoCardSaid : Prop := Claim7.holds Tryd.pinned (.plain (OpenSpec.upto slickCostsSpec)) slickCostsUptoCard

/-- THE SECOND FORM's CARD OF 'skimmerlaw02.SlickSums'. -/
def slickSumsUptoCard : Claim7 := { stood := { row := slickSumsUptoRow, standIns := [], harness := (true, "38a074445a3967dedbdfb9374eda118d846433fb573c587a55d7c5edfad1e3dd"), looks := false }, kinds := [], alts := [], laidByText := true, laidKinds := [.data], laidTests := true, laidLooks := .later }
def SlickSumsUptoCardSaid : Prop := Claim7.holds Tryd.pinned (.plain (OpenSpec.upto slickSumsSpec)) slickSumsUptoCard

/-- THE SECOND FORM's CARD OF 'skimmerlaw02.SlickWorst'. -/
def slickWorstUptoCard : Claim7 := { stood := { row := slickWorstUptoRow, standIns := [], harness := (true, "38a074445a3967dedbdfb9374eda118d846433fb573c587a55d7c5edfad1e3dd"), looks := false }, kinds := [], alts := [], laidByText := true, laidKinds := [.data], laidTests := true, laidLooks := .later }
def SlickWorstUptoCardSaid : Prop := Claim7.holds Tryd.pinned (.plain (OpenSpec.upto slickWorstSpec)) slickWorstUptoCard

/-- THE SECOND FORM's CARD OF 'skimmerlaw02.SlickMirrors'. -/
def slickMirrorsUptoCard : Claim7 := { stood := { row := slickMirrorsUptoRow, standIns := [], harness := (true, "38a074445a3967dedbdfb9374eda118d846433fb573c587a55d7c5edfad1e3dd"), looks := false }, kinds := [], alts := [], laidByText := true, laidKinds := [.data], laidTests := true, laidLooks := .later }
def SlickMirrorsUptoCardSaid : Prop := Claim7.holds Tryd.pinned (.plain (OpenSpec.upto slickMirrorsSpec)) slickMirrorsUptoCard

/-- THE SECOND FORM's CARD OF 'skimmerlaw02.SlickMass'. -/
def slickMassUptoCard : Claim7 := { stood := { row := slickMassUptoRow, standIns := [], harness := (true, "38a074445a3967dedbdfb9374eda118d846433fb573c587a55d7c5edfad1e3dd"), looks := false }, kinds := [], alts := [], laidByText := true, laidKinds := [.data], laidTests := true, laidLooks := .later }
def SlickMassUptoCardSaid : Prop := Claim7.holds Tryd.pinned (.plain (OpenSpec.upto slickMassSpec)) slickMassUptoCard

/-- THE SECOND FORM's CARD OF 'skimmerlaw02.SlickAdds'. -/
def slickAddsUptoCard : Claim7 := { stood := { row := slickAddsUptoRow, standIns := [], harness := (true, "38a074445a3967dedbdfb9374eda118d846433fb573c587a55d7c5edfad1e3dd"), looks := false }, kinds := [], alts := [], laidByText := true, laidKinds := [.data], laidTests := true, laidLooks := .later }
def SlickAddsUptoCardSaid : Prop := Claim7.holds Tryd.pinned (.plain (OpenSpec.upto slickAddsSpec)) slickAddsUptoCard

/-- THE SECOND FORM's CARD OF 'skimmerlaw02.SlickBoth'. -/
def slickBothUptoCard : Claim7 := { stood := { row := slickBothUptoRow, standIns := [], harness := (true, "38a074445a3967dedbdfb9374eda118d846433fb573c587a55d7c5edfad1e3dd"), looks := false }, kinds := [], alts := [], laidByText := true, laidKinds := [.data], laidTests := true, laidLooks := .later }
def SlickBothUptoCardSaid : Prop := Claim7.holds Tryd.pinned (.plain (OpenSpec.upto slickBothSpec)) slickBothUptoCard

/-- THE SECOND FORM's CARD OF 'skimmerlaw02.SlickSpreads'. -/
def slickSpreadsUptoCard : Claim7 := { stood := { row := slickSpreadsUptoRow, standIns := [], harness := (true, "38a074445a3967dedbdfb9374eda118d846433fb573c587a55d7c5edfad1e3dd"), looks := false }, kinds := [], alts := [], laidByText := true, laidKinds := [.data], laidTests := true, laidLooks := .later }
def SlickSpreadsUptoCardSaid : Prop := Claim7.holds Tryd.pinned (.plain (OpenSpec.upto slickSpreadsSpec)) slickSpreadsUptoCard

/-- THE SECOND FORM's CARD OF 'skimmerlaw02.SlickTurns'. -/
def slickTurnsUptoCard : Claim7 := { stood := { row := slickTurnsUptoRow, standIns := [], harness := (true, "38a074445a3967dedbdfb9374eda118d846433fb573c587a55d7c5edfad1e3dd"), looks := false }, kinds := [], alts := [], laidByText := true, laidKinds := [.data], laidTests := true, laidLooks := .later }
def SlickTurnsUptoCardSaid : Prop := Claim7.holds Tryd.pinned (.plain (OpenSpec.upto slickTurnsSpec)) slickTurnsUptoCard

/-- THE SECOND FORM's CARD OF 'skimmertop.TopSlick'. -/
def topSlickUptoCard : Claim7 := { stood := { row := topSlickUptoRow, standIns := [], harness := (true, "38a074445a3967dedbdfb9374eda118d846433fb573c587a55d7c5edfad1e3dd"), looks := false }, kinds := [], alts := [], laidByText := true, laidKinds := [.data], laidTests := true, laidLooks := .later }
def TopSlickUptoCardSaid : Prop := Claim7.holds Tryd.pinned (.plain (OpenSpec.upto topSlickSpec)) topSlickUptoCard
end Rows
end Go.Proofs.YtnbgjgiknfcdkaaDoor
