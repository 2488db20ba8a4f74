/-
  DERIVED. GIVEN WITH THE SEED: THE CARDS: each row of YtopdhcbhhkajpaaDoorRows.lean that lists a variable, with what it lists TIED to the program's text (the seventh form; the later family's looks); each row that meets fmt, with fmt's text TOLD by the authors' own Lean function (tested against real Go, not proved from fmt's source: count such statements apart). THE CARD IS WHAT COUNTS. Prove the row's statement (the work); the ties are given (YtopdhcbhhkajpaaDoorTie.lean); close each card by the builder's one call (the guide's Derived/Test/ToyasCard.lean, 'card_holds'). Laid BY PROGRAM, IN A SANDBOX (cutbox-door.mjs). By AI agents, Wed Nov 11 2026. No macro, syntax, notation, axiom, sorry.
-/
import Derived.Test.YtopdhcbhhkajpaaDoorRows
import GoSem.ClaimSeven
namespace Go.Proofs.YtopdhcbhhkajpaaDoor
namespace Rows

/-- THE TIED CARD OF 'alluviumlaw04.StampPuts'. -/
def stampPutsCard : Claim7 := { stood := { row := stampPutsRow, standIns := [], harness := (true, "38f98bd9e7b80e8d654c91f6a04e435cfc4822799b6d4ec918ed0a34a75880a8"), looks := false }, kinds := [], alts := [], laidByText := true, laidKinds := [.data], laidTests := true, laidLooks := .later }
def StampPutsCardSaid : Prop := Claim7.holds Tryd.pinned (.plain (OpenSpec.ofChange stampPutsSpec)) stampPutsCard

/-- THE TIED CARD OF 'alluviumlaw04.StampGets'. -/
def stampGetsCard : Claim7 := { stood := { row := stampGetsRow, standIns := [], harness := (true, "38f98bd9e7b80e8d654c91f6a04e435cfc4822799b6d4ec918ed0a34a75880a8"), looks := false }, kinds := [], alts := [], laidByText := true, laidKinds := [.data], laidTests := true, laidLooks := .later }
def StampGetsCardSaid : Prop := Claim7.holds Tryd.pinned (.plain (OpenSpec.ofChange stampGetsSpec)) stampGetsCard

/-- THE TIED CARD OF 'alluviumlaw04.StampAll'. -/
def stampAllCard : Claim7 := { stood := { row := stampAllRow, standIns := [], harness := (true, "38f98bd9e7b80e8d654c91f6a04e435cfc4822799b6d4ec918ed0a34a75880a8"), looks := false }, kinds := [], alts := [], laidByText := true, laidKinds := [.data], laidTests := true, laidLooks := .later }
def StampAllCardSaid : Prop := Claim7.holds Tryd.pinned (.plain (OpenSpec.ofChange stampAllSpec)) stampAllCard

/-- THE TIED CARD OF 'alluviumlaw04.StampBack'. -/
def stampBackCard : Claim7 := { stood := { row := stampBackRow, standIns := [], harness := (true, "38f98bd9e7b80e8d654c91f6a04e435cfc4822799b6d4ec918ed0a34a75880a8"), looks := false }, kinds := [], alts := [], laidByText := true, laidKinds := [.data], laidTests := true, laidLooks := .later }
def StampBackCardSaid : Prop := Claim7.holds Tryd.pinned (.plain (OpenSpec.ofChange stampBackSpec)) stampBackCard

/-- THE TIED CARD OF 'alluviumlaw04.StampSteady'. -/
def stampSteadyCard : Claim7 := { stood := { row := stampSteadyRow, standIns := [], harness := (true, "38f98bd9e7b80e8d654c91f6a04e435cfc4822799b6d4ec918ed0a34a75880a8"), looks := false }, kinds := [], alts := [], laidByText := true, laidKinds := [.data], laidTests := true, laidLooks := .later }
def StampSteadyCardSaid : Prop := Claim7.holds Tryd.pinned (.plain (OpenSpec.ofChange stampSteadySpec)) stampSteadyCard

/-- THE TIED CARD OF 'alluviumlaw04.StampCosts'. -/
def stampCostsCard : Claim7 := { stood := { row := stampCostsRow, standIns := [], harness := (true, "38f98bd9e7b80e8d654c91f6a04e435cfc4822799b6d4ec918ed0a34a75880a8"), looks := false }, kinds := [], alts := [], laidByText := true, laidKinds := [.data], laidTests := true, laidLooks := .later }
def StampCostsCardSaid : Prop := Claim7.holds Tryd.pinned (.plain (OpenSpec.ofChange stampCostsSpec)) stampCostsCard

/-- THE TIED CARD OF 'alluviumlaw04.StampMoves'. -/
def stampMovesCard : Claim7 := { stood := { row := stampMovesRow, standIns := [], harness := (true, "38f98bd9e7b80e8d654c91f6a04e435cfc4822799b6d4ec918ed0a34a75880a8"), looks := false }, kinds := [], alts := [], laidByText := true, laidKinds := [.data], laidTests := true, laidLooks := .later }
def StampMovesCardSaid : Prop := Claim7.holds Tryd.pinned (.plain (OpenSpec.ofChange stampMovesSpec)) stampMovesCard

/-- THE SECOND FORM's CARD OF 'alluviumlaw04.StampPuts'. -/
def stampPutsUptoCard : Claim7 := { stood := { row := stampPutsUptoRow, standIns := [], harness := (true, "38f98bd9e7b80e8d654c91f6a04e435cfc4822799b6d4ec918ed0a34a75880a8"), looks := false }, kinds := [], alts := [], laidByText := true, laidKinds := [.data], laidTests := true, laidLooks := .later }
def StampPutsUptoCardSaid : Prop := Claim7.holds Tryd.pinned (.plain (OpenSpec.upto stampPutsSpec)) stampPutsUptoCard

/-- THE SECOND FORM's CARD OF 'alluviumlaw04.StampGets'. -/
def stampGetsUptoCard : Claim7 := { stood := { row := stampGetsUptoRow, standIns := [], harness := (true, "38f98bd9e7b80e8d654c91f6a04e435cfc4822799b6d4ec918ed0a34a75880a8"), looks := false }, kinds := [], alts := [], laidByText := true, laidKinds := [.data], laidTests := true, laidLooks := .later }
def StampGetsUptoCardSaid : Prop := Claim7.holds Tryd.pinned (.plain (OpenSpec.upto stampGetsSpec)) stampGetsUptoCard

/-- THE SECOND FORM's CARD OF 'alluviumlaw04.StampAll'. -/
def stampAllUptoCard : Claim7 := { stood := { row := stampAllUptoRow, standIns := [], harness := (true, "38f98bd9e7b80e8d654c91f6a04e435cfc4822799b6d4ec918ed0a34a75880a8"), looks := false }, kinds := [], alts := [], laidByText := true, laidKinds := [.data], laidTests := true, laidLooks := .later }
def StampAllUptoCardSaid : Prop := Claim7.holds Tryd.pinned (.plain (OpenSpec.upto stampAllSpec)) stampAllUptoCard

/-- THE SECOND FORM's CARD OF 'alluviumlaw04.StampBack'. -/
def stampBackUptoCard : Claim7 := { stood := { row := stampBackUptoRow, standIns := [], harness := (true, "38f98bd9e7b80e8d654c91f6a04e435cfc4822799b6d4ec918ed0a34a75880a8"), looks := false }, kinds := [], alts := [], laidByText := true, laidKinds := [.data], laidTests := true, laidLooks := .later }
def StampBackUptoCardSaid : Prop := Claim7.holds Tryd.pinned (.plain (OpenSpec.upto stampBackSpec)) stampBackUptoCard

/-- THE SECOND FORM's CARD OF 'alluviumlaw04.StampSteady'. -/
def stampSteadyUptoCard : Claim7 := { stood := { row := stampSteadyUptoRow, standIns := [], harness := (true, "38f98bd9e7b80e8d654c91f6a04e435cfc4822799b6d4ec918ed0a34a75880a8"), looks := false }, kinds := [], alts := [], laidByText := true, laidKinds := [.data], laidTests := true, laidLooks := .later }
def StampSteadyUptoCardSaid : Prop := Claim7.holds Tryd.pinned (.plain (OpenSpec.upto stampSteadySpec)) stampSteadyUptoCard

/-- THE SECOND FORM's CARD OF 'alluviumlaw04.StampCosts'. -/
def stampCostsUptoCard : Claim7 := { stood := { row := stampCostsUptoRow, standIns := [], harness := (true, "38f98bd9e7b80e8d654c91f6a04e435cfc4822799b6d4ec918ed0a34a75880a8"), looks := false }, kinds := [], alts := [], laidByText := true, laidKinds := [.data], laidTests := true, laidLooks := .later }
def StampCostsUptoCardSaid : Prop := Claim7.holds Tryd.pinned (.plain (OpenSpec.upto stampCostsSpec)) stampCostsUptoCard

/-- THE SECOND FORM's CARD OF 'alluviumlaw04.StampMoves'. -/
def stampMovesUptoCard : Claim7 := { stood := { row := stampMovesUptoRow, standIns := [], harness := (true, "38f98bd9e7b80e8d654c91f6a04e435cfc4822799b6d4ec918ed0a34a75880a8"), looks := false }, kinds := [], alts := [], laidByText := true, laidKinds := [.data], laidTests := true, laidLooks := .later }
def StampMovesUptoCardSaid : Prop := Claim7.holds Tryd.pinned (.plain (OpenSpec.upto stampMovesSpec)) stampMovesUptoCard
end Rows
end Go.Proofs.YtopdhcbhhkajpaaDoor
