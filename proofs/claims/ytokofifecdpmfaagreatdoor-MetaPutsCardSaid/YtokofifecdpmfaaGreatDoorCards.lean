/-
  DERIVED. GIVEN WITH THE SEED: THE CARDS: each row of YtokofifecdpmfaaGreatDoorRows.lean that lists a variable, with what it lists TIED to the program's text (the seventh form; the later family's looks); each row that meets fmt, with fmt's text TOLD by the authors' own Lean function (tested against real Go, not proved from fmt's source: count such statements apart). THE CARD IS WHAT COUNTS. Prove the row's statement (the work); the ties are given (YtokofifecdpmfaaGreatDoorTie.lean); close each card by the builder's one call (the guide's Derived/Test/ToyasCard.lean, 'card_holds'). Laid BY PROGRAM, IN A SANDBOX (cutbox-door.mjs). By AI agents, Wed Nov 11 2026. No macro, syntax, notation, axiom, sorry.
-/
import Derived.Test.YtokofifecdpmfaaGreatDoorRows
import GoSem.ClaimSeven
namespace Go.Proofs.YtokofifecdpmfaaGreatDoor
namespace Rows

/-- THE TIED CARD OF 'alluviumlaw14.MetaPuts'. -/
def metaPutsCard : Claim7 := { stood := { row := metaPutsRow, standIns := [], harness := (true, "501ff8207a303b433725ba55fa0a9b3e2b3e8e7f59daea1d8c3ae13fb51fea36"), looks := true }, kinds := [], alts := [], laidByText := true, laidKinds := [.data, .data, .data, .sentinel, .sentinel], laidTests := true, laidLooks := .later }
def MetaPutsCardSaid : Prop := Claim7.holds Tryz.pinned (.plain (OpenSpec.ofChange metaPutsSpec)) metaPutsCard

/-- THE TIED CARD OF 'alluviumlaw14.MetaGets'. -/
def metaGetsCard : Claim7 := { stood := { row := metaGetsRow, standIns := [], harness := (true, "501ff8207a303b433725ba55fa0a9b3e2b3e8e7f59daea1d8c3ae13fb51fea36"), looks := true }, kinds := [], alts := [], laidByText := true, laidKinds := [.data, .data, .data, .sentinel, .sentinel], laidTests := true, laidLooks := .later }
def MetaGetsCardSaid : Prop := Claim7.holds Tryz.pinned (.plain (OpenSpec.ofChange metaGetsSpec)) metaGetsCard

/-- THE SECOND FORM's CARD OF 'alluviumlaw14.MetaPuts'. -/
def metaPutsUptoCard : Claim7 := { stood := { row := metaPutsUptoRow, standIns := [], harness := (true, "501ff8207a303b433725ba55fa0a9b3e2b3e8e7f59daea1d8c3ae13fb51fea36"), looks := true }, kinds := [], alts := [], laidByText := true, laidKinds := [.data, .data, .data, .sentinel, .sentinel], laidTests := true, laidLooks := .later }
def MetaPutsUptoCardSaid : Prop := Claim7.holds Tryz.pinned (.plain (OpenSpec.upto metaPutsSpec)) metaPutsUptoCard

/-- THE SECOND FORM's CARD OF 'alluviumlaw14.MetaGets'. -/
def metaGetsUptoCard : Claim7 := { stood := { row := metaGetsUptoRow, standIns := [], harness := (true, "501ff8207a303b433725ba55fa0a9b3e2b3e8e7f59daea1d8c3ae13fb51fea36"), looks := true }, kinds := [], alts := [], laidByText := true, laidKinds := [.data, .data, .data, .sentinel, .sentinel], laidTests := true, laidLooks := .later }
def MetaGetsUptoCardSaid : Prop := Claim7.holds Tryz.pinned (.plain (OpenSpec.upto metaGetsSpec)) metaGetsUptoCard
end Rows
end Go.Proofs.YtokofifecdpmfaaGreatDoor
