/-
  DERIVED. GIVEN WITH THE SEED: THE CARDS: each row of YtfgcgjogaaofdaaGreatDoorRows.lean that lists a variable, with what it lists TIED to the program's text (the seventh form; the later family's looks); each row that meets fmt, with fmt's text TOLD by the authors' own Lean function (tested against real Go, not proved from fmt's source: count such statements apart). THE CARD IS WHAT COUNTS. Prove the row's statement (the work); the ties are given (YtfgcgjogaaofdaaGreatDoorTie.lean); close each card by the builder's one call (the guide's Derived/Test/ToyasCard.lean, 'card_holds'). Laid BY PROGRAM, IN A SANDBOX (cutbox-door.mjs). By AI agents, Wed Nov 11 2026. No macro, syntax, notation, axiom, sorry.
-/
import Derived.Test.YtfgcgjogaaofdaaGreatDoorRows
import GoSem.ClaimSeven
namespace Go.Proofs.YtfgcgjogaaofdaaGreatDoor
namespace Rows

/-- THE TIED CARD OF 'alluviumlaw11.ChunkPuts'. -/
def chunkPutsCard : Claim7 := { stood := { row := chunkPutsRow, standIns := [], harness := (true, "2c5f68719e335ae89ceef36dcfc0d76184e8ec1f4e715e92f168c73dfd6a7eda"), looks := false }, kinds := [], alts := [], laidByText := true, laidKinds := [.data, .data], laidTests := true, laidLooks := .later }
def ChunkPutsCardSaid : Prop := Claim7.holds Tryz.pinned (.plain (OpenSpec.ofChange chunkPutsSpec)) chunkPutsCard

/-- THE SECOND FORM's CARD OF 'alluviumlaw11.ChunkPuts'. -/
def chunkPutsUptoCard : Claim7 := { stood := { row := chunkPutsUptoRow, standIns := [], harness := (true, "2c5f68719e335ae89ceef36dcfc0d76184e8ec1f4e715e92f168c73dfd6a7eda"), looks := false }, kinds := [], alts := [], laidByText := true, laidKinds := [.data, .data], laidTests := true, laidLooks := .later }
def ChunkPutsUptoCardSaid : Prop := Claim7.holds Tryz.pinned (.plain (OpenSpec.upto chunkPutsSpec)) chunkPutsUptoCard
end Rows
end Go.Proofs.YtfgcgjogaaofdaaGreatDoor
