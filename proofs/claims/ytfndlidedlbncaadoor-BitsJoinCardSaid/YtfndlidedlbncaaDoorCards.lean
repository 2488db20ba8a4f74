/-
  DERIVED. GIVEN WITH THE SEED: THE CARDS: each row of YtfndlidedlbncaaDoorRows.lean that lists a variable, with what it lists TIED to the program's text (the seventh form; the later family's looks); each row that meets fmt, with fmt's text TOLD by the authors' own Lean function (tested against real Go, not proved from fmt's source: count such statements apart). THE CARD IS WHAT COUNTS. Prove the row's statement (the work); the ties are given (YtfndlidedlbncaaDoorTie.lean); close each card by the builder's one call (the guide's Derived/Test/ToyasCard.lean, 'card_holds'). Laid BY PROGRAM, IN A SANDBOX (cutbox-door.mjs). By AI agents, Wed Nov 11 2026. No macro, syntax, notation, axiom, sorry.
-/
import Derived.Test.YtfndlidedlbncaaDoorRows
import GoSem.ClaimSeven
namespace Go.Proofs.YtfndlidedlbncaaDoor
namespace Rows

/-- THE TIED CARD OF 'alluviumlaw02.BitsPuts'. -/
def bitsPutsCard : Claim7 := { stood := { row := bitsPutsRow, standIns := [], harness := (true, "7f9848dc542702475b8da1ac100344eb8eb83c0745664d4282eb9ddb1b28b7af"), looks := false }, kinds := [], alts := [], laidByText := true, laidKinds := [.data], laidTests := true, laidLooks := .later }
def BitsPutsCardSaid : Prop := Claim7.holds Tryd.pinned (.plain (OpenSpec.ofChange bitsPutsSpec)) bitsPutsCard

/-- THE TIED CARD OF 'alluviumlaw02.BitsGets'. -/
def bitsGetsCard : Claim7 := { stood := { row := bitsGetsRow, standIns := [], harness := (true, "7f9848dc542702475b8da1ac100344eb8eb83c0745664d4282eb9ddb1b28b7af"), looks := false }, kinds := [], alts := [], laidByText := true, laidKinds := [.data], laidTests := true, laidLooks := .later }
def BitsGetsCardSaid : Prop := Claim7.holds Tryd.pinned (.plain (OpenSpec.ofChange bitsGetsSpec)) bitsGetsCard

/-- THE TIED CARD OF 'alluviumlaw02.BitsCounts'. -/
def bitsCountsCard : Claim7 := { stood := { row := bitsCountsRow, standIns := [], harness := (true, "7f9848dc542702475b8da1ac100344eb8eb83c0745664d4282eb9ddb1b28b7af"), looks := false }, kinds := [], alts := [], laidByText := true, laidKinds := [.data], laidTests := true, laidLooks := .later }
def BitsCountsCardSaid : Prop := Claim7.holds Tryd.pinned (.plain (OpenSpec.ofChange bitsCountsSpec)) bitsCountsCard

/-- THE TIED CARD OF 'alluviumlaw02.BitsBack'. -/
def bitsBackCard : Claim7 := { stood := { row := bitsBackRow, standIns := [], harness := (true, "7f9848dc542702475b8da1ac100344eb8eb83c0745664d4282eb9ddb1b28b7af"), looks := false }, kinds := [], alts := [], laidByText := true, laidKinds := [.data], laidTests := true, laidLooks := .later }
def BitsBackCardSaid : Prop := Claim7.holds Tryd.pinned (.plain (OpenSpec.ofChange bitsBackSpec)) bitsBackCard

/-- THE TIED CARD OF 'alluviumlaw02.BitsJoin'. -/
def bitsJoinCard : Claim7 := { stood := { row := bitsJoinRow, standIns := [], harness := (true, "7f9848dc542702475b8da1ac100344eb8eb83c0745664d4282eb9ddb1b28b7af"), looks := false }, kinds := [], alts := [], laidByText := true, laidKinds := [.data], laidTests := true, laidLooks := .later }
def BitsJoinCardSaid : Prop := Claim7.holds Tryd.pinned (.plain (OpenSpec.ofChange bitsJoinSpec)) bitsJoinCard

/-- THE TIED CARD OF 'alluviumlaw02.BitsRoom'. -/
def bitsRoomCard : Claim7 := { stood := { row := bitsRoomRow, standIns := [], harness := (true, "7f9848dc542702475b8da1ac100344eb8eb83c0745664d4282eb9ddb1b28b7af"), looks := false }, kinds := [], alts := [], laidByText := true, laidKinds := [.data], laidTests := true, laidLooks := .later }
def BitsRoomCardSaid : Prop := Claim7.holds Tryd.pinned (.plain (OpenSpec.ofChange bitsRoomSpec)) bitsRoomCard

/-- THE SECOND FORM's CARD OF 'alluviumlaw02.BitsPuts'. -/
def bitsPutsUptoCard : Claim7 := { stood := { row := bitsPutsUptoRow, standIns := [], harness := (true, "7f9848dc542702475b8da1ac100344eb8eb83c0745664d4282eb9ddb1b28b7af"), looks := false }, kinds := [], alts := [], laidByText := true, laidKinds := [.data], laidTests := true, laidLooks := .later }
def BitsPutsUptoCardSaid : Prop := Claim7.holds Tryd.pinned (.plain (OpenSpec.upto bitsPutsSpec)) bitsPutsUptoCard

/-- THE SECOND FORM's CARD OF 'alluviumlaw02.BitsGets'. -/
def bitsGetsUptoCard : Claim7 := { stood := { row := bitsGetsUptoRow, standIns := [], harness := (true, "7f9848dc542702475b8da1ac100344eb8eb83c0745664d4282eb9ddb1b28b7af"), looks := false }, kinds := [], alts := [], laidByText := true, laidKinds := [.data], laidTests := true, laidLooks := .later }
def BitsGetsUptoCardSaid : Prop := Claim7.holds Tryd.pinned (.plain (OpenSpec.upto bitsGetsSpec)) bitsGetsUptoCard

/-- THE SECOND FORM's CARD OF 'alluviumlaw02.BitsCounts'. -/
def bitsCountsUptoCard : Claim7 := { stood := { row := bitsCountsUptoRow, standIns := [], harness := (true, "7f9848dc542702475b8da1ac100344eb8eb83c0745664d4282eb9ddb1b28b7af"), looks := false }, kinds := [], alts := [], laidByText := true, laidKinds := [.data], laidTests := true, laidLooks := .later }
def BitsCountsUptoCardSaid : Prop := Claim7.holds Tryd.pinned (.plain (OpenSpec.upto bitsCountsSpec)) bitsCountsUptoCard

/-- THE SECOND FORM's CARD OF 'alluviumlaw02.BitsBack'. -/
def bitsBackUptoCard : Claim7 := { stood := { row := bitsBackUptoRow, standIns := [], harness := (true, "7f9848dc542702475b8da1ac100344eb8eb83c0745664d4282eb9ddb1b28b7af"), looks := false }, kinds := [], alts := [], laidByText := true, laidKinds := [.data], laidTests := true, laidLooks := .later }
def BitsBackUptoCardSaid : Prop := Claim7.holds Tryd.pinned (.plain (OpenSpec.upto bitsBackSpec)) bitsBackUptoCard

/-- THE SECOND FORM's CARD OF 'alluviumlaw02.BitsJoin'. -/
def bitsJoinUptoCard : Claim7 := { stood := { row := bitsJoinUptoRow, standIns := [], harness := (true, "7f9848dc542702475b8da1ac100344eb8eb83c0745664d4282eb9ddb1b28b7af"), looks := false }, kinds := [], alts := [], laidByText := true, laidKinds := [.data], laidTests := true, laidLooks := .later }
def BitsJoinUptoCardSaid : Prop := Claim7.holds Tryd.pinned (.plain (OpenSpec.upto bitsJoinSpec)) bitsJoinUptoCard

/-- THE SECOND FORM's CARD OF 'alluviumlaw02.BitsRoom'. -/
def bitsRoomUptoCard : Claim7 := { stood := { row := bitsRoomUptoRow, standIns := [], harness := (true, "7f9848dc542702475b8da1ac100344eb8eb83c0745664d4282eb9ddb1b28b7af"), looks := false }, kinds := [], alts := [], laidByText := true, laidKinds := [.data], laidTests := true, laidLooks := .later }
def BitsRoomUptoCardSaid : Prop := Claim7.holds Tryd.pinned (.plain (OpenSpec.upto bitsRoomSpec)) bitsRoomUptoCard
end Rows
end Go.Proofs.YtfndlidedlbncaaDoor
