/-
  The reference's Good, and the document's example (works).
-/
import Derived.Test.YtaillfnmaiiapaaRefB
namespace Go.Proofs.Ytaillfnmaiiapaa
open Go.RowKit

theorem Crc.ex1 : ofB ⟨#[49, 50, 51, 52, 53, 54, 55, 56, 57]⟩ = 3808858755 := by decide +kernel
theorem Crc.ex2 : four (ofB ⟨#[97, 98]⟩) = ⟨#[54, 41, 162, 226]⟩ := by decide +kernel
theorem Crc.ex3 : good (⟨#[97, 98]⟩ ++ ⟨#[54, 41, 162, 226]⟩) = (⟨#[97, 98]⟩, true) := by decide +kernel
theorem Crc.ex4 : good ⟨#[97, 98, 99]⟩ = (ByteArray.empty, false) := by decide +kernel
theorem Crc.ex5 : ofB ⟨#[49, 50, 51, 52]⟩ = 4131058926 := by decide +kernel
theorem Crc.ex6 : 4294967295 - run (4294967295 - 4131058926) (ByteArray.data ⟨#[53, 54, 55, 56, 57]⟩).toList = 3808858755 := by decide +kernel
theorem Crc.ex7 : four (ofB ⟨#[120]⟩) = ⟨#[147, 95, 60, 169]⟩ := by decide +kernel
theorem Crc.ex8 : ofB ⟨#[]⟩ = 0 := by decide +kernel

end Go.Proofs.Ytaillfnmaiiapaa
