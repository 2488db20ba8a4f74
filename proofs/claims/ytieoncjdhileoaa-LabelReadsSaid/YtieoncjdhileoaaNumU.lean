/-
  What the functions of the reference alluviumref03 come to: GetTake, GetWide.
-/
import Derived.Test.YtieoncjdhileoaaNumO
namespace Go.Proofs.Ytieoncjdhileoaa
open Go.RowKit

theorem whole (s : ByteArray) (k : Nat) (h : ¬ k < s.size) : s = s.extract 0 k := by
  apply ByteArray.ext; apply Array.toList_inj.1
  simp [ByteArray.data_extract, Array.toList_extract]
  rw [List.take_of_length_le (by simp; omega)]

theorem Num.num_drop (s : ByteArray) (k : Nat) (h : k < s.size) (m : Nat) (_hm : k < m) : num ((s.data.toList.take m).drop k) = s[k].toNat + 256 * num ((s.data.toList.take m).drop (k + 1)) := by
  have hl : k < (s.data.toList.take m).length := by simp; omega
  rw [List.drop_eq_getElem_cons hl, num]
  congr 1
  simp
  rfl

end Go.Proofs.Ytieoncjdhileoaa
