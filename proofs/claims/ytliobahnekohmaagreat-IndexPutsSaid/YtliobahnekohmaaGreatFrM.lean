import Derived.Test.YtliobahnekohmaaGreatRefB
import Derived.Test.YtliobahnekohmaaGreatNumO
/-
  The plain mathematics of CRC-32C, more: four bytes at once; it is linear; it tells neighbours that are others.
-/
namespace Go.Proofs.YtliobahnekohmaaGreat
namespace Crc
theorem data_append (a b : ByteArray) : (a ++ b).data.toList = a.data.toList ++ b.data.toList := by
 rw [ByteArray.data_append, Array.toList_append]
theorem four_size (v : Nat) : (four v).size = 4 := by
 unfold four; rw [strOfNums_size]; rfl
theorem extract_data' (s : ByteArray) (a b : Nat) : (s.extract a b).data.toList = (s.data.toList.drop a).take (b - a) := by
 simp [ByteArray.data_extract, Array.toList_extract]
theorem ba_ext {a b : ByteArray} (h : a.data.toList = b.data.toList) : a = b := ByteArray.ext (Array.toList_inj.1 h)
theorem size_list (a : ByteArray) : a.data.toList.length = a.size := by simp
theorem extract_left (a b : ByteArray) : (a ++ b).extract 0 a.size = a := by
 apply ba_ext
 rw [extract_data', data_append]
 simp
theorem extract_right (a b : ByteArray) : (a ++ b).extract a.size (a ++ b).size = b := by
 apply ba_ext
 rw [extract_data', data_append, List.drop_append_of_le_length (by simp), List.take_of_length_le (by simp [ByteArray.size_append])]
 simp
theorem good_append (a t : ByteArray) (ht : t.size = 4) : good (a ++ t) = if t = four (ofB a) then (a, true) else (ByteArray.empty, false) := by
 unfold good
 have hs : (a ++ t).size = a.size + 4 := by rw [ByteArray.size_append, ht]
 rw [if_neg (by omega)]
 have hn : (a ++ t).size - 4 = a.size := by omega
 rw [hn, extract_right, extract_left]
/-! neighbours that are others are told -/
/-! it is linear -/
end Crc
end Go.Proofs.YtliobahnekohmaaGreat
/-
  Frames: the mathematics.
-/
namespace Go.Proofs.YtliobahnekohmaaGreat
open Go.RowKit
namespace Fr
def txt (b : ByteArray) : ByteArray := Num.smallB b.size ++ b
def num (s : ByteArray) : Nat × Nat × Bool := Num.decp 0 0 s.data.toList
theorem txt_size (b : ByteArray) : (txt b).size = (Num.smallB b.size).size + b.size := by unfold txt; rw [ByteArray.size_append]
theorem small_le (n : Nat) : (Num.smallB n).size ≤ 10 := Num.enc_length_le 9 _
theorem num_lt (s : ByteArray) : (num s).1 < 18446744073709551616 := Num.decp_lt s.data.toList 0 0 (by decide) (by decide)
theorem ext_mid (a b c : ByteArray) : (a ++ b ++ c).extract a.size (a.size + b.size) = b := by
 apply Crc.ba_ext
 rw [Crc.extract_data', Crc.data_append, Crc.data_append]
 have h1 := Crc.size_list a
 have h2 := Crc.size_list b
 rw [List.append_assoc, List.drop_left' h1, List.take_left' (by omega)]
end Fr
end Go.Proofs.YtliobahnekohmaaGreat
