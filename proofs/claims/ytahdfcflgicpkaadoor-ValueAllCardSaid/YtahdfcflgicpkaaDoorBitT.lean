/-
  Bits as a text of 0 and 1: the mathematics.
-/
import Derived.Test.YtahdfcflgicpkaaDoorBitS0
namespace Go.Proofs.YtahdfcflgicpkaaDoor
open Go.RowKit
namespace Bit

def chr (b : Bool) : UInt8 := if b then 49 else 48
/-- bits, as a text -/
def str (B : List Bool) : ByteArray := ⟨(B.map chr).toArray⟩
theorem ba_ext {a b : ByteArray} (h : a.data.toList = b.data.toList) : a = b := ByteArray.ext (Array.toList_inj.1 h)
theorem str_list (B : List Bool) : (str B).data.toList = B.map chr := by simp [str]
theorem str_size (B : List Bool) : (str B).size = B.length := by
  show (str B).data.size = _
  rw [← Array.length_toList, str_list, List.length_map]
theorem str_append (B C : List Bool) : str B ++ str C = str (B ++ C) := ba_ext (by simp [str_list])
theorem str_nil : str [] = ByteArray.empty := rfl
theorem str_cons (b : Bool) (B : List Bool) : (⟨#[chr b]⟩ : ByteArray) ++ str B = str (b :: B) := ba_ext (by simp [str_list])
theorem str_snoc (b : Bool) (B : List Bool) : str B ++ (⟨#[chr b]⟩ : ByteArray) = str (B ++ [b]) := ba_ext (by simp [str_list])
theorem str_extract (B : List Bool) (a b : Nat) : (str B).extract a b = str ((B.drop a).take (b - a)) := ba_ext (by simp [str_list, ByteArray.data_extract, List.extract_eq_take_drop, List.map_take, List.map_drop])
theorem str_get (B : List Bool) (k : Nat) (h : k < (str B).size) : (str B)[k] = chr (B.getD k false) := by
  have hl : k < B.length := by rwa [str_size] at h
  show (str B).data[k] = _
  have e : (str B).data[k]'h = (str B).data.toList[k]'(by rw [str_list, List.length_map]; exact hl) := rfl
  rw [e]
  simp [str_list, List.getD, hl]
theorem str_inj {B C : List Bool} (h : str B = str C) : B = C := by
  have e : B.map chr = C.map chr := by rw [← str_list, ← str_list, h]
  have hi : ∀ a b : Bool, chr a = chr b → a = b := by decide
  exact (List.map_inj_right (fun a b h => hi a b h)).1 e

theorem of_front (v i : Nat) : of v (i + 1) = (decide (v / 2 ^ i % 2 = 1)) :: of v i := by
  show v.testBit i :: of v i = _
  rw [Nat.testBit_eq_decide_div_mod_eq]
theorem val_snoc (B : List Bool) (b : Bool) : val (B ++ [b]) = val B * 2 + b.toNat := by
  rw [val_append]; simp [val]
theorem val_take_succ (B : List Bool) (k : Nat) (h : k < B.length) : val (B.take (k + 1)) = val (B.take k) * 2 + (B.getD k false).toNat := by
  rw [List.take_succ_eq_append_getElem h, val_snoc]
  simp [List.getD, h]
theorem un_take_succ (l : List UInt8) (k : Nat) (h : k < l.length) : un (l.take (k + 1)) = un (l.take k) ++ of (l[k]).toNat 8 := by
  unfold un
  rw [List.take_succ_eq_append_getElem h, List.flatMap_append]
  congr 1
/-- filled with 0, to whole bytes -/
theorem pack_zero (B : List Bool) (h : B.length % 8 ≠ 0) : pack (B ++ [false]) = pack B := by
  have hs : size (B ++ [false]) = size B := by unfold size; rw [List.length_append]; simp; omega
  unfold pack
  rw [hs]
  apply List.map_congr_left
  intro j hj
  have hj := List.mem_range.1 hj
  congr 1
  rcases Nat.lt_or_ge j (B.length / 8) with hlt | hge
  · exact at_append_same B [false] j hlt
  · obtain rfl : j = B.length / 8 := by unfold size at hj; omega
    rw [at_append B [false] (by simp; omega)]
    simp [val]
theorem at_whole (B : List Bool) (j : Nat) (h : 8 * j + 8 ≤ B.length) : at_ B j = val ((B.drop (8 * j)).take 8) := by
  unfold at_
  have : ((B.drop (8 * j)).take 8).length = 8 := by simp; omega
  rw [this]; simp
theorem pack_snoc (B : List Bool) (j : Nat) (h : 8 * j + 8 ≤ B.length) : (pack B).take (j + 1) = (pack B).take j ++ [UInt8.ofNat (val ((B.drop (8 * j)).take 8))] := by
  have hl : j < (pack B).length := by rw [pack_length]; unfold size; omega
  rw [List.take_succ_eq_append_getElem hl]
  congr 2
  have e := pack_get B j (by unfold size; omega)
  rw [List.getElem?_eq_getElem hl] at e
  rw [Option.some.inj e, at_whole B j h]
theorem val_pos_of (B : List Bool) (k : Nat) (h : k < B.length) (hk : B.getD k false = true) : 0 < val B := by
  have h1 := val_take_succ B k h
  rw [hk] at h1
  have h2 : B = B.take (k + 1) ++ B.drop (k + 1) := (List.take_append_drop _ _).symm
  rw [h2, val_append, h1]
  have := Nat.two_pow_pos (B.drop (k + 1)).length
  have h3 : 1 ≤ val (B.take k) * 2 + Bool.toNat true := by simp
  have h4 := Nat.mul_le_mul_right (2 ^ (B.drop (k + 1)).length) h3
  omega
/-- 0s to fill with -/
theorem pack_fill (B C : List Bool) (h : pack C = pack B) (h8 : C.length % 8 ≠ 0) : pack (C ++ [false]) = pack B := (pack_zero C h8).trans h
end Bit
def strLen : Value → Nat
  | .string t => t.size
  | _ => 0
end Go.Proofs.YtahdfcflgicpkaaDoor
