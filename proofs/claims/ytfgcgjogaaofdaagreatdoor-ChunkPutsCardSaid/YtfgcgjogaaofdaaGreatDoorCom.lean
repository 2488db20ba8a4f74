import Derived.Test.YtfgcgjogaaofdaaGreatDoorBitG
import Derived.Test.YtfgcgjogaaofdaaGreatDoorNumO
/-
  What the small functions of package bits come to: NewWriter, NewReader, Len, Bytes, Clean.
-/
namespace Go.Proofs.YtfgcgjogaaofdaaGreatDoor
open Go.RowKit

theorem NewWriter_any (w : World) : Calls Tryz.prog 70 #[] w fun e w' => e = .returned (.pointer (some ⟨w.heap.size, 0, none⟩)) ∧ w' = w.alloc (.cells #[.slice none 0 0, .int .i64 0] 117) := by
  go_enter Tryz.func70, Tryz.ntmps70
  go_wp2_with fail
  go_ret
  exact ⟨rfl, rfl⟩
theorem NewReader_any (s : ByteArray) (w : World) : Calls Tryz.prog 74 #[.string s] w fun e w' => e = .returned (.pointer (some ⟨w.heap.size, 0, none⟩)) ∧ w' = w.alloc (.cells #[.string s, .int .i64 0] 131) := by
  go_enter Tryz.func74, Tryz.ntmps74
  go_wp2_with fail
  go_ret
  exact ⟨rfl, rfl⟩
theorem WrAt.new (w : World) (base : Nat) : WrAt (w.alloc (.cells #[.slice none 0 0, .int .i64 0] 117)) base w.heap.size none 0 [] :=
  ⟨heap_alloc_new w _, World.ownsRow_nil _ _ _ _⟩
/-- the bytes of bits, as a text -/
def Bit.text (B : List Bool) : ByteArray := ⟨(Bit.pack B).toArray⟩
theorem Bit.text_size (B : List Bool) : (Bit.text B).size = (B.length + 7) / 8 := by unfold Bit.text; exact Bit.pack_length B
theorem Bit.text_bits (B : List Bool) : Bit.bits (Bit.text B) = B ++ List.replicate (8 * Bit.size B - B.length) false := Bit.un_pack B
set_option maxHeartbeats 400000 in
theorem Bytes_any {base p cap : Nat} {A : Option Addr} {B : List Bool} (w : World) (h : WrAt w base p A cap B) : Calls Tryz.prog 72 #[.pointer (some ⟨p, 0, none⟩)] w fun e w' => e = .returned (.string (Bit.text B)) ∧ w' = w := by
  have c1 : w.cell? ⟨p, 0, none⟩ = some (.slice A (Bit.pack B).length cap) := cell_of_row _ _ _ _ _ _ h.cells
  have hc := own_bytes (P := Tryz.prog) (Bit.pack B) Tryz.underlying60 Tryz.underlying5 Tryz.underlying9 h.own
  generalize hs : (⟨(Bit.pack B).toArray⟩ : ByteArray) = t at *
  have ht : Bit.text B = t := hs
  rw [ht]
  clear h hs ht
  go_enter Tryz.func72, Tryz.ntmps72
  go_wp2_with fail
  go_ret
  exact ⟨rfl, rfl⟩

set_option maxRecDepth 100000 in
set_option maxHeartbeats 400000 in
theorem Clean_any (p : Nat) (s : ByteArray) (hs : s.size ≤ 137438953472) (x : Nat) (hx : x ≤ 8 * s.size) (w : World) (h : RdAt w p s x) (b : Bool)
    (hb : b = (decide (8 * s.size - x < 8) && decide (Bit.val (((Bit.bits s).drop x).take (Bit.wd ((8 * s.size - x : Nat) : Int))) = 0))) :
    Calls Tryz.prog 76 #[.pointer (some ⟨p, 0, none⟩)] w fun e w' => e = .returned (.bool b) ∧ Below w.heap.size w w' := by
  have c0 : w.cell? ⟨p, 0, none⟩ = some (.string s) := cell_of_row _ _ _ _ _ _ h
  have c1 : w.cell? ⟨p, 1, none⟩ = some (.int .i64 x) := cell_of_row _ _ _ _ _ _ h
  have hl := fun W (h : RdAt W p s x) => Left_any p s hs x hx W h
  have HL := Lib.hid hl; have HR := Lib.hid h; have HB := Lib.hid hb; clear hl h hb
  have hpl : p < w.heap.size := (Array.getElem?_eq_some_iff.1 HR.out).1
  go_enter Tryz.func76, Tryz.ntmps76
  go_wp2_with fail
  refine (HL.out _ ((Below.heap_alloc w _ p hpl).trans HR.out)).mono ?_; rintro e w1 ⟨rfl, hd⟩
  have r1 : RdAt w1 w.heap.size s x := by unfold RdAt; rw [hd.heap]; exact heap_alloc_new w _
  have r1p : RdAt w1 p s x := by unfold RdAt; rw [hd.heap]; exact (Below.heap_alloc w _ p hpl).trans HR.out
  have b1 : Below w.heap.size w w1 := ((Below.refl w.heap.size w).alloc (Nat.le_refl _) (.cells #[.string s, .int .i64 x] 131)).grown (hd.grown none) (by simp) (fun r e => by cases e)
  have R1 := Lib.hid r1; have R1p := Lib.hid r1p; have B1 := Lib.hid b1; clear hd r1 r1p b1
  have hwd : x + Bit.wd ((8 * s.size - x : Nat) : Int) ≤ 8 * s.size := by unfold Bit.wd; omega
  have hg := Get_yes w.heap.size s hs x ((8 * s.size - x : Nat) : Int) w1 R1.out hwd
  have hvl := Bit.val_take_lt ((Bit.bits s).drop x) (Bit.wd ((8 * s.size - x : Nat) : Int))
  generalize hv : Bit.val (((Bit.bits s).drop x).take (Bit.wd ((8 * s.size - x : Nat) : Int))) = vv at *
  have HG := Lib.hid hg; have HV := Lib.hid hv; clear hg hv hwd hvl
  generalize hL : 8 * s.size - x = L at *
  have HLL := Lib.hid hL; clear hL
  go_wp2_with fail
  refine HG.out.mono ?_; rintro e w2 ⟨rfl, hr2, hf2⟩
  have hp1 : p < w1.heap.size := (Array.getElem?_eq_some_iff.1 R1p.out).1
  have r2p : RdAt w2 p s x := (hf2.same p hp1 (fun e => by have : p = w.heap.size := e; omega)).trans R1p.out
  have b2 : Below w.heap.size w w2 := B1.out.trans (hf2.below (by have := B1.out.size; omega) (fun k hk => by have : k = w.heap.size := hk; omega))
  have R2p := Lib.hid r2p; have B2 := Lib.hid b2; clear hr2 hf2 r2p b2
  go_wp2_with fail
  refine (HL.out _ R2p.out).mono ?_; rintro e w3 ⟨rfl, hd⟩
  have b3 := Lib.hid (B2.out.grown (hd.grown none) B2.out.size (fun r e => by cases e)); clear hd
  by_cases h8 : L < 8
  · have d8 : decide ((L : Int) < 8) = true := by simp; omega
    by_cases h0 : vv = 0
    · have d0 : ((vv : Int) == 0) = true := by simp; omega
      go_wp2_with fail
      go_ret
      have hb := HB.out
      rw [decide_eq_true h8, decide_eq_true h0] at hb
      subst hb
      exact ⟨rfl, b3.out⟩
    · have d0 : ((vv : Int) == 0) = false := by simp; omega
      go_wp2_with fail
      go_ret
      have hb := HB.out
      rw [decide_eq_true h8, decide_eq_false h0] at hb
      subst hb
      exact ⟨rfl, b3.out⟩
  · have d8 : decide ((L : Int) < 8) = false := by simp; omega
    go_wp2_with fail
    go_ret
    have hb := HB.out
    rw [decide_eq_false h8] at hb
    subst hb
    exact ⟨rfl, b3.out⟩

end Go.Proofs.YtfgcgjogaaofdaaGreatDoor
/-
  Bits as a text of 0 and 1: the mathematics.
-/
namespace Go.Proofs.YtfgcgjogaaofdaaGreatDoor
open Go.RowKit
namespace Bit

def chr (b : Bool) : UInt8 := if b then 49 else 48
/-- bits, as a text -/
def str (B : List Bool) : ByteArray := ⟨(B.map chr).toArray⟩
theorem ba_ext {a b : ByteArray} (h : a.data.toList = b.data.toList) : a = b := ByteArray.ext (Array.toList_inj.1 h)
theorem str_list (B : List Bool) : (str B).data.toList = B.map chr := by simp [str]
theorem str_size (B : List Bool) : (str B).size = B.length := by
  show (str B).data.size = _
  rw [← Array.length_toList, str_list, List.length_map]
theorem str_append (B C : List Bool) : str B ++ str C = str (B ++ C) := ba_ext (by simp [str_list])
theorem str_nil : str [] = ByteArray.empty := rfl
theorem str_cons (b : Bool) (B : List Bool) : (⟨#[chr b]⟩ : ByteArray) ++ str B = str (b :: B) := ba_ext (by simp [str_list])
theorem str_snoc (b : Bool) (B : List Bool) : str B ++ (⟨#[chr b]⟩ : ByteArray) = str (B ++ [b]) := ba_ext (by simp [str_list])
theorem str_extract (B : List Bool) (a b : Nat) : (str B).extract a b = str ((B.drop a).take (b - a)) := ba_ext (by simp [str_list, ByteArray.data_extract, List.extract_eq_take_drop, List.map_take, List.map_drop])
theorem str_get (B : List Bool) (k : Nat) (h : k < (str B).size) : (str B)[k] = chr (B.getD k false) := by
  have hl : k < B.length := by rwa [str_size] at h
  show (str B).data[k] = _
  have e : (str B).data[k]'h = (str B).data.toList[k]'(by rw [str_list, List.length_map]; exact hl) := rfl
  rw [e]
  simp [str_list, List.getD, hl]
theorem str_inj {B C : List Bool} (h : str B = str C) : B = C := by
  have e : B.map chr = C.map chr := by rw [← str_list, ← str_list, h]
  have hi : ∀ a b : Bool, chr a = chr b → a = b := by decide
  exact (List.map_inj_right (fun a b h => hi a b h)).1 e

theorem of_front (v i : Nat) : of v (i + 1) = (decide (v / 2 ^ i % 2 = 1)) :: of v i := by
  show v.testBit i :: of v i = _
  rw [Nat.testBit_eq_decide_div_mod_eq]
theorem val_snoc (B : List Bool) (b : Bool) : val (B ++ [b]) = val B * 2 + b.toNat := by
  rw [val_append]; simp [val]
theorem val_take_succ (B : List Bool) (k : Nat) (h : k < B.length) : val (B.take (k + 1)) = val (B.take k) * 2 + (B.getD k false).toNat := by
  rw [List.take_succ_eq_append_getElem h, val_snoc]
  simp [List.getD, h]
theorem un_take_succ (l : List UInt8) (k : Nat) (h : k < l.length) : un (l.take (k + 1)) = un (l.take k) ++ of (l[k]).toNat 8 := by
  unfold un
  rw [List.take_succ_eq_append_getElem h, List.flatMap_append]
  congr 1
/-- filled with 0, to whole bytes -/
theorem pack_zero (B : List Bool) (h : B.length % 8 ≠ 0) : pack (B ++ [false]) = pack B := by
  have hs : size (B ++ [false]) = size B := by unfold size; rw [List.length_append]; simp; omega
  unfold pack
  rw [hs]
  apply List.map_congr_left
  intro j hj
  have hj := List.mem_range.1 hj
  congr 1
  rcases Nat.lt_or_ge j (B.length / 8) with hlt | hge
  · exact at_append_same B [false] j hlt
  · obtain rfl : j = B.length / 8 := by unfold size at hj; omega
    rw [at_append B [false] (by simp; omega)]
    simp [val]
theorem at_whole (B : List Bool) (j : Nat) (h : 8 * j + 8 ≤ B.length) : at_ B j = val ((B.drop (8 * j)).take 8) := by
  unfold at_
  have : ((B.drop (8 * j)).take 8).length = 8 := by simp; omega
  rw [this]; simp
theorem pack_snoc (B : List Bool) (j : Nat) (h : 8 * j + 8 ≤ B.length) : (pack B).take (j + 1) = (pack B).take j ++ [UInt8.ofNat (val ((B.drop (8 * j)).take 8))] := by
  have hl : j < (pack B).length := by rw [pack_length]; unfold size; omega
  rw [List.take_succ_eq_append_getElem hl]
  congr 2
  have e := pack_get B j (by unfold size; omega)
  rw [List.getElem?_eq_getElem hl] at e
  rw [Option.some.inj e, at_whole B j h]
theorem val_pos_of (B : List Bool) (k : Nat) (h : k < B.length) (hk : B.getD k false = true) : 0 < val B := by
  have h1 := val_take_succ B k h
  rw [hk] at h1
  have h2 : B = B.take (k + 1) ++ B.drop (k + 1) := (List.take_append_drop _ _).symm
  rw [h2, val_append, h1]
  have := Nat.two_pow_pos (B.drop (k + 1)).length
  have h3 : 1 ≤ val (B.take k) * 2 + Bool.toNat true := by simp
  have h4 := Nat.mul_le_mul_right (2 ^ (B.drop (k + 1)).length) h3
  omega
/-- 0s to fill with -/
theorem pack_fill (B C : List Bool) (h : pack C = pack B) (h8 : C.length % 8 ≠ 0) : pack (C ++ [false]) = pack B := (pack_zero C h8).trans h
end Bit
def strLen : Value → Nat
  | .string t => t.size
  | _ => 0
end Go.Proofs.YtfgcgjogaaofdaaGreatDoor
/-
  What the functions of the reference alluviumref02 come to.
-/
namespace Go.Proofs.YtfgcgjogaaofdaaGreatDoor
open Go.RowKit

set_option maxRecDepth 100000 in
set_option maxHeartbeats 400000 in
theorem rBits_any (v : Nat) (hv : Hid (v < 18446744073709551616)) (n : Int) (w : World) :
    Calls Tryz.prog 41 #[.int .u64 v, .int .i64 n] w fun e w' => e = .returned (.string (Bit.str (Bit.of v (Bit.wd n)))) ∧ w' = w := by
  have hn : (n < 0 ∧ Bit.wd n = 0) ∨ (0 ≤ n ∧ n ≤ 64 ∧ (Bit.wd n : Int) = n) ∨ (64 < n ∧ Bit.wd n = 64) := by unfold Bit.wd; omega
  have hle := Bit.wd_le n
  generalize Bit.wd n = nn at *
  go_enter Tryz.func41, Tryz.ntmps41
  go_wp2_with fail
  go_loop [0, 5, 6] (fun x s i => ∃ k : Nat, k ≤ nn ∧ i = .int .i64 k ∧ x = .int .u64 ((v / 2 ^ k : Nat) : Int) ∧ s = .string (Bit.str (Bit.of v k))) (fun _ _ i => nn - (intOf i).toNat)
  case atStart => exact ⟨0, by omega, rfl, by simp, rfl⟩
  case round =>
    obtain ⟨k, hk, rfl, rfl, rfl⟩ := hrel
    by_cases hlt : k < nn
    · have d1 : decide ((k : Int) < n) = true := by simp; omega
      have d2 : decide ((k : Int) < 64) = true := by simp; omega
      have hz := Bit.str_size (Bit.of v k)
      rw [Bit.of_length] at hz
      have hq : v / 2 ^ (k + 1) = v / 2 ^ k / 2 := by rw [Nat.pow_succ, Nat.div_div_eq_div_mul]
      have hs1 : (⟨#[49]⟩ : ByteArray) ++ Bit.str (Bit.of v k) = Bit.str (true :: Bit.of v k) := Bit.str_cons true _
      have hs0 : (⟨#[48]⟩ : ByteArray) ++ Bit.str (Bit.of v k) = Bit.str (false :: Bit.of v k) := Bit.str_cons false _
      have hf := Bit.of_front v k
      generalize Bit.str (Bit.of v k) = t at *
      have hy : v / 2 ^ k < 18446744073709551616 := Nat.lt_of_le_of_lt (Nat.div_le_self _ _) hv.out
      generalize v / 2 ^ k = y at *
      have hw : IntKind.u64.wrap ((y : Int) / 2) = (y : Int) / 2 := by rw [IntKind.wrap_u64]; omega
      clear hy
      have HQ := Lib.hid hq; have HF := Lib.hid hf; have HS1 := Lib.hid hs1; have HS0 := Lib.hid hs0; have HN := Lib.hid hn
      clear hq hf hs1 hs0 hn
      rcases Nat.mod_two_eq_zero_or_one y with h | h
      · have e1 : ((y : Int) % 2 == 1) = false := by simp; omega
        have H := Lib.hid h; clear h
        go_wp2_with fail
        go_round
        case rel => exact ⟨k + 1, by omega, by go_num, by rw [HQ.out]; go_num, by rw [HF.out, H.out]; exact congrArg _ HS0.out⟩
        case measure => simp [intOf]; omega
      · have e1 : ((y : Int) % 2 == 1) = true := by simp; omega
        have H := Lib.hid h; clear h
        go_wp2_with fail
        go_round
        case rel => exact ⟨k + 1, by omega, by go_num, by rw [HQ.out]; go_num, by rw [HF.out, H.out]; exact congrArg _ HS1.out⟩
        case measure => simp [intOf]; omega
    · have hkn : k = nn := by omega
      have hd : decide ((k : Int) < n) = false ∨ (decide ((k : Int) < n) = true ∧ decide ((k : Int) < 64) = false) := by simp only [decide_eq_true_eq, decide_eq_false_iff_not]; omega
      have HK := Lib.hid hkn; clear hkn hn hlt
      rcases hd with d1 | ⟨d1, d2⟩
      all_goals
        go_wp2_with fail
        go_ret
        have hk := HK.out
        subst hk
        exact ⟨rfl, rfl⟩

set_option maxRecDepth 100000 in
set_option maxHeartbeats 400000 in
theorem rNumber_any (B : List Bool) (hB : B.length ≤ 64) (w : World) :
    Calls Tryz.prog 38 #[.string (Bit.str B)] w fun e w' => e = .returned (.int .u64 (Bit.val B : Nat)) ∧ w' = w := by
  have hz := Bit.str_size B
  generalize hS : Bit.str B = s at *
  have HS := Lib.hid hS; clear hS
  go_enter Tryz.func38, Tryz.ntmps38
  have hs64 : s.size ≤ 64 := by omega
  have HZ := Lib.hid hz; clear hz
  go_wp2_with fail
  go_loop [3, 4] (fun x i => ∃ k : Nat, k ≤ s.size ∧ i = .int .i64 k ∧ x = .int .u64 (Bit.val (B.take k) : Nat)) (fun _ i => s.size - (intOf i).toNat)
  case atStart => exact ⟨0, by omega, rfl, rfl⟩
  case round =>
    obtain ⟨k, hk, rfl, rfl⟩ := hrel
    by_cases hlt : k < s.size
    · have hg : s[k] = Bit.chr (B.getD k false) := by
        have := HS.out
        subst this
        exact Bit.str_get B k hlt
      have hst := Bit.val_take_succ B k (by have := HZ.out; omega)
      have hl1 := Bit.val_take_lt B k
      have hl2 := Bit.val_take_lt B (k + 1)
      have hp : 2 ^ (k + 1) ≤ 2 ^ 64 := Bit.two_pow_le (by omega)
      have hw1 : IntKind.u64.wrap ((Bit.val (B.take k) : Nat) * 2 : Int) = ((Bit.val (B.take k) * 2 : Nat) : Int) := by rw [IntKind.wrap_u64]; omega
      have hw2 : B.getD k false = true → IntKind.u64.wrap (((Bit.val (B.take k) * 2 : Nat) : Int) + 1) = ((Bit.val (B.take (k + 1)) : Nat) : Int) := fun h => by rw [h] at hst; simp at hst; rw [IntKind.wrap_u64]; omega
      generalize hx : Bit.val (B.take k) = x at *
      generalize hy : Bit.val (B.take (k + 1)) = y at *
      generalize B.getD k false = b at *
      have HST := Lib.hid hst; have HY := Lib.hid hy
      clear hst hl1 hl2 hp hx hy
      cases b with
      | true =>
        have hw3 := hw2 rfl
        have e1 : ((s[k].toNat : Int) == 49) = true := by rw [hg]; rfl
        clear hw2 hg
        generalize hd : x * 2 = d at *
        have HD := Lib.hid hd; clear hd
        go_wp2_with fail
        go_round
        case rel => exact ⟨k + 1, by omega, by go_num, by rw [HY.out]⟩
        case measure => simp [intOf]; omega
      | false =>
        have e1 : ((s[k].toNat : Int) == 49) = false := by rw [hg]; rfl
        clear hw2 hg
        go_wp2_with fail
        go_round
        case rel => exact ⟨k + 1, by omega, by go_num, by rw [HY.out, HST.out]; simp⟩
        case measure => simp [intOf]; omega
    · go_wp2_with fail
      go_ret
      exact ⟨ret_int (by rw [List.take_of_length_le (by have := HZ.out; omega)]), rfl⟩

set_option maxRecDepth 100000 in
set_option maxHeartbeats 1000000 in
theorem rBytes_any (B : List Bool) (hB : B.length ≤ 40000) (w : World) :
    Calls Tryz.prog 26 #[.string (Bit.str B)] w fun e w' => e = .returned (.string (Bit.text B)) ∧ Below w.heap.size w w' := by
  obtain ⟨i0, hi, hz0, hz1, hz2⟩ := info_parts Tryz.info_u8
  go_enter Tryz.func26, Tryz.ntmps26
  go_wp2_with fail
  go_loop [0] (fun s => ∃ C : List Bool, s = .string (Bit.str C) ∧ Bit.pack C = Bit.pack B ∧ C.length ≤ (B.length + 7) / 8 * 8) (fun s => (8 - strLen s % 8) % 8)
  case atStart => exact ⟨B, rfl, rfl, by omega⟩
  case round =>
    obtain ⟨C, rfl, hpk, hC⟩ := hrel
    have hz := Bit.str_size C
    by_cases h8 : C.length % 8 = 0
    · have e1 : (((Bit.str C).size : Int) % 8 != 0) = false := by rw [hz]; simp; omega
      have HPK := Lib.hid hpk; clear hpk
      generalize hS : Bit.str C = s at *
      have HS := Lib.hid hS; have HZ := Lib.hid hz; clear hS hz
      have hs4 : s.size ≤ 40008 := by have := HZ.out; omega
      go_wp2_with fail
      go_loopw [3, 4] (fun o i wr => ∃ k : Nat, 8 * k ≤ s.size ∧ i = .int .i64 ((8 * k : Nat) : Int) ∧ wr.ownsRow w.heap.size 5 1 o k (byteVals ((Bit.pack C).take k)) ∧ Below w.heap.size w wr) (fun _ i _ => s.size - (intOf i).toNat)
      case atStart => exact ⟨0, by omega, rfl, World.ownsRow_nil _ _ _ _, Below.refl _ _⟩
      case round =>
        obtain ⟨k, hk, rfl, hown, hb⟩ := hrel
        have hbs := hb.size
        by_cases hlt : 8 * k < s.size
        · have hk8 : 8 * k + 8 ≤ C.length := by have := HZ.out; omega
          have hex := Bit.str_extract C (8 * k) (8 * k + 8)
          rw [show 8 * k + 8 - 8 * k = 8 from by omega] at hex
          have hpsn := Bit.pack_snoc C k hk8
          have hl8 : ((C.drop (8 * k)).take 8).length = 8 := by simp; omega
          have hvl := Bit.val_lt ((C.drop (8 * k)).take 8)
          rw [hl8] at hvl
          have hn := fun W => rNumber_any ((C.drop (8 * k)).take 8) (by omega) W
          rw [← hex, HS.out] at hn
          generalize Bit.val ((C.drop (8 * k)).take 8) = x at *
          have hw8 : IntKind.u8.wrap (x : Int) = (x : Int) := by rw [IntKind.wrap_u8']; omega
          have i1 : (0 : Int) ≤ ((8 * k : Nat) : Int) := by omega
          have hx : (((UInt8.ofNat x).toNat : Nat) : Int) = (x : Int) := by simp; omega
          have HN := Lib.hid hn; have HPS := Lib.hid hpsn; have HX := Lib.hid hx
          clear hn hpsn hx hex hl8 hvl
          generalize he : 8 * k = q at *
          have HE := Lib.hid he; clear he
          have i2 : (q : Int) + 8 ≤ (s.size : Int) := by have := HZ.out; omega
          have i3 : ((q : Int) + 8).toNat = q + 8 := by omega
          have hq : q + 8 ≤ 40008 := by omega
          have hk1001 : k ≤ 5001 := by have := HE.out; omega
          go_wp2_with fail
          refine (HN.out _).mono ?_; rintro e wx ⟨rfl, rfl⟩
          go_wp2_with (at_builtin; go_must (refine wpList_append_own _ rfl _ _ 60 rfl (w.heap.size) 5 i0 (.int .u8 0) 1 1 Tryz.underlying60 hi hz0 hz1 hz2 rfl (by decide) _ _ _ rfl (hown.alloc _) ⟨(wx).heap.size, 0, none⟩ 1 1 [.int .u8 (x : Int)] rfl rfl (cell_one_new _ _ _) (by simp [Value.oneCell']) (by unfold maxLen; omega) (by omega) (by simp; omega) ?_); intro v' w1 hown' hgrow _)
          go_roundw
          case rel =>
            refine ⟨k + 1, by have := HE.out; have := HZ.out; omega, by have := HE.out; congr 1; omega, ?_, (hb.alloc hbs _).grown hgrow (by simp; omega) (fun b hv => (hown.lt b hv).1)⟩
            rw [HPS.out, byteVals_append]
            show w1.ownsRow _ _ _ _ _ (byteVals _ ++ [Value.int .u8 (((UInt8.ofNat x).toNat : Nat) : Int)])
            rw [HX.out]; exact hown'
          case measure => simp [intOf]; omega
        · have hkk : 8 * k = s.size := by omega
          have ht : (Bit.pack C).take k = Bit.pack B := by
            rw [List.take_of_length_le (by rw [Bit.pack_length]; unfold Bit.size; have := HZ.out; omega)]
            exact HPK.out
          rw [ht] at hown
          have hc := own_bytes (P := Tryz.prog) (src := 60) (dst := 9) _ Tryz.underlying60 Tryz.underlying5 Tryz.underlying9 hown
          have HT := Lib.hid ht; have HKK := Lib.hid hkk; clear ht hkk
          go_wp2_with fail
          go_ret
          exact ⟨rfl, hb⟩
    · have e1 : (((Bit.str C).size : Int) % 8 != 0) = true := by rw [hz]; simp; omega
      have hsn : Bit.str C ++ (⟨#[48]⟩ : ByteArray) = Bit.str (C ++ [false]) := Bit.str_snoc false C
      have hpf := Bit.pack_fill B C hpk h8
      have hsz : (Bit.str C).size ≤ 40008 := by rw [hz]; omega
      have hm : (8 - (C ++ [false]).length % 8) % 8 < (8 - C.length % 8) % 8 := by rw [List.length_append]; simp; omega
      have hl2 : (C ++ [false]).length ≤ (B.length + 7) / 8 * 8 := by rw [List.length_append]; simp; omega
      rw [← Bit.str_size, ← Bit.str_size C] at hm
      generalize C ++ [false] = D at *
      have HSN := Lib.hid hsn; have HPF := Lib.hid hpf; have HZ := Lib.hid hz; have HPK := Lib.hid hpk; have HM := Lib.hid hm
      clear hsn hpf hz hpk hm
      generalize hS : Bit.str C = s at *
      have HS := Lib.hid hS; clear hS
      go_wp2_with fail
      go_round
      case rel => exact ⟨D, by rw [HSN.out], HPF.out, hl2⟩
      case measure => rw [HSN.out]; exact HM.out
end Go.Proofs.YtfgcgjogaaofdaaGreatDoor
/-
  Writers and readers beside each other, and behind what others did.
-/
namespace Go.Proofs.YtfgcgjogaaofdaaGreatDoor
open Go.RowKit

theorem WrAt.lt {W : World} {base p cap : Nat} {A : Option Addr} {B : List Bool} (h : WrAt W base p A cap B) : p < W.heap.size := (Array.getElem?_eq_some_iff.1 h.cells).1
theorem RdAt.lt {W : World} {p x : Nat} {s : ByteArray} (h : RdAt W p s x) : p < W.heap.size := (Array.getElem?_eq_some_iff.1 h).1
theorem RdAt.far {W W2 : World} {p x : Nat} {s : ByteArray} {S : Nat → Prop} (h : RdAt W p s x) (hf : Far W W2 S) (hs : ¬ S p) : RdAt W2 p s x := (hf.same p h.lt hs).trans h
theorem RdAt.below {W W2 : World} {p x : Nat} {s : ByteArray} (h : RdAt W p s x) (hb : Below W.heap.size W W2) : RdAt W2 p s x := (hb.block p h.lt).trans h
theorem RdAt.drewOf {W W2 : World} {p x : Nat} {s : ByteArray} (h : RdAt W p s x) (hb : DrewOf W W2) : RdAt W2 p s x := by unfold RdAt; rw [hb.heap]; exact h
/-- the row of a writer is no block of another kind -/
theorem WrAt.not_reader {W : World} {base p cap r x : Nat} {A : Option Addr} {B : List Bool} {s : ByteArray} (h : WrAt W base p A cap B) (hr : RdAt W r s x) : ¬ PutSet p A r := by
  rintro (rfl | h2)
  · have := h.cells.symm.trans hr
    simp at this
  · cases A with
    | none => cases h2
    | some a =>
      obtain ⟨h3, _, _⟩ := row_block h.own (g := a.block) rfl
      have h4 : a.block = r := by simpa using h2
      rw [h4] at h3
      rw [h3] at h
      exact own_ne h.own hr (by decide) rfl
theorem WrAt.far {W W2 : World} {base p cap : Nat} {A : Option Addr} {B : List Bool} {S : Nat → Prop} (h : WrAt W base p A cap B) (hf : Far W W2 S) (hp : ¬ S p) (hA : ∀ g, A = some ⟨g, 0, none⟩ → ¬ S g) : WrAt W2 base p A cap B :=
  RowAt.keep h (hf.same p h.lt hp) (fun g hg => hf.same g (by
    subst hg
    exact (row_block h.own rfl).2.1) (hA g hg))
theorem WrAt.later {W W2 : World} {base p cap : Nat} {A : Option Addr} {B : List Bool} (h : WrAt W base p A cap B) (hb : Below W.heap.size W W2) : WrAt W2 base p A cap B := RowAt.later h (fun k hk => hb.block k hk)
theorem putSet_base {W : World} {base p cap : Nat} {A : Option Addr} {B : List Bool} (h : WrAt W base p A cap B) (hp : base ≤ p) : ∀ k, PutSet p A k → base ≤ k := by
  rintro k (rfl | h2)
  · exact hp
  · cases A with
    | none => cases h2
    | some a =>
      have h3 : a.block = k := by simpa using h2
      rcases h.own.2 with ⟨h4, _⟩ | ⟨g, c, cur, hv, hb, _⟩
      · cases h4
      · simp only [Value.slice.injEq, Option.some.injEq] at hv
        rw [hv.1] at h3
        exact h3 ▸ hb
theorem WrAt.get {W W2 : World} {base p cap r x : Nat} {A : Option Addr} {B : List Bool} {s : ByteArray} (h : WrAt W base p A cap B) (hr : RdAt W r s x) (hf : Far W W2 (OneSet r)) : WrAt W2 base p A cap B := by
  have hn := h.not_reader hr
  refine h.far hf (fun e => hn (.inl (show r = p from (show p = r from e).symm))) (fun g hg e => hn (.inr ?_))
  subst hg
  have : g = r := e
  simp [this]
/-- a writer, a reader, and what lay below them -/
structure Pair (w W : World) (p : Nat) (A : Option Addr) (cap : Nat) (B : List Bool) (r : Nat) (s : ByteArray) (x : Nat) : Prop where
  wr : WrAt W w.heap.size p A cap B
  rd : RdAt W r s x
  bel : Below w.heap.size w W
  hp : w.heap.size ≤ p
  hr : w.heap.size ≤ r
theorem Pair.put {w W W2 : World} {p cap cap2 r x : Nat} {A A2 : Option Addr} {B B2 : List Bool} {s : ByteArray} (h : Pair w W p A cap B r s x) (h2 : WrAt W2 w.heap.size p A2 cap2 B2) (hf : Far W W2 (PutSet p A)) : Pair w W2 p A2 cap2 B2 r s x :=
  ⟨h2, h.rd.far hf (h.wr.not_reader h.rd), h.bel.trans (hf.below h.bel.size (putSet_base h.wr h.hp)), h.hp, h.hr⟩
theorem Pair.get {w W W2 : World} {p cap r x y : Nat} {A : Option Addr} {B : List Bool} {s : ByteArray} (h : Pair w W p A cap B r s x) (h2 : RdAt W2 r s y) (hf : Far W W2 (OneSet r)) : Pair w W2 p A cap B r s y :=
  ⟨h.wr.get h.rd hf, h2, h.bel.trans (hf.below h.bel.size (fun k hk => by have : k = r := hk; have := h.hr; omega)), h.hp, h.hr⟩
theorem Pair.later {w W W2 : World} {p cap r x : Nat} {A : Option Addr} {B : List Bool} {s : ByteArray} (h : Pair w W p A cap B r s x) (hb : Below W.heap.size W W2) : Pair w W2 p A cap B r s x :=
  ⟨h.wr.later hb, h.rd.below hb, h.bel.trans (hb.mono h.bel.size), h.hp, h.hr⟩
theorem Pair.drewOf {w W W2 : World} {p cap r x : Nat} {A : Option Addr} {B : List Bool} {s : ByteArray} (h : Pair w W p A cap B r s x) (hd : DrewOf W W2) : Pair w W2 p A cap B r s x :=
  h.later ((Below.refl W.heap.size W).grown (hd.grown none) (Nat.le_refl _) (fun r e => by cases e))
theorem Far.undrew {w W : World} {S : Nat → Prop} (h : Far w.drew W S) : Far w W S := ⟨h.os, h.tape, h.output, h.size, h.same⟩
theorem WrAt.drew {w : World} {base p cap : Nat} {A : Option Addr} {B : List Bool} (h : WrAt w base p A cap B) : WrAt w.drew base p A cap B := RowAt.keep h rfl (fun _ _ => rfl)
theorem wd_eq (n : Int) : min (max n 0) 64 = ((Bit.wd n : Nat) : Int) := by unfold Bit.wd; omega
theorem wrap_two (m : Nat) (h : m < 64) : IntKind.u64.wrap (2 ^ m) = (2 : Int) ^ m := by
  have h1 : (2 : Nat) ^ m < 2 ^ 64 := Nat.pow_lt_pow_right (by decide) h
  have h2 : ((2 ^ m : Nat) : Int) = (2 : Int) ^ m := by norm_cast
  rw [← h2]
  generalize 2 ^ m = k at *
  unfold IntKind.wrap; simp [IntKind.bits, IntKind.signed]; omega
theorem Bit.wd_wd (n : Int) : Bit.wd ((Bit.wd n : Nat) : Int) = Bit.wd n := by unfold Bit.wd; omega
theorem Bit.val_zeros : ∀ n, Bit.val (List.replicate n false) = 0
  | 0 => rfl
  | n + 1 => by simp [List.replicate_succ, Bit.val, Bit.val_zeros n]
/-- what is left when all that was put is read: less than eight bits, all of them zero -/
theorem text_end (B : List Bool) : (Bit.bits (Bit.text B)).drop B.length = List.replicate (8 * (Bit.text B).size - B.length) false ∧ 8 * (Bit.text B).size - B.length < 8 ∧ B.length ≤ 8 * (Bit.text B).size := by
  have h := Bit.text_size B
  refine ⟨?_, by omega, by omega⟩
  rw [Bit.text_bits, List.drop_left, Bit.text_size]; rfl
theorem Clean_end (B : List Bool) (hB : B.length ≤ 8000) (w : World) (p : Nat) (h : RdAt w p (Bit.text B) B.length) :
    Calls Tryz.prog 76 #[.pointer (some ⟨p, 0, none⟩)] w fun e w' => e = .returned (.bool true) ∧ Below w.heap.size w w' := by
  obtain ⟨h1, h2, h3⟩ := text_end B
  have hz := Bit.text_size B
  refine Clean_any p _ (by omega) _ h3 w h true ?_
  rw [h1, List.take_replicate, Bit.val_zeros]
  simp [h2]

theorem byte_nat (c : Int) (h : (Lit.int .u8 c).wf = true) : ∃ n : Nat, c = n ∧ n < 256 := by
  have hx : 0 ≤ c ∧ c ≤ 255 := by simpa [Lit.wf, IntKind.min, IntKind.max, IntKind.signed, IntKind.bits] using h
  exact ⟨c.toNat, by omega, by omega⟩
/-- two writers, apart, and what lay below them -/
structure Two (w W : World) (p1 : Nat) (A1 : Option Addr) (cap1 : Nat) (B1 : List Bool) (p2 : Nat) (A2 : Option Addr) (cap2 : Nat) (B2 : List Bool) : Prop where
  w1 : WrAt W w.heap.size p1 A1 cap1 B1
  w2 : WrAt W w.heap.size p2 A2 cap2 B2
  bel : Below w.heap.size w W
  h1 : w.heap.size ≤ p1
  h2 : w.heap.size ≤ p2
  ne : p1 ≠ p2
  row : ∀ g, A1 = some ⟨g, 0, none⟩ → A2 ≠ some ⟨g, 0, none⟩
theorem Two.swap {w W : World} {p1 p2 cap1 cap2 : Nat} {A1 A2 : Option Addr} {B1 B2 : List Bool} (h : Two w W p1 A1 cap1 B1 p2 A2 cap2 B2) : Two w W p2 A2 cap2 B2 p1 A1 cap1 B1 :=
  ⟨h.w2, h.w1, h.bel, h.h2, h.h1, h.ne.symm, fun g e e2 => h.row g e2 e⟩
theorem WrAt.row_at {W : World} {base p cap : Nat} {A : Option Addr} {B : List Bool} (h : WrAt W base p A cap B) : A = none ∨ ∃ g, A = some ⟨g, 0, none⟩ ∧ base ≤ g ∧ g < W.heap.size := by
  rcases h.own.2 with ⟨h4, _⟩ | ⟨g, c, cur, hv, hb, hc, _⟩
  · left; cases A with
    | none => rfl
    | some a => cases h4
  · right
    refine ⟨g, ?_, hb, ?_⟩
    · simp only [Value.slice.injEq] at hv; exact hv.1
    · have e : A = some ⟨g, 0, none⟩ := by simp only [Value.slice.injEq] at hv; exact hv.1
      subst e
      exact (row_block h.own rfl).2.1
/-- the cells of a writer are no row of another -/
theorem WrAt.not_cells {W : World} {base p p2 cap cap2 : Nat} {A A2 : Option Addr} {B B2 : List Bool} (h : WrAt W base p A cap B) (h2 : WrAt W base p2 A2 cap2 B2) {g : Nat} (hA : A = some ⟨g, 0, none⟩) : g ≠ p2 := by
  subst hA
  exact own_ne h.own h2.cells (by decide)
theorem Two.put {w W W2 : World} {p1 p2 cap1 cap2 cap3 : Nat} {A1 A2 A3 : Option Addr} {B1 B2 B3 : List Bool} (h : Two w W p1 A1 cap1 B1 p2 A2 cap2 B2) (hw : WrAt W2 w.heap.size p1 A3 cap3 B3) (hN : NewRow W A1 A3) (hF : Far W W2 (PutSet p1 A1)) : Two w W2 p1 A3 cap3 B3 p2 A2 cap2 B2 := by
  have key : ∀ k, PutSet p1 A1 k → k = p1 ∨ A1 = some ⟨k, 0, none⟩ := by
    rintro k (rfl | hk)
    · exact .inl rfl
    · rcases h.w1.row_at with rfl | ⟨g, rfl, _⟩
      · cases hk
      · right; have : g = k := by simpa using hk
        rw [this]
  refine ⟨hw, h.w2.far hF ?_ ?_, h.bel.trans (hF.below h.bel.size (putSet_base h.w1 h.h1)), h.h1, h.h2, h.ne, ?_⟩
  · intro hk
    rcases key _ hk with e | e
    · exact h.ne e.symm
    · exact h.w1.not_cells h.w2 e rfl
  · intro g hg hk
    rcases key _ hk with e | e
    · exact h.w2.not_cells h.w1 hg e
    · exact h.row g e hg
  · rintro g e3 e2
    rcases hN with rfl | ⟨g3, rfl, hg⟩
    · exact h.row g e3 e2
    · have e : g3 = g := by simpa using e3
      subst e
      rcases h.w2.row_at with e4 | ⟨g2, e4, _, hlt⟩
      · rw [e4] at e2; cases e2
      · rw [e4] at e2
        have e5 : g2 = g3 := by injection e2 with e6; injection e6
        omega
theorem NewRow.undrew {w : World} {A A2 : Option Addr} (h : NewRow w.drew A A2) : NewRow w A A2 := h
end Go.Proofs.YtfgcgjogaaofdaaGreatDoor
/-
  What the texts of times and of values share.
-/
namespace Go.Proofs.YtfgcgjogaaofdaaGreatDoor
open Go.RowKit
theorem NewRow.step {w W : World} {A A1 A2 : Option Addr} (h : NewRow w A A1) (h2 : NewRow W A1 A2) (hs : w.heap.size ≤ W.heap.size) : NewRow w A A2 := by
  rcases h2 with rfl | ⟨g, rfl, hg⟩
  · exact h
  · exact .inr ⟨g, rfl, by omega⟩
theorem far_of_below {w W : World} (h : Below w.heap.size w W) (S : Nat → Prop) : Far w W S := ⟨h.os, h.tape, h.output, h.size, fun k hk _ => h.block k hk⟩
theorem Far.more {w W W2 : World} {S : Nat → Prop} (h : Far w W S) (h2 : Far W W2 S) : Far w W2 S := h.trans h2 (fun _ hk => .inl hk)
theorem Far.grownNone {w W W2 : World} {S : Nat → Prop} (h : Far w W S) (hg : W.grownBy W2 none) : Far w W2 S := h.step hg (fun r e => by cases e)
theorem Bit.drop_get (L : List Bool) (k : Nat) (h : k < L.length) : ∃ b, L.drop k = b :: L.drop (k + 1) ∧ Bit.val ((L.drop k).take 1) = b.toNat := by
  refine ⟨L[k], by rw [List.drop_eq_getElem_cons h], ?_⟩
  rw [List.drop_eq_getElem_cons h]
  show Bit.val [L[k]] = _
  cases L[k] <;> rfl
theorem RdAt.back {W : World} {p x : Nat} {s : ByteArray} (h : RdAt W p s x) (b : ByteArray) (q : Int) :
    ((W.setCell ⟨p, 0, none⟩ (.string b)).setCell ⟨p, 1, none⟩ (.int .i64 q)).heap[p]? = some (.cells #[.string b, .int .i64 q] 131 (0, 0)) ∧ Far W ((W.setCell ⟨p, 0, none⟩ (.string b)).setCell ⟨p, 1, none⟩ (.int .i64 q)) (OneSet p) := by
  constructor
  · unfold RdAt at h
    simp [World.setCell, Array.getElem?_modify, h]
  · exact ((Far.refl W (OneSet p)).step (grown_setCell W p 0 _) (fun r e => by cases e; exact .inl rfl)).step (grown_setCell _ p 1 _) (fun r e => by cases e; exact .inl rfl)
theorem Bit.un_inj : ∀ (a b : List UInt8), a.length = b.length → Bit.un a = Bit.un b → a = b
  | [], [], _, _ => rfl
  | [], _ :: _, h, _ => by simp at h
  | _ :: _, [], h, _ => by simp at h
  | x :: a, y :: b, h, e => by
    have e1 : Bit.of x.toNat 8 ++ Bit.un a = Bit.of y.toNat 8 ++ Bit.un b := e
    obtain ⟨e2, e3⟩ := List.append_inj e1 (by rw [Bit.of_length, Bit.of_length])
    have e4 := Bit.of_inj _ _ 8 e2
    have hx := x.toNat_lt
    have hy := y.toNat_lt
    have e5 : x = y := UInt8.toNat_inj.1 (by omega)
    rw [e5, Bit.un_inj a b (by simpa using h) e3]
theorem Bit.bits_inj {a b : ByteArray} (hs : a.size = b.size) (h : Bit.bits a = Bit.bits b) : a = b := by
  refine Bit.ba_ext (Bit.un_inj _ _ ?_ h)
  simpa using hs
/-- is filling alone left? -/
def Bit.clean (L : List Bool) : Bool := decide (L.length < 8) && decide (Bit.val L = 0)
theorem own_same {W W2 : World} {base e n : Nat} {v : Value} {xs : List Value} (h : W.ownsRow base e 1 v n xs) (hk : ∀ g, v.ownBlock = some g → W2.heap[g]? = W.heap[g]?) : W2.ownsRow base e 1 v n xs := by
  refine ⟨h.1, ?_⟩
  rcases h.2 with h2 | ⟨g, c, cur, hv, hb, hg, h3⟩
  · exact .inl h2
  · refine .inr ⟨g, c, cur, hv, hb, ?_, h3⟩
    rw [hk g (by rw [hv]; rfl), hg]
theorem own_block_ne {W : World} {base e t n k : Nat} {v : Value} {xs : List Value} {cs : Array Value} (h : W.ownsRow base e 1 v n xs) (hk : W.heap[k]? = some (.cells cs t (0, 0))) (hne : e ≠ t) : v.ownBlock ≠ some k := by
  intro he
  rcases h.2 with ⟨rfl, _⟩ | ⟨g, c, cur, rfl, hb, hg, h3⟩
  · cases he
  · obtain rfl : g = k := by simpa [Value.ownBlock] using he
    have := hg.symm.trans hk
    simp at this
    exact hne this.2
theorem own_far {W W2 : World} {base e n p x : Nat} {v : Value} {xs : List Value} {s : ByteArray} (h : W.ownsRow base e 1 v n xs) (hr : RdAt W p s x) (hne : e ≠ 131) (hf : Far W W2 (OneSet p)) : W2.ownsRow base e 1 v n xs :=
  own_same h (fun g hg => hf.same g (h.lt g hg).2 (fun e => own_block_ne h hr hne (by rw [hg]; exact congrArg some e)))
theorem own_far2 {W W2 : World} {base e n : Nat} {v : Value} {xs : List Value} (h : W.ownsRow base e 1 v n xs) (hb : Below W.heap.size W W2) : W2.ownsRow base e 1 v n xs :=
  own_same h (fun g hg => hb.block g (h.lt g hg).2)
theorem own_form {W : World} {base e n : Nat} {v : Value} {xs : List Value} (h : W.ownsRow base e 1 v n xs) : ∃ A c, v = .slice A n c := by
  rcases h.2 with ⟨rfl, rfl⟩ | ⟨g, c, cur, rfl, _⟩
  · exact ⟨none, 0, rfl⟩
  · exact ⟨_, _, rfl⟩
end Go.Proofs.YtfgcgjogaaofdaaGreatDoor
