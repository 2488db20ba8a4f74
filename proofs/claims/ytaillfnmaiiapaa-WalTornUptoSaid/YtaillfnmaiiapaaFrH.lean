/-
  What the functions of package frame, and of its reference, come to: Head, Open.
-/
import Derived.Test.YtaillfnmaiiapaaFrE
import Derived.Test.YtaillfnmaiiapaaRefC
namespace Go.Proofs.Ytaillfnmaiiapaa
open Go.RowKit
namespace Fr

/-- two bytes -/
def two (g f : Int) : ByteArray := strOfNums [g % 256, f % 256]
theorem two_size (g f : Int) : (two g f).size = 2 := by
  rw [← Crc.size_list]
  unfold two
  rw [strOfNums_data]
  rfl
/-- what a file begins with -/
def head (magic : ByteArray) (g f : Int) : ByteArray := (magic ++ two g f) ++ Crc.four (Crc.ofB (magic ++ two g f))
theorem head_size (magic : ByteArray) (g f : Int) : (head magic g f).size = magic.size + 6 := by
  unfold head; rw [ByteArray.size_append, ByteArray.size_append, two_size, Crc.four_size]
/-- a byte's number -/
def at_ (s : ByteArray) (i : Nat) : Nat := (s.data.toList.getD i 0).toNat
theorem at_lt (s : ByteArray) (i : Nat) : at_ s i < 256 := UInt8.toNat_lt _
theorem at_eq (s : ByteArray) (i : Nat) (h : i < s.size) : s[i].toNat = at_ s i := by
  unfold at_
  congr 1
  have h2 : i < s.data.toList.length := by simpa using h
  rw [List.getD_eq_getElem?_getD, List.getElem?_eq_getElem h2]
  rfl
/-- what a file tells -/
def opened (s magic : ByteArray) : Nat × Nat × ByteArray × Nat :=
  if s.size < magic.size + 2 + 4 then (0, 0, ByteArray.empty, 9)
  else if ¬ s.extract 0 magic.size = magic then (0, 0, ByteArray.empty, 9)
  else if ¬ s.extract (magic.size + 2) (magic.size + 2 + 4) = Crc.four (Crc.ofB (s.extract 0 (magic.size + 2))) then (0, 0, ByteArray.empty, 9)
  else if 3 < at_ s magic.size ∨ 3 < at_ s (magic.size + 1) then (0, 0, ByteArray.empty, 10)
  else if at_ s magic.size = 0 then (0, 0, ByteArray.empty, 9)
  else (at_ s magic.size, at_ s (magic.size + 1), s.extract (magic.size + 2 + 4) s.size, 0)
theorem good_ext (s : ByteArray) (n : Nat) (h : n + 4 ≤ s.size) : Crc.good (s.extract 0 (n + 4)) = if s.extract n (n + 4) = Crc.four (Crc.ofB (s.extract 0 n)) then (s.extract 0 n, true) else (ByteArray.empty, false) := by
  have hz : (s.extract 0 (n + 4)).size = n + 4 := by rw [ByteArray.size_extract]; omega
  have e1 : (s.extract 0 (n + 4)).extract n (n + 4) = s.extract n (n + 4) := by
    apply Crc.ba_ext
    rw [Crc.extract_data', Crc.extract_data', Crc.extract_data']
    simp only [List.drop_zero, Nat.sub_zero]
    rw [List.drop_take, List.take_take]; congr 1; omega
  have e2 : (s.extract 0 (n + 4)).extract 0 n = s.extract 0 n := by rw [ext_ext s 0 (n + 4) n (by omega), Nat.zero_add]
  unfold Crc.good
  rw [hz, if_neg (by omega), show n + 4 - 4 = n from by omega, e1, e2]
theorem at_ext (s : ByteArray) (n i : Nat) (h : i < n) : at_ (s.extract 0 n) i = at_ s i := by
  unfold at_
  rw [Crc.extract_data']
  simp only [List.drop_zero, Nat.sub_zero, List.getD_eq_getElem?_getD]
  rw [List.getElem?_take_of_lt h]
theorem not3 : ∀ f : Fin 256, (bits BinOp.andNot IntKind.i64 (f.val : Int) 3 != 0) = decide (3 < f.val) := by decide +kernel
end Fr

theorem two_back (w : World) (b : Nat) (g f : Int) (hc : w.heap[b]? = some (.cells #[.int .u8 (g % 256), .int .u8 (f % 256)] 5 (0, 0))) :
    (convert 55 9 (.slice (some ⟨b, 0, none⟩) 2 2)).run Try.prog w = .ok (.string (Fr.two g f)) w :=
  run_convert_bytes_arg (P := Try.prog) w 55 5 Try.underlying55 Try.underlying5 b 0 2 2 [g % 256, f % 256] rfl (fun i hi => by
    rw [Nat.zero_add, cell_of_row w b i _ _ _ hc]
    match i, hi with
    | 0, _ => rfl
    | 1, _ => rfl) 9 Try.underlying9

set_option maxRecDepth 100000 in
set_option maxHeartbeats 400000 in
theorem Head_any (magic : ByteArray) (hm : magic.size ≤ 1099511627776) (g f : Int) (w : World) :
    Calls Try.prog 25 #[.string magic, .int .i64 g, .int .i64 f] w fun e w' => e = .returned (.string (Fr.head magic g f)) ∧ Below w.heap.size w w' := by
  have h2 := Fr.two_size g f
  have hb := fun (W : World) (b : Nat) h => two_back W b g f h
  have hh : Fr.head magic g f = (magic ++ Fr.two g f) ++ Crc.four (Crc.ofB (magic ++ Fr.two g f)) := rfl
  have h4 := Crc.four_size (Crc.ofB (magic ++ Fr.two g f))
  have hz : (magic ++ Fr.two g f).size = magic.size + 2 := by rw [ByteArray.size_append, h2]
  rw [hh]
  clear hh
  have HB := Lib.hid hb; clear hb
  generalize Fr.two g f = t at *
  go_enter Try.func25, Try.ntmps25
  go_wp2_with fail
  have hal : Below w.heap.size w (w.alloc (.cells #[.int .u8 (g % 256), .int .u8 (f % 256)] 5)) := (Below.refl _ _).alloc (Nat.le_refl _) _
  have hnew : (w.alloc (.cells #[.int .u8 (g % 256), .int .u8 (f % 256)] 5)).heap[w.heap.size]? = some (.cells #[.int .u8 (g % 256), .int .u8 (f % 256)] 5 (0, 0)) := heap_alloc_new w _
  rw [HB.out _ _ hnew]
  have HAL := Lib.hid hal
  clear hnew hal
  generalize w.alloc (.cells #[.int .u8 (g % 256), .int .u8 (f % 256)] 5) = w1 at *
  have hsum : ¬ 9223372036854775807 < magic.size + t.size := by omega
  have H2 := Lib.hid h2; clear h2
  generalize hmt : magic ++ t = mt at *
  have HT := Lib.hid (Tail_any mt (by unfold maxLen; omega))
  have hsum2 : ¬ 9223372036854775807 < mt.size + (Crc.four (Crc.ofB mt)).size := by omega
  generalize hc : Crc.four (Crc.ofB mt) = c at *
  have HMT := Lib.hid hmt; have HC := Lib.hid hc; clear hc
  have HZ := Lib.hid hz; have H4 := Lib.hid h4; clear hz h4
  go_wp2_with fail
  refine (HT.out _).mono ?_; rintro e w2 ⟨rfl, hb2⟩
  have HB2 := Lib.hid (below_step HAL.out hb2); clear hb2
  go_wp2_with fail
  go_ret
  exact ⟨by rw [HMT.out, HC.out]; rfl, HB2.out⟩

theorem Fr.mod2 (g : Int) : (IntKind.u64.wrap g).tmod 256 % 256 = g % 256 := by rw [IntKind.wrap_u64, Int.tmod_eq_emod_of_nonneg (by omega)]; omega

end Go.Proofs.Ytaillfnmaiiapaa
