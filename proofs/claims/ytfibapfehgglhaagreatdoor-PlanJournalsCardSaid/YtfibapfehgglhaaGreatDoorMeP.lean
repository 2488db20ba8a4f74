import Derived.Test.YtfibapfehgglhaaGreatDoorMeC
import Derived.Test.YtfibapfehgglhaaGreatDoorMeE
import Derived.Test.YtfibapfehgglhaaGreatDoorPjA
import Derived.Test.YtfibapfehgglhaaGreatDoorShelf
import Derived.Lib.AppendIntMem
import Derived.Lib.AtoiErrMem
import Derived.Lib.ItoaLen
import Derived.Lib.Repeat
/-
  What Same of package meta comes to.
-/
namespace Go.Proofs.YtfibapfehgglhaaGreatDoor
open Go.RowKit

theorem getD_take_ne (L K : List Int) (n : Nat) (h1 : L.length = n) (h2 : K.length = n) (hne : L ≠ K) : ∃ i, i < n ∧ L.getD i 0 ≠ K.getD i 0 := by
  by_cases h : ∃ i, i < n ∧ L.getD i 0 ≠ K.getD i 0
  · exact h
  · exfalso
    apply hne
    apply List.ext_getElem (by omega)
    intro i hi hj
    have : ¬ (L.getD i 0 ≠ K.getD i 0) := fun e => h ⟨i, by omega, e⟩
    simpa [List.getD, hi, hj] using this

namespace Me
def same (a b : M) : Bool := decide (a.gen = b.gen ∧ a.next = b.next ∧ a.wal = b.wal ∧ a.bs = b.bs)
theorem same_iff (a b : M) : same a b = true ↔ a = b := by
  unfold same
  simp only [decide_eq_true_eq]
  constructor
  · rintro ⟨h1, h2, h3, h4⟩; cases a; cases b; simp_all
  · rintro rfl; exact ⟨rfl, rfl, rfl, rfl⟩
end Me

end Go.Proofs.YtfibapfehgglhaaGreatDoor
/-
  What Get of package meta comes to.
-/
namespace Go.Proofs.YtfibapfehgglhaaGreatDoor
open Go.RowKit
namespace Me
theorem rest_length (gen : Int) : ∀ (k : Nat) (n : Int) (L : List Int) (l : Int) (c : ByteArray × Bool), L.length ≤ 40 → (rest gen k n L l c).length ≤ 40
  | 0, n, L, l, c, h => by rw [rest]; exact h
  | k + 1, n, L, l, c, h => by
    rw [rest]
    split
    · exact h
    · rename_i h2
      exact rest_length gen k _ _ _ _ (by simp only [List.length_append, List.length_cons, List.length_nil]; omega)
theorem read_length (s : ByteArray) (gen : Int) : (read s gen).bs.length ≤ 40 := rest_length gen 41 _ [] 0 _ (by simp)
theorem got_open (s : ByteArray) (h : (Fr.opened s amet).2.2.2 ≠ 0) : got s = (zero, (Fr.opened s amet).2.2.2) := by unfold got; rw [if_pos h]
end Me

set_option maxRecDepth 100000 in
set_option maxHeartbeats 4000000 in
theorem MGet_any (s : ByteArray) (hs : s.size ≤ 100000) (w : World) :
    Calls Tryz.prog 34 #[.string s] w fun e w' => ∃ A c, e = .returned (.tuple #[(Me.got s).1.val A c, .int .i64 ((Me.got s).2 : Nat)]) ∧ Ints w' A c (Me.got s).1.bs ∧ (∀ ad, A = some ad → w.heap.size ≤ ad.block) ∧ Below w.heap.size w w' := by
  have hrow : RowIs (w.alloc (.cells #[.int .i64 0, .int .i64 0, .int .i64 0, .slice none 0 0] 54)) w.heap.size (.cells #[.int .i64 0, .int .i64 0, .int .i64 0, .slice none 0 0] 54) := RowIs.one _ _
  have hb1 : Below w.heap.size w (w.alloc (.cells #[.int .i64 0, .int .i64 0, .int .i64 0, .slice none 0 0] 54)) := (Below.refl _ w).alloc (Nat.le_refl _) _
  have hend : ∀ (wr : World) (m : Me.M) (n : Nat) (A : Option Addr) (cp : Nat) (a : Act), RowIs wr w.heap.size (.cells #[.int .i64 0, .int .i64 0, .int .i64 0, .slice none 0 0] 54) → Below w.heap.size w wr → Ints wr A cp m.bs → (∀ ad, A = some ad → w.heap.size < ad.block) → Me.got s = (m, n) →
      a.tmps.getD 2 undef = .pointer (some ⟨w.heap.size, 0, none⟩) → a.tmps.getD 3 undef = .int .i64 (n : Int) → a.defers = [] →
      bodyPost Tryz.prog Tryz.f34 (fun e w' => ∃ A c, e = .returned (.tuple #[(Me.got s).1.val A c, .int .i64 ((Me.got s).2 : Nat)]) ∧ Ints w' A c (Me.got s).1.bs ∧ (∀ ad, A = some ad → w.heap.size ≤ ad.block) ∧ Below w.heap.size w w') .ret a
        ((((wr.setCell ⟨w.heap.size, 0, none⟩ (.int .i64 m.gen)).setCell ⟨w.heap.size, 1, none⟩ (.int .i64 m.next)).setCell ⟨w.heap.size, 2, none⟩ (.int .i64 m.wal)).setCell ⟨w.heap.size, 3, none⟩ (.slice A m.bs.length cp)) := fun wr m n A cp a h1 h2 h3 h4 h5 h6 h7 h8 => by
    have hgr := grown_four wr w.heap.size (.int .i64 m.gen) (.int .i64 m.next) (.int .i64 m.wal) (.slice A m.bs.length cp)
    have hres := meta_four h1 (.int .i64 m.gen) (.int .i64 m.next) (.int .i64 m.wal) (.slice A m.bs.length cp)
    have hin : Ints ((((wr.setCell ⟨w.heap.size, 0, none⟩ (.int .i64 m.gen)).setCell ⟨w.heap.size, 1, none⟩ (.int .i64 m.next)).setCell ⟨w.heap.size, 2, none⟩ (.int .i64 m.wal)).setCell ⟨w.heap.size, 3, none⟩ (.slice A m.bs.length cp)) A cp m.bs := ⟨fun hn => by
      obtain ⟨ad, e, hlt, hc⟩ := h3.row hn
      have hne := h4 ad e
      have hk := hgr.block ad.block hlt (by simp; omega)
      refine ⟨ad, e, by have := hgr.size; omega, fun i hi => ?_⟩
      rw [← hc i hi]
      unfold World.cell?
      rw [addr_add_block, hk], h3.nil, h3.le⟩
    rw [h5]
    refine bodyPost_ret (v := .tuple #[.agg #[.int .i64 m.gen, .int .i64 m.next, .int .i64 m.wal, .slice A m.bs.length cp], .int .i64 (n : Int)]) ?_ h8 ⟨A, cp, rfl, hin, fun ad e => Nat.le_of_lt (h4 ad e), h2.grown hgr h2.size (fun r e => by cases e; exact Nat.le_refl _)⟩
    have := results_cell_tmp (P := Tryz.prog) (fn := Tryz.f34) rfl a.tmps _ w.heap.size 54 _ (0, 0) _ h6 hres Tryz.underlying54 rfl meta_size
    rw [this, h7]
  have hop : ∀ W, Calls Tryz.prog 12 #[.string s, .string ⟨#[65, 77, 69, 84]⟩] W (Four s Me.amet W) := fun W => Open_any s (by unfold maxLen; omega) Me.amet (by decide) W
  unfold Four at hop
  have HE := Lib.hid hend; have HR := Lib.hid hrow; have HB := Lib.hid hb1
  clear hend hrow hb1
  by_cases h0 : (Fr.opened s Me.amet).2.2.2 = 0
  · have hrz := Fr.opened_size s Me.amet
    have hgt : Me.got s = if (Fr.get (Fr.opened s Me.amet).2.2.1 ((Fr.opened s Me.amet).2.2.1.size : Nat)).2.2 = 0 ∧ Me.valid (Me.read (Fr.get (Fr.opened s Me.amet).2.2.1 ((Fr.opened s Me.amet).2.2.1.size : Nat)).1 ((Fr.opened s Me.amet).1 : Nat)) = true ∧ Me.bytes (Me.read (Fr.get (Fr.opened s Me.amet).2.2.1 ((Fr.opened s Me.amet).2.2.1.size : Nat)).1 ((Fr.opened s Me.amet).1 : Nat)) = s then (Me.read (Fr.get (Fr.opened s Me.amet).2.2.1 ((Fr.opened s Me.amet).2.2.1.size : Nat)).1 ((Fr.opened s Me.amet).1 : Nat), 0) else (Me.zero, 9) := by
      conv => lhs; unfold Me.got
      rw [if_neg (by simpa using h0)]
    rw [h0] at hop
    clear h0
    generalize (Fr.opened s Me.amet).1 = a1 at *
    generalize (Fr.opened s Me.amet).2.1 = a2 at *
    generalize (Fr.opened s Me.amet).2.2.1 = a3 at *
    have hget := fun W => Get_any a3 (by unfold maxLen; omega) (a3.size : Nat) (Lib.hid (by omega)) W
    have hbz : (Fr.get a3 (a3.size : Nat)).1.size ≤ 100000 := by
      by_cases h : (Fr.get a3 (a3.size : Nat)).2.2 = 0
      · have := (Fr.get_whole a3 _ h).2; omega
      · rw [(Fr.get_not a3 _ h).1]; simp
    generalize (Fr.get a3 (a3.size : Nat)).1 = b1 at *
    generalize (Fr.get a3 (a3.size : Nat)).2.1 = b2 at *
    generalize (Fr.get a3 (a3.size : Nat)).2.2 = sh at *
    have hrd := fun W => mread_any b1 (by omega) (a1 : Nat) W
    have hml := Me.read_length b1 (a1 : Nat)
    generalize Me.read b1 (a1 : Nat) = m at *
    have hpt := fun A c W h => MPut_any m A c (by omega) W h
    have hpb : (sh = 0 ∧ Me.valid m = true ∧ Me.bytes m = s) ↔ (sh = 0 ∧ Me.putE m = 0 ∧ Me.putB m = s) := by
      unfold Me.putE Me.putB
      cases hv : Me.valid m <;> simp
    simp only [hpb] at hgt
    generalize Me.putB m = pb at *
    generalize Me.putE m = pe at *
    have HO := Lib.hid hop; have HGE := Lib.hid hget; have HRD := Lib.hid hrd; have HPT := Lib.hid hpt; have HG := Lib.hid hgt
    clear hop hget hrd hpt hgt hpb hrz hbz
    generalize hw1 : w.alloc (.cells #[.int .i64 0, .int .i64 0, .int .i64 0, .slice none 0 0] 54) = w1 at *
    go_enter Tryz.func34, Tryz.ntmps34
    go_wp2_with fail
    refine (HO.out _).mono ?_; rintro e w2 ⟨rfl, hb2⟩
    have HB2 := Lib.hid (below_step HB.out hb2); have HR2 := Lib.hid (HR.out.keep hb2); clear hb2
    go_wp2_with fail
    refine (HGE.out _).mono ?_; rintro e w3 ⟨rfl, hb3⟩
    have HB3 := Lib.hid (below_step HB2.out hb3); have HR3 := Lib.hid (HR2.out.keep hb3); clear hb3
    go_wp2_with fail
    refine (HRD.out _).mono ?_; rintro e w4 ⟨A, c, rfl, hI4, hfr, hb4⟩
    have hlt3 : w.heap.size < w3.heap.size := (Array.getElem?_eq_some_iff.1 HR3.out).1
    have hfr2 : ∀ ad, A = some ad → w.heap.size < ad.block := fun ad e => by have := hfr ad e; omega
    have HB4 := Lib.hid (below_step HB3.out hb4); have HR4 := Lib.hid (HR3.out.keep hb4); have HI4 := Lib.hid hI4; have HFR := Lib.hid hfr2
    clear hb4 hI4 hfr hfr2 hlt3
    rw [show m.val A c = .agg #[.int .i64 m.gen, .int .i64 m.next, .int .i64 m.wal, .slice A m.bs.length c] from rfl]
    have hal : Below w4.heap.size w4 (w4.alloc (.cells #[.int .i64 m.gen, .int .i64 m.next, .int .i64 m.wal, .slice A m.bs.length c] 54)) := (Below.refl _ w4).alloc (Nat.le_refl _) _
    have HM5 : Hid (MetaAt w4.heap.size m A c (w4.alloc (.cells #[.int .i64 m.gen, .int .i64 m.next, .int .i64 m.wal, .slice A m.bs.length c] 54))) := Lib.hid (heap_alloc_new _ _)
    have HB5 := Lib.hid (below_step HB4.out hal); have HR5 := Lib.hid (HR4.out.keep hal); have HI5 := Lib.hid (HI4.out.later hal)
    clear hal
    go_upto_region 6 with fail
    generalize w4.alloc (.cells #[.int .i64 m.gen, .int .i64 m.next, .int .i64 m.wal, .slice A m.bs.length c] 54) = w5 at *
    generalize w4.heap.size = bm at *
    obtain ⟨c0, c1, c2, c3⟩ := HM5.out.cells
    go_wp2_with fail
    refine (HPT.out A c _ HI5.out).mono ?_; rintro e w6 ⟨rfl, hb6⟩
    have HB6 := Lib.hid (below_step HB5.out hb6); have HR6 := Lib.hid (HR5.out.keep hb6); have HI6 := Lib.hid (HI5.out.later hb6); have HM6 := Lib.hid (HM5.out.later hb6)
    clear hb6 c0 c1 c2 c3
    obtain ⟨c0, c1, c2, c3⟩ := HM6.out.cells
    obtain ⟨⟨y0, y1, y2, y3⟩, ⟨f0, f1, f2, f3⟩⟩ := meta_cells HR6.out
    have hbe := str_beq pb s
    by_cases hall : sh = 0 ∧ pe = 0 ∧ pb = s
    · have hgt := HG.out
      rw [if_pos hall] at hgt
      obtain ⟨rfl, rfl, hps⟩ := hall
      have d3 : (pb.toList == s.toList) = true := by rw [hbe]; simpa using hps
      have HGT := Lib.hid hgt
      clear hgt hps hbe
      go_wp2_with fail
      exact HE.out w6 m 0 A c _ HR6.out HB6.out HI6.out HFR.out HGT.out rfl rfl rfl
    · have hgt := HG.out
      rw [if_neg hall] at hgt
      have hd : ((sh : Int) != 0) = true ∨ (((sh : Int) != 0) = false ∧ ((pe : Int) != 0) = true) ∨ (((sh : Int) != 0) = false ∧ ((pe : Int) != 0) = false ∧ (pb.toList == s.toList) = false) := by
        rw [hbe]
        by_cases h1 : sh = 0
        · by_cases h2 : pe = 0
          · right; right
            refine ⟨by simp [h1], by simp [h2], ?_⟩
            simp only [decide_eq_false_iff_not]
            exact fun e => hall ⟨h1, h2, e⟩
          · right; left; exact ⟨by simp [h1], by rw [bne_iff_ne]; omega⟩
        · left; rw [bne_iff_ne]; omega
      have HGT := Lib.hid hgt
      clear hgt hall hbe
      rcases hd with d1 | ⟨d1, d2⟩ | ⟨d1, d2, d3⟩
      · go_wp2_with fail
        exact HE.out w6 Me.zero 9 none 0 _ HR6.out HB6.out (Ints.zero _) (fun ad e => by cases e) HGT.out rfl rfl rfl
      · go_wp2_with fail
        exact HE.out w6 Me.zero 9 none 0 _ HR6.out HB6.out (Ints.zero _) (fun ad e => by cases e) HGT.out rfl rfl rfl
      · go_wp2_with fail
        exact HE.out w6 Me.zero 9 none 0 _ HR6.out HB6.out (Ints.zero _) (fun ad e => by cases e) HGT.out rfl rfl rfl
  · have hgt := Me.got_open s h0
    have d1 : (((Fr.opened s Me.amet).2.2.2 : Int) != 0) = true := by rw [bne_iff_ne]; omega
    have HG := Lib.hid hgt
    clear hgt h0
    generalize (Fr.opened s Me.amet).1 = a1 at *
    generalize (Fr.opened s Me.amet).2.1 = a2 at *
    generalize (Fr.opened s Me.amet).2.2.1 = a3 at *
    generalize (Fr.opened s Me.amet).2.2.2 = a4 at *
    have HO := Lib.hid hop; clear hop
    generalize hw1 : w.alloc (.cells #[.int .i64 0, .int .i64 0, .int .i64 0, .slice none 0 0] 54) = w1 at *
    go_enter Tryz.func34, Tryz.ntmps34
    go_wp2_with fail
    refine (HO.out _).mono ?_; rintro e w2 ⟨rfl, hb2⟩
    have HB2 := Lib.hid (below_step HB.out hb2); have HR2 := Lib.hid (HR.out.keep hb2); clear hb2
    obtain ⟨⟨y0, y1, y2, y3⟩, ⟨f0, f1, f2, f3⟩⟩ := meta_cells HR2.out
    go_wp2_with fail
    exact HE.out w2 Me.zero a4 none 0 _ HR2.out HB2.out (Ints.zero _) (fun ad e => by cases e) HG.out rfl rfl rfl
end Go.Proofs.YtfibapfehgglhaaGreatDoor
/-
  What Name, Temp and Parse of package meta come to.
-/
namespace Go.Proofs.YtfibapfehgglhaaGreatDoor
open Go.RowKit
/-- what the library's variables hold -/
structure Env (w : World) : Prop where
  cap : ∃ m, w.cell? ⟨0, 0, none⟩ = some (.int .i64 m)
  tab : Lib.TabIs Tryz.prog w "internal/strconv.uint64pow10" .u64 Lib.pow10Tab
  syn : ∃ ev, w.cell? ⟨1, 0, none⟩ = some ev ∧ (ev = .nilIface ∨ ∃ te pe, ev = .iface te pe)
  rng : ∃ ev, w.cell? ⟨2, 0, none⟩ = some ev ∧ (ev = .nilIface ∨ ∃ te pe, ev = .iface te pe)
theorem Env.later {w w2 : World} (h : Env w) (hb : Below w.heap.size w w2) : Env w2 := by
  obtain ⟨⟨m, hm⟩, h2, ⟨e1, c1, f1⟩, ⟨e2, c2, f2⟩⟩ := h
  exact ⟨⟨m, cell_keep hm hb⟩, Lib.tabBelow_of_tabIs h2 w2 hb, ⟨e1, cell_keep c1 hb, f1⟩, ⟨e2, cell_keep c2 hb, f2⟩⟩
namespace Me
theorem nDigits_le : ∀ (k u : Nat), 1 ≤ k → u < 10 ^ k → Lib.nDigits u ≤ k
  | 0, _, h, _ => by omega
  | k + 1, u, _, h => by
    by_cases h10 : u < 10
    · rw [Lib.nDigits_small h10]; omega
    · rw [Lib.nDigits_big h10]
      have hk : 1 ≤ k := by
        rcases Nat.eq_zero_or_pos k with rfl | h0
        · exact absurd h (by simpa using h10)
        · exact h0
      have := nDigits_le k (u / 10) hk (by rw [Nat.div_lt_iff_lt_mul (by omega), ← Nat.pow_succ]; exact h)
      omega
theorem repeat_zero (c : Nat) : Lib.repeatL [48] c = List.replicate c 48 := by
  induction c with
  | zero => rfl
  | succ c ih => rw [Lib.repeatL, ih, List.replicate_succ]; rfl
/-- a number in six digits -/
def pad (n : Nat) : List UInt8 := List.replicate (6 - (Lib.decDigits n).length) 48 ++ Lib.decDigits n
def inName (n : Int) : Bool := decide (0 ≤ n ∧ n ≤ 999999)
/-- a file's name -/
def nameB (kind : ByteArray) (n : Int) : ByteArray := if inName n = true then ⟨(kind.data.toList ++ [45] ++ pad n.toNat).toArray⟩ else ByteArray.empty
theorem pad_length (n : Nat) (h : n ≤ 999999) : (pad n).length = 6 := by
  have h1 := nDigits_le 6 n (by omega) (by omega)
  have h2 := Lib.decDigits_length n
  unfold pad
  rw [List.length_append, List.length_replicate]
  omega
theorem ba_app (a b : ByteArray) : (a ++ b).data.toList = a.data.toList ++ b.data.toList := Num.app_list a b
theorem ba_list (a : ByteArray) : (⟨a.data.toList.toArray⟩ : ByteArray) = a := by apply ByteArray.ext; simp
theorem ba_len (l : List UInt8) : (⟨l.toArray⟩ : ByteArray).size = l.length := by rw [ByteArray.size_mk']; simp
end Me

set_option maxRecDepth 100000 in
set_option maxHeartbeats 1000000 in
theorem Name_any (kind : ByteArray) (hk : kind.size ≤ 1000) (n : Int) (w : World) (hE : Env w) :
    Calls Tryz.prog 54 #[.string kind, .int .i64 n] w fun e w' => e = .returned (.string (Me.nameB kind n)) ∧ Below w.heap.size w w' := by
  by_cases h0 : 0 ≤ n ∧ n ≤ 999999
  · have hi : Me.inName n = true := by unfold Me.inName; simpa using h0
    have hnm : Me.nameB kind n = (kind ++ ⟨#[45]⟩) ++ ⟨(List.replicate (6 - (Lib.decDigits n.toNat).length) 48).toArray⟩ ++ ⟨(Lib.decDigits n.toNat).toArray⟩ := by
      unfold Me.nameB
      rw [if_pos hi]
      apply ByteArray.ext; apply Array.toList_inj.1
      rw [Me.ba_app, Me.ba_app, Me.ba_app]
      simp [Me.pad, List.append_assoc]
    obtain ⟨v, rfl⟩ : ∃ v : Nat, n = v := ⟨n.toNat, by omega⟩
    have hd6 := Me.nDigits_le 6 v (by omega) (by omega)
    rw [← Lib.decDigits_length] at hd6
    have d1 : decide ((v : Int) < 0) = false := by simp
    have d2 : decide (999999 < (v : Int)) = false := by simp; omega
    have hito := fun W hW => Tryz.strconv_Itoa (v : Int) (by omega) (by omega) W hW
    rw [Lib.itoa_nonneg] at hito
    rw [Int.toNat_natCast] at hnm
    have hdz : (⟨(Lib.decDigits v).toArray⟩ : ByteArray).size = (Lib.decDigits v).length := Me.ba_len _
    have hrp := fun W => Tryz.strings_Repeat ⟨#[48]⟩ (6 - (Lib.decDigits v).length) W (by omega) (by show 1 * _ ≤ _; omega)
    have hrz : (⟨(List.replicate (6 - (Lib.decDigits v).length) (48 : UInt8)).toArray⟩ : ByteArray).size = 6 - (Lib.decDigits v).length := by rw [Me.ba_len]; simp
    rw [show (⟨#[48]⟩ : ByteArray).data.toList = [48] from rfl, Me.repeat_zero] at hrp
    have hsub : wrap64 (6 - ((Lib.decDigits v).length : Int)) = ((6 - (Lib.decDigits v).length : Nat) : Int) := by rw [IntWalk.wrap64_in _ ⟨by omega, by omega⟩]; omega
    have hs1 : (kind ++ (⟨#[45]⟩ : ByteArray)).size = kind.size + 1 := by rw [ByteArray.size_append]; rfl
    have HK := Lib.hid hnm; have HI := Lib.hid hito; have HRP := Lib.hid hrp; have HE := Lib.hid hE
    clear hnm hito hrp hE hi h0
    rw [← hdz] at hsub hd6
    generalize (⟨(List.replicate (6 - (Lib.decDigits v).length) (48 : UInt8)).toArray⟩ : ByteArray) = z at *
    generalize (Lib.decDigits v).length = dl at *
    generalize (⟨(Lib.decDigits v).toArray⟩ : ByteArray) = dg at *
    obtain ⟨k1, hk1⟩ : ∃ k1, kind ++ (⟨#[45]⟩ : ByteArray) = k1 := ⟨_, rfl⟩
    have hsum1 : ¬ 9223372036854775807 < kind.size + 1 := by omega
    have hsum2 : ¬ 9223372036854775807 < k1.size + z.size := by rw [← hk1]; omega
    have hsum3 : ¬ 9223372036854775807 < (k1 ++ z).size + dg.size := by rw [ByteArray.size_append, ← hk1]; omega
    rw [hk1] at HK
    have HK1 := Lib.hid hk1; have HS2 := Lib.hid hsum2; have HS3 := Lib.hid hsum3
    obtain ⟨sb, hsb⟩ : ∃ sb : Nat, 6 - dl = sb := ⟨_, rfl⟩
    have hsub2 : 6 - (dg.size : Int) = (sb : Int) := by omega
    rw [hsb, ← hsub2] at HRP
    clear hsub hsub2 hk1 hsum2 hsum3 hs1 hdz hrz hsb
    generalize Me.nameB kind (v : Int) = NM at *
    go_enter Tryz.func54, Tryz.ntmps54
    go_wp2_with fail
    refine (HI.out _ HE.out.tab).mono ?_; rintro e w2 ⟨rfl, k, os, rfl⟩
    have HB2 := Lib.hid (Lib.below_grow w.heap.size w (Nat.le_refl _) k os)
    go_wp2_with fail
    refine (HRP.out _).mono ?_; rintro e w3 ⟨rfl, hb3⟩
    have HB3 := Lib.hid (below_step HB2.out hb3); clear hb3
    rw [HK1.out]
    have hsum2 := HS2.out; have hsum3 := HS3.out
    go_wp2_with fail
    go_ret
    exact ⟨by rw [HK.out]; rfl, HB3.out⟩
  · have hi : Me.inName n = false := by unfold Me.inName; simpa using h0
    have hnm : Me.nameB kind n = ByteArray.empty := by unfold Me.nameB; rw [hi]; rfl
    rw [hnm]
    have hd : decide (n < 0) = true ∨ (decide (n < 0) = false ∧ decide (999999 < n) = true) := by
      simp only [decide_eq_true_eq, decide_eq_false_iff_not]; omega
    clear hi hnm h0
    rcases hd with d1 | ⟨d1, d2⟩
    all_goals
      go_enter Tryz.func54, Tryz.ntmps54
      go_wp2_with fail
      go_ret
      exact ⟨rfl, Below.refl _ _⟩

theorem mTemp_any (name : ByteArray) (hk : name.size ≤ 1000) (w : World) :
    Calls Tryz.prog 77 #[.string name] w fun e w' => e = .returned (.string (⟨#[116, 109, 112, 45]⟩ ++ name)) ∧ w = w' := by
  have hsum : ¬ 9223372036854775807 < 4 + name.size := by omega
  go_enter Tryz.func77, Tryz.ntmps77
  go_wp2_with fail
  go_ret
  exact ⟨rfl, rfl⟩
end Go.Proofs.YtfibapfehgglhaaGreatDoor
