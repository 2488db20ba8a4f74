/-
  What Name, Temp and Parse of package meta come to.
-/
import Derived.Test.YtokofifecdpmfaaGreatDoorMeC
import Derived.Test.YtokofifecdpmfaaGreatDoorShelf
import Derived.Lib.AppendIntMem
import Derived.Lib.AtoiErrMem
import Derived.Lib.ItoaLen
import Derived.Lib.Repeat
namespace Go.Proofs.YtokofifecdpmfaaGreatDoor
open Go.RowKit
/-- what the library's variables hold -/
structure Env (w : World) : Prop where
  cap : ∃ m, w.cell? ⟨0, 0, none⟩ = some (.int .i64 m)
  tab : Lib.TabIs Tryz.prog w "internal/strconv.uint64pow10" .u64 Lib.pow10Tab
  syn : ∃ ev, w.cell? ⟨1, 0, none⟩ = some ev ∧ (ev = .nilIface ∨ ∃ te pe, ev = .iface te pe)
  rng : ∃ ev, w.cell? ⟨2, 0, none⟩ = some ev ∧ (ev = .nilIface ∨ ∃ te pe, ev = .iface te pe)
theorem Env.later {w w2 : World} (h : Env w) (hb : Below w.heap.size w w2) : Env w2 := by
  obtain ⟨⟨m, hm⟩, h2, ⟨e1, c1, f1⟩, ⟨e2, c2, f2⟩⟩ := h
  exact ⟨⟨m, cell_keep hm hb⟩, Lib.tabBelow_of_tabIs h2 w2 hb, ⟨e1, cell_keep c1 hb, f1⟩, ⟨e2, cell_keep c2 hb, f2⟩⟩
namespace Me
theorem nDigits_le : ∀ (k u : Nat), 1 ≤ k → u < 10 ^ k → Lib.nDigits u ≤ k
  | 0, _, h, _ => by omega
  | k + 1, u, _, h => by
    by_cases h10 : u < 10
    · rw [Lib.nDigits_small h10]; omega
    · rw [Lib.nDigits_big h10]
      have hk : 1 ≤ k := by
        rcases Nat.eq_zero_or_pos k with rfl | h0
        · exact absurd h (by simpa using h10)
        · exact h0
      have := nDigits_le k (u / 10) hk (by rw [Nat.div_lt_iff_lt_mul (by omega), ← Nat.pow_succ]; exact h)
      omega
theorem repeat_zero (c : Nat) : Lib.repeatL [48] c = List.replicate c 48 := by
  induction c with
  | zero => rfl
  | succ c ih => rw [Lib.repeatL, ih, List.replicate_succ]; rfl
/-- a number in six digits -/
def pad (n : Nat) : List UInt8 := List.replicate (6 - (Lib.decDigits n).length) 48 ++ Lib.decDigits n
def inName (n : Int) : Bool := decide (0 ≤ n ∧ n ≤ 999999)
/-- a file's name -/
def nameB (kind : ByteArray) (n : Int) : ByteArray := if inName n = true then ⟨(kind.data.toList ++ [45] ++ pad n.toNat).toArray⟩ else ByteArray.empty
theorem pad_length (n : Nat) (h : n ≤ 999999) : (pad n).length = 6 := by
  have h1 := nDigits_le 6 n (by omega) (by omega)
  have h2 := Lib.decDigits_length n
  unfold pad
  rw [List.length_append, List.length_replicate]
  omega
theorem ba_app (a b : ByteArray) : (a ++ b).data.toList = a.data.toList ++ b.data.toList := Num.app_list a b
theorem ba_list (a : ByteArray) : (⟨a.data.toList.toArray⟩ : ByteArray) = a := by apply ByteArray.ext; simp
theorem ba_len (l : List UInt8) : (⟨l.toArray⟩ : ByteArray).size = l.length := by rw [ByteArray.size_mk']; simp
end Me

set_option maxRecDepth 100000 in
set_option maxHeartbeats 1000000 in
theorem Name_any (kind : ByteArray) (hk : kind.size ≤ 1000) (n : Int) (w : World) (hE : Env w) :
    Calls Tryz.prog 16 #[.string kind, .int .i64 n] w fun e w' => e = .returned (.string (Me.nameB kind n)) ∧ Below w.heap.size w w' := by
  by_cases h0 : 0 ≤ n ∧ n ≤ 999999
  · have hi : Me.inName n = true := by unfold Me.inName; simpa using h0
    have hnm : Me.nameB kind n = (kind ++ ⟨#[45]⟩) ++ ⟨(List.replicate (6 - (Lib.decDigits n.toNat).length) 48).toArray⟩ ++ ⟨(Lib.decDigits n.toNat).toArray⟩ := by
      unfold Me.nameB
      rw [if_pos hi]
      apply ByteArray.ext; apply Array.toList_inj.1
      rw [Me.ba_app, Me.ba_app, Me.ba_app]
      simp [Me.pad, List.append_assoc]
    obtain ⟨v, rfl⟩ : ∃ v : Nat, n = v := ⟨n.toNat, by omega⟩
    have hd6 := Me.nDigits_le 6 v (by omega) (by omega)
    rw [← Lib.decDigits_length] at hd6
    have d1 : decide ((v : Int) < 0) = false := by simp
    have d2 : decide (999999 < (v : Int)) = false := by simp; omega
    have hito := fun W hW => Tryz.strconv_Itoa (v : Int) (by omega) (by omega) W hW
    rw [Lib.itoa_nonneg] at hito
    rw [Int.toNat_natCast] at hnm
    have hdz : (⟨(Lib.decDigits v).toArray⟩ : ByteArray).size = (Lib.decDigits v).length := Me.ba_len _
    have hrp := fun W => Tryz.strings_Repeat ⟨#[48]⟩ (6 - (Lib.decDigits v).length) W (by omega) (by show 1 * _ ≤ _; omega)
    have hrz : (⟨(List.replicate (6 - (Lib.decDigits v).length) (48 : UInt8)).toArray⟩ : ByteArray).size = 6 - (Lib.decDigits v).length := by rw [Me.ba_len]; simp
    rw [show (⟨#[48]⟩ : ByteArray).data.toList = [48] from rfl, Me.repeat_zero] at hrp
    have hsub : wrap64 (6 - ((Lib.decDigits v).length : Int)) = ((6 - (Lib.decDigits v).length : Nat) : Int) := by rw [IntWalk.wrap64_in _ ⟨by omega, by omega⟩]; omega
    have hs1 : (kind ++ (⟨#[45]⟩ : ByteArray)).size = kind.size + 1 := by rw [ByteArray.size_append]; rfl
    have HK := Lib.hid hnm; have HI := Lib.hid hito; have HRP := Lib.hid hrp; have HE := Lib.hid hE
    clear hnm hito hrp hE hi h0
    rw [← hdz] at hsub hd6
    generalize (⟨(List.replicate (6 - (Lib.decDigits v).length) (48 : UInt8)).toArray⟩ : ByteArray) = z at *
    generalize (Lib.decDigits v).length = dl at *
    generalize (⟨(Lib.decDigits v).toArray⟩ : ByteArray) = dg at *
    obtain ⟨k1, hk1⟩ : ∃ k1, kind ++ (⟨#[45]⟩ : ByteArray) = k1 := ⟨_, rfl⟩
    have hsum1 : ¬ 9223372036854775807 < kind.size + 1 := by omega
    have hsum2 : ¬ 9223372036854775807 < k1.size + z.size := by rw [← hk1]; omega
    have hsum3 : ¬ 9223372036854775807 < (k1 ++ z).size + dg.size := by rw [ByteArray.size_append, ← hk1]; omega
    rw [hk1] at HK
    have HK1 := Lib.hid hk1; have HS2 := Lib.hid hsum2; have HS3 := Lib.hid hsum3
    obtain ⟨sb, hsb⟩ : ∃ sb : Nat, 6 - dl = sb := ⟨_, rfl⟩
    have hsub2 : 6 - (dg.size : Int) = (sb : Int) := by omega
    rw [hsb, ← hsub2] at HRP
    clear hsub hsub2 hk1 hsum2 hsum3 hs1 hdz hrz hsb
    generalize Me.nameB kind (v : Int) = NM at *
    go_enter Tryz.func16, Tryz.ntmps16
    go_wp2_with fail
    refine (HI.out _ HE.out.tab).mono ?_; rintro e w2 ⟨rfl, k, os, rfl⟩
    have HB2 := Lib.hid (Lib.below_grow w.heap.size w (Nat.le_refl _) k os)
    go_wp2_with fail
    refine (HRP.out _).mono ?_; rintro e w3 ⟨rfl, hb3⟩
    have HB3 := Lib.hid (below_step HB2.out hb3); clear hb3
    rw [HK1.out]
    have hsum2 := HS2.out; have hsum3 := HS3.out
    go_wp2_with fail
    go_ret
    exact ⟨by rw [HK.out]; rfl, HB3.out⟩
  · have hi : Me.inName n = false := by unfold Me.inName; simpa using h0
    have hnm : Me.nameB kind n = ByteArray.empty := by unfold Me.nameB; rw [hi]; rfl
    rw [hnm]
    have hd : decide (n < 0) = true ∨ (decide (n < 0) = false ∧ decide (999999 < n) = true) := by
      simp only [decide_eq_true_eq, decide_eq_false_iff_not]; omega
    clear hi hnm h0
    rcases hd with d1 | ⟨d1, d2⟩
    all_goals
      go_enter Tryz.func16, Tryz.ntmps16
      go_wp2_with fail
      go_ret
      exact ⟨rfl, Below.refl _ _⟩

theorem Temp_any (name : ByteArray) (hk : name.size ≤ 1000) (w : World) :
    Calls Tryz.prog 17 #[.string name] w fun e w' => e = .returned (.string (⟨#[116, 109, 112, 45]⟩ ++ name)) ∧ w = w' := by
  have hsum : ¬ 9223372036854775807 < 4 + name.size := by omega
  go_enter Tryz.func17, Tryz.ntmps17
  go_wp2_with fail
  go_ret
  exact ⟨rfl, rfl⟩
end Go.Proofs.YtokofifecdpmfaaGreatDoor
