/-
  The walks of the laws: BitsCounts, BitsPuts.
-/
import Derived.Test.YtfndlidedlbncaaDoorBitW
import Derived.Test.YtfndlidedlbncaaDoorPairs
namespace Go.Proofs.YtfndlidedlbncaaDoor
open Go.RowKit

theorem u64_nat (c : Int) (h : (Lit.int .u64 c).wf = true) : ∃ n : Nat, c = n ∧ Hid (n < 18446744073709551616) := by
  have hx : 0 ≤ c ∧ c ≤ 18446744073709551615 := by simpa [Lit.wf, IntKind.min, IntKind.max, IntKind.signed, IntKind.bits] using h
  exact ⟨c.toNat, by omega, Lib.hid (by omega)⟩

set_option maxRecDepth 100000 in
set_option maxHeartbeats 400000 in
theorem bitsCounts_walk (w : World) (hT : TabOk w) (v : Int) (hv : (Lit.int .u64 v).wf = true) :
    Calls Tryd.prog 5 #[.int .u64 v] w fun e w' => e = .returned (.bool true) ∧ Below w.heap.size w w' := by
  obtain ⟨n, rfl, HN⟩ := u64_nat v hv
  clear hv
  have HT := Lib.hid hT; clear hT
  have hb := fun h => Bit.both_ends n HN.out h
  have h1 := fun W => Lead_any n HN.out W
  have h2 := fun W hW => Trail_any n HN.out W hW
  have h3 := fun W => rLead_any n HN W
  have h4 := fun W => rTrail_any n HN W
  have hz : n = 0 → Lib.bitLen n = 0 ∧ Lib.ctz 64 n = 64 := fun h => by subst h; exact ⟨rfl, rfl⟩
  have hle := Lib.bitLen_le n 64 (by omega) HN.out
  generalize Lib.bitLen n = a at *
  generalize Lib.ctz 64 n = b at *
  have H1 := Lib.hid h1; have H2 := Lib.hid h2; have H3 := Lib.hid h3; have H4 := Lib.hid h4
  clear h1 h2 h3 h4
  go_enter Tryd.func5, Tryd.ntmps5
  go_wp2_with fail
  refine (works_any _ HT.out).mono ?_; rintro e w1 ⟨rfl, hb1⟩
  have HB := Lib.hid hb1; clear hb1
  go_wp2_with fail
  refine (H1.out _).mono ?_; rintro e wx ⟨rfl, rfl⟩
  go_wp2_with fail
  refine (H2.out _ (HT.out.later HB.out)).mono ?_; rintro e wx ⟨rfl, rfl⟩
  go_wp2_with fail
  refine (H3.out _).mono ?_; rintro e wx ⟨rfl, rfl⟩
  go_wp2_with fail
  refine (H4.out _).mono ?_; rintro e wx ⟨rfl, rfl⟩
  rcases Nat.eq_zero_or_pos n with h0 | h0
  · obtain ⟨rfl, rfl⟩ := hz h0
    subst h0
    go_wp2_with fail
    go_ret
    exact ⟨rfl, HB.out⟩
  · obtain ⟨h5, -⟩ := hb h0
    have e1 : ((n : Int) == 0) = false := by simp; omega
    have e2 : decide ((0 : Int) < (n : Int)) = true := by simp; omega
    clear hb hz
    go_wp2_with fail
    all_goals go_ret
    all_goals refine ⟨?_, HB.out⟩
    all_goals simp
    all_goals omega
end Go.Proofs.YtfndlidedlbncaaDoor
