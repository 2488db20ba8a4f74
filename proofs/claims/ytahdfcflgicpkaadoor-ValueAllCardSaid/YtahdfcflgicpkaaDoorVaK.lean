/-
  What Same of the reference comes to.
-/
import Derived.Test.YtahdfcflgicpkaaDoorVaJ
namespace Go.Proofs.YtahdfcflgicpkaaDoor
open Go.RowKit

set_option maxRecDepth 100000 in
set_option maxHeartbeats 1000000 in
theorem rvSame_any (w : World) (A A2 : Option Addr) (n cap m cap2 : Nat) (f g : Nat → Int) (hn : n ≤ 20000) (hm : m ≤ 20000) (hA : IntRow w A n .u64 f) (hA2 : IntRow w A2 m .u64 g) (o : Bool) (ho : o = true ↔ (n = m ∧ ∀ i, i < n → f i = g i)) :
    Calls Tryd.prog 13 #[.slice A n cap, .slice A2 m cap2] w fun e w' => e = .returned (.bool o) ∧ DrewOf w w' := by
  have HA := Lib.hid hA; have HA2 := Lib.hid hA2; have HO := Lib.hid ho; clear hA hA2 ho
  by_cases h : n = m
  · subst h
    go_enter Tryd.func13, Tryd.ntmps13
    go_wp2_with fail
    go_loopw [5] (fun i wr => ∃ (k : Nat), k ≤ n ∧ i = .int .i64 k ∧ (∀ j, j < k → f j = g j) ∧ DrewOf w wr) (fun i _ => n - (intOf i).toNat)
    case atStart => exact ⟨0, by omega, rfl, fun j hj => by omega, ⟨0, rfl⟩⟩
    case round =>
      obtain ⟨k, hk, rfl, heq, q, rfl⟩ := hrel
      have HE := Lib.hid heq; clear heq
      by_cases hlt : k < n
      · obtain ⟨ad, rfl, c0, _⟩ := HA.out.at_ (Below.refl _ _) hlt
        obtain ⟨ad2, rfl, c1, _⟩ := HA2.out.at_ (Below.refl _ _) hlt
        by_cases hfg : f k = g k
        · have e0 : (f k != g k) = false := by simp [hfg]
          have HFG := Lib.hid hfg; clear hfg
          go_wp2_with fail
          go_quiet (fail)
          go_wp2_with fail
          go_roundw
          case rel => exact ⟨k + 1, by omega, by go_num, fun j hj => (by
            rcases Nat.lt_or_ge j k with h1 | h1
            · exact HE.out j h1
            · obtain rfl : j = k := by omega
              exact HFG.out), _, rfl⟩
          case measure => simp [intOf]; omega
        · have e0 : (f k != g k) = true := by simp [hfg]
          have HFG := Lib.hid hfg; clear hfg
          go_wp2_with fail
          go_quiet (fail)
          go_wp2_with fail
          go_ret
          have : o = false := by
            cases o
            · rfl
            · exact absurd ((HO.out.1 rfl).2 k hlt) HFG.out
          exact ⟨by rw [this]; rfl, _, World.drewN_drewN _ _ _⟩
      · obtain rfl : k = n := by omega
        go_wp2_with fail
        go_ret
        have : o = true := HO.out.2 ⟨by trivial, HE.out⟩
        exact ⟨by rw [this]; rfl, _, rfl⟩
  · have h2 : ¬ ((n : Int) = (m : Int)) := by omega
    go_enter Tryd.func13, Tryd.ntmps13
    go_wp2_with fail
    go_ret
    have : o = false := by
      cases o
      · rfl
      · exact absurd (HO.out.1 rfl).1 h
    exact ⟨by rw [this]; rfl, 0, rfl⟩
end Go.Proofs.YtahdfcflgicpkaaDoor
