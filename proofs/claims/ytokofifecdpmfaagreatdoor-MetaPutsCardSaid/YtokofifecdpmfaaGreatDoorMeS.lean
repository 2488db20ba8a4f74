/-
  What Same of package meta comes to.
-/
import Derived.Test.YtokofifecdpmfaaGreatDoorMeC
namespace Go.Proofs.YtokofifecdpmfaaGreatDoor
open Go.RowKit

theorem getD_take_ne (L K : List Int) (n : Nat) (h1 : L.length = n) (h2 : K.length = n) (hne : L ≠ K) : ∃ i, i < n ∧ L.getD i 0 ≠ K.getD i 0 := by
  by_cases h : ∃ i, i < n ∧ L.getD i 0 ≠ K.getD i 0
  · exact h
  · exfalso
    apply hne
    apply List.ext_getElem (by omega)
    intro i hi hj
    have : ¬ (L.getD i 0 ≠ K.getD i 0) := fun e => h ⟨i, by omega, e⟩
    simpa [List.getD, hi, hj] using this

set_option maxRecDepth 100000 in
set_option maxHeartbeats 1000000 in
theorem Equal_any (A B : Option Addr) (na nb ca cb : Nat) (L K : List Int) (hL : na = L.length) (hK : nb = K.length) (hn : na ≤ 1000) (w : World) (hA : IRow w A L) (hB : IRow w B K) :
    Calls Tryz.prog 29 #[.slice A na ca, .slice B nb cb] w fun e w' => e = .returned (.bool (decide (L = K))) ∧ Below w.heap.size w w' := by
  have HA := Lib.hid hA; have HB := Lib.hid hB; have HL := Lib.hid hL; have HK := Lib.hid hK
  by_cases hne : na = nb
  · subst hne
    have hex : L ≠ K → ∃ i, i < na ∧ L.getD i 0 ≠ K.getD i 0 := getD_take_ne L K na hL.symm hK.symm
    have hsame : ∀ k, k < na → L.getD k 0 ≠ K.getD k 0 → decide (L = K) = false := fun k hk h => by
      simp only [decide_eq_false_iff_not]; intro e; rw [e] at h; exact h rfl
    have HEX := Lib.hid hex; have HSA := Lib.hid hsame
    clear hA hB hL hK hex hsame
    generalize hd : decide (L = K) = D at *
    have HD := Lib.hid hd; clear hd
    go_enter Tryz.func29, Tryz.ntmps29
    go_wp2_with fail
    try (go_quiet (fail); go_wp2_with fail)
    go_loopw [5, 13] (fun _ i wr => ∃ k : Nat, k ≤ na ∧ i = .int .i64 k ∧ (∀ j, j < k → L.getD j 0 = K.getD j 0) ∧ Below w.heap.size w wr) (fun _ i _ => na - (intOf i).toNat)
    case atStart => exact ⟨0, by omega, rfl, fun j hj => absurd hj (by omega), by first | exact Below.refl _ _ | exact (Below.refl _ _).drew | exact below_drewN (Below.refl _ _) _⟩
    case round =>
      obtain ⟨k, hk, rfl, hall, hb⟩ := hrel
      have HALL := Lib.hid hall; have HBE := Lib.hid hb; clear hall hb
      by_cases hlt : k < na
      · have hlL : k < L.length := by have := HL.out; omega
        have hlK : k < K.length := by have := HK.out; omega
        obtain ⟨ad, rfl, -, hca⟩ := (HA.out.later HBE.out) (by omega)
        obtain ⟨bd, rfl, -, hcb⟩ := (HB.out.later HBE.out) (by omega)
        have x0 := hca k hlL
        have x1 := hcb k hlK
        have hsa := HSA.out k hlt
        have hnx : L.getD k 0 = K.getD k 0 → ∀ j, j < k + 1 → L.getD j 0 = K.getD j 0 := fun e j hj => by
          rcases Nat.lt_or_ge j k with h | h
          · exact HALL.out j h
          · rw [show j = k by omega]; exact e
        have HS := Lib.hid hsa; have HNX := Lib.hid hnx
        clear hca hcb hsa hnx hlL hlK
        generalize L.getD k 0 = x at *
        generalize K.getD k 0 = y at *
        have i1 : (k : Int) < (na : Int) := by omega
        have i0 : (0 : Int) ≤ (k : Int) := by omega
        by_cases hxy : x = y
        · have d1 : (x != y) = false := by simpa using hxy
          have HN := Lib.hid (HNX.out hxy)
          clear hxy
          go_wp2_with fail
          go_quiet (fail)
          go_wp2_with fail
          go_roundw
          case rel => exact ⟨k + 1, by omega, by go_num, HN.out, by first | exact HBE.out | exact HBE.out.drew | exact below_drewN HBE.out _⟩
          case measure => simp [intOf]; omega
        · have d1 : (x != y) = true := by simpa using hxy
          have hd := HS.out hxy
          subst hd
          clear hxy
          go_wp2_with fail
          go_quiet (fail)
          go_wp2_with fail
          go_ret
          exact ⟨rfl, by first | exact HBE.out | exact HBE.out.drew | exact below_drewN HBE.out _⟩
      · have hall : L = K := by
          by_cases h : L = K
          · exact h
          · obtain ⟨i, hi, hne⟩ := HEX.out h
            exact absurd (HALL.out i (by omega)) hne
        have hd : D = true := by rw [← HD.out]; simpa using hall
        subst hd
        clear hall
        have i1 : ¬ (k : Int) < (na : Int) := by omega
        go_wp2_with fail
        go_ret
        exact ⟨rfl, HBE.out⟩
  · have hd : decide (L = K) = false := by
      simp only [decide_eq_false_iff_not]; intro e; subst e; exact hne (by omega)
    rw [hd]
    have d1 : ((na : Int) != (nb : Int)) = true := by rw [bne_iff_ne]; omega
    clear hA hB hL hK hd hne
    go_enter Tryz.func29, Tryz.ntmps29
    go_wp2_with fail
    try (go_quiet (fail); go_wp2_with fail)
    go_ret
    exact ⟨rfl, by first | exact Below.refl _ _ | exact (Below.refl _ _).drew | exact below_drewN (Below.refl _ _) _⟩
namespace Me
def same (a b : M) : Bool := decide (a.gen = b.gen ∧ a.next = b.next ∧ a.wal = b.wal ∧ a.bs = b.bs)
theorem same_iff (a b : M) : same a b = true ↔ a = b := by
  unfold same
  simp only [decide_eq_true_eq]
  constructor
  · rintro ⟨h1, h2, h3, h4⟩; cases a; cases b; simp_all
  · rintro rfl; exact ⟨rfl, rfl, rfl, rfl⟩
end Me

set_option maxRecDepth 100000 in
set_option maxHeartbeats 1000000 in
theorem Same_any (a b : Me.M) (A B : Option Addr) (ca cb : Nat) (ha : a.bs.length ≤ 700) (w : World) (hA : Ints w A ca a.bs) (hB : Ints w B cb b.bs) :
    Calls Tryz.prog 12 #[.agg #[.int .i64 a.gen, .int .i64 a.next, .int .i64 a.wal, .slice A a.bs.length ca], .agg #[.int .i64 b.gen, .int .i64 b.next, .int .i64 b.wal, .slice B b.bs.length cb]] w fun e w' => e = .returned (.bool (Me.same a b)) ∧ Below w.heap.size w w' := by
  have hb1 : Below w.heap.size w (w.alloc (.cells #[.int .i64 a.gen, .int .i64 a.next, .int .i64 a.wal, .slice A a.bs.length ca] 24)) := (Below.refl _ _).alloc (Nat.le_refl _) _
  have hm1 : MetaAt w.heap.size a A ca (w.alloc (.cells #[.int .i64 a.gen, .int .i64 a.next, .int .i64 a.wal, .slice A a.bs.length ca] 24)) := heap_alloc_new _ _
  have hz1 : (w.alloc (.cells #[.int .i64 a.gen, .int .i64 a.next, .int .i64 a.wal, .slice A a.bs.length ca] 24)).heap.size = w.heap.size + 1 := by simp
  have HW1 := Lib.hid (show ∃ w1, w1 = w.alloc (.cells #[.int .i64 a.gen, .int .i64 a.next, .int .i64 a.wal, .slice A a.bs.length ca] 24) from ⟨_, rfl⟩)
  have key : ∀ w1, Below w.heap.size w w1 → MetaAt w.heap.size a A ca w1 → w1.heap.size = w.heap.size + 1 →
      (Below w.heap.size w (w1.alloc (.cells #[.int .i64 b.gen, .int .i64 b.next, .int .i64 b.wal, .slice B b.bs.length cb] 24)) ∧ MetaAt w.heap.size a A ca (w1.alloc (.cells #[.int .i64 b.gen, .int .i64 b.next, .int .i64 b.wal, .slice B b.bs.length cb] 24)) ∧ MetaAt (w.heap.size + 1) b B cb (w1.alloc (.cells #[.int .i64 b.gen, .int .i64 b.next, .int .i64 b.wal, .slice B b.bs.length cb] 24))) := fun w1 h1 h2 h3 => by
    have hal : Below w1.heap.size w1 (w1.alloc (.cells #[.int .i64 b.gen, .int .i64 b.next, .int .i64 b.wal, .slice B b.bs.length cb] 24)) := (Below.refl _ _).alloc (Nat.le_refl _) _
    refine ⟨below_step h1 hal, h2.later hal, ?_⟩
    rw [← h3]; exact heap_alloc_new _ _
  obtain ⟨hb2, hm2, hn2⟩ := key _ hb1 hm1 hz1
  have hA2 := hA.later hb2; have hB2 := hB.later hb2
  clear key HW1 hb1 hm1 hz1 hA hB
  obtain ⟨c0, c1, c2, c3⟩ := hm2.cells
  obtain ⟨e0, e1, e2, e3⟩ := hn2.cells
  have HB2 := Lib.hid hb2; have HIA := Lib.hid hA2; have HIB := Lib.hid hB2
  clear hb2 hm2 hn2 hA2 hB2
  generalize hw2 : (w.alloc (.cells #[.int .i64 a.gen, .int .i64 a.next, .int .i64 a.wal, .slice A a.bs.length ca] 24)).alloc (.cells #[.int .i64 b.gen, .int .i64 b.next, .int .i64 b.wal, .slice B b.bs.length cb] 24) = w2 at *
  have HE := Lib.hid (Equal_any A B a.bs.length b.bs.length ca cb a.bs b.bs rfl rfl (by omega) w2 HIA.out.row HIB.out.row)
  have hsm : Me.same a b = decide (a.gen = b.gen ∧ a.next = b.next ∧ a.wal = b.wal ∧ a.bs = b.bs) := rfl
  generalize Me.same a b = S at *
  by_cases h3 : a.gen = b.gen ∧ a.next = b.next ∧ a.wal = b.wal
  · obtain ⟨h0, h1, h2⟩ := h3
    have hS : S = decide (a.bs = b.bs) := by rw [hsm]; simp [h0, h1, h2]
    rw [← hS] at HE
    have d0 : (a.gen == b.gen) = true := by simpa using h0
    have d1 : (a.next == b.next) = true := by simpa using h1
    have d2 : (a.wal == b.wal) = true := by simpa using h2
    clear hS hsm h0 h1 h2
    go_enter Tryz.func12, Tryz.ntmps12
    go_wp2_with fail
    refine HE.out.mono ?_; rintro e w3 ⟨rfl, hb3⟩
    have HB3 := Lib.hid (below_step HB2.out hb3); clear hb3
    go_wp2_with fail
    go_ret
    exact ⟨rfl, HB3.out⟩
  · have hS : S = false := by rw [hsm]; simp only [decide_eq_false_iff_not]; intro h; exact h3 ⟨h.1, h.2.1, h.2.2.1⟩
    have hd : (a.gen == b.gen) = false ∨ ((a.gen == b.gen) = true ∧ (a.next == b.next) = false) ∨ ((a.gen == b.gen) = true ∧ (a.next == b.next) = true ∧ (a.wal == b.wal) = false) := by
      simp only [beq_eq_false_iff_ne, beq_iff_eq]
      omega
    subst hS
    clear hsm h3
    rcases hd with d0 | ⟨d0, d1⟩ | ⟨d0, d1, d2⟩
    all_goals
      go_enter Tryz.func12, Tryz.ntmps12
      go_wp2_with fail
      go_ret
      exact ⟨rfl, HB2.out⟩
end Go.Proofs.YtokofifecdpmfaaGreatDoor
