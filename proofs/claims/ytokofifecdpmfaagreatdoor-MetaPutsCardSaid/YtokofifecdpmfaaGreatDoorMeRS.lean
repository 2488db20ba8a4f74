import Derived.Test.YtokofifecdpmfaaGreatDoorMeRF
import Derived.Test.YtokofifecdpmfaaGreatDoorMeG
/-
  What Valid, number and Put of the document's answer for metas come to, and the law's Of.
-/
namespace Go.Proofs.YtokofifecdpmfaaGreatDoor
open Go.RowKit
namespace Me
/-- the first k blocks may be -/
def okB (m : M) (k : Nat) : Prop := ∀ i, i < k → 0 ≤ m.bs.getD i 0 ∧ m.bs.getD i 0 < m.next ∧ m.bs.getD i 0 ≠ m.wal ∧ ∀ l, l < i → m.bs.getD l 0 ≠ m.bs.getD i 0
theorem okB_succ (m : M) (k : Nat) (h : okB m k) (h2 : 0 ≤ m.bs.getD k 0 ∧ m.bs.getD k 0 < m.next ∧ m.bs.getD k 0 ≠ m.wal ∧ ∀ l, l < k → m.bs.getD l 0 ≠ m.bs.getD k 0) : okB m (k + 1) := fun i hi => by
  rcases Nat.lt_or_ge i k with h3 | h3
  · exact h i h3
  · obtain rfl : i = k := by omega
    exact h2
theorem mem_take_iff (L : List Int) (k : Nat) (hk : k ≤ L.length) (x : Int) : x ∈ L.take k ↔ ∃ l, l < k ∧ L.getD l 0 = x := by
  constructor
  · intro h
    obtain ⟨i, hi, e⟩ := List.getElem_of_mem h
    rw [List.length_take] at hi
    refine ⟨i, by omega, ?_⟩
    rw [List.getElem_take] at e
    simp [List.getD, show i < L.length by omega, e]
  · rintro ⟨l, hl, rfl⟩
    have hl2 : l < L.length := by omega
    have : (L.take k)[l]'(by rw [List.length_take]; omega) = L.getD l 0 := by rw [List.getElem_take]; simp [List.getD, hl2]
    rw [← this]
    exact List.getElem_mem _
theorem valid_okB (m : M) (h : okay m) (h1 : 0 ≤ m.wal ∧ m.wal < m.next) : valid m = true ↔ okB m m.bs.length := by
  rw [valid_iff]
  constructor
  · rintro ⟨_, hg⟩ i hi
    have := hg (i + 1) (by omega)
    simp only [List.getD_cons_succ, List.take_succ_cons, List.mem_cons, not_or] at this
    obtain ⟨a, b, c, d⟩ := this
    exact ⟨a, b, c, fun l hl e => d ((mem_take_iff m.bs i (by omega) _).2 ⟨l, hl, e⟩)⟩
  · intro ho
    refine ⟨h, fun i hi => ?_⟩
    cases i with
    | zero => simp; exact h1
    | succ i =>
      obtain ⟨a, b, c, d⟩ := ho i (by omega)
      simp only [List.getD_cons_succ, List.take_succ_cons, List.mem_cons, not_or]
      exact ⟨a, b, c, fun e => by
        obtain ⟨l, hl, e2⟩ := (mem_take_iff m.bs i (by omega) _).1 e
        exact d l hl e2⟩
end Me
/-- the block of a meta of the document's answer -/
def RMetaAt (b : Nat) (m : Me.M) (A : Option Addr) (c : Nat) (w : World) : Prop := w.heap[b]? = some (.cells #[.int .i64 m.gen, .int .i64 m.next, .int .i64 m.wal, .slice A m.bs.length c] 30 (0, 0))
theorem RMetaAt.cells {b : Nat} {m : Me.M} {A : Option Addr} {c : Nat} {w : World} (h : RMetaAt b m A c w) : w.cell? ⟨b, 0, none⟩ = some (.int .i64 m.gen) ∧ w.cell? ⟨b, 1, none⟩ = some (.int .i64 m.next) ∧ w.cell? ⟨b, 2, none⟩ = some (.int .i64 m.wal) ∧ w.cell? ⟨b, 3, none⟩ = some (.slice A m.bs.length c) :=
  ⟨cell_of_row w b 0 _ _ _ h, cell_of_row w b 1 _ _ _ h, cell_of_row w b 2 _ _ _ h, cell_of_row w b 3 _ _ _ h⟩
theorem RMetaAt.later {b : Nat} {m : Me.M} {A : Option Addr} {c : Nat} {w w2 : World} (h : RMetaAt b m A c w) (hb : Below w.heap.size w w2) : RMetaAt b m A c w2 := heap_keep h hb
theorem rmeta_size : (Tryz.prog.info? 30).map (·.size) = some 4 := by kernel_rfl
theorem rmeta_four {W : World} {b : Nat} {z0 z1 z2 z3 : Value} (h : RowIs W b (.cells #[z0, z1, z2, z3] 30)) (a0 a1 a2 a3 : Value) :
    RowIs ((((W.setCell ⟨b, 0, none⟩ a0).setCell ⟨b, 1, none⟩ a1).setCell ⟨b, 2, none⟩ a2).setCell ⟨b, 3, none⟩ a3) b (.cells #[a0, a1, a2, a3] 30) :=
  heap_setCell_same _ b 3 _ _ a3 (heap_setCell_same _ b 2 _ _ a2 (heap_setCell_same _ b 1 _ _ a1 (heap_setCell_same W b 0 _ _ a0 h)))
theorem rmeta_cells {W : World} {b : Nat} {z0 z1 z2 z3 : Value} (h : RowIs W b (.cells #[z0, z1, z2, z3] 30)) :
    (W.cell? ⟨b, 0, none⟩ = some z0 ∧ W.cell? ⟨b, 1, none⟩ = some z1 ∧ W.cell? ⟨b, 2, none⟩ = some z2 ∧ W.cell? ⟨b, 3, none⟩ = some z3) ∧ (W.frozen? ⟨b, 0, none⟩ = false ∧ W.frozen? ⟨b, 1, none⟩ = false ∧ W.frozen? ⟨b, 2, none⟩ = false ∧ W.frozen? ⟨b, 3, none⟩ = false) :=
  ⟨⟨cell_of_row _ _ _ _ _ _ h, cell_of_row _ _ _ _ _ _ h, cell_of_row _ _ _ _ _ _ h, cell_of_row _ _ _ _ _ _ h⟩, ⟨frozen_of_row _ _ _ _ _ h, frozen_of_row _ _ _ _ _ h, frozen_of_row _ _ _ _ _ h, frozen_of_row _ _ _ _ _ h⟩⟩
theorem RMetaAt.lt {b : Nat} {m : Me.M} {A : Option Addr} {c : Nat} {w : World} (h : RMetaAt b m A c w) : b < w.heap.size := (Array.getElem?_eq_some_iff.1 h).1

set_option maxRecDepth 100000 in
set_option maxHeartbeats 4000000 in
theorem rValid_any (m : Me.M) (A : Option Addr) (c : Nat) (hl : m.bs.length ≤ 700) (w : World) (hA : Ints w A c m.bs) :
    Calls Tryz.prog 9 #[.agg #[.int .i64 m.gen, .int .i64 m.next, .int .i64 m.wal, .slice A m.bs.length c]] w fun e w' => e = .returned (.bool (Me.valid m)) ∧ Below w.heap.size w w' := by
  have hm1 : RMetaAt w.heap.size m A c (w.alloc (.cells #[.int .i64 m.gen, .int .i64 m.next, .int .i64 m.wal, .slice A m.bs.length c] 30)) := heap_alloc_new _ _
  have hb1 : Below w.heap.size w (w.alloc (.cells #[.int .i64 m.gen, .int .i64 m.next, .int .i64 m.wal, .slice A m.bs.length c] 30)) := (Below.refl _ w).alloc (Nat.le_refl _) _
  have ha1 := hA.later hb1
  obtain ⟨c0, c1, c2, c3⟩ := hm1.cells
  have HB := Lib.hid hb1; have HA := Lib.hid ha1
  clear hm1 hb1 ha1 hA
  by_cases hok : Me.okay m ∧ 0 ≤ m.wal ∧ m.wal < m.next
  · obtain ⟨hok, hw⟩ := hok
    have hiff := Me.valid_okB m hok hw
    have hok2 := hok
    unfold Me.okay at hok2
    obtain ⟨o1, o2, o3, o4, o5⟩ := hok2
    have d1 : decide (m.gen < 1) = false := by simp; omega
    have d2 : decide (3 < m.gen) = false := by simp; omega
    have d3 : decide (m.next < 0) = false := by simp; omega
    have d4 : decide (999999 < m.next) = false := by simp; omega
    have d5 : decide (m.wal < 0) = false := by simp; omega
    have d6 : decide (m.next ≤ m.wal) = false := by simp; omega
    have d7 : decide ((40 : Int) < ((m.bs.length : Nat) : Int)) = false := by simp; omega
    have HI := Lib.hid hiff
    clear hok hiff
    generalize Me.valid m = vl at *
    generalize hw1 : w.alloc (.cells #[.int .i64 m.gen, .int .i64 m.next, .int .i64 m.wal, .slice A m.bs.length c] 30) = w1 at *
    go_enter Tryz.func9, Tryz.ntmps9
    go_wp2_with fail
    go_loop [3, 4, 5] (fun i _ _ => ∃ k : Nat, k ≤ m.bs.length ∧ i = .int .i64 k ∧ Me.okB m k) (fun i _ _ => m.bs.length - (intOf i).toNat)
    case atStart => exact ⟨0, by omega, rfl, fun i hi => absurd hi (by omega)⟩
    case round =>
      obtain ⟨k, hk, rfl, hokb⟩ := hrel
      have HO := Lib.hid hokb; clear hokb
      by_cases hlt : k < m.bs.length
      · obtain ⟨ad, rfl, -, hc⟩ := HA.out.row (by omega)
        have x0 := hc k hlt
        have hnx := Me.okB_succ m k HO.out
        have hbad : ¬ (0 ≤ m.bs.getD k 0 ∧ m.bs.getD k 0 < m.next ∧ m.bs.getD k 0 ≠ m.wal ∧ ∀ l, l < k → m.bs.getD l 0 ≠ m.bs.getD k 0) → vl = false := fun h => by
          cases hv : vl with
          | false => rfl
          | true => exact absurd (HI.out.1 hv k hlt) h
        have HC := Lib.hid hc; have HNX := Lib.hid hnx; have HBAD := Lib.hid hbad
        clear hc hnx hbad
        generalize m.bs.getD k 0 = x at *
        have i1 : (k : Int) < (m.bs.length : Int) := by omega
        have i0 : (0 : Int) ≤ (k : Int) := by omega
        by_cases hx : x < 0 ∨ m.next ≤ x ∨ x = m.wal
        · have hv := HBAD.out (fun h => by rcases hx with h1 | h1 | h1 <;> omega)
          subst hv
          have hd : decide (x < 0) = true ∨ (decide (x < 0) = false ∧ decide (m.next ≤ x) = true) ∨ (decide (x < 0) = false ∧ decide (m.next ≤ x) = false ∧ (x == m.wal) = true) := by
            simp only [decide_eq_true_eq, decide_eq_false_iff_not, beq_iff_eq]; omega
          clear hx
          rcases hd with e1 | ⟨e1, e2⟩ | ⟨e1, e2, e3⟩
          all_goals
            go_wp2_with fail
            go_ret
            exact ⟨rfl, HB.out⟩
        · have e1 : decide (x < 0) = false := by simp; omega
          have e2 : decide (m.next ≤ x) = false := by simp; omega
          have e3 : (x == m.wal) = false := by rw [beq_eq_false_iff_ne]; omega
          go_wp2_with fail
          go_loop [5] (fun v => ∃ j : Nat, j ≤ k ∧ v = .int .i64 j ∧ ∀ l, l < j → m.bs.getD l 0 ≠ x) (fun v => k - (intOf v).toNat)
          case atStart => exact ⟨0, by omega, rfl, fun l hl => absurd hl (by omega)⟩
          case round =>
            obtain ⟨j, hj, rfl, hne⟩ := hrel
            have HNE := Lib.hid hne; clear hne
            by_cases hjk : j < k
            · have y0 := HC.out j (by omega)
              have hns : m.bs.getD j 0 ≠ x → ∀ l, l < j + 1 → m.bs.getD l 0 ≠ x := fun h l hl => by
                rcases Nat.lt_or_ge l j with h2 | h2
                · exact HNE.out l h2
                · rw [show l = j by omega]; exact h
              have hbd : m.bs.getD j 0 = x → vl = false := fun h => HBAD.out (fun h2 => h2.2.2.2 j hjk h)
              have HNS := Lib.hid hns; have HBD := Lib.hid hbd
              clear hns hbd
              generalize m.bs.getD j 0 = y at *
              have j1 : (j : Int) < (k : Int) := by omega
              have j0 : (0 : Int) ≤ (j : Int) := by omega
              have j2 : (j : Int) < (m.bs.length : Int) := by omega
              by_cases hyx : y = x
              · have hv := HBD.out hyx
                subst hv
                have e4 : (y == x) = true := by simpa using hyx
                clear hyx
                go_wp2_with fail
                go_ret
                exact ⟨rfl, HB.out⟩
              · have e4 : (y == x) = false := by simpa using hyx
                have HN2 := Lib.hid (HNS.out hyx)
                clear hyx
                go_wp2_with fail
                go_round
                case rel => exact ⟨j + 1, by omega, by go_num, HN2.out⟩
                case measure => simp [intOf]; omega
            · obtain rfl : j = k := by omega
              have HOK := Lib.hid (HNX.out ⟨by omega, by omega, by omega, HNE.out⟩)
              have j1 : ¬ (j : Int) < (j : Int) := by omega
              go_wp2_with fail
              go_round
              case rel => exact ⟨j + 1, by omega, by go_num, HOK.out⟩
              case measure => simp [intOf]; omega
      · have hke : k = m.bs.length := by omega
        have hv := HI.out.2 (by rw [← hke]; exact HO.out)
        subst hv
        have i1 : ¬ (k : Int) < (m.bs.length : Int) := by omega
        clear hke
        go_wp2_with fail
        go_ret
        exact ⟨rfl, HB.out⟩
  · have hvf : Me.valid m = false := by
      cases hv : Me.valid m with
      | false => rfl
      | true => exact absurd ⟨Me.valid_okay hv, Me.valid_wal hv⟩ hok
    rw [hvf]
    have hc : decide (m.gen < 1) = true ∨ (decide (m.gen < 1) = false ∧ decide (3 < m.gen) = true) ∨ (decide (m.gen < 1) = false ∧ decide (3 < m.gen) = false ∧ decide (m.next < 0) = true) ∨
        (decide (m.gen < 1) = false ∧ decide (3 < m.gen) = false ∧ decide (m.next < 0) = false ∧ decide (999999 < m.next) = true) ∨
        (decide (m.gen < 1) = false ∧ decide (3 < m.gen) = false ∧ decide (m.next < 0) = false ∧ decide (999999 < m.next) = false ∧ decide (m.wal < 0) = true) ∨
        (decide (m.gen < 1) = false ∧ decide (3 < m.gen) = false ∧ decide (m.next < 0) = false ∧ decide (999999 < m.next) = false ∧ decide (m.wal < 0) = false ∧ decide (m.next ≤ m.wal) = true) ∨
        (decide (m.gen < 1) = false ∧ decide (3 < m.gen) = false ∧ decide (m.next < 0) = false ∧ decide (999999 < m.next) = false ∧ decide (m.wal < 0) = false ∧ decide (m.next ≤ m.wal) = false ∧ decide ((40 : Int) < ((m.bs.length : Nat) : Int)) = true) := by
      unfold Me.okay at hok
      simp only [decide_eq_true_eq, decide_eq_false_iff_not]
      omega
    clear hok hvf HA hl
    generalize m.bs.length = n at *
    rcases hc with d1 | ⟨d1, d2⟩ | ⟨d1, d2, d3⟩ | ⟨d1, d2, d3, d4⟩ | ⟨d1, d2, d3, d4, d5⟩ | ⟨d1, d2, d3, d4, d5, d6⟩ | ⟨d1, d2, d3, d4, d5, d6, d7⟩
    all_goals
      go_enter Tryz.func9, Tryz.ntmps9
      go_wp2_with fail
      go_ret
      exact ⟨rfl, HB.out⟩

set_option maxRecDepth 100000 in
set_option maxHeartbeats 400000 in
theorem rnumber_any (n : Nat) (hn : n < 9223372036854775808) (gen : Int) (w : World) :
    Calls Tryz.prog 22 #[.int .i64 n, .int .i64 gen] w fun e w' => e = .returned (.string (Me.one gen n)) ∧ Below w.heap.size w w' := by
  have hwr : IntKind.u64.wrap (n : Int) = (n : Int) := by rw [IntKind.wrap_u64]; omega
  have HN : Hid (n < 18446744073709551616) := Lib.hid (by omega)
  by_cases h1 : gen = 1
  · have d1 : (gen == 1) = true := by simpa using h1
    have ho : Me.one gen n = Num.wideB n := by unfold Me.one; rw [if_pos h1]
    rw [ho]
    have HW := Lib.hid (rWide_any n HN)
    clear h1 ho hn
    generalize Num.wideB n = s at *
    go_enter Tryz.func22, Tryz.ntmps22
    go_wp2_with fail
    refine (HW.out _).mono ?_; rintro e w2 ⟨rfl, hb2⟩
    have HB2 := Lib.hid hb2; clear hb2
    go_wp2_with fail
    go_ret
    exact ⟨rfl, HB2.out⟩
  · have d1 : (gen == 1) = false := by simpa using h1
    have ho : Me.one gen n = Num.smallB n := by unfold Me.one; rw [if_neg h1]
    rw [ho]
    have HW := Lib.hid (rSmall_any n HN)
    clear h1 ho hn
    generalize Num.smallB n = s at *
    go_enter Tryz.func22, Tryz.ntmps22
    go_wp2_with fail
    refine (HW.out _).mono ?_; rintro e w2 ⟨rfl, hb2⟩
    have HB2 := Lib.hid hb2; clear hb2
    go_wp2_with fail
    go_ret
    exact ⟨rfl, HB2.out⟩
end Go.Proofs.YtokofifecdpmfaaGreatDoor
/-
  What Same of the document's answer for metas comes to, and Row of matchers.
-/
namespace Go.Proofs.YtokofifecdpmfaaGreatDoor
open Go.RowKit

set_option maxRecDepth 100000 in
set_option maxHeartbeats 1000000 in
theorem Row_any (A B : Option Addr) (na nb ca cb : Nat) (L K : List Int) (hL : na = L.length) (hK : nb = K.length) (hn : na ≤ 1000) (w : World) (hA : IRow w A L) (hB : IRow w B K) :
    Calls Tryz.prog 27 #[.slice A na ca, .slice B nb cb] w fun e w' => e = .returned (.bool (decide (L = K))) ∧ Below w.heap.size w w' := by
  have HA := Lib.hid hA; have HB := Lib.hid hB; have HL := Lib.hid hL; have HK := Lib.hid hK
  by_cases hne : na = nb
  · subst hne
    have hex : L ≠ K → ∃ i, i < na ∧ L.getD i 0 ≠ K.getD i 0 := getD_take_ne L K na hL.symm hK.symm
    have hsame : ∀ k, k < na → L.getD k 0 ≠ K.getD k 0 → decide (L = K) = false := fun k hk h => by
      simp only [decide_eq_false_iff_not]; intro e; rw [e] at h; exact h rfl
    have HEX := Lib.hid hex; have HSA := Lib.hid hsame
    clear hA hB hL hK hex hsame
    generalize hd : decide (L = K) = D at *
    have HD := Lib.hid hd; clear hd
    go_enter Tryz.func27, Tryz.ntmps27
    go_wp2_with fail
    try (go_quiet (fail); go_wp2_with fail)
    go_loopw [5] (fun i wr => ∃ k : Nat, k ≤ na ∧ i = .int .i64 k ∧ (∀ j, j < k → L.getD j 0 = K.getD j 0) ∧ Below w.heap.size w wr) (fun i _ => na - (intOf i).toNat)
    case atStart => exact ⟨0, by omega, rfl, fun j hj => absurd hj (by omega), by first | exact Below.refl _ _ | exact (Below.refl _ _).drew | exact below_drewN (Below.refl _ _) _⟩
    case round =>
      obtain ⟨k, hk, rfl, hall, hb⟩ := hrel
      have HALL := Lib.hid hall; have HBE := Lib.hid hb; clear hall hb
      by_cases hlt : k < na
      · have hlL : k < L.length := by have := HL.out; omega
        have hlK : k < K.length := by have := HK.out; omega
        obtain ⟨ad, rfl, -, hca⟩ := (HA.out.later HBE.out) (by omega)
        obtain ⟨bd, rfl, -, hcb⟩ := (HB.out.later HBE.out) (by omega)
        have x0 := hca k hlL
        have x1 := hcb k hlK
        have hsa := HSA.out k hlt
        have hnx : L.getD k 0 = K.getD k 0 → ∀ j, j < k + 1 → L.getD j 0 = K.getD j 0 := fun e j hj => by
          rcases Nat.lt_or_ge j k with h | h
          · exact HALL.out j h
          · rw [show j = k by omega]; exact e
        have HS := Lib.hid hsa; have HNX := Lib.hid hnx
        clear hca hcb hsa hnx hlL hlK
        generalize L.getD k 0 = x at *
        generalize K.getD k 0 = y at *
        have i1 : (k : Int) < (na : Int) := by omega
        have i0 : (0 : Int) ≤ (k : Int) := by omega
        by_cases hxy : x = y
        · have d1 : (x != y) = false := by simpa using hxy
          have HN := Lib.hid (HNX.out hxy)
          clear hxy
          go_wp2_with fail
          go_quiet (fail)
          go_wp2_with fail
          go_roundw
          case rel => exact ⟨k + 1, by omega, by go_num, HN.out, by first | exact HBE.out | exact HBE.out.drew | exact below_drewN HBE.out _⟩
          case measure => simp [intOf]; omega
        · have d1 : (x != y) = true := by simpa using hxy
          have hd := HS.out hxy
          subst hd
          clear hxy
          go_wp2_with fail
          go_quiet (fail)
          go_wp2_with fail
          go_ret
          exact ⟨rfl, by first | exact HBE.out | exact HBE.out.drew | exact below_drewN HBE.out _⟩
      · have hall : L = K := by
          by_cases h : L = K
          · exact h
          · obtain ⟨i, hi, hne⟩ := HEX.out h
            exact absurd (HALL.out i (by omega)) hne
        have hd : D = true := by rw [← HD.out]; simpa using hall
        subst hd
        clear hall
        have i1 : ¬ (k : Int) < (na : Int) := by omega
        go_wp2_with fail
        go_ret
        exact ⟨rfl, HBE.out⟩
  · have hd : decide (L = K) = false := by
      simp only [decide_eq_false_iff_not]; intro e; subst e; exact hne (by omega)
    rw [hd]
    have d1 : ((na : Int) != (nb : Int)) = true := by rw [bne_iff_ne]; omega
    clear hA hB hL hK hd hne
    go_enter Tryz.func27, Tryz.ntmps27
    go_wp2_with fail
    try (go_quiet (fail); go_wp2_with fail)
    go_ret
    exact ⟨rfl, by first | exact Below.refl _ _ | exact (Below.refl _ _).drew | exact below_drewN (Below.refl _ _) _⟩
set_option maxRecDepth 100000 in
set_option maxHeartbeats 1000000 in
theorem rSame_any (a b : Me.M) (A B : Option Addr) (ca cb : Nat) (ha : a.bs.length ≤ 700) (w : World) (hA : Ints w A ca a.bs) (hB : Ints w B cb b.bs) :
    Calls Tryz.prog 10 #[.agg #[.int .i64 a.gen, .int .i64 a.next, .int .i64 a.wal, .slice A a.bs.length ca], .agg #[.int .i64 b.gen, .int .i64 b.next, .int .i64 b.wal, .slice B b.bs.length cb]] w fun e w' => e = .returned (.bool (Me.same a b)) ∧ Below w.heap.size w w' := by
  have hb1 : Below w.heap.size w (w.alloc (.cells #[.int .i64 a.gen, .int .i64 a.next, .int .i64 a.wal, .slice A a.bs.length ca] 30)) := (Below.refl _ _).alloc (Nat.le_refl _) _
  have hm1 : RMetaAt w.heap.size a A ca (w.alloc (.cells #[.int .i64 a.gen, .int .i64 a.next, .int .i64 a.wal, .slice A a.bs.length ca] 30)) := heap_alloc_new _ _
  have hz1 : (w.alloc (.cells #[.int .i64 a.gen, .int .i64 a.next, .int .i64 a.wal, .slice A a.bs.length ca] 30)).heap.size = w.heap.size + 1 := by simp
  have HW1 := Lib.hid (show ∃ w1, w1 = w.alloc (.cells #[.int .i64 a.gen, .int .i64 a.next, .int .i64 a.wal, .slice A a.bs.length ca] 30) from ⟨_, rfl⟩)
  have key : ∀ w1, Below w.heap.size w w1 → RMetaAt w.heap.size a A ca w1 → w1.heap.size = w.heap.size + 1 →
      (Below w.heap.size w (w1.alloc (.cells #[.int .i64 b.gen, .int .i64 b.next, .int .i64 b.wal, .slice B b.bs.length cb] 30)) ∧ RMetaAt w.heap.size a A ca (w1.alloc (.cells #[.int .i64 b.gen, .int .i64 b.next, .int .i64 b.wal, .slice B b.bs.length cb] 30)) ∧ RMetaAt (w.heap.size + 1) b B cb (w1.alloc (.cells #[.int .i64 b.gen, .int .i64 b.next, .int .i64 b.wal, .slice B b.bs.length cb] 30))) := fun w1 h1 h2 h3 => by
    have hal : Below w1.heap.size w1 (w1.alloc (.cells #[.int .i64 b.gen, .int .i64 b.next, .int .i64 b.wal, .slice B b.bs.length cb] 30)) := (Below.refl _ _).alloc (Nat.le_refl _) _
    refine ⟨below_step h1 hal, h2.later hal, ?_⟩
    rw [← h3]; exact heap_alloc_new _ _
  obtain ⟨hb2, hm2, hn2⟩ := key _ hb1 hm1 hz1
  have hA2 := hA.later hb2; have hB2 := hB.later hb2
  clear key HW1 hb1 hm1 hz1 hA hB
  obtain ⟨c0, c1, c2, c3⟩ := hm2.cells
  obtain ⟨e0, e1, e2, e3⟩ := hn2.cells
  have HB2 := Lib.hid hb2; have HIA := Lib.hid hA2; have HIB := Lib.hid hB2
  clear hb2 hm2 hn2 hA2 hB2
  generalize hw2 : (w.alloc (.cells #[.int .i64 a.gen, .int .i64 a.next, .int .i64 a.wal, .slice A a.bs.length ca] 30)).alloc (.cells #[.int .i64 b.gen, .int .i64 b.next, .int .i64 b.wal, .slice B b.bs.length cb] 30) = w2 at *
  have HE := Lib.hid (Row_any A B a.bs.length b.bs.length ca cb a.bs b.bs rfl rfl (by omega) w2 HIA.out.row HIB.out.row)
  have hsm : Me.same a b = decide (a.gen = b.gen ∧ a.next = b.next ∧ a.wal = b.wal ∧ a.bs = b.bs) := rfl
  generalize Me.same a b = S at *
  by_cases h3 : a.gen = b.gen ∧ a.next = b.next ∧ a.wal = b.wal
  · obtain ⟨h0, h1, h2⟩ := h3
    have hS : S = decide (a.bs = b.bs) := by rw [hsm]; simp [h0, h1, h2]
    rw [← hS] at HE
    have d0 : (a.gen == b.gen) = true := by simpa using h0
    have d1 : (a.next == b.next) = true := by simpa using h1
    have d2 : (a.wal == b.wal) = true := by simpa using h2
    clear hS hsm h0 h1 h2
    go_enter Tryz.func10, Tryz.ntmps10
    go_wp2_with fail
    refine HE.out.mono ?_; rintro e w3 ⟨rfl, hb3⟩
    have HB3 := Lib.hid (below_step HB2.out hb3); clear hb3
    go_wp2_with fail
    go_ret
    exact ⟨rfl, HB3.out⟩
  · have hS : S = false := by rw [hsm]; simp only [decide_eq_false_iff_not]; intro h; exact h3 ⟨h.1, h.2.1, h.2.2.1⟩
    have hd : (a.gen == b.gen) = false ∨ ((a.gen == b.gen) = true ∧ (a.next == b.next) = false) ∨ ((a.gen == b.gen) = true ∧ (a.next == b.next) = true ∧ (a.wal == b.wal) = false) := by
      simp only [beq_eq_false_iff_ne, beq_iff_eq]
      omega
    subst hS
    clear hsm h3
    rcases hd with d0 | ⟨d0, d1⟩ | ⟨d0, d1, d2⟩
    all_goals
      go_enter Tryz.func10, Tryz.ntmps10
      go_wp2_with fail
      go_ret
      exact ⟨rfl, HB2.out⟩

set_option maxRecDepth 100000 in
theorem LOf_any (m : Me.M) (A : Option Addr) (c : Nat) (w : World) :
    Calls Tryz.prog 8 #[.agg #[.int .i64 m.gen, .int .i64 m.next, .int .i64 m.wal, .slice A m.bs.length c]] w fun e w' => e = .returned (.agg #[.int .i64 m.gen, .int .i64 m.next, .int .i64 m.wal, .slice A m.bs.length c]) ∧ Below w.heap.size w w' := by
  have r1 : RowIs (w.alloc (.cells #[.int .i64 m.gen, .int .i64 m.next, .int .i64 m.wal, .slice A m.bs.length c] 24)) w.heap.size (.cells #[.int .i64 m.gen, .int .i64 m.next, .int .i64 m.wal, .slice A m.bs.length c] 24) := RowIs.one _ _
  have b1 : Below w.heap.size w (w.alloc (.cells #[.int .i64 m.gen, .int .i64 m.next, .int .i64 m.wal, .slice A m.bs.length c] 24)) := (Below.refl _ w).alloc (Nat.le_refl _) _
  have z1 : (w.alloc (.cells #[.int .i64 m.gen, .int .i64 m.next, .int .i64 m.wal, .slice A m.bs.length c] 24)).heap.size = w.heap.size + 1 := by simp
  have hm : MetaAt w.heap.size m A c ((w.alloc (.cells #[.int .i64 m.gen, .int .i64 m.next, .int .i64 m.wal, .slice A m.bs.length c] 24)).alloc (.cells #[.int .i64 0, .int .i64 0, .int .i64 0, .slice none 0 0] 30)) := r1.keep ((Below.refl _ _).alloc (Nat.le_refl _) _)
  have r2 : RowIs ((w.alloc (.cells #[.int .i64 m.gen, .int .i64 m.next, .int .i64 m.wal, .slice A m.bs.length c] 24)).alloc (.cells #[.int .i64 0, .int .i64 0, .int .i64 0, .slice none 0 0] 30)) (w.heap.size + 1) (.cells #[.int .i64 0, .int .i64 0, .int .i64 0, .slice none 0 0] 30) := RowIs.two w _ _
  have b2 : Below w.heap.size w ((w.alloc (.cells #[.int .i64 m.gen, .int .i64 m.next, .int .i64 m.wal, .slice A m.bs.length c] 24)).alloc (.cells #[.int .i64 0, .int .i64 0, .int .i64 0, .slice none 0 0] 30)) := b1.alloc b1.size _
  generalize hw2 : (w.alloc (.cells #[.int .i64 m.gen, .int .i64 m.next, .int .i64 m.wal, .slice A m.bs.length c] 24)).alloc (.cells #[.int .i64 0, .int .i64 0, .int .i64 0, .slice none 0 0] 30) = w2 at *
  obtain ⟨c0, c1, c2, c3⟩ := hm.cells
  obtain ⟨⟨y0, y1, y2, y3⟩, ⟨f0, f1, f2, f3⟩⟩ := rmeta_cells r2
  have HS := Lib.hid (rmeta_four r2 (.int .i64 m.gen) (.int .i64 m.next) (.int .i64 m.wal) (.slice A m.bs.length c))
  have HB := Lib.hid (b2.grown (grown_four w2 (w.heap.size + 1) (.int .i64 m.gen) (.int .i64 m.next) (.int .i64 m.wal) (.slice A m.bs.length c)) b2.size (fun r e => by cases e; omega))
  clear r1 b1 z1 hm r2 b2
  go_enter Tryz.func8, Tryz.ntmps8
  go_wp2_with fail
  refine bodyPost_ret (v := .agg #[.int .i64 m.gen, .int .i64 m.next, .int .i64 m.wal, .slice A m.bs.length c]) ?_ rfl ⟨rfl, HB.out⟩
  exact results_cell_row rfl _ _ (w.heap.size + 1) 30 _ (0, 0) _ rfl HS.out Tryz.underlying30 rfl rmeta_size
end Go.Proofs.YtokofifecdpmfaaGreatDoor
