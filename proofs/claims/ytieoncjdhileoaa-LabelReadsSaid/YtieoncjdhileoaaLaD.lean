/-
  What the functions of package label come to: Less, Get, Same.
-/
import Derived.Test.YtieoncjdhileoaaLaC
import Derived.Laws.StructEq
namespace Go.Proofs.Ytieoncjdhileoaa
open Go.RowKit

set_option maxHeartbeats 400000 in
theorem Less_any (A B : Option Addr) (n m c d : Nat) (hn : n ≤ 1000) (hm : m ≤ 1000) (f g : Nat → Lab) (hf : ∀ i, i < n → (f i).1.size ≤ 300 ∧ (f i).2.size ≤ 300) (hg : ∀ i, i < m → (g i).1.size ≤ 300 ∧ (g i).2.size ≤ 300) (w : World) (hA : LabRow w A n f) (hB : LabRow w B m g) :
    Calls Try.prog 31 #[.slice A n c, .slice B m d] w fun e w' => e = .returned (.bool (La.less (La.keyB f n) (La.keyB g m))) ∧ Below w.heap.size w w' := by
  have HB := Lib.hid hB
  go_enter Try.func31, Try.ntmps31
  go_wp2_with fail
  refine (Key_any A n c hn f hf _ hA).mono ?_; rintro e w1 ⟨rfl, hb1⟩
  have HB1 := Lib.hid hb1; clear hb1
  go_wp2_with fail
  refine (Key_any B m d hm g hg _ (HB.out.later HB1.out)).mono ?_; rintro e w2 ⟨rfl, hb2⟩
  have HB2 := Lib.hid (below_step HB1.out hb2); clear hb2
  go_wp2_with fail
  go_ret
  exact ⟨rfl, HB2.out⟩

set_option maxRecDepth 100000 in
set_option maxHeartbeats 1000000 in
theorem Get_any (A : Option Addr) (n c : Nat) (hn : n ≤ maxLen) (f : Nat → Lab) (name : ByteArray) (w : World) (hA : LabRow w A n f) :
    Calls Try.prog 23 #[.slice A n c, .string name] w fun e w' => e = .returned (.string (La.get f name n 0)) ∧ Below w.heap.size w w' := by
  unfold maxLen at hn
  have HA := Lib.hid hA; clear hA
  generalize hr : La.get f name n 0 = r
  have HR := Lib.hid hr; clear hr
  go_enter Try.func23, Try.ntmps23
  go_wp2_with fail
  go_loopw [9] (fun i wr => ∃ k : Nat, k ≤ n ∧ i = .int .i64 k ∧ La.get f name (n - k) k = r ∧ Below w.heap.size w wr) (fun i _ => n - (intOf i).toNat)
  case atStart => exact ⟨0, by omega, rfl, HR.out, Below.refl _ _⟩
  case round =>
    obtain ⟨k, hk, rfl, hg, hb⟩ := hrel
    have HB := Lib.hid hb; clear hb
    by_cases hlt : k < n
    · obtain ⟨ad, rfl, c0, c1⟩ := HA.out.at_ HB.out hlt
      rw [show n - k = (n - (k + 1)) + 1 from by omega, La.get] at hg
      have HG := Lib.hid hg; clear hg
      have HBA := Lib.hid (HB.out.alloc HB.out.size (.cells #[.string (f k).1, .string (f k).2] 38))
      have hbe := str_beq (f k).1 name
      obtain ⟨x, hx⟩ : ∃ x, (f k).1 = x := ⟨_, rfl⟩
      obtain ⟨y, hy⟩ : ∃ y, (f k).2 = y := ⟨_, rfl⟩
      rw [hx] at c0 HBA HG hbe
      rw [hy] at c1 HBA HG
      clear hx hy
      by_cases he : x = name
      · have hb : (x.toList == name.toList) = true := by rw [hbe]; simpa using he
        have HE := Lib.hid he; clear he hbe
        go_wp2_with fail
        go_ret
        refine ⟨?_, HBA.out⟩
        have := HG.out
        rw [if_pos HE.out] at this
        rw [this]; rfl
      · have hb : (x.toList == name.toList) = false := by rw [hbe]; simpa using he
        have HE := Lib.hid he; clear he hbe
        go_wp2_with fail
        go_roundw
        case rel =>
          have := HG.out
          rw [if_neg HE.out] at this
          exact ⟨k + 1, by omega, by go_num, this, HBA.out⟩
        case measure => simp [intOf]; omega
    · obtain rfl : k = n := by omega
      rw [Nat.sub_self] at hg
      have HG := Lib.hid hg; clear hg
      go_wp2_with fail
      go_ret
      refine ⟨?_, HB.out⟩
      rw [← HG.out]; rfl

theorem run_part_str {P : Program} (w : World) (e : TypeId) (he : P.underlying e = some .string) (cs : Array Value) (j : Nat) (v : Value) (hv : cs[j]? = some v) : (part e cs j).run P w = .ok v w := by
  have hagg : (isAgg e).run P w = .ok false w := by
    unfold isAgg
    rw [Sem.run_bind, run_underlying he w]
    simp
  simp [part, Sem.run_bind, hagg, hv]
theorem lab_fields : Try.prog.underlying 38 = some (.struct (Try.prog.fieldsOf 38)) := by kernel_rfl
theorem run_equal_lab (w : World) (x y z u : ByteArray) : (Op.equalIn 10000 38 (.agg #[.string x, .string y]) (.agg #[.string z, .string u])).run Try.prog w = .ok ((x.toList == z.toList) && (y.toList == u.toList)) w := by
  rw [run_equalIn_struct w 9999 38 _ _ lab_fields (by kernel_rfl)]
  have hf : (Try.prog.fieldsOf 38).toList = [⟨"Name", 9, 0, false, "", "", 0⟩, ⟨"Value", 9, 1, false, "", "", 16⟩] := by kernel_rfl
  rw [hf]
  have hp := fun (cs : Array Value) (j : Nat) (v : Value) (hv : cs[j]? = some v) => run_part_str (P := Try.prog) w 9 Try.underlying9 cs j v hv
  have p0 := hp #[.string x, .string y] 0 (.string x) rfl
  have p1 := hp #[.string x, .string y] 1 (.string y) rfl
  have q0 := hp #[.string z, .string u] 0 (.string z) rfl
  have q1 := hp #[.string z, .string u] 1 (.string u) rfl
  have e0 := run_equalIn_string (P := Try.prog) w 9998 9 x z Try.underlying9
  have e1 := run_equalIn_string (P := Try.prog) w 9998 9 y u Try.underlying9
  simp only [Op.eqFields, ne_eq, String.reduceEq, not_false_eq_true, if_true, Sem.run_bind, p0, q0, e0, Result.andThen_ok]
  cases h0 : (x.toList == z.toList) <;> cases h1 : (y.toList == u.toList) <;> simp [Sem.run_bind, p1, q1, e1, h1]

namespace La
/-- are so many alike? -/
def same (f g : Nat → Lab) (n : Nat) : Bool := (List.range n).all (fun i => decide (f i = g i))
end La
set_option maxRecDepth 100000 in
set_option maxHeartbeats 1000000 in
theorem Same_any (A B : Option Addr) (n m c d : Nat) (hn : n ≤ maxLen) (f g : Nat → Lab) (w : World) (hA : LabRow w A n f) (hB : LabRow w B m g) :
    Calls Try.prog 32 #[.slice A n c, .slice B m d] w fun e w' => e = .returned (.bool (decide (n = m) && La.same f g n)) ∧ Below w.heap.size w w' := by
  unfold maxLen at hn
  have HA := Lib.hid hA; have HB := Lib.hid hB; clear hA hB
  by_cases hnm : n = m
  · subst hnm
    rw [decide_eq_true rfl, Bool.true_and]
    generalize hr : La.same f g n = r
    have HR := Lib.hid hr; clear hr
    go_enter Try.func32, Try.ntmps32
    go_wp2_with fail
    go_loopw [13] (fun i wr => ∃ k : Nat, k ≤ n ∧ i = .int .i64 k ∧ La.same f g k = true ∧ Below w.heap.size w wr) (fun i _ => n - (intOf i).toNat)
    case atStart => exact ⟨0, by omega, rfl, rfl, Below.refl _ _⟩
    case round =>
      obtain ⟨k, hk, rfl, hs, hb⟩ := hrel
      have HBL := Lib.hid hb; have HS := Lib.hid hs; clear hb hs
      by_cases hlt : k < n
      · obtain ⟨ad, rfl, c0, c1⟩ := HA.out.at_ HBL.out hlt
        obtain ⟨bd, rfl, e0, e1⟩ := HB.out.at_ HBL.out hlt
        have i1 : (k : Int) < (n : Int) := by omega
        have i0 : (0 : Int) ≤ (k : Int) := by omega
        generalize hfk : f k = fk at *
        generalize hgk : g k = gk at *
        obtain ⟨x, y⟩ := fk
        obtain ⟨z, u⟩ := gk
        have HF := Lib.hid hfk; have HGk := Lib.hid hgk; clear hfk hgk
        have hel := fun W => run_equal_lab W x y z u
        have heg : Try.prog.eqGuardType Try.prog.depth 38 = false := by kernel_rfl
        have hb1 := str_beq x z
        have hb2 := str_beq y u
        by_cases q1 : x = z
        · have r1 : (x.toList == z.toList) = true := by rw [hb1]; simpa using q1
          by_cases q2 : y = u
          · have r2 : (y.toList == u.toList) = true := by rw [hb2]; simpa using q2
            clear hb1 hb2
            have Q1 := Lib.hid q1; have Q2 := Lib.hid q2; clear q1 q2
            go_wp2_with fail
            go_quiet (fail)
            go_wp2_with fail
            go_roundw
            case rel =>
              refine ⟨k + 1, by omega, by go_num, ?_, below_drewN HBL.out _⟩
              unfold La.same
              rw [La.range_all_succ]
              have hs := HS.out
              unfold La.same at hs
              rw [hs, HF.out, HGk.out, Q1.out, Q2.out]
              simp
            case measure => simp [intOf]; omega
          · have r2 : (y.toList == u.toList) = false := by rw [hb2]; simpa using q2
            clear hb1 hb2
            have Q1 := Lib.hid q1; have Q2 := Lib.hid q2; clear q1 q2
            go_wp2_with fail
            go_quiet (fail)
            go_wp2_with fail
            go_ret
            refine ⟨?_, below_drewN HBL.out _⟩
            have hno : La.same f g n = false := by
              unfold La.same
              rw [List.all_eq_false]
              exact ⟨k, List.mem_range.2 hlt, by rw [HF.out, HGk.out]; have q := Q2.out; simp [q]⟩
            rw [← HR.out, hno]; rfl
        · have r1 : (x.toList == z.toList) = false := by rw [hb1]; simpa using q1
          clear hb1 hb2
          have Q1 := Lib.hid q1; clear q1
          go_wp2_with fail
          go_quiet (fail)
          go_wp2_with fail
          go_ret
          refine ⟨?_, below_drewN HBL.out _⟩
          have hno : La.same f g n = false := by
            unfold La.same
            rw [List.all_eq_false]
            exact ⟨k, List.mem_range.2 hlt, by rw [HF.out, HGk.out]; have q := Q1.out; simp [q]⟩
          rw [← HR.out, hno]; rfl
      · obtain rfl : k = n := by omega
        go_wp2_with fail
        go_ret
        refine ⟨?_, HBL.out⟩
        rw [← HR.out, HS.out]; rfl
  · rw [decide_eq_false hnm, Bool.false_and]
    have hd : ((n : Int) != (m : Int)) = true := by rw [bne_iff_ne]; omega
    clear hnm
    go_enter Try.func32, Try.ntmps32
    go_wp2_with fail
    go_ret
    exact ⟨rfl, Below.refl _ _⟩
end Go.Proofs.Ytieoncjdhileoaa
