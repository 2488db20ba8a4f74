/-
  The walk of BitsJoin: two writers.
-/
import Derived.Test.YtfndlidedlbncaaDoorBitZ
namespace Go.Proofs.YtfndlidedlbncaaDoor
open Go.RowKit

/-- two writers, apart, and what lay below them -/
structure Two (w W : World) (p1 : Nat) (A1 : Option Addr) (cap1 : Nat) (B1 : List Bool) (p2 : Nat) (A2 : Option Addr) (cap2 : Nat) (B2 : List Bool) : Prop where
  w1 : WrAt W w.heap.size p1 A1 cap1 B1
  w2 : WrAt W w.heap.size p2 A2 cap2 B2
  bel : Below w.heap.size w W
  h1 : w.heap.size ≤ p1
  h2 : w.heap.size ≤ p2
  ne : p1 ≠ p2
  row : ∀ g, A1 = some ⟨g, 0, none⟩ → A2 ≠ some ⟨g, 0, none⟩
theorem Two.swap {w W : World} {p1 p2 cap1 cap2 : Nat} {A1 A2 : Option Addr} {B1 B2 : List Bool} (h : Two w W p1 A1 cap1 B1 p2 A2 cap2 B2) : Two w W p2 A2 cap2 B2 p1 A1 cap1 B1 :=
  ⟨h.w2, h.w1, h.bel, h.h2, h.h1, h.ne.symm, fun g e e2 => h.row g e2 e⟩
theorem WrAt.row_at {W : World} {base p cap : Nat} {A : Option Addr} {B : List Bool} (h : WrAt W base p A cap B) : A = none ∨ ∃ g, A = some ⟨g, 0, none⟩ ∧ base ≤ g ∧ g < W.heap.size := by
  rcases h.own.2 with ⟨h4, _⟩ | ⟨g, c, cur, hv, hb, hc, _⟩
  · left; cases A with
    | none => rfl
    | some a => cases h4
  · right
    refine ⟨g, ?_, hb, ?_⟩
    · simp only [Value.slice.injEq] at hv; exact hv.1
    · have e : A = some ⟨g, 0, none⟩ := by simp only [Value.slice.injEq] at hv; exact hv.1
      subst e
      exact (row_block h.own rfl).2.1
/-- the cells of a writer are no row of another -/
theorem WrAt.not_cells {W : World} {base p p2 cap cap2 : Nat} {A A2 : Option Addr} {B B2 : List Bool} (h : WrAt W base p A cap B) (h2 : WrAt W base p2 A2 cap2 B2) {g : Nat} (hA : A = some ⟨g, 0, none⟩) : g ≠ p2 := by
  subst hA
  exact own_ne h.own h2.cells (by decide)
theorem Two.put {w W W2 : World} {p1 p2 cap1 cap2 cap3 : Nat} {A1 A2 A3 : Option Addr} {B1 B2 B3 : List Bool} (h : Two w W p1 A1 cap1 B1 p2 A2 cap2 B2) (hw : WrAt W2 w.heap.size p1 A3 cap3 B3) (hN : NewRow W A1 A3) (hF : Far W W2 (PutSet p1 A1)) : Two w W2 p1 A3 cap3 B3 p2 A2 cap2 B2 := by
  have key : ∀ k, PutSet p1 A1 k → k = p1 ∨ A1 = some ⟨k, 0, none⟩ := by
    rintro k (rfl | hk)
    · exact .inl rfl
    · rcases h.w1.row_at with rfl | ⟨g, rfl, _⟩
      · cases hk
      · right; have : g = k := by simpa using hk
        rw [this]
  refine ⟨hw, h.w2.far hF ?_ ?_, h.bel.trans (hF.below h.bel.size (putSet_base h.w1 h.h1)), h.h1, h.h2, h.ne, ?_⟩
  · intro hk
    rcases key _ hk with e | e
    · exact h.ne e.symm
    · exact h.w1.not_cells h.w2 e rfl
  · intro g hg hk
    rcases key _ hk with e | e
    · exact h.w2.not_cells h.w1 hg e
    · exact h.row g e hg
  · rintro g e3 e2
    rcases hN with rfl | ⟨g3, rfl, hg⟩
    · exact h.row g e3 e2
    · have e : g3 = g := by simpa using e3
      subst e
      rcases h.w2.row_at with e4 | ⟨g2, e4, _, hlt⟩
      · rw [e4] at e2; cases e2
      · rw [e4] at e2
        have e5 : g2 = g3 := by injection e2 with e6; injection e6
        omega
theorem NewRow.undrew {w : World} {A A2 : Option Addr} (h : NewRow w.drew A A2) : NewRow w A A2 := h
set_option maxRecDepth 100000 in
set_option maxHeartbeats 4000000 in
theorem bitsJoin_walk0 (w : World) (hT : TabOk w) (v0 : Nat) (HV0 : Hid (v0 < 18446744073709551616)) (c d : Nat) (hc : c < 256) (hd : d < 256) (A : Option Addr) (len cap : Nat) (f : Nat → Int × Int) (_hlen : len ≤ maxLen) (hA : PairRow w A len .u64 .i64 f) :
    Calls Tryd.prog 7 #[.int .u64 v0, .int .u8 c, .int .u8 d, .slice A len cap] w fun e w' => e = .returned (.bool true) ∧ Below w.heap.size w w' := by
  by_cases hl : len ≤ 60
  · have hd1 : decide ((60 : Int) < (len : Int)) = false := by simp; omega
    have HA := Lib.hid hA; clear hA
    go_enter Tryd.func7, Tryd.ntmps7
    go_wp2_with fail
    refine (works_any _ hT).mono ?_; rintro e w1 ⟨rfl, hb1⟩
    have HB1 := Lib.hid hb1; clear hb1 hT
    go_wp2_with fail
    refine (NewWriter_any _).mono ?_; rintro e w2 ⟨rfl, hw2⟩
    have hwr : WrAt w2 w.heap.size w1.heap.size none 0 [] := by rw [hw2]; exact WrAt.new w1 _
    have hb2 : Below w.heap.size w w2 := by rw [hw2]; exact HB1.out.alloc HB1.out.size _
    have hpw : w.heap.size ≤ w1.heap.size := HB1.out.size
    generalize w1.heap.size = p at *
    have HWr := Lib.hid hwr; have HB2 := Lib.hid hb2; clear hwr hb2 hw2
    go_wp2_with fail
    refine (NewWriter_any _).mono ?_; rintro e w4 ⟨rfl, hw4⟩
    have htwo : Two w w4 p none 0 [] w2.heap.size none 0 [] := by
      have hb4 : Below w.heap.size w w4 := by rw [hw4]; exact HB2.out.alloc HB2.out.size _
      refine ⟨?_, by rw [hw4]; exact WrAt.new w2 _, hb4, hpw, HB2.out.size, ?_, fun g e => by cases e⟩
      · rw [hw4]; exact HWr.out.later ((Below.refl _ _).alloc (Nat.le_refl _) _)
      · have := HWr.out.lt; omega
    generalize w2.heap.size = r at *
    clear hw4 HWr HB2
    have HP := Lib.hid htwo; clear htwo
    go_wp2_with fail
    go_loopw [12] (fun i wr => ∃ (k : Nat) (A1 : Option Addr) (cap1 : Nat) (A2 : Option Addr) (cap2 : Nat), k ≤ len ∧ i = .int .i64 k ∧ Two w wr p A1 cap1 (Bit.puts f k) r A2 cap2 (Bit.puts f k)) (fun i _ => len - (intOf i).toNat)
    case atStart => exact ⟨0, none, 0, none, 0, by omega, rfl, HP.out⟩
    case round =>
      obtain ⟨k, A1, cap1, A2, cap2, hk, rfl, hpr⟩ := hrel
      have HR := Lib.hid hpr; clear hpr
      have hB := Bit.puts_length f k
      by_cases hlt : k < len
      · obtain ⟨ad, rfl, c0, _, wf0, wf1⟩ := HA.out.at_ HR.out.bel hlt
        obtain ⟨-, c1⟩ := HA.out.more HR.out.bel hlt
        have HM := Lib.hid (fun W hW => HA.out.more (w2 := W) hW hlt)
        have HNx : Hid (Bit.puts f (k + 1) = Bit.puts f k ++ Bit.of (f k).1.toNat (Bit.wd (f k).2)) := Lib.hid rfl
        generalize Bit.puts f k = B at *
        generalize (f k).1 = kd at *
        generalize (f k).2 = nn at *
        obtain ⟨v, rfl, HV⟩ := u64_nat kd wf0
        clear wf0 wf1
        go_wp2_with fail
        refine plain_still_tail 11 (by kernel_rfl) (by kernel_rfl) ?_
        simp only [List.take_succ_cons, List.take_zero, List.drop_succ_cons, List.drop_zero]
        repeat still_step
        refine wpStill_nil ?_
        go_wp2_with fail
        refine (Put_any w.heap.size p A1 cap1 B (by omega) v HV nn wr.drew HR.out.w1.drew (by have := HR.out.bel.size; exact this)).mono ?_
        rintro e w3 ⟨rfl, A3, cap3, hw3, hN, hF⟩
        have HR3 := Lib.hid (HR.out.put hw3 hN.undrew hF.undrew); clear hw3 hF hN
        obtain ⟨d0, d1⟩ := HM.out w3 HR3.out.bel
        go_wp2_with fail
        refine plain_still_tail 11 (by kernel_rfl) (by kernel_rfl) ?_
        simp only [List.take_succ_cons, List.take_zero, List.drop_succ_cons, List.drop_zero]
        repeat still_step
        refine wpStill_nil ?_
        go_wp2_with fail
        refine (Put_any w.heap.size r A2 cap2 B (by omega) v HV nn w3.drew HR3.out.w2.drew (by have := HR3.out.bel.size; exact this)).mono ?_
        rintro e w5 ⟨rfl, A5, cap5, hw5, hN, hF⟩
        have HR5 := Lib.hid (HR3.out.swap.put hw5 hN.undrew hF.undrew).swap; clear hw5 hF hN
        go_wp2_with fail
        go_roundw
        case rel => exact ⟨k + 1, A3, cap3, A5, cap5, by omega, by go_num, by rw [HNx.out]; exact HR5.out⟩
        case measure => simp [intOf]; omega
      · obtain rfl : k = len := by omega
        obtain ⟨a, ha, hca⟩ : ∃ a : Nat, a ≤ 64 ∧ (c : Int) % 65 = a := ⟨c % 65, by omega, by omega⟩
        obtain ⟨l, hla, hdl⟩ : ∃ l : Nat, l ≤ a ∧ (d : Int) % ((a : Int) + 1) = l := ⟨d % (a + 1), by have := Nat.mod_lt d (show 0 < a + 1 by omega); omega, by norm_cast⟩
        have hwa : Bit.wd ((a : Nat) : Int) = a := by unfold Bit.wd; omega
        have hwl : Bit.wd ((l : Nat) : Int) = l := by unfold Bit.wd; omega
        have hwal : Bit.wd ((a : Int) - (l : Int)) = a - l := by unfold Bit.wd; omega
        generalize Bit.puts f k = B at *
        go_wp2_with fail
        refine (Put_any w.heap.size p A1 cap1 B (by omega) v0 HV0 (a : Int) _ HR.out.w1 HR.out.bel.size).mono ?_
        rintro e w3 ⟨rfl, A3, cap3, hw3, hN, hF⟩
        have HR3 := Lib.hid (HR.out.put hw3 hN hF); clear hw3 hF hN
        rw [hwa] at HR3
        rcases Nat.lt_or_ge l 64 with h64 | h64
        · have HDV : Hid ((v0 : Int) / 2 ^ l = ((v0 / 2 ^ l : Nat) : Int)) := Lib.hid (by norm_cast)
          have HJ : Hid ((B ++ Bit.of (v0 / 2 ^ l) (a - l)) ++ Bit.of v0 l = B ++ Bit.of v0 a) := Lib.hid (by
            rw [List.append_assoc, ← Bit.of_append, show a - l + l = a by omega])
          go_wp2_with fail
          rw [HDV.out]
          refine (Put_any w.heap.size r A2 cap2 B (by omega) (v0 / 2 ^ l) (Lib.hid (Nat.lt_of_le_of_lt (Nat.div_le_self _ _) HV0.out)) ((a : Int) - (l : Int)) _ HR3.out.w2 HR3.out.bel.size).mono ?_
          rintro e w5 ⟨rfl, A5, cap5, hw5, hN, hF⟩
          have HR5 := Lib.hid (HR3.out.swap.put hw5 hN hF).swap; clear hw5 hF hN
          rw [hwal] at HR5
          go_wp2_with fail
          refine (Put_any w.heap.size r A5 cap5 _ (by rw [List.length_append, Bit.of_length]; omega) v0 HV0 (l : Int) _ HR5.out.w2 HR5.out.bel.size).mono ?_
          rintro e w6 ⟨rfl, A6, cap6, hw6, hN, hF⟩
          have HR6 := Lib.hid (HR5.out.swap.put hw6 hN hF).swap; clear hw6 hF hN
          rw [hwl, HJ.out] at HR6
          have HT2 := Lib.hid HR6.out.w2; have HT1 := Lib.hid HR6.out.w1
          go_wp2_with fail
          refine (Len_any _ HT1.out).mono ?_; rintro e wx ⟨rfl, rfl⟩
          go_wp2_with fail
          refine (Len_any _ HT2.out).mono ?_; rintro e wx ⟨rfl, rfl⟩
          go_wp2_with fail
          refine (Bytes_any _ HT1.out).mono ?_; rintro e wx ⟨rfl, rfl⟩
          go_wp2_with fail
          refine (Bytes_any _ HT2.out).mono ?_; rintro e wx ⟨rfl, rfl⟩
          go_wp2_with fail
          go_ret
          exact ⟨rfl, HR6.out.bel⟩
        · obtain rfl : l = a := by omega
          go_wp2_with fail
          refine (Put_any w.heap.size r A2 cap2 B (by omega) v0 HV0 (l : Int) _ HR3.out.w2 HR3.out.bel.size).mono ?_
          rintro e w5 ⟨rfl, A5, cap5, hw5, hN, hF⟩
          have HR6 := Lib.hid (HR3.out.swap.put hw5 hN hF).swap; clear hw5 hF hN
          rw [hwl] at HR6
          have HT2 := Lib.hid HR6.out.w2; have HT1 := Lib.hid HR6.out.w1
          go_wp2_with fail
          refine (Len_any _ HT1.out).mono ?_; rintro e wx ⟨rfl, rfl⟩
          go_wp2_with fail
          refine (Len_any _ HT2.out).mono ?_; rintro e wx ⟨rfl, rfl⟩
          go_wp2_with fail
          refine (Bytes_any _ HT1.out).mono ?_; rintro e wx ⟨rfl, rfl⟩
          go_wp2_with fail
          refine (Bytes_any _ HT2.out).mono ?_; rintro e wx ⟨rfl, rfl⟩
          go_wp2_with fail
          go_ret
          exact ⟨rfl, HR6.out.bel⟩
  · have hd1 : decide ((60 : Int) < (len : Int)) = true := by simp; omega
    go_enter Tryd.func7, Tryd.ntmps7
    go_wp2_with fail
    refine (works_any _ hT).mono ?_; rintro e w1 ⟨rfl, hb1⟩
    have HB1 := Lib.hid hb1; clear hb1 hT
    go_wp2_with fail
    refine (NewWriter_any _).mono ?_; rintro e w2 ⟨rfl, hw2⟩
    have hb2 : Below w.heap.size w w2 := by rw [hw2]; exact HB1.out.alloc HB1.out.size _
    have HB2 := Lib.hid hb2; clear hb2 hw2
    go_wp2_with fail
    refine (NewWriter_any _).mono ?_; rintro e w4 ⟨rfl, hw4⟩
    have hb4 : Below w.heap.size w w4 := by rw [hw4]; exact HB2.out.alloc HB2.out.size _
    have HB4 := Lib.hid hb4; clear hb4 hw4
    go_wp2_with fail
    go_ret
    exact ⟨rfl, HB4.out⟩
theorem byte_nat (c : Int) (h : (Lit.int .u8 c).wf = true) : ∃ n : Nat, c = n ∧ n < 256 := by
  have hx : 0 ≤ c ∧ c ≤ 255 := by simpa [Lit.wf, IntKind.min, IntKind.max, IntKind.signed, IntKind.bits] using h
  exact ⟨c.toNat, by omega, by omega⟩
theorem bitsJoin_walk {H : Type} {enc : TypeId × Value → H} {r : Reach} {b0 : Nat} {v : Value} {d : DataW H} {p : List MemPlace} (w : World) (hT : TabOk w) (x c e : Int) (hx : (Lit.int .u64 x).wf = true) (hc : (Lit.int .u8 c).wf = true) (he : (Lit.int .u8 e).wf = true)
    (hv : Value.okWide Tryd.prog w r b0 22 v) (h : DataW.Trod enc Tryd.prog w 0 (fun _ => true) true 22 v d p) :
    Calls Tryd.prog 7 #[.int .u64 x, .int .u8 c, .int .u8 e, v] w fun e w' => e = .returned (.bool true) ∧ Below w.heap.size w w' := by
  obtain ⟨A, n, c2, f, rfl, hn, hA⟩ := open_puts hv h
  obtain ⟨x, rfl, HX⟩ := u64_nat x hx
  obtain ⟨c, rfl, hC⟩ := byte_nat c hc
  obtain ⟨e, rfl, hE⟩ := byte_nat e he
  exact bitsJoin_walk0 w hT x HX c e hC hE A n c2 f hn hA
end Go.Proofs.YtfndlidedlbncaaDoor
