import Derived.Test.YtliobahnekohmaaGreatIwD
import Derived.BigQuiet
import Derived.Test.YtliobahnekohmaaGreatLaT
import Derived.Test.YtliobahnekohmaaGreatNumO
import Derived.Test.YtliobahnekohmaaGreatIxY
import Derived.Test.YtliobahnekohmaaGreatRob
import Derived.Test.YtliobahnekohmaaGreatIxV
/-
  The document's entries out of the program's: Of; rows of texts alike.
-/
namespace Go.Proofs.YtliobahnekohmaaGreat
open Go.RowKit
theorem infoRE : (Tryz.prog.info? 77).map (fun i => (i.zero, i.size, i.bytes)) = some (some (.agg #[.slice none 0 0, .int .i64 0, .int .i64 0, .int .i64 0]), 4, 48) := by kernel_rfl
theorem keep_at2 {w U : World} {p : Addr} {v : Value} (h : w.cell? p = some v) (hb : Below w.heap.size w U) : U.cell? p = some v := by
 have hlt := Go.block_lt_of_cell h
 unfold World.cell? at h ⊢
 rw [hb.block p.block hlt]
 exact h
set_option maxRecDepth 100000 in
set_option maxHeartbeats 8000000 in
theorem Of_any12 (A : Option Addr) (n c : Nat) (q : Nat → EAt) (w : World) (hA : EntsIn w A n q) :
 Calls Tryz.prog 13 #[.slice A n c] w fun e w' => ∃ B d, e = .returned (.slice B n d) ∧ EntsIn w' B n q ∧ Below w.heap.size w w' := by
 have hn := hA.len
 have HA := Lib.hid hA
 clear hA
 go_enter Tryz.func13, Tryz.ntmps13
 go_wp2_with fail
 go_loopw [3, 4] (fun v i wr => ∃ j : Nat, j ≤ n ∧ i = .int .i64 j ∧ wr.ownsRow w.heap.size 77 4 v j (rcells 4 (ex q) j) ∧ Below w.heap.size w wr) (fun _ i _ => n - (intOf i).toNat)
 case atStart => exact ⟨0, Nat.zero_le _, rfl, World.ownsRow_nil _ _ _ _, Below.refl _ _⟩
 case round =>
  obtain ⟨j, hj, rfl, hown, hbl⟩ := hrel
  have HO := Lib.hid hown; have HBL := Lib.hid hbl
  clear hown hbl
  by_cases hjn : j < n
  · have d1 : decide ((j : Int) < (n : Int)) = true := decide_eq_true (Int.ofNat_lt.2 hjn)
    have i0 : (0 : Int) ≤ (j : Int) := Int.natCast_nonneg _
    have i1 : (j : Int) < (n : Int) := Int.ofNat_lt.2 hjn
    obtain ⟨ad, rfl, x0, x1, x2, x3⟩ := HA.out.cells HBL.out hjn
    have HX0 := Lib.hid x0; have HX1 := Lib.hid x1; have HX2 := Lib.hid x2; have HX3 := Lib.hid x3
    clear x0 x1 x2 x3
    obtain ⟨v0, hv0⟩ : ∃ v0, v0 = u3 := ⟨_, rfl⟩
    subst hv0
    go_upto_region 5 with fail
    refine plain_robJ [(0, some 11), (1, some 12), (2, some 13), (3, some 14), (4, some 15), (5, some 16), (6, some 17), (7, some 18), (8, some 19), (9, some 20), (10, some 21), (11, some 22), (12, some 23), (13, some 24), (14, some 25), (15, some 26), (16, some 27), (17, some 28), (18, some 29), (19, some 30), (20, some 31), (21, some 32), (22, some 33)] [23, 24] (fun U V => Below U.heap.size U V) (fun U => Below wr.heap.size wr U) [(0, v0), (1, .slice (some ad) n c), (2, .int .i64 (j : Int)), (3, .pointer (some (ad.add (j * 4)))), (4, .pointer (some (ad.add (j * 4)))), (5, .slice (q j).A (q j).e.l.length (q j).c), (6, .slice (some ad) n c), (7, .int .i64 (j : Int)), (8, .pointer (some (ad.add (j * 4)))), (9, .pointer (some ⟨(ad.add (j * 4)).block, (ad.add (j * 4)).off + 1, none⟩)), (10, .int .i64 (q j).e.last), (11, .slice (some ad) n c), (12, .int .i64 (j : Int)), (13, .pointer (some (ad.add (j * 4)))), (14, .pointer (some ⟨(ad.add (j * 4)).block, (ad.add (j * 4)).off + 2, none⟩)), (15, .int .i64 (q j).e.off), (16, .slice (some ad) n c), (17, .int .i64 (j : Int)), (18, .pointer (some (ad.add (j * 4)))), (19, .pointer (some ⟨(ad.add (j * 4)).block, (ad.add (j * 4)).off + 3, none⟩)), (20, .int .i64 (q j).e.len), (21, .agg #[.slice (q j).A (q j).e.l.length (q j).c, .int .i64 (q j).e.last, .int .i64 (q j).e.off, .int .i64 (q j).e.len])] [(22, (fun v W => ∃ bb, v = .slice (some ⟨bb, 0, none⟩) 1 1 ∧ Row 4 (exE (q j)) W (some ⟨bb, 0, none⟩) 1 : Value → World → Prop))] 2 (by kernel_rfl) (by kernel_rfl) (by kernel_rfl) ((Below.refl _ _).drew) (fun U V h hb => h.trans (hb.mono h.size)) ?_ ?_ ?_
    · intro p hp
      simp only [List.mem_cons, List.not_mem_nil, or_false] at hp
      subst hp
      exact fun v U V h hb => by obtain ⟨bb, e, hr⟩ := h; exact ⟨bb, e, hr.later hb⟩
    · refine ⟨⟨_, rfl, fun ν U hU hp => ?_⟩, ?_⟩
      · simp only [putsν, Act.put, List.setIfInBounds_toArray, List.set_cons_zero, List.set_cons_succ]
        exact Yld.value (v0) U (by kernel_rfl) (by go_simp) ⟨Below.refl _ _, Fx.fixed rfl rfl⟩
      refine ⟨⟨_, rfl, fun ν U hU hp => ?_⟩, ?_⟩
      · simp only [putsν, Act.put, List.setIfInBounds_toArray, List.set_cons_zero, List.set_cons_succ]
        exact Yld.value (.slice (some ad) n c) U (by kernel_rfl) (by go_simp) ⟨Below.refl _ _, Fx.fixed rfl rfl⟩
      refine ⟨⟨_, rfl, fun ν U hU hp => ?_⟩, ?_⟩
      · simp only [putsν, Act.put, List.setIfInBounds_toArray, List.set_cons_zero, List.set_cons_succ]
        exact Yld.value (.int .i64 (j : Int)) U (by kernel_rfl) (by go_simp) ⟨Below.refl _ _, Fx.fixed rfl rfl⟩
      refine ⟨⟨_, rfl, fun ν U hU hp => ?_⟩, ?_⟩
      · simp only [putsν, Act.put, List.setIfInBounds_toArray, List.set_cons_zero, List.set_cons_succ]
        have e1 := (hp 1 (by kernel_rfl) (by kernel_rfl)).val _ rfl
        have e2 := (hp 2 (by kernel_rfl) (by kernel_rfl)).val _ rfl
        simp only [e1, e2]
        exact Yld.value (.pointer (some (ad.add (j * 4)))) U (by kernel_rfl) (by go_simp) ⟨Below.refl _ _, Fx.fixed rfl rfl⟩
      refine ⟨⟨_, rfl, fun ν U hU hp => ?_⟩, ?_⟩
      · simp only [putsν, Act.put, List.setIfInBounds_toArray, List.set_cons_zero, List.set_cons_succ]
        have e3 := (hp 3 (by kernel_rfl) (by kernel_rfl)).val _ rfl
        simp only [e3]
        exact Yld.value (.pointer (some (ad.add (j * 4)))) U (by kernel_rfl) (by go_simp) ⟨Below.refl _ _, Fx.fixed rfl rfl⟩
      refine ⟨⟨_, rfl, fun ν U hU hp => ?_⟩, ?_⟩
      · simp only [putsν, Act.put, List.setIfInBounds_toArray, List.set_cons_zero, List.set_cons_succ]
        have e4 := (hp 4 (by kernel_rfl) (by kernel_rfl)).val _ rfl
        simp only [e4]
        exact Yld.value (.slice (q j).A (q j).e.l.length (q j).c) U (by kernel_rfl) (by have h0 := keep_at2 HX0.out hU; go_simp) ⟨Below.refl _ _, Fx.fixed rfl rfl⟩
      refine ⟨⟨_, rfl, fun ν U hU hp => ?_⟩, ?_⟩
      · simp only [putsν, Act.put, List.setIfInBounds_toArray, List.set_cons_zero, List.set_cons_succ]
        exact Yld.value (.slice (some ad) n c) U (by kernel_rfl) (by go_simp) ⟨Below.refl _ _, Fx.fixed rfl rfl⟩
      refine ⟨⟨_, rfl, fun ν U hU hp => ?_⟩, ?_⟩
      · simp only [putsν, Act.put, List.setIfInBounds_toArray, List.set_cons_zero, List.set_cons_succ]
        exact Yld.value (.int .i64 (j : Int)) U (by kernel_rfl) (by go_simp) ⟨Below.refl _ _, Fx.fixed rfl rfl⟩
      refine ⟨⟨_, rfl, fun ν U hU hp => ?_⟩, ?_⟩
      · simp only [putsν, Act.put, List.setIfInBounds_toArray, List.set_cons_zero, List.set_cons_succ]
        have e6 := (hp 6 (by kernel_rfl) (by kernel_rfl)).val _ rfl
        have e7 := (hp 7 (by kernel_rfl) (by kernel_rfl)).val _ rfl
        simp only [e6, e7]
        exact Yld.value (.pointer (some (ad.add (j * 4)))) U (by kernel_rfl) (by go_simp) ⟨Below.refl _ _, Fx.fixed rfl rfl⟩
      refine ⟨⟨_, rfl, fun ν U hU hp => ?_⟩, ?_⟩
      · simp only [putsν, Act.put, List.setIfInBounds_toArray, List.set_cons_zero, List.set_cons_succ]
        have e8 := (hp 8 (by kernel_rfl) (by kernel_rfl)).val _ rfl
        simp only [e8]
        exact Yld.value (.pointer (some ⟨(ad.add (j * 4)).block, (ad.add (j * 4)).off + 1, none⟩)) U (by kernel_rfl) (by go_simp) ⟨Below.refl _ _, Fx.fixed rfl rfl⟩
      refine ⟨⟨_, rfl, fun ν U hU hp => ?_⟩, ?_⟩
      · simp only [putsν, Act.put, List.setIfInBounds_toArray, List.set_cons_zero, List.set_cons_succ]
        have e9 := (hp 9 (by kernel_rfl) (by kernel_rfl)).val _ rfl
        simp only [e9]
        exact Yld.value (.int .i64 (q j).e.last) U (by kernel_rfl) (by have h0 := keep_at2 HX1.out hU; go_simp) ⟨Below.refl _ _, Fx.fixed rfl rfl⟩
      refine ⟨⟨_, rfl, fun ν U hU hp => ?_⟩, ?_⟩
      · simp only [putsν, Act.put, List.setIfInBounds_toArray, List.set_cons_zero, List.set_cons_succ]
        exact Yld.value (.slice (some ad) n c) U (by kernel_rfl) (by go_simp) ⟨Below.refl _ _, Fx.fixed rfl rfl⟩
      refine ⟨⟨_, rfl, fun ν U hU hp => ?_⟩, ?_⟩
      · simp only [putsν, Act.put, List.setIfInBounds_toArray, List.set_cons_zero, List.set_cons_succ]
        exact Yld.value (.int .i64 (j : Int)) U (by kernel_rfl) (by go_simp) ⟨Below.refl _ _, Fx.fixed rfl rfl⟩
      refine ⟨⟨_, rfl, fun ν U hU hp => ?_⟩, ?_⟩
      · simp only [putsν, Act.put, List.setIfInBounds_toArray, List.set_cons_zero, List.set_cons_succ]
        have e11 := (hp 11 (by kernel_rfl) (by kernel_rfl)).val _ rfl
        have e12 := (hp 12 (by kernel_rfl) (by kernel_rfl)).val _ rfl
        simp only [e11, e12]
        exact Yld.value (.pointer (some (ad.add (j * 4)))) U (by kernel_rfl) (by go_simp) ⟨Below.refl _ _, Fx.fixed rfl rfl⟩
      refine ⟨⟨_, rfl, fun ν U hU hp => ?_⟩, ?_⟩
      · simp only [putsν, Act.put, List.setIfInBounds_toArray, List.set_cons_zero, List.set_cons_succ]
        have e13 := (hp 13 (by kernel_rfl) (by kernel_rfl)).val _ rfl
        simp only [e13]
        exact Yld.value (.pointer (some ⟨(ad.add (j * 4)).block, (ad.add (j * 4)).off + 2, none⟩)) U (by kernel_rfl) (by go_simp) ⟨Below.refl _ _, Fx.fixed rfl rfl⟩
      refine ⟨⟨_, rfl, fun ν U hU hp => ?_⟩, ?_⟩
      · simp only [putsν, Act.put, List.setIfInBounds_toArray, List.set_cons_zero, List.set_cons_succ]
        have e14 := (hp 14 (by kernel_rfl) (by kernel_rfl)).val _ rfl
        simp only [e14]
        exact Yld.value (.int .i64 (q j).e.off) U (by kernel_rfl) (by have h0 := keep_at2 HX2.out hU; go_simp) ⟨Below.refl _ _, Fx.fixed rfl rfl⟩
      refine ⟨⟨_, rfl, fun ν U hU hp => ?_⟩, ?_⟩
      · simp only [putsν, Act.put, List.setIfInBounds_toArray, List.set_cons_zero, List.set_cons_succ]
        exact Yld.value (.slice (some ad) n c) U (by kernel_rfl) (by go_simp) ⟨Below.refl _ _, Fx.fixed rfl rfl⟩
      refine ⟨⟨_, rfl, fun ν U hU hp => ?_⟩, ?_⟩
      · simp only [putsν, Act.put, List.setIfInBounds_toArray, List.set_cons_zero, List.set_cons_succ]
        exact Yld.value (.int .i64 (j : Int)) U (by kernel_rfl) (by go_simp) ⟨Below.refl _ _, Fx.fixed rfl rfl⟩
      refine ⟨⟨_, rfl, fun ν U hU hp => ?_⟩, ?_⟩
      · simp only [putsν, Act.put, List.setIfInBounds_toArray, List.set_cons_zero, List.set_cons_succ]
        have e16 := (hp 16 (by kernel_rfl) (by kernel_rfl)).val _ rfl
        have e17 := (hp 17 (by kernel_rfl) (by kernel_rfl)).val _ rfl
        simp only [e16, e17]
        exact Yld.value (.pointer (some (ad.add (j * 4)))) U (by kernel_rfl) (by go_simp) ⟨Below.refl _ _, Fx.fixed rfl rfl⟩
      refine ⟨⟨_, rfl, fun ν U hU hp => ?_⟩, ?_⟩
      · simp only [putsν, Act.put, List.setIfInBounds_toArray, List.set_cons_zero, List.set_cons_succ]
        have e18 := (hp 18 (by kernel_rfl) (by kernel_rfl)).val _ rfl
        simp only [e18]
        exact Yld.value (.pointer (some ⟨(ad.add (j * 4)).block, (ad.add (j * 4)).off + 3, none⟩)) U (by kernel_rfl) (by go_simp) ⟨Below.refl _ _, Fx.fixed rfl rfl⟩
      refine ⟨⟨_, rfl, fun ν U hU hp => ?_⟩, ?_⟩
      · simp only [putsν, Act.put, List.setIfInBounds_toArray, List.set_cons_zero, List.set_cons_succ]
        have e19 := (hp 19 (by kernel_rfl) (by kernel_rfl)).val _ rfl
        simp only [e19]
        exact Yld.value (.int .i64 (q j).e.len) U (by kernel_rfl) (by have h0 := keep_at2 HX3.out hU; go_simp) ⟨Below.refl _ _, Fx.fixed rfl rfl⟩
      refine ⟨⟨_, rfl, fun ν U hU hp => ?_⟩, ?_⟩
      · simp only [putsν, Act.put, List.setIfInBounds_toArray, List.set_cons_zero, List.set_cons_succ]
        have e5 := (hp 5 (by kernel_rfl) (by kernel_rfl)).val _ rfl
        have e10 := (hp 10 (by kernel_rfl) (by kernel_rfl)).val _ rfl
        have e15 := (hp 15 (by kernel_rfl) (by kernel_rfl)).val _ rfl
        have e20 := (hp 20 (by kernel_rfl) (by kernel_rfl)).val _ rfl
        simp only [e5, e10, e15, e20]
        exact Yld.value (.agg #[.slice (q j).A (q j).e.l.length (q j).c, .int .i64 (q j).e.last, .int .i64 (q j).e.off, .int .i64 (q j).e.len]) U (by kernel_rfl) (by go_simp) ⟨Below.refl _ _, Fx.fixed rfl rfl⟩
      refine ⟨⟨_, rfl, fun ν U hU hp => ?_⟩, ?_⟩
      · simp only [putsν, Act.put, List.setIfInBounds_toArray, List.set_cons_zero, List.set_cons_succ]
        have e21 := (hp 21 (by kernel_rfl) (by kernel_rfl)).val _ rfl
        simp only [e21]
        exact Yld.value (.slice (some ⟨U.heap.size, 0, none⟩) 1 1) (U.alloc (.cells (entC (q j)) 77)) (by kernel_rfl) (by unfold entC; go_simp) ⟨(Below.refl _ _).alloc (Nat.le_refl _) _, Fx.some_ rfl rfl ⟨_, rfl, exE_row U (q j) 77⟩⟩
      trivial
    intro ν w5 hS5 hf
    have e0 := (hf 0 (by kernel_rfl)).val _ rfl
    have e1 := (hf 1 (by kernel_rfl)).val _ rfl
    have e2 := (hf 2 (by kernel_rfl)).val _ rfl
    have e3 := (hf 3 (by kernel_rfl)).val _ rfl
    have e4 := (hf 4 (by kernel_rfl)).val _ rfl
    have e5 := (hf 5 (by kernel_rfl)).val _ rfl
    have e6 := (hf 6 (by kernel_rfl)).val _ rfl
    have e7 := (hf 7 (by kernel_rfl)).val _ rfl
    have e8 := (hf 8 (by kernel_rfl)).val _ rfl
    have e9 := (hf 9 (by kernel_rfl)).val _ rfl
    have e10 := (hf 10 (by kernel_rfl)).val _ rfl
    have e11 := (hf 11 (by kernel_rfl)).val _ rfl
    have e12 := (hf 12 (by kernel_rfl)).val _ rfl
    have e13 := (hf 13 (by kernel_rfl)).val _ rfl
    have e14 := (hf 14 (by kernel_rfl)).val _ rfl
    have e15 := (hf 15 (by kernel_rfl)).val _ rfl
    have e16 := (hf 16 (by kernel_rfl)).val _ rfl
    have e17 := (hf 17 (by kernel_rfl)).val _ rfl
    have e18 := (hf 18 (by kernel_rfl)).val _ rfl
    have e19 := (hf 19 (by kernel_rfl)).val _ rfl
    have e20 := (hf 20 (by kernel_rfl)).val _ rfl
    have e21 := (hf 21 (by kernel_rfl)).val _ rfl
    have c22 := (hf 22 (by kernel_rfl)).is _ rfl
    simp only [putsν, Act.put, List.setIfInBounds_toArray, List.set_cons_zero, List.set_cons_succ, e0, e1, e2, e3, e4, e5, e6, e7, e8, e9, e10, e11, e12, e13, e14, e15, e16, e17, e18, e19, e20, e21]
    clear hf e0 e1 e2 e3 e4 e5 e6 e7 e8 e9 e10 e11 e12 e13 e14 e15 e16 e17 e18 e19 e20 e21
    obtain ⟨bb, hv, hR5⟩ := c22
    simp only [hv]
    clear hv
    refine wpAnyT_one (i := 23) (by kernel_rfl) rfl (by kernel_rfl) ?_
    intro K0 hK
    have hsz : w.heap.size ≤ w5.heap.size := Nat.le_trans HBL.out.size hS5.size
    refine wp_append_row _ _ _ 29 77 rfl 4 48 (.agg #[.slice none 0 0, .int .i64 0, .int .i64 0, .int .i64 0]) Tryz.underlying29 infoRE rfl (by decide) (by decide) w.heap.size v0 j (rcells 4 (ex q) j) rfl (row_far HO.out hS5) ⟨bb, 0, none⟩ 1 1 (exE (q j)) (exE_one _) rfl hR5 (by omega) hsz ?_
    intro v8 w8 hown8 hg8 _
    have HO8 := Lib.hid (show w8.ownsRow w.heap.size 77 4 v8 (j + 1) (rcells 4 (ex q) (j + 1)) by rw [rcells_succ 4 (ex q) j]; exact hown8)
    have HB8 := Lib.hid ((below_step HBL.out hS5).grown hg8 hsz (fun r e => (HO.out.lt r e).1))
    clear hown8 hg8 hR5 hS5
    refine hK _ _ (fun _ => trivial) ?_
    clear hK K0
    refine wpAnyT_one (i := 24) (by kernel_rfl) rfl (by kernel_rfl) ?_
    intro K0 hK
    unfold Oper.wp
    go_simp
    refine hK _ _ (fun _ => trivial) ?_
    clear hK K0
    refine wpAnyT_done (by kernel_rfl) ?_ _
    refine only_mk ?_
    go_wp2_with fail
    go_roundw
    case rel => exact ⟨j + 1, hjn, rfl, HO8.out, HB8.out⟩
    case measure => exact meas_lt0 hjn
  · obtain rfl : j = n := Nat.le_antisymm hj (Nat.le_of_not_lt hjn)
    have d1 : decide ((j : Int) < (j : Int)) = false := decide_eq_false (Int.lt_irrefl _)
    obtain ⟨B, d, rfl, -, -, -, hr⟩ := own_row HO.out
    have HR := Lib.hid hr
    clear hr
    go_wp2_with fail
    go_ret
    exact ⟨B, d, rfl, ⟨HR.out, fun i hi => (HA.out.each i hi).later HBL.out, hn⟩, HBL.out⟩
theorem text_ne {a b : ByteArray} (h : a ≠ b) : (a.toList == b.toList) = false := by rw [str_beq]; exact decide_eq_false h
end Go.Proofs.YtliobahnekohmaaGreat
/-
  The document's symbols: one text more, in order.
-/
namespace Go.Proofs.YtliobahnekohmaaGreat
open Go.RowKit
namespace Ix
theorem ins_at (s : ByteArray) : ∀ (K : List ByteArray) (k : Nat), k ≤ K.length → (∀ i, i < k → La.less (K.getD i ByteArray.empty) s = true) → (k = K.length ∨ La.less (K.getD k ByteArray.empty) s = false) →
 ins s K = if k < K.length ∧ K.getD k ByteArray.empty = s then K else K.take k ++ s :: K.drop k
 | [], k, hk, _, _ => by
  obtain rfl : k = 0 := by simpa using hk
  rfl
 | y :: K, 0, _, _, h => by
  have hl : La.less y s = false := by
   rcases h with h | h
   · simp at h
   · exact h
  unfold ins
  rw [if_neg (by rw [hl]; decide)]
  by_cases e : y = s
  · rw [if_pos e, if_pos ⟨by simp, e⟩]
  · rw [if_neg e, if_neg (fun h => e h.2)]; rfl
 | y :: K, k + 1, hk, h1, h2 => by
  have hy : La.less y s = true := h1 0 (by omega)
  have ih := ins_at s K k (by simpa using hk) (fun i hi => h1 (i + 1) (by omega)) (by
   rcases h2 with h | h
   · left; simpa using h
   · right; exact h)
  unfold ins
  rw [if_pos hy, ih]
  by_cases e : k < K.length ∧ K.getD k ByteArray.empty = s
  · rw [if_pos e, if_pos ⟨by simpa using e.1, e.2⟩]
  · rw [if_neg e, if_neg (fun h => e ⟨by simpa using h.1, h.2⟩)]; rfl
end Ix
structure TSl (w : World) (A : Option Addr) (c : Nat) (K : List ByteArray) : Prop where
 le : K.length ≤ c
 max : c ≤ maxLen
 nil : A = none → K.length = 0 ∧ c = 0
 row : Row 1 (kx K) w A K.length
theorem TSl.later {w U : World} {A : Option Addr} {c : Nat} {K : List ByteArray} (h : TSl w A c K) (hb : Below w.heap.size w U) : TSl U A c K := ⟨h.le, h.max, h.nil, h.row.later hb⟩
theorem kx_cells1 (K : List ByteArray) : rcells 1 (kx K) K.length = K.map .string := by
 have h1 : ∀ (x : Nat → Nat → Value) (n : Nat), rcells 1 x n = (List.range n).map fun i => x i 0 := by
  intro x n
  induction n with
  | zero => rfl
  | succ n ih => rw [rcells_succ, ih, show List.range (n + 1) = List.range n ++ [n] from List.range_succ, List.map_append]; rfl
 rw [h1]
 apply List.ext_getElem
 · simp
 · intro i h3 h4
   have h5 : i < K.length := by simpa using h3
   simp [kx, List.getD, h5]
theorem tsl_own {w : World} {base : Nat} {v : Value} {K : List ByteArray} (h : w.ownsRow base 9 1 v K.length (K.map .string)) : ∃ A c, v = .slice A K.length c ∧ TSl w A c K := by
 rw [← kx_cells1] at h
 obtain ⟨A, c, e, h1, h2, h3, h4⟩ := own_row h
 exact ⟨A, c, e, h1, h2, h3, h4⟩
theorem row_take {w : World} {ad : Addr} {K : List ByteArray} (h : Row 1 (kx K) w (some ad) K.length) {k : Nat} (hk : k ≤ K.length) : Row 1 (kx (K.take k)) w (some ad) (K.take k).length := fun h0 => by
 rw [List.length_take] at h0
 obtain ⟨ad2, e, hl, hc⟩ := h (by omega)
 cases e
 refine ⟨ad, rfl, hl, fun i hi j hj => ?_⟩
 rw [List.length_take] at hi
 have e2 : kx (K.take k) i j = kx K i j := by unfold kx; rw [List.getD_eq_getElem?_getD, List.getD_eq_getElem?_getD, List.getElem?_take_of_lt (by omega)]
 rw [e2]
 exact hc i (by omega) j hj
theorem row_take2 {w : World} {ad : Addr} {K : List ByteArray} (h : Row 1 (kx K) w (some ad) K.length) {k : Nat} (hk : k ≤ K.length) : Row 1 (kx (K.take k)) w (some ad) k := by
 have h1 := row_take h hk
 rw [List.length_take, Nat.min_eq_left hk] at h1
 exact h1
theorem cells_take {K : List ByteArray} {k : Nat} (hk : k ≤ K.length) : [] ++ rcells 1 (kx (K.take k)) k = (K.take k).map .string := by
 have h1 := kx_cells1 (K.take k)
 rw [List.length_take, Nat.min_eq_left hk] at h1
 rw [List.nil_append]; exact h1
theorem row_drop {w : World} {ad : Addr} {K : List ByteArray} (h : Row 1 (kx K) w (some ad) K.length) {k : Nat} : Row 1 (kx (K.drop k)) w (some (ad.add k)) (K.drop k).length := fun h0 => by
 rw [List.length_drop] at h0
 obtain ⟨ad2, e, hl, hc⟩ := h (by omega)
 cases e
 refine ⟨ad.add k, rfl, by rw [addr_block]; exact hl, fun i hi j hj => ?_⟩
 rw [List.length_drop] at hi
 have e2 : kx (K.drop k) i j = kx K (k + i) j := by unfold kx; rw [List.getD_eq_getElem?_getD, List.getD_eq_getElem?_getD, List.getElem?_drop]
 rw [e2, Go.Deep.add_add]
 have := hc (k + i) (by omega) j hj
 rw [show k + (i * 1 + j) = (k + i) * 1 + j by omega]
 exact this
theorem ins_own {w : World} {base k : Nat} {v : Value} {K : List ByteArray} {s : ByteArray} (hk : k ≤ K.length) (h : w.ownsRow base 9 1 v (k + 1 + (K.length - k)) (((K.take k).map .string ++ rcells 1 (tx1 s) 1) ++ rcells 1 (kx (K.drop k)) (K.length - k))) : w.ownsRow base 9 1 v (K.take k ++ s :: K.drop k).length ((K.take k ++ s :: K.drop k).map .string) := by
 have e1 := kx_cells1 (K.drop k)
 rw [List.length_drop] at e1
 rw [e1] at h
 have e2 : (K.take k ++ s :: K.drop k).length = k + 1 + (K.length - k) := by
  rw [List.length_append, List.length_take, List.length_cons, List.length_drop, Nat.min_eq_left hk]; omega
 have e3 : (K.take k ++ s :: K.drop k).map Value.string = ((K.take k).map .string ++ rcells 1 (tx1 s) 1) ++ (K.drop k).map .string := by
  rw [List.map_append, List.map_cons, List.append_assoc]; rfl
 rw [e2, e3]; exact h
set_option maxRecDepth 100000 in
set_option maxHeartbeats 8000000 in
theorem rwith_any (A : Option Addr) (c : Nat) (K : List ByteArray) (s : ByteArray) (w : World) (hA : TSl w A c K) (hK : K.length ≤ 100000) (hz : ∀ i, i < K.length → (K.getD i ByteArray.empty).size ≤ maxLen) (hs : s.size ≤ maxLen) :
 Calls Tryz.prog 53 #[.slice A K.length c, .string s] w fun e w' => ∃ B d, e = .returned (.slice B (Ix.ins s K).length d) ∧ TSl w' B d (Ix.ins s K) ∧ Below w.heap.size w w' := by
 have HA := Lib.hid hA
 have HIN := Lib.hid (Ix.ins_at s K)
 have HZ := Lib.hid hz
 clear hA hz
 go_enter Tryz.func53, Tryz.ntmps53
 go_wp2_with fail
 go_loopw [5] (fun i wr => ∃ k : Nat, k ≤ K.length ∧ i = .int .i64 k ∧ (∀ j, j < k → La.less (K.getD j ByteArray.empty) s = true) ∧ Below w.heap.size w wr) (fun i _ => K.length - (intOf i).toNat)
 case atStart => exact ⟨0, Nat.zero_le _, rfl, (fun j hj => absurd hj (Nat.not_lt_zero j)), Below.refl _ _⟩
 case round =>
  obtain ⟨k, hk, rfl, hall, hbl⟩ := hrel
  have HALL := Lib.hid hall; have HBL := Lib.hid hbl
  clear hall hbl
  have i0 : (0 : Int) ≤ (k : Int) := Int.natCast_nonneg _
  by_cases hkl : k < K.length
  · have d1 : decide ((k : Int) < (K.length : Int)) = true := decide_eq_true (Int.ofNat_lt.2 hkl)
    have i1 : (k : Int) < (K.length : Int) := Int.ofNat_lt.2 hkl
    obtain ⟨ad, rfl, c0, -⟩ := HA.out.row.at_ HBL.out hkl
    have x0 : wr.cell? (ad.add k) = some (.string (K.getD k ByteArray.empty)) := by have := c0 (by decide); rw [Nat.mul_one] at this; exact this
    clear c0
    have HAH := Lib.hid (rAhead_any (K.getD k ByteArray.empty) s (HZ.out k hkl) hs wr)
    have HI3 := Lib.hid (fun h1 h2 => HIN.out k hk h1 h2)
    have HN3 := Lib.hid (fun (j : Nat) (hj : j < k + 1) (h : ¬ j < k) => show K.getD j ByteArray.empty = K.getD k ByteArray.empty by rw [show j = k by omega])
    generalize K.getD k ByteArray.empty = sk at *
    go_wp2_with fail
    refine HAH.out.mono ?_; rintro e w1 ⟨rfl, hb1⟩
    have HB1 := Lib.hid (below_step HBL.out hb1)
    have y0 := keep_at2 x0 hb1
    clear hb1 HAH x0
    rcases hl : La.less sk s with _ | _
    · have HI := HI3.out HALL.out (Or.inr hl)
      by_cases he : sk = s
      · rw [if_pos ⟨hkl, he⟩] at HI
        have HI2 := Lib.hid HI
        have b0 : (sk.toList == s.toList) = true := by rw [he]; exact beq_self_eq_true _
        clear HI he hl HI3 HN3
        go_wp2_with fail
        go_ret
        rw [HI2.out]
        exact ⟨_, _, rfl, HA.out.later HB1.out, HB1.out⟩
      · rw [if_neg (fun h => he h.2)] at HI
        have HI2 := Lib.hid HI
        have b0 := text_ne he
        clear HI he hl HI3 HN3
        go_upto_region 7 with fail
        have hkc : k ≤ c := Nat.le_trans hk HA.out.le
        have s0 : (k : Int) ≤ (c : Int) := Int.ofNat_le.2 hkc
        have HR1 := Lib.hid (row_take2 (HA.out.later HB1.out).row hk)
        have hsz : w.heap.size ≤ (w1).heap.size := HB1.out.size
        have hk1 : 0 + k ≤ 1000000 := by omega
        go_upto_region 8 with (at_builtin; go_must (refine wpList_append_row _ rfl _ _ 40 9 rfl 1 16 (.string ByteArray.empty) Tryz.underlying40 infoT rfl (by decide) (by decide) w.heap.size _ 0 [] rfl (World.ownsRow_nil _ _ _ _) ad k c (kx (K.take k)) (fun _ _ => rfl) rfl HR1.out hk1 hsz ?_); intro v7 w7 hown7 hg7; have HO7 := Lib.hid (show w7.ownsRow w.heap.size 9 1 v7 k ((K.take k).map .string) by rw [cells_take hk] at hown7; rw [Nat.zero_add] at hown7; exact hown7); have HB7 := Lib.hid (HB1.out.grown hg7 hsz (fun r e => by cases e)); clear hown7 hg7)
        clear HR1 hsz hk1
        have hsz7 : w.heap.size ≤ w7.heap.size := HB7.out.size
        have hk2 : k + 1 ≤ 1000000 := by omega
        go_upto_region 9 with (at_builtin; go_must (refine wpList_append_row _ rfl _ _ 40 9 rfl 1 16 (.string ByteArray.empty) Tryz.underlying40 infoT rfl (by decide) (by decide) w.heap.size _ k ((K.take k).map .string) rfl (row_far HO7.out ((Below.refl _ _).alloc (Nat.le_refl _) _)) ⟨w7.heap.size, 0, none⟩ 1 1 (tx1 s) (tx1_one s) rfl (tx1_row w7 s 9) hk2 (by simp; omega) ?_); intro v8 w8 hown8 hg8; have HO8 := Lib.hid hown8; have HB8 := Lib.hid ((HB7.out.alloc hsz7 _).grown hg8 (by simp; omega) (fun r e => (HO7.out.lt r e).1)); clear hown8 hg8)
        clear HO7 HB7 hsz7 hk2
        obtain ⟨A8, c8, hv8⟩ := own_formk HO8.out
        subst hv8
        have hd0 : (k : Int) ≤ (K.length : Int) := Int.ofNat_le.2 hk
        have hsz8 : w.heap.size ≤ w8.heap.size := HB8.out.size
        have hk3 : k + 1 + (K.length - k) ≤ 1000000 := by omega
        by_cases hck : c = k
        · have hlk : K.length - k = 0 := by have := HA.out.le; omega
          have HRD : Hid (Row 1 (kx (K.drop k)) w8 (some ad) (K.length - k)) := Lib.hid (fun h0 => absurd h0 (by omega))
          have HCK := Lib.hid hck
          clear hlk
          go_wp2_with (at_builtin; go_must (refine wpList_append_row _ rfl _ _ 40 9 rfl 1 16 (.string ByteArray.empty) Tryz.underlying40 infoT rfl (by decide) (by decide) w.heap.size _ (k + 1) ((K.take k).map Value.string ++ rcells 1 (tx1 s) 1) rfl HO8.out ad (K.length - k) 0 (kx (K.drop k)) (fun _ _ => rfl) rfl HRD.out hk3 hsz8 ?_); intro v9 w9 hown9 hg9; have HO9 := Lib.hid (ins_own hk hown9); have HB9 := Lib.hid (HB8.out.grown hg9 hsz8 (fun r e => (HO8.out.lt r e).1)); clear hown9 hg9)
          go_ret
          obtain ⟨B9, d9, e9, ht9⟩ := tsl_own HO9.out
          rw [HI2.out]
          exact ⟨B9, d9, by rw [← e9]; rfl, ht9, HB9.out⟩
        · have HRD : Hid (Row 1 (kx (K.drop k)) w8 (some (ad.add k)) (K.length - k)) := Lib.hid (by have h := row_drop (k := k) (HA.out.later HB8.out).row; rw [List.length_drop] at h; exact h)
          go_wp2_with (at_builtin; go_must (refine wpList_append_row _ rfl _ _ 40 9 rfl 1 16 (.string ByteArray.empty) Tryz.underlying40 infoT rfl (by decide) (by decide) w.heap.size _ (k + 1) ((K.take k).map Value.string ++ rcells 1 (tx1 s) 1) rfl HO8.out (ad.add k) (K.length - k) (c - k) (kx (K.drop k)) (fun _ _ => rfl) rfl HRD.out hk3 hsz8 ?_); intro v9 w9 hown9 hg9; have HO9 := Lib.hid (ins_own hk hown9); have HB9 := Lib.hid (HB8.out.grown hg9 hsz8 (fun r e => (HO8.out.lt r e).1)); clear hown9 hg9)
          go_ret
          obtain ⟨B9, d9, e9, ht9⟩ := tsl_own HO9.out
          rw [HI2.out]
          exact ⟨B9, d9, by rw [← e9]; rfl, ht9, HB9.out⟩
    · have HNX : Hid (∀ j, j < k + 1 → La.less (K.getD j ByteArray.empty) s = true) := Lib.hid (fun j hj => by
       rcases Nat.lt_or_ge j k with h | h
       · exact HALL.out j h
       · rw [HN3.out j hj (by omega)]; exact hl)
      clear hl HI3 HN3
      go_wp2_with fail
      go_roundw
      case rel => exact ⟨k + 1, hkl, rfl, HNX.out, HB1.out⟩
      case measure => exact meas_lt0 hkl
  · have hke : k = K.length := Nat.le_antisymm hk (Nat.le_of_not_lt hkl)
    have d1 : decide ((k : Int) < (K.length : Int)) = false := decide_eq_false (fun h => hkl (Int.ofNat_lt.1 h))
    have d1n : decide (k < K.length) = false := decide_eq_false hkl
    have HI := HIN.out k hk HALL.out (Or.inl hke)
    rw [if_neg (fun h => hkl h.1)] at HI
    have HI2 := Lib.hid HI
    have HKE := Lib.hid hke
    clear HI hke hkl
    cases A with
    | some ad =>
     go_upto_region 7 with fail
     have hkc : k ≤ c := Nat.le_trans hk HA.out.le
     have s0 : (k : Int) ≤ (c : Int) := Int.ofNat_le.2 hkc
     have HR1 := Lib.hid (row_take2 (HA.out.later HBL.out).row hk)
     have hsz : w.heap.size ≤ (wr).heap.size := HBL.out.size
     have hk1 : 0 + k ≤ 1000000 := by omega
     go_upto_region 8 with (at_builtin; go_must (refine wpList_append_row _ rfl _ _ 40 9 rfl 1 16 (.string ByteArray.empty) Tryz.underlying40 infoT rfl (by decide) (by decide) w.heap.size _ 0 [] rfl (World.ownsRow_nil _ _ _ _) ad k c (kx (K.take k)) (fun _ _ => rfl) rfl HR1.out hk1 hsz ?_); intro v7 w7 hown7 hg7; have HO7 := Lib.hid (show w7.ownsRow w.heap.size 9 1 v7 k ((K.take k).map .string) by rw [cells_take hk] at hown7; rw [Nat.zero_add] at hown7; exact hown7); have HB7 := Lib.hid (HBL.out.grown hg7 hsz (fun r e => by cases e)); clear hown7 hg7)
     clear HR1 hsz hk1
     have hsz7 : w.heap.size ≤ w7.heap.size := HB7.out.size
     have hk2 : k + 1 ≤ 1000000 := by omega
     go_upto_region 9 with (at_builtin; go_must (refine wpList_append_row _ rfl _ _ 40 9 rfl 1 16 (.string ByteArray.empty) Tryz.underlying40 infoT rfl (by decide) (by decide) w.heap.size _ k ((K.take k).map .string) rfl (row_far HO7.out ((Below.refl _ _).alloc (Nat.le_refl _) _)) ⟨w7.heap.size, 0, none⟩ 1 1 (tx1 s) (tx1_one s) rfl (tx1_row w7 s 9) hk2 (by simp; omega) ?_); intro v8 w8 hown8 hg8; have HO8 := Lib.hid hown8; have HB8 := Lib.hid ((HB7.out.alloc hsz7 _).grown hg8 (by simp; omega) (fun r e => (HO7.out.lt r e).1)); clear hown8 hg8)
     clear HO7 HB7 hsz7 hk2
     obtain ⟨A8, c8, hv8⟩ := own_formk HO8.out
     subst hv8
     have hd0 : (k : Int) ≤ (K.length : Int) := Int.ofNat_le.2 hk
     have hsz8 : w.heap.size ≤ w8.heap.size := HB8.out.size
     have hk3 : k + 1 + (K.length - k) ≤ 1000000 := by omega
     by_cases hck : c = k
     · have hlk : K.length - k = 0 := by have := HA.out.le; omega
       have HRD : Hid (Row 1 (kx (K.drop k)) w8 (some ad) (K.length - k)) := Lib.hid (fun h0 => absurd h0 (by omega))
       have HCK := Lib.hid hck
       clear hlk
       go_wp2_with (at_builtin; go_must (refine wpList_append_row _ rfl _ _ 40 9 rfl 1 16 (.string ByteArray.empty) Tryz.underlying40 infoT rfl (by decide) (by decide) w.heap.size _ (k + 1) ((K.take k).map Value.string ++ rcells 1 (tx1 s) 1) rfl HO8.out ad (K.length - k) 0 (kx (K.drop k)) (fun _ _ => rfl) rfl HRD.out hk3 hsz8 ?_); intro v9 w9 hown9 hg9; have HO9 := Lib.hid (ins_own hk hown9); have HB9 := Lib.hid (HB8.out.grown hg9 hsz8 (fun r e => (HO8.out.lt r e).1)); clear hown9 hg9)
       go_ret
       obtain ⟨B9, d9, e9, ht9⟩ := tsl_own HO9.out
       rw [HI2.out]
       exact ⟨B9, d9, by rw [← e9]; rfl, ht9, HB9.out⟩
     · have HRD : Hid (Row 1 (kx (K.drop k)) w8 (some (ad.add k)) (K.length - k)) := Lib.hid (by have h := row_drop (k := k) (HA.out.later HB8.out).row; rw [List.length_drop] at h; exact h)
       go_wp2_with (at_builtin; go_must (refine wpList_append_row _ rfl _ _ 40 9 rfl 1 16 (.string ByteArray.empty) Tryz.underlying40 infoT rfl (by decide) (by decide) w.heap.size _ (k + 1) ((K.take k).map Value.string ++ rcells 1 (tx1 s) 1) rfl HO8.out (ad.add k) (K.length - k) (c - k) (kx (K.drop k)) (fun _ _ => rfl) rfl HRD.out hk3 hsz8 ?_); intro v9 w9 hown9 hg9; have HO9 := Lib.hid (ins_own hk hown9); have HB9 := Lib.hid (HB8.out.grown hg9 hsz8 (fun r e => (HO8.out.lt r e).1)); clear hown9 hg9)
       go_ret
       obtain ⟨B9, d9, e9, ht9⟩ := tsl_own HO9.out
       rw [HI2.out]
       exact ⟨B9, d9, by rw [← e9]; rfl, ht9, HB9.out⟩
    | none =>
     obtain ⟨h1, h2⟩ := HA.out.nil rfl
     obtain rfl : K = [] := List.eq_nil_of_length_eq_zero h1
     obtain rfl : k = 0 := HKE.out
     subst h2
     obtain ⟨ti, hi0, -, -, -⟩ := info_parts infoT
     have hsz : w.heap.size ≤ wr.heap.size := HBL.out.size
     have HI4 : Hid (Ix.ins s [] = [s]) := Lib.hid rfl
     clear HI2 HIN HZ HALL hk h1 HKE
     go_upto_region 8 with (at_builtin; go_must (refine wpList_append_own_none rfl _ _ 40 rfl w.heap.size 9 ti 1 Tryz.underlying40 hi0 _ 0 [] rfl (World.ownsRow_nil _ _ _ _) rfl ?_))
     go_upto_region 9 with (at_builtin; go_must (refine wpList_append_row _ rfl _ _ 40 9 rfl 1 16 (.string ByteArray.empty) Tryz.underlying40 infoT rfl (by decide) (by decide) w.heap.size _ 0 [] rfl (World.ownsRow_nil _ _ _ _) ⟨wr.heap.size, 0, none⟩ 1 1 (tx1 s) (tx1_one s) rfl (tx1_row wr s 9) (by omega) (by simp; omega) ?_); intro v8 w8 hown8 hg8; have HO8 := Lib.hid (show w8.ownsRow w.heap.size 9 1 v8 [s].length ([s].map .string) from hown8); have HB8 := Lib.hid ((HBL.out.alloc hsz _).grown hg8 (by simp; omega) (fun r e => by cases e)); clear hown8 hg8)
     obtain ⟨A8, c8, hv8, ht8⟩ := tsl_own HO8.out
     subst hv8
     have HT8 := Lib.hid ht8
     clear ht8
     go_wp2_with (at_builtin; go_must (refine wpList_append_own_none rfl _ _ 40 rfl w.heap.size 9 ti 1 Tryz.underlying40 hi0 _ 1 ([s].map .string) rfl HO8.out rfl ?_))
     go_ret
     rw [HI4.out]
     exact ⟨A8, c8, rfl, HT8.out, HB8.out⟩
end Go.Proofs.YtliobahnekohmaaGreat
/-
  The document's common and place: the walks.
-/
namespace Go.Proofs.YtliobahnekohmaaGreat
open Go.RowKit
set_option maxRecDepth 100000 in
set_option maxHeartbeats 4000000 in
theorem rcommon_any (a b : ByteArray) (ha : a.size ≤ 1000) (hb : b.size ≤ 1000) (w : World) :
 Calls Tryz.prog 75 #[.string a, .string b] w fun e w' => e = .returned (.int .i64 ((Ix.shared a b : Nat) : Int)) ∧ Below w.heap.size w w' := by
 have HEQ := Lib.hid (fun k h1 h2 => (Ix.shared_eq a b).trans (sh_list a.data.toList b.data.toList k h1 h2))
 generalize Ix.shared a b = R at *
 go_enter Tryz.func75, Tryz.ntmps75
 go_wp2_with fail
 go_loopw [5] (fun i wr => ∃ k : Nat, k ≤ a.size ∧ k ≤ b.size ∧ i = .int .i64 k ∧ (∀ i, i < k → ∃ x, a.data.toList[i]? = some x ∧ b.data.toList[i]? = some x) ∧ Below w.heap.size w wr) (fun i _ => a.size - (intOf i).toNat)
 case atStart => exact ⟨0, by omega, by omega, rfl, (fun i hi => absurd hi (Nat.not_lt_zero i)), Below.refl _ _⟩
 case round =>
  obtain ⟨k, hka, hkb, rfl, hall, hbl⟩ := hrel
  have HALL := Lib.hid hall; have HB := Lib.hid hbl
  clear hall hbl
  have i0 : (0 : Int) ≤ (k : Int) := by omega
  have la : a.data.toList.length = a.size := by simp
  have lb : b.data.toList.length = b.size := by simp
  by_cases h1 : k < a.size
  · have d1 : decide ((k : Int) < (a.size : Int)) = true := decide_eq_true (by omega)
    have d1n : decide (k < a.size) = true := decide_eq_true h1
    have i1 : (k : Int) < (a.size : Int) := by omega
    by_cases h2 : k < b.size
    · have d2 : decide ((k : Int) < (b.size : Int)) = true := decide_eq_true (by omega)
      have d2n : decide (k < b.size) = true := decide_eq_true h2
      have i2 : (k : Int) < (b.size : Int) := by omega
      have ea : a.data.toList[k]? = some a[k] := by rw [List.getElem?_eq_getElem (by omega)]; rfl
      have eb : b.data.toList[k]? = some b[k] := by rw [List.getElem?_eq_getElem (by omega)]; rfl
      by_cases he : a[k] = b[k]
      · have d3 : ((a[k].toNat : Int) == (b[k].toNat : Int)) = true := by rw [he]; simp
        have HN : Hid (∀ i, i < k + 1 → ∃ x, a.data.toList[i]? = some x ∧ b.data.toList[i]? = some x) := Lib.hid (fun i hi => by
         rcases Nat.lt_or_ge i k with h | h
         · exact HALL.out i h
         · obtain rfl : i = k := by omega
           exact ⟨a[i], ea, by rw [eb, he]⟩)
        clear he
        go_wp2_with fail
        go_quiet (fail)
        go_wp2_with fail
        go_roundw
        case rel => exact ⟨k + 1, by omega, by omega, by go_num, HN.out, below_drewN HB.out _⟩
        case measure => simp [intOf]; omega
      · have d3 : ((a[k].toNat : Int) == (b[k].toNat : Int)) = false := by
         rw [beq_eq_false_iff_ne]
         intro h
         exact he (UInt8.toNat_inj.1 (by omega))
        have hr := HEQ.out k HALL.out (Or.inr (Or.inr (by rw [ea, eb]; simpa using he)))
        clear he
        go_wp2_with fail
        go_quiet (fail)
        go_wp2_with fail
        go_ret
        exact ⟨by rw [hr]; rfl, below_drewN HB.out _⟩
    · have hr := HEQ.out k HALL.out (Or.inr (Or.inl (by rw [List.getElem?_eq_none]; omega)))
      have d2 : decide ((k : Int) < (b.size : Int)) = false := decide_eq_false (by omega)
      have d2n : decide (k < b.size) = false := decide_eq_false h2
      go_wp2_with fail
      go_quiet (fail)
      go_wp2_with fail
      go_ret
      exact ⟨by rw [hr]; rfl, below_drewN HB.out _⟩
  · have hr := HEQ.out k HALL.out (Or.inl (by rw [List.getElem?_eq_none]; omega))
    have d1 : decide ((k : Int) < (a.size : Int)) = false := decide_eq_false (by omega)
    have d1n : decide (k < a.size) = false := decide_eq_false h1
    go_wp2_with fail
    go_quiet (fail)
    go_wp2_with fail
    go_ret
    exact ⟨by rw [hr]; rfl, below_drewN HB.out _⟩
set_option maxRecDepth 100000 in
set_option maxHeartbeats 4000000 in
theorem rplace_any (A : Option Addr) (c : Nat) (S : List ByteArray) (s : ByteArray) (hS : S.length ≤ 1000000) (hs : s ∈ S) (w : World) (hA : Row 1 (kx S) w A S.length) :
 Calls Tryz.prog 76 #[.slice A S.length c, .string s] w fun e w' => e = .returned (.int .i64 ((Ix.place S s : Nat) : Int)) ∧ Below w.heap.size w w' := by
 have HA := Lib.hid hA
 obtain ⟨p, hp⟩ : ∃ p, p = Ix.place S s := ⟨_, rfl⟩
 obtain ⟨h1, h2⟩ := Ix.place_lt hs
 have h3 : ∀ i, i < Ix.place S s → S.getD i ByteArray.empty ≠ s := fun i hi e => by
  have h4 := List.not_of_lt_findIdx hi
  rw [List.getD_eq_getElem?_getD, List.getElem?_eq_getElem (by omega)] at e
  exact absurd e (by simpa using h4)
 rw [← hp] at h1 h2 h3 ⊢
 have H2 := Lib.hid h2; have H3 := Lib.hid h3
 clear hA hp h2 h3 hs
 go_enter Tryz.func76, Tryz.ntmps76
 go_wp2_with fail
 go_loopw [5] (fun i wr => ∃ k : Nat, k ≤ p ∧ i = .int .i64 k ∧ w = wr) (fun i _ => S.length - (intOf i).toNat)
 case atStart => exact ⟨0, Nat.zero_le _, rfl, rfl⟩
 case round =>
  obtain ⟨k, hk, rfl, rfl⟩ := hrel
  have hks : k < S.length := by omega
  have d1 : decide ((k : Int) < (S.length : Int)) = true := decide_eq_true (Int.ofNat_lt.2 hks)
  have i0 : (0 : Int) ≤ (k : Int) := Int.natCast_nonneg _
  have i1 : (k : Int) < (S.length : Int) := Int.ofNat_lt.2 hks
  obtain ⟨ad, rfl, c0, -⟩ := HA.out.at_ (Below.refl _ _) hks
  have x0 : w.cell? (ad.add k) = some (.string (S.getD k ByteArray.empty)) := by have := c0 (by decide); rw [Nat.mul_one] at this; exact this
  clear c0
  by_cases hkp : k = p
  · have e1 : (S.getD k ByteArray.empty).toList == s.toList := by rw [str_beq, hkp]; exact decide_eq_true H2.out
    have b0 : ((S.getD k ByteArray.empty).toList == s.toList) = true := e1
    subst hkp
    clear e1
    generalize S.getD k ByteArray.empty = sk at *
    go_wp2_with fail
    go_ret
    exact ⟨rfl, Below.refl _ _⟩
  · have b0 : ((S.getD k ByteArray.empty).toList == s.toList) = false := by rw [str_beq]; exact decide_eq_false (H3.out k (by omega))
    generalize S.getD k ByteArray.empty = sk at *
    go_wp2_with fail
    go_roundw
    case rel => exact ⟨k + 1, by omega, rfl, trivial⟩
    case measure => exact meas_lt0 hks
end Go.Proofs.YtliobahnekohmaaGreat
/-
  The document's small: the walk.
-/
namespace Go.Proofs.YtliobahnekohmaaGreat
open Go.RowKit
set_option maxRecDepth 100000 in
theorem rsmall12_any (n : Nat) (hn : n ≤ 1000000000000) (w : World) :
 Calls Tryz.prog 73 #[.int .i64 (n : Int)] w fun e w' => e = .returned (.string (Num.smallB n)) ∧ Below w.heap.size w w' := by
 have hu : IntKind.u64.wrap (n : Int) = (n : Int) := by simp [IntKind.wrap, IntKind.bits, IntKind.signed]; omega
 have HC := Lib.hid (rSmall_any n (Lib.hid (by omega)) w)
 go_enter Tryz.func73, Tryz.ntmps73
 go_wp2_with fail
 refine HC.out.mono ?_; rintro e w1 ⟨rfl, hb1⟩
 have HB1 := Lib.hid hb1
 clear hb1 HC
 go_wp2_with fail
 go_ret
 exact ⟨rfl, HB1.out⟩
end Go.Proofs.YtliobahnekohmaaGreat
/-
  The document's entries in generation 1: the walk.
-/
namespace Go.Proofs.YtliobahnekohmaaGreat
open Go.RowKit
theorem rwide_int (n : Int) (h : 0 ≤ n ∧ n ≤ 1125899906842624) (U : World) : Calls Tryz.prog 71 #[.int .u64 n] U fun e V => e = .returned (.string (Num.wideB (Ix.u64 n))) ∧ Below U.heap.size U V := by
 rw [Ix.u64_nat h]
 have e : n = ((n.toNat : Nat) : Int) := by omega
 have hc := rWide_any n.toNat (Lib.hid (by omega)) U
 rw [← e] at hc
 exact hc
set_option maxRecDepth 100000 in
set_option maxHeartbeats 8000000 in
theorem rone_any (A : Option Addr) (n c : Nat) (q : Nat → EAt) (w : World) (h : EGood w A n q) :
 Calls Tryz.prog 35 #[.slice A n c] w fun e w' => e = .returned (.string (Num.wideB n ++ Ix.ents Ix.one1 (entL q n))) ∧ Below w.heap.size w w' := by
 have HA := Lib.hid h
 have hn := h.few
 have hun : IntKind.u64.wrap (n : Int) = (n : Int) := by simp [IntKind.wrap, IntKind.bits, IntKind.signed]; omega
 have HWD := Lib.hid (fun U => rWide_any n (Lib.hid (by omega)) U)
 have hz0 := Ix.wide_len n
 have HES := Lib.hid (Ix.ents1_size q h.labs); have HEN := Lib.hid (fun k => Ix.ents_snoc Ix.one1 (q k).e (entL q k))
 generalize Num.wideB n = T0 at *
 clear h
 go_enter Tryz.func35, Tryz.ntmps35
 go_wp2_with fail
 refine (HWD.out _).mono ?_; rintro e w1 ⟨rfl, hb1⟩
 have HB1 := Lib.hid hb1
 clear hb1 HWD
 go_wp2_with fail
 go_loopw [3, 4, 5, 6] (fun v i _ _ wr => ∃ k : Nat, k ≤ n ∧ i = .int .i64 k ∧ v = .string (T0 ++ Ix.ents Ix.one1 (entL q k)) ∧ Below w.heap.size w wr) (fun _ i _ _ _ => n - (intOf i).toNat)
 case atStart => exact ⟨0, Nat.zero_le _, rfl, by show Value.string T0 = .string (T0 ++ ByteArray.empty); rw [ByteArray.append_empty], HB1.out⟩
 case round =>
  obtain ⟨k, hk, rfl, rfl, hbl⟩ := hrel
  have HBL := Lib.hid hbl
  clear hbl
  by_cases hkn : k < n
  · have d1 : decide ((k : Int) < (n : Int)) = true := decide_eq_true (Int.ofNat_lt.2 hkn)
    have i0 : (0 : Int) ≤ (k : Int) := Int.natCast_nonneg _
    have i1 : (k : Int) < (n : Int) := Int.ofNat_lt.2 hkn
    obtain ⟨ad, rfl, x0, x1, x2, x3⟩ := HA.out.ents.cells HBL.out hkn
    have HLAB := Lib.hid (HA.out.ents.each k hkn).row
    have hl6 := HA.out.labs k hkn
    have HSH := Lib.hid (HA.out.short k hkn)
    have HWL := Lib.hid (rwide_int (q k).e.last (HA.out.last k hkn)); have HWO := Lib.hid (rwide_int (q k).e.off (by have := HA.out.off k hkn; omega)); have HWE := Lib.hid (rwide_int (q k).e.len (by have := HA.out.len k hkn; omega))
    have hu1 : IntKind.u64.wrap (q k).e.last = (q k).e.last := by have := HA.out.last k hkn; simp [IntKind.wrap, IntKind.bits, IntKind.signed]; omega
    have hu2 : IntKind.u64.wrap (q k).e.off = (q k).e.off := by have := HA.out.off k hkn; simp [IntKind.wrap, IntKind.bits, IntKind.signed]; omega
    have hu3 : IntKind.u64.wrap (q k).e.len = (q k).e.len := by have := HA.out.len k hkn; simp [IntKind.wrap, IntKind.bits, IntKind.signed]; omega
    have hone : Ix.one1 (q k).e = Ix.byte (q k).e.l.length ++ Ix.fixB (q k).e.l ++ (Num.wideB (Ix.u64 (q k).e.last) ++ Num.wideB (Ix.u64 (q k).e.off) ++ Num.wideB (Ix.u64 (q k).e.len)) := rfl
    have HSN := Lib.hid (HEN.out k)
    rw [hone] at HSN
    have hes := HES.out k (by omega)
    have zw1 := Ix.wide_len (Ix.u64 (q k).e.last); have zw2 := Ix.wide_len (Ix.u64 (q k).e.off); have zw3 := Ix.wide_len (Ix.u64 (q k).e.len)
    obtain ⟨w5, hw5⟩ : ∃ w5, w5 = wr.alloc (.cells (entC (q k)) 77) := ⟨_, rfl⟩
    have hb5 : Below wr.heap.size wr w5 := by rw [hw5]; exact (Below.refl _ _).alloc (Nat.le_refl _) _
    have hy5 : w5.heap[wr.heap.size]? = some (.cells (entC (q k)) 77 (0, 0)) := by rw [hw5]; exact heap_alloc_new wr _
    unfold entC at hw5 hy5
    obtain ⟨T1, hT1⟩ : ∃ T1, T1 = T0 ++ Ix.ents Ix.one1 (entL q k) := ⟨_, rfl⟩
    have hT1z : T1.size ≤ 5000 := by rw [hT1, ByteArray.size_append]; omega
    rw [← hT1]
    have HT1 := Lib.hid hT1
    generalize Num.wideB (Ix.u64 (q k).e.last) = g1 at *
    generalize Num.wideB (Ix.u64 (q k).e.off) = g2 at *
    generalize Num.wideB (Ix.u64 (q k).e.len) = g3 at *
    generalize (q k).e.l = l at *
    generalize (q k).A = LA at *
    generalize (q k).e.last = la at *
    generalize (q k).e.off = of at *
    generalize (q k).e.len = le at *
    generalize (q k).c = lc at *
    have y0 := cell_of_row _ _ 0 _ _ _ hy5
    simp only [List.getElem?_toArray, List.getElem?_cons_zero] at y0
    obtain ⟨eb, heb⟩ : ∃ eb, eb = wr.heap.size := ⟨_, rfl⟩
    rw [← heb] at y0 hy5
    have HY5 := Lib.hid hy5
    have hc6 := heap_alloc_new w5 (.cells #[.int .u8 (l.length : Int)] 5)
    have hb6 : Below w5.heap.size w5 (w5.alloc (.cells #[.int .u8 (l.length : Int)] 5)) := (Below.refl _ _).alloc (Nat.le_refl _) _
    have hl256 : (l.length : Int) % 256 = (l.length : Int) := by omega
    have hcv := byte_back _ _ (l.length : Int) (by rw [hl256]; exact hc6)
    have hbz := Ix.byte_size (l.length : Int)
    have HB6 := Lib.hid (below_step (below_step HBL.out hb5) hb6)
    have HY6 := Lib.hid (heap_keep hy5 hb6)
    have hcat : ¬ 9223372036854775807 < T1.size + (Ix.byte (l.length : Int)).size := by omega
    have hcat2 : T1.size + 1 ≤ 9223372036854775807 := by omega
    clear hb5 hy5 hT1 hone hc6 hes hl256 hb6
    go_upto_region 6 with fail
    rw [← hw5, ← heb]
    clear hw5 heb x0 x1 x2 x3
    go_upto_region 7 with fail
    generalize w5.alloc (.cells #[.int .u8 (l.length : Int)] 5) = w6 at *
    obtain ⟨T2, hT2⟩ : ∃ T2, T2 = T1 ++ Ix.byte (l.length : Int) := ⟨_, rfl⟩
    have hT2z : T2.size ≤ 5001 := by rw [hT2, ByteArray.size_append]; omega
    rw [← hT2]
    have HT2 := Lib.hid hT2
    clear hT2 hcv hcat hcat2 HY5 HB1 HES
    go_wp2_with fail
    clear y0
    go_loopw [3, 6] (fun v i wr => ∃ j : Nat, j ≤ l.length ∧ i = .int .i64 j ∧ v = .string (T2 ++ Ix.fixB (l.take j)) ∧ Below w.heap.size w wr ∧ wr.heap[eb]? = some (.cells #[.slice LA l.length lc, .int .i64 la, .int .i64 of, .int .i64 le] 77 (0, 0))) (fun _ i _ => l.length - (intOf i).toNat)
    case atStart => exact ⟨0, by omega, rfl, by show Value.string T2 = .string (T2 ++ ByteArray.empty); rw [ByteArray.append_empty], HB6.out, HY6.out⟩
    case round =>
     obtain ⟨j, hj, rfl, rfl, hbr, hyr⟩ := hrel
     have HBR := Lib.hid hbr; have HYR := Lib.hid hyr
     clear hbr hyr
     have j0 : (0 : Int) ≤ (j : Int) := by omega
     have hfz := Ix.fixB_size (l.take j)
     rw [List.length_take] at hfz
     have y0 := cell_of_row _ _ 0 _ _ _ HYR.out
     simp only [List.getElem?_toArray, List.getElem?_cons_zero] at y0
     by_cases hjl : j < l.length
     · have j1 : (j : Int) < (l.length : Int) := by omega
       have dd2 : decide ((j : Int) < (l.length : Int)) = true := decide_eq_true j1
       obtain ⟨lb, rfl, z0, z1⟩ := HLAB.out.at_ HBR.out hjl
       have HZ0 := Lib.hid z0; have HZ1 := Lib.hid z1
       clear z0 z1
       obtain ⟨hs1, hs2⟩ := HSH.out j hjl
       have HFX := Lib.hid (Ix.fixB_take l hjl)
       have HF1 := Lib.hid (fun U => rFixed_any (La.at_ l j).1 (by omega) 12 U); have HF2 := Lib.hid (fun U => rFixed_any (La.at_ l j).2 (by omega) 12 U)
       have e12 : Num.sz 12 = 12 := by decide
       rw [e12] at HF1 HF2
       have zf1 := Num.fixedB_size (La.at_ l j).1 12; have zf2 := Num.fixedB_size (La.at_ l j).2 12
       generalize Num.fixedB (La.at_ l j).1 12 = f1 at *
       generalize Num.fixedB (La.at_ l j).2 12 = f2 at *
       generalize (La.at_ l j).1 = s1 at *
       generalize (La.at_ l j).2 = s2 at *
       obtain ⟨T3, hT3⟩ : ∃ T3, T3 = T2 ++ Ix.fixB (l.take j) := ⟨_, rfl⟩
       have hT3z : T3.size ≤ 5200 := by rw [hT3, ByteArray.size_append]; omega
       rw [← hT3]
       have HT3 := Lib.hid hT3
       clear hT3
       have n1 : ¬ 9223372036854775807 < T3.size + f1.size := by omega
       have n2 : ¬ 9223372036854775807 < (T3 ++ f1).size + f2.size := by rw [ByteArray.size_append]; omega
       have n3 : ¬ 9223372036854775807 < T3.size + f1.size + f2.size := by omega
       have n4 : T3.size ≤ 9223372036854775794 := by omega
       have n5 : T3.size ≤ 9223372036854775781 := by omega
       go_upto_region 10 with fail
       clear y0
       refine plain_robJ [(0, some 36), (1, some 37), (2, some 38), (3, some 39), (4, some 40), (5, some 41), (6, some 42), (7, some 43), (8, some 44), (9, some 45), (10, some 46), (11, some 47), (12, some 48), (13, some 49), (14, some 50), (15, some 51), (16, some 52)] [17] (fun U V => Below U.heap.size U V) (fun U => Below wr.heap.size wr U) [(0, .string T3), (1, .pointer (some ⟨eb, 0, none⟩)), (2, .slice (some lb) l.length lc), (3, .int .i64 (j : Int)), (4, .pointer (some (lb.add (j * 2)))), (5, .pointer (some (lb.add (j * 2)))), (6, .string s1), (7, .string f1), (8, .string (T3 ++ f1)), (9, .pointer (some ⟨eb, 0, none⟩)), (10, .slice (some lb) l.length lc), (11, .int .i64 (j : Int)), (12, .pointer (some (lb.add (j * 2)))), (13, .pointer (some ⟨(lb.add (j * 2)).block, (lb.add (j * 2)).off + 1, none⟩)), (14, .string s2), (15, .string f2), (16, .string (T3 ++ f1 ++ f2))] [] 1 (by kernel_rfl) (by kernel_rfl) (by kernel_rfl) ((Below.refl _ _).drew) (fun U V h hb => h.trans (hb.mono h.size)) ?_ ?_ ?_
       · intro p hp; cases hp
       · refine ⟨⟨_, rfl, fun ν U hU hp => ?_⟩, ?_⟩
         · simp only [putsν, Act.put, List.setIfInBounds_toArray, List.set_cons_zero, List.set_cons_succ]
           exact Yld.value (.string T3) U (by kernel_rfl) (by go_simp) ⟨Below.refl _ _, Fx.fixed rfl rfl⟩
         refine ⟨⟨_, rfl, fun ν U hU hp => ?_⟩, ?_⟩
         · simp only [putsν, Act.put, List.setIfInBounds_toArray, List.set_cons_zero, List.set_cons_succ]
           exact Yld.value (.pointer (some ⟨eb, 0, none⟩)) U (by kernel_rfl) (by go_simp) ⟨Below.refl _ _, Fx.fixed rfl rfl⟩
         refine ⟨⟨_, rfl, fun ν U hU hp => ?_⟩, ?_⟩
         · simp only [putsν, Act.put, List.setIfInBounds_toArray, List.set_cons_zero, List.set_cons_succ]
           have e1 := (hp 1 (by kernel_rfl) (by kernel_rfl)).val _ rfl
           simp only [e1]
           exact Yld.value (.slice (some lb) l.length lc) U (by kernel_rfl) (by have h0 : U.cell? ⟨eb, 0, none⟩ = some (.slice (some lb) l.length lc) := cell_of_row _ _ _ _ _ _ (heap_keep HYR.out hU); go_simp) ⟨Below.refl _ _, Fx.fixed rfl rfl⟩
         refine ⟨⟨_, rfl, fun ν U hU hp => ?_⟩, ?_⟩
         · simp only [putsν, Act.put, List.setIfInBounds_toArray, List.set_cons_zero, List.set_cons_succ]
           exact Yld.value (.int .i64 (j : Int)) U (by kernel_rfl) (by go_simp) ⟨Below.refl _ _, Fx.fixed rfl rfl⟩
         refine ⟨⟨_, rfl, fun ν U hU hp => ?_⟩, ?_⟩
         · simp only [putsν, Act.put, List.setIfInBounds_toArray, List.set_cons_zero, List.set_cons_succ]
           have e2 := (hp 2 (by kernel_rfl) (by kernel_rfl)).val _ rfl
           have e3 := (hp 3 (by kernel_rfl) (by kernel_rfl)).val _ rfl
           simp only [e2, e3]
           exact Yld.value (.pointer (some (lb.add (j * 2)))) U (by kernel_rfl) (by go_simp) ⟨Below.refl _ _, Fx.fixed rfl rfl⟩
         refine ⟨⟨_, rfl, fun ν U hU hp => ?_⟩, ?_⟩
         · simp only [putsν, Act.put, List.setIfInBounds_toArray, List.set_cons_zero, List.set_cons_succ]
           have e4 := (hp 4 (by kernel_rfl) (by kernel_rfl)).val _ rfl
           simp only [e4]
           exact Yld.value (.pointer (some (lb.add (j * 2)))) U (by kernel_rfl) (by go_simp) ⟨Below.refl _ _, Fx.fixed rfl rfl⟩
         refine ⟨⟨_, rfl, fun ν U hU hp => ?_⟩, ?_⟩
         · simp only [putsν, Act.put, List.setIfInBounds_toArray, List.set_cons_zero, List.set_cons_succ]
           have e5 := (hp 5 (by kernel_rfl) (by kernel_rfl)).val _ rfl
           simp only [e5]
           exact Yld.value (.string s1) U (by kernel_rfl) (by have h0 := keep_at2 HZ0.out hU; go_simp) ⟨Below.refl _ _, Fx.fixed rfl rfl⟩
         refine ⟨⟨_, rfl, fun ν U hU hp => ?_⟩, ?_⟩
         · simp only [putsν, Act.put, List.setIfInBounds_toArray, List.set_cons_zero, List.set_cons_succ]
           have e6 := (hp 6 (by kernel_rfl) (by kernel_rfl)).val _ rfl
           simp only [e6]
           refine Yld.call 72 #[.string s1, .int .i64 12] (by kernel_rfl) (by go_simp) ?_
           have hcall := HF1.out U
           refine hcall.mono ?_
           rintro e V ⟨rfl, hb⟩; exact ⟨_, rfl, hb, Fx.fixed rfl rfl⟩
         refine ⟨⟨_, rfl, fun ν U hU hp => ?_⟩, ?_⟩
         · simp only [putsν, Act.put, List.setIfInBounds_toArray, List.set_cons_zero, List.set_cons_succ]
           have e0 := (hp 0 (by kernel_rfl) (by kernel_rfl)).val _ rfl
           have e7 := (hp 7 (by kernel_rfl) (by kernel_rfl)).val _ rfl
           simp only [e0, e7]
           exact Yld.value (.string (T3 ++ f1)) U (by kernel_rfl) (by go_simp) ⟨Below.refl _ _, Fx.fixed rfl rfl⟩
         refine ⟨⟨_, rfl, fun ν U hU hp => ?_⟩, ?_⟩
         · simp only [putsν, Act.put, List.setIfInBounds_toArray, List.set_cons_zero, List.set_cons_succ]
           exact Yld.value (.pointer (some ⟨eb, 0, none⟩)) U (by kernel_rfl) (by go_simp) ⟨Below.refl _ _, Fx.fixed rfl rfl⟩
         refine ⟨⟨_, rfl, fun ν U hU hp => ?_⟩, ?_⟩
         · simp only [putsν, Act.put, List.setIfInBounds_toArray, List.set_cons_zero, List.set_cons_succ]
           have e9 := (hp 9 (by kernel_rfl) (by kernel_rfl)).val _ rfl
           simp only [e9]
           exact Yld.value (.slice (some lb) l.length lc) U (by kernel_rfl) (by have h0 : U.cell? ⟨eb, 0, none⟩ = some (.slice (some lb) l.length lc) := cell_of_row _ _ _ _ _ _ (heap_keep HYR.out hU); go_simp) ⟨Below.refl _ _, Fx.fixed rfl rfl⟩
         refine ⟨⟨_, rfl, fun ν U hU hp => ?_⟩, ?_⟩
         · simp only [putsν, Act.put, List.setIfInBounds_toArray, List.set_cons_zero, List.set_cons_succ]
           exact Yld.value (.int .i64 (j : Int)) U (by kernel_rfl) (by go_simp) ⟨Below.refl _ _, Fx.fixed rfl rfl⟩
         refine ⟨⟨_, rfl, fun ν U hU hp => ?_⟩, ?_⟩
         · simp only [putsν, Act.put, List.setIfInBounds_toArray, List.set_cons_zero, List.set_cons_succ]
           have e10 := (hp 10 (by kernel_rfl) (by kernel_rfl)).val _ rfl
           have e11 := (hp 11 (by kernel_rfl) (by kernel_rfl)).val _ rfl
           simp only [e10, e11]
           exact Yld.value (.pointer (some (lb.add (j * 2)))) U (by kernel_rfl) (by go_simp) ⟨Below.refl _ _, Fx.fixed rfl rfl⟩
         refine ⟨⟨_, rfl, fun ν U hU hp => ?_⟩, ?_⟩
         · simp only [putsν, Act.put, List.setIfInBounds_toArray, List.set_cons_zero, List.set_cons_succ]
           have e12 := (hp 12 (by kernel_rfl) (by kernel_rfl)).val _ rfl
           simp only [e12]
           exact Yld.value (.pointer (some ⟨(lb.add (j * 2)).block, (lb.add (j * 2)).off + 1, none⟩)) U (by kernel_rfl) (by go_simp) ⟨Below.refl _ _, Fx.fixed rfl rfl⟩
         refine ⟨⟨_, rfl, fun ν U hU hp => ?_⟩, ?_⟩
         · simp only [putsν, Act.put, List.setIfInBounds_toArray, List.set_cons_zero, List.set_cons_succ]
           have e13 := (hp 13 (by kernel_rfl) (by kernel_rfl)).val _ rfl
           simp only [e13]
           exact Yld.value (.string s2) U (by kernel_rfl) (by have h0 := keep_at2 HZ1.out hU; go_simp) ⟨Below.refl _ _, Fx.fixed rfl rfl⟩
         refine ⟨⟨_, rfl, fun ν U hU hp => ?_⟩, ?_⟩
         · simp only [putsν, Act.put, List.setIfInBounds_toArray, List.set_cons_zero, List.set_cons_succ]
           have e14 := (hp 14 (by kernel_rfl) (by kernel_rfl)).val _ rfl
           simp only [e14]
           refine Yld.call 72 #[.string s2, .int .i64 12] (by kernel_rfl) (by go_simp) ?_
           have hcall := HF2.out U
           refine hcall.mono ?_
           rintro e V ⟨rfl, hb⟩; exact ⟨_, rfl, hb, Fx.fixed rfl rfl⟩
         refine ⟨⟨_, rfl, fun ν U hU hp => ?_⟩, ?_⟩
         · simp only [putsν, Act.put, List.setIfInBounds_toArray, List.set_cons_zero, List.set_cons_succ]
           have e8 := (hp 8 (by kernel_rfl) (by kernel_rfl)).val _ rfl
           have e15 := (hp 15 (by kernel_rfl) (by kernel_rfl)).val _ rfl
           simp only [e8, e15]
           exact Yld.value (.string (T3 ++ f1 ++ f2)) U (by kernel_rfl) (by go_simp) ⟨Below.refl _ _, Fx.fixed rfl rfl⟩
         trivial
       intro ν w9 hS9 hf
       have e0 := (hf 0 (by kernel_rfl)).val _ rfl
       have e1 := (hf 1 (by kernel_rfl)).val _ rfl
       have e2 := (hf 2 (by kernel_rfl)).val _ rfl
       have e3 := (hf 3 (by kernel_rfl)).val _ rfl
       have e4 := (hf 4 (by kernel_rfl)).val _ rfl
       have e5 := (hf 5 (by kernel_rfl)).val _ rfl
       have e6 := (hf 6 (by kernel_rfl)).val _ rfl
       have e7 := (hf 7 (by kernel_rfl)).val _ rfl
       have e8 := (hf 8 (by kernel_rfl)).val _ rfl
       have e9 := (hf 9 (by kernel_rfl)).val _ rfl
       have e10 := (hf 10 (by kernel_rfl)).val _ rfl
       have e11 := (hf 11 (by kernel_rfl)).val _ rfl
       have e12 := (hf 12 (by kernel_rfl)).val _ rfl
       have e13 := (hf 13 (by kernel_rfl)).val _ rfl
       have e14 := (hf 14 (by kernel_rfl)).val _ rfl
       have e15 := (hf 15 (by kernel_rfl)).val _ rfl
       have e16 := (hf 16 (by kernel_rfl)).val _ rfl
       simp only [putsν, Act.put, List.setIfInBounds_toArray, List.set_cons_zero, List.set_cons_succ, e0, e1, e2, e3, e4, e5, e6, e7, e8, e9, e10, e11, e12, e13, e14, e15, e16]
       clear hf e0 e1 e2 e3 e4 e5 e6 e7 e8 e9 e10 e11 e12 e13 e14 e15 e16
       refine wpAnyT_one (i := 17) (by kernel_rfl) rfl (by kernel_rfl) ?_
       intro K0 hK
       unfold Oper.wp
       go_simp
       have HY9 := Lib.hid (heap_keep HYR.out hS9)
       have HB9 := Lib.hid (below_step HBR.out hS9)
       clear hS9
       refine hK _ _ (fun _ => trivial) ?_
       clear hK K0
       refine wpAnyT_done (by kernel_rfl) ?_ _
       refine only_mk ?_
       go_wp2_with fail
       go_roundw
       case rel => exact ⟨j + 1, by omega, by go_num, by rw [HFX.out, HT3.out]; simp only [ByteArray.append_assoc], HB9.out, HY9.out⟩
       case measure => simp [intOf]; omega
     · obtain rfl : j = l.length := by omega
       have dd2 : decide ((l.length : Int) < (l.length : Int)) = false := decide_eq_false (by omega)
       have htk : l.take l.length = l := List.take_length
       rw [htk]
       have hT3z : (T2 ++ Ix.fixB l).size ≤ 5200 := by rw [htk] at hfz; rw [ByteArray.size_append]; omega
       obtain ⟨T3, hT3⟩ : ∃ T3, T3 = T2 ++ Ix.fixB l := ⟨_, rfl⟩
       rw [← hT3] at hT3z
       rw [← hT3]
       have HT3 := Lib.hid hT3
       clear hT3
       have n1 : T3.size ≤ 9223372036854775799 := by omega
       have n2 : T3.size ≤ 9223372036854775791 := by omega
       have n3 : T3.size ≤ 9223372036854775783 := by omega
       go_upto_region 11 with fail
       clear y0
       refine plain_robJ [(0, some 53), (1, some 54), (2, some 55), (3, some 56), (4, some 57), (5, some 58), (6, some 59), (7, some 60), (8, some 61), (9, some 62), (10, some 63), (11, some 64), (12, some 65), (13, some 66), (14, some 67), (15, some 68)] [16] (fun U V => Below U.heap.size U V) (fun U => Below wr.heap.size wr U) [(0, .string T3), (1, .pointer (some ⟨eb, 1, none⟩)), (2, .int .i64 la), (3, .int .u64 la), (4, .string g1), (5, .string (T3 ++ g1)), (6, .pointer (some ⟨eb, 2, none⟩)), (7, .int .i64 of), (8, .int .u64 of), (9, .string g2), (10, .string (T3 ++ g1 ++ g2)), (11, .pointer (some ⟨eb, 3, none⟩)), (12, .int .i64 le), (13, .int .u64 le), (14, .string g3), (15, .string (T3 ++ g1 ++ g2 ++ g3))] [] 1 (by kernel_rfl) (by kernel_rfl) (by kernel_rfl) ((Below.refl _ _).drew) (fun U V h hb => h.trans (hb.mono h.size)) ?_ ?_ ?_
       · intro p hp; cases hp
       · refine ⟨⟨_, rfl, fun ν U hU hp => ?_⟩, ?_⟩
         · simp only [putsν, Act.put, List.setIfInBounds_toArray, List.set_cons_zero, List.set_cons_succ]
           exact Yld.value (.string T3) U (by kernel_rfl) (by go_simp) ⟨Below.refl _ _, Fx.fixed rfl rfl⟩
         refine ⟨⟨_, rfl, fun ν U hU hp => ?_⟩, ?_⟩
         · simp only [putsν, Act.put, List.setIfInBounds_toArray, List.set_cons_zero, List.set_cons_succ]
           exact Yld.value (.pointer (some ⟨eb, 1, none⟩)) U (by kernel_rfl) (by go_simp) ⟨Below.refl _ _, Fx.fixed rfl rfl⟩
         refine ⟨⟨_, rfl, fun ν U hU hp => ?_⟩, ?_⟩
         · simp only [putsν, Act.put, List.setIfInBounds_toArray, List.set_cons_zero, List.set_cons_succ]
           have e1 := (hp 1 (by kernel_rfl) (by kernel_rfl)).val _ rfl
           simp only [e1]
           exact Yld.value (.int .i64 la) U (by kernel_rfl) (by have h0 : U.cell? ⟨eb, 1, none⟩ = some (.int .i64 la) := cell_of_row _ _ _ _ _ _ (heap_keep HYR.out hU); go_simp) ⟨Below.refl _ _, Fx.fixed rfl rfl⟩
         refine ⟨⟨_, rfl, fun ν U hU hp => ?_⟩, ?_⟩
         · simp only [putsν, Act.put, List.setIfInBounds_toArray, List.set_cons_zero, List.set_cons_succ]
           have e2 := (hp 2 (by kernel_rfl) (by kernel_rfl)).val _ rfl
           simp only [e2]
           exact Yld.value (.int .u64 la) U (by kernel_rfl) (by go_simp) ⟨Below.refl _ _, Fx.fixed rfl rfl⟩
         refine ⟨⟨_, rfl, fun ν U hU hp => ?_⟩, ?_⟩
         · simp only [putsν, Act.put, List.setIfInBounds_toArray, List.set_cons_zero, List.set_cons_succ]
           have e3 := (hp 3 (by kernel_rfl) (by kernel_rfl)).val _ rfl
           simp only [e3]
           refine Yld.call 71 #[.int .u64 la] (by kernel_rfl) (by go_simp) ?_
           have hcall := HWL.out U
           refine hcall.mono ?_
           rintro e V ⟨rfl, hb⟩; exact ⟨_, rfl, hb, Fx.fixed rfl rfl⟩
         refine ⟨⟨_, rfl, fun ν U hU hp => ?_⟩, ?_⟩
         · simp only [putsν, Act.put, List.setIfInBounds_toArray, List.set_cons_zero, List.set_cons_succ]
           have e0 := (hp 0 (by kernel_rfl) (by kernel_rfl)).val _ rfl
           have e4 := (hp 4 (by kernel_rfl) (by kernel_rfl)).val _ rfl
           simp only [e0, e4]
           exact Yld.value (.string (T3 ++ g1)) U (by kernel_rfl) (by go_simp) ⟨Below.refl _ _, Fx.fixed rfl rfl⟩
         refine ⟨⟨_, rfl, fun ν U hU hp => ?_⟩, ?_⟩
         · simp only [putsν, Act.put, List.setIfInBounds_toArray, List.set_cons_zero, List.set_cons_succ]
           exact Yld.value (.pointer (some ⟨eb, 2, none⟩)) U (by kernel_rfl) (by go_simp) ⟨Below.refl _ _, Fx.fixed rfl rfl⟩
         refine ⟨⟨_, rfl, fun ν U hU hp => ?_⟩, ?_⟩
         · simp only [putsν, Act.put, List.setIfInBounds_toArray, List.set_cons_zero, List.set_cons_succ]
           have e6 := (hp 6 (by kernel_rfl) (by kernel_rfl)).val _ rfl
           simp only [e6]
           exact Yld.value (.int .i64 of) U (by kernel_rfl) (by have h0 : U.cell? ⟨eb, 2, none⟩ = some (.int .i64 of) := cell_of_row _ _ _ _ _ _ (heap_keep HYR.out hU); go_simp) ⟨Below.refl _ _, Fx.fixed rfl rfl⟩
         refine ⟨⟨_, rfl, fun ν U hU hp => ?_⟩, ?_⟩
         · simp only [putsν, Act.put, List.setIfInBounds_toArray, List.set_cons_zero, List.set_cons_succ]
           have e7 := (hp 7 (by kernel_rfl) (by kernel_rfl)).val _ rfl
           simp only [e7]
           exact Yld.value (.int .u64 of) U (by kernel_rfl) (by go_simp) ⟨Below.refl _ _, Fx.fixed rfl rfl⟩
         refine ⟨⟨_, rfl, fun ν U hU hp => ?_⟩, ?_⟩
         · simp only [putsν, Act.put, List.setIfInBounds_toArray, List.set_cons_zero, List.set_cons_succ]
           have e8 := (hp 8 (by kernel_rfl) (by kernel_rfl)).val _ rfl
           simp only [e8]
           refine Yld.call 71 #[.int .u64 of] (by kernel_rfl) (by go_simp) ?_
           have hcall := HWO.out U
           refine hcall.mono ?_
           rintro e V ⟨rfl, hb⟩; exact ⟨_, rfl, hb, Fx.fixed rfl rfl⟩
         refine ⟨⟨_, rfl, fun ν U hU hp => ?_⟩, ?_⟩
         · simp only [putsν, Act.put, List.setIfInBounds_toArray, List.set_cons_zero, List.set_cons_succ]
           have e5 := (hp 5 (by kernel_rfl) (by kernel_rfl)).val _ rfl
           have e9 := (hp 9 (by kernel_rfl) (by kernel_rfl)).val _ rfl
           simp only [e5, e9]
           exact Yld.value (.string (T3 ++ g1 ++ g2)) U (by kernel_rfl) (by go_simp) ⟨Below.refl _ _, Fx.fixed rfl rfl⟩
         refine ⟨⟨_, rfl, fun ν U hU hp => ?_⟩, ?_⟩
         · simp only [putsν, Act.put, List.setIfInBounds_toArray, List.set_cons_zero, List.set_cons_succ]
           exact Yld.value (.pointer (some ⟨eb, 3, none⟩)) U (by kernel_rfl) (by go_simp) ⟨Below.refl _ _, Fx.fixed rfl rfl⟩
         refine ⟨⟨_, rfl, fun ν U hU hp => ?_⟩, ?_⟩
         · simp only [putsν, Act.put, List.setIfInBounds_toArray, List.set_cons_zero, List.set_cons_succ]
           have e11 := (hp 11 (by kernel_rfl) (by kernel_rfl)).val _ rfl
           simp only [e11]
           exact Yld.value (.int .i64 le) U (by kernel_rfl) (by have h0 : U.cell? ⟨eb, 3, none⟩ = some (.int .i64 le) := cell_of_row _ _ _ _ _ _ (heap_keep HYR.out hU); go_simp) ⟨Below.refl _ _, Fx.fixed rfl rfl⟩
         refine ⟨⟨_, rfl, fun ν U hU hp => ?_⟩, ?_⟩
         · simp only [putsν, Act.put, List.setIfInBounds_toArray, List.set_cons_zero, List.set_cons_succ]
           have e12 := (hp 12 (by kernel_rfl) (by kernel_rfl)).val _ rfl
           simp only [e12]
           exact Yld.value (.int .u64 le) U (by kernel_rfl) (by go_simp) ⟨Below.refl _ _, Fx.fixed rfl rfl⟩
         refine ⟨⟨_, rfl, fun ν U hU hp => ?_⟩, ?_⟩
         · simp only [putsν, Act.put, List.setIfInBounds_toArray, List.set_cons_zero, List.set_cons_succ]
           have e13 := (hp 13 (by kernel_rfl) (by kernel_rfl)).val _ rfl
           simp only [e13]
           refine Yld.call 71 #[.int .u64 le] (by kernel_rfl) (by go_simp) ?_
           have hcall := HWE.out U
           refine hcall.mono ?_
           rintro e V ⟨rfl, hb⟩; exact ⟨_, rfl, hb, Fx.fixed rfl rfl⟩
         refine ⟨⟨_, rfl, fun ν U hU hp => ?_⟩, ?_⟩
         · simp only [putsν, Act.put, List.setIfInBounds_toArray, List.set_cons_zero, List.set_cons_succ]
           have e10 := (hp 10 (by kernel_rfl) (by kernel_rfl)).val _ rfl
           have e14 := (hp 14 (by kernel_rfl) (by kernel_rfl)).val _ rfl
           simp only [e10, e14]
           exact Yld.value (.string (T3 ++ g1 ++ g2 ++ g3)) U (by kernel_rfl) (by go_simp) ⟨Below.refl _ _, Fx.fixed rfl rfl⟩
         trivial
       intro ν w9 hS9 hf
       have e0 := (hf 0 (by kernel_rfl)).val _ rfl
       have e1 := (hf 1 (by kernel_rfl)).val _ rfl
       have e2 := (hf 2 (by kernel_rfl)).val _ rfl
       have e3 := (hf 3 (by kernel_rfl)).val _ rfl
       have e4 := (hf 4 (by kernel_rfl)).val _ rfl
       have e5 := (hf 5 (by kernel_rfl)).val _ rfl
       have e6 := (hf 6 (by kernel_rfl)).val _ rfl
       have e7 := (hf 7 (by kernel_rfl)).val _ rfl
       have e8 := (hf 8 (by kernel_rfl)).val _ rfl
       have e9 := (hf 9 (by kernel_rfl)).val _ rfl
       have e10 := (hf 10 (by kernel_rfl)).val _ rfl
       have e11 := (hf 11 (by kernel_rfl)).val _ rfl
       have e12 := (hf 12 (by kernel_rfl)).val _ rfl
       have e13 := (hf 13 (by kernel_rfl)).val _ rfl
       have e14 := (hf 14 (by kernel_rfl)).val _ rfl
       have e15 := (hf 15 (by kernel_rfl)).val _ rfl
       simp only [putsν, Act.put, List.setIfInBounds_toArray, List.set_cons_zero, List.set_cons_succ, e0, e1, e2, e3, e4, e5, e6, e7, e8, e9, e10, e11, e12, e13, e14, e15]
       clear hf e0 e1 e2 e3 e4 e5 e6 e7 e8 e9 e10 e11 e12 e13 e14 e15
       refine wpAnyT_one (i := 16) (by kernel_rfl) rfl (by kernel_rfl) ?_
       intro K0 hK
       unfold Oper.wp
       go_simp
       have HB9 := Lib.hid (below_step HBR.out hS9)
       clear hS9
       refine hK _ _ (fun _ => trivial) ?_
       clear hK K0
       refine wpAnyT_done (by kernel_rfl) ?_ _
       refine only_mk ?_
       go_wp2_with fail
       go_roundw
       case rel => exact ⟨k + 1, by omega, by go_num, by rw [entL_succ, HSN.out, HT3.out, HT2.out, HT1.out]; simp only [ByteArray.append_assoc], HB9.out⟩
       case measure => simp [intOf]; omega
  · obtain rfl : k = n := Nat.le_antisymm hk (Nat.le_of_not_lt hkn)
    have d1 : decide ((k : Int) < (k : Int)) = false := decide_eq_false (Int.lt_irrefl _)
    go_wp2_with fail
    go_ret
    exact ⟨rfl, HBL.out⟩
end Go.Proofs.YtliobahnekohmaaGreat
/-
  The document's symbols, and who has a label: the walks.
-/
namespace Go.Proofs.YtliobahnekohmaaGreat
open Go.RowKit
namespace Ix
theorem insAll_snoc (W : List ByteArray) (x : ByteArray) : insAll (W ++ [x]) = ins x (insAll W) := by unfold insAll; rw [List.foldl_append]; rfl
end Ix
def wordsL2 (l : List Lab) : List ByteArray := l.flatMap fun x => [x.1, x.2]
theorem words_succ2 (q : Nat → EAt) (i : Nat) : Ix.words (entL q (i + 1)) = Ix.words (entL q i) ++ wordsL2 (q i).e.l := by
 unfold Ix.words
 rw [entL_succ, List.flatMap_append]
 simp [wordsL2]
theorem wordsL2_take (l : List Lab) {k : Nat} (hk : k < l.length) : wordsL2 (l.take (k + 1)) = wordsL2 (l.take k) ++ [(La.at_ l k).1] ++ [(La.at_ l k).2] := by
 rw [take_lab l hk]
 unfold wordsL2
 rw [List.flatMap_append]
 simp
structure Short (W : List ByteArray) (n : Nat) : Prop where
 few : W.length ≤ n
 small : ∀ y ∈ W, y.size ≤ 20000
theorem Short.snoc {W : List ByteArray} {n : Nat} {x : ByteArray} (h : Short W n) (hx : x.size ≤ 20000) : Short (W ++ [x]) (n + 1) :=
 ⟨by rw [List.length_append]; exact Nat.succ_le_succ h.few, fun y hy => by
  rcases List.mem_append.1 hy with hy | hy
  · exact h.small y hy
  · rw [List.mem_singleton.1 hy]; exact hx⟩
theorem Short.all {W : List ByteArray} {n : Nat} (h : Short W n) (hn : n ≤ 100000) : (Ix.insAll W).length ≤ 100000 ∧ ∀ i, i < (Ix.insAll W).length → ((Ix.insAll W).getD i ByteArray.empty).size ≤ maxLen := by
 refine ⟨Nat.le_trans (Ix.insAll_length W) (Nat.le_trans h.few hn), fun i hi => ?_⟩
 rw [List.getD_eq_getElem?_getD, List.getElem?_eq_getElem hi]
 have := h.small _ ((Ix.insAll_mem W _).1 (List.getElem_mem hi))
 show (Ix.insAll W)[i].size ≤ maxLen
 unfold maxLen
 omega
theorem rput {w : World} {A : Option Addr} {c m : Nat} {W : List ByteArray} {x : ByteArray} (hA : TSl w A c (Ix.insAll W)) (hW : Short W m) (hm : m ≤ 100000) (hx : x.size ≤ 20000) :
 Calls Tryz.prog 53 #[.slice A (Ix.insAll W).length c, .string x] w fun e w' => ∃ B d, e = .returned (.slice B (Ix.insAll (W ++ [x])).length d) ∧ TSl w' B d (Ix.insAll (W ++ [x])) ∧ Below w.heap.size w w' := by
 obtain ⟨h1, h2⟩ := hW.all hm
 rw [Ix.insAll_snoc]
 exact rwith_any A c (Ix.insAll W) x w hA h1 h2 (by unfold maxLen; omega)
set_option maxRecDepth 100000 in
set_option maxHeartbeats 8000000 in
theorem rSymbols_any (A : Option Addr) (n c : Nat) (q : Nat → EAt) (w : World) (hA : EntsIn w A n q) (hn30 : n ≤ 30) :
 Calls Tryz.prog 20 #[.slice A n c] w fun e w' => ∃ B d, e = .returned (.slice B (Ix.syms (entL q n)).length d) ∧ TSl w' B d (Ix.syms (entL q n)) ∧ Below w.heap.size w w' := by
 have HA := Lib.hid hA
 clear hA
 go_enter Tryz.func20, Tryz.ntmps20
 go_wp2_with fail
 go_loopw [3, 4, 5] (fun v i _ wr => ∃ (k : Nat) (B : Option Addr) (d : Nat), k ≤ n ∧ i = .int .i64 k ∧ Short (Ix.words (entL q k)) (600 * k) ∧ v = .slice B (Ix.insAll (Ix.words (entL q k))).length d ∧ TSl wr B d (Ix.insAll (Ix.words (entL q k))) ∧ Below w.heap.size w wr) (fun _ i _ _ => n - (intOf i).toNat)
 case atStart => exact ⟨0, none, 0, Nat.zero_le _, rfl, ⟨Nat.le_refl _, fun y hy => by cases hy⟩, rfl, ⟨Nat.le_refl _, by decide, fun _ => ⟨rfl, rfl⟩, fun h => absurd h (Nat.lt_irrefl 0)⟩, Below.refl _ _⟩
 case round =>
  obtain ⟨k, B, d, hk, rfl, hsh, rfl, hts, hbl⟩ := hrel
  have HS := Lib.hid hsh; have HT := Lib.hid hts; have HB := Lib.hid hbl
  clear hsh hts hbl
  by_cases hkn : k < n
  · have d1 : decide ((k : Int) < (n : Int)) = true := decide_eq_true (Int.ofNat_lt.2 hkn)
    have i0 : (0 : Int) ≤ (k : Int) := Int.natCast_nonneg _
    have i1 : (k : Int) < (n : Int) := Int.ofNat_lt.2 hkn
    obtain ⟨wb, hwb⟩ : ∃ wb, wb = wr := ⟨_, rfl⟩
    subst hwb
    have HWS := Lib.hid (words_succ2 q k)
    have HCE := Lib.hid (fun (U : World) (hU : Below w.heap.size w U) => HA.out.cells hU hkn)
    have HRO := Lib.hid (HA.out.each k hkn).row
    have HSM := Lib.hid (HA.out.each k hkn).small
    have hlm := (HA.out.each k hkn).len
    generalize Ix.words (entL q k) = W0 at *
    generalize (q k).e.l = l at *
    have hk600 : 600 * k ≤ 18000 := by omega
    go_wp2_with fail
    go_loopw [3, 5] (fun v i wr => ∃ (m : Nat) (B : Option Addr) (d : Nat), m ≤ l.length ∧ i = .int .i64 m ∧ Short (W0 ++ wordsL2 (l.take m)) (600 * k + 2 * m) ∧ v = .slice B (Ix.insAll (W0 ++ wordsL2 (l.take m))).length d ∧ TSl wr B d (Ix.insAll (W0 ++ wordsL2 (l.take m))) ∧ Below w.heap.size w wr) (fun _ i _ => l.length - (intOf i).toNat)
    case atStart =>
     have e0 : W0 ++ wordsL2 (l.take 0) = W0 := List.append_nil _
     refine ⟨0, B, d, Nat.zero_le _, rfl, ?_, ?_, ?_, HB.out⟩
     · rw [e0]; exact HS.out
     · rw [e0]
     · rw [e0]; exact HT.out
    case round =>
     obtain ⟨m, B2, d2, hm, rfl, hsh, rfl, hts, hbl⟩ := hrel
     have HS2 := Lib.hid hsh; have HT2 := Lib.hid hts; have HB2 := Lib.hid hbl
     clear hsh hts hbl HS HT HB
     obtain ⟨ad, rfl, c0, -, -, -⟩ := HCE.out wr HB2.out
     by_cases hml : m < l.length
     · have d3 : decide ((m : Int) < (l.length : Int)) = true := decide_eq_true (Int.ofNat_lt.2 hml)
       have k0 : (0 : Int) ≤ (m : Int) := Int.natCast_nonneg _
       have k1 : (m : Int) < (l.length : Int) := Int.ofNat_lt.2 hml
       have HTK : Hid (W0 ++ wordsL2 (l.take (m + 1)) = (W0 ++ wordsL2 (l.take m)) ++ [(La.at_ l m).1] ++ [(La.at_ l m).2]) := Lib.hid (by rw [wordsL2_take l hml]; simp)
       obtain ⟨ad2, e2, g0, g1⟩ := HRO.out.at_ HB2.out hml
       have hsm := HSM.out m hml
       rw [e2] at c0
       generalize W0 ++ wordsL2 (l.take m) = W at *
       have HC1 := Lib.hid (rput (x := (La.at_ l m).1) HT2.out HS2.out (by omega) hsm.1)
       have HC2 := Lib.hid (fun (U : World) B d (hT : TSl U B d (Ix.insAll (W ++ [(La.at_ l m).1]))) => rput (x := (La.at_ l m).2) hT (HS2.out.snoc hsm.1) (by omega) hsm.2)
       have HS3 := Lib.hid ((HS2.out.snoc hsm.1).snoc hsm.2)
       generalize La.at_ l m = x at *
       obtain ⟨x1, x2⟩ := x
       simp only at HC1 HC2 HTK g0 g1 HS3
       obtain ⟨lv, hlv⟩ : ∃ lv, lv = (Ix.insAll W).length := ⟨_, rfl⟩
       rw [← hlv] at HC1 ⊢
       clear hsm e2 hlv
       go_wp2_with fail
       refine HC1.out.mono ?_; rintro e w5 ⟨B5, d5, rfl, ht5, hb5⟩
       have HB5 := Lib.hid (below_step HB2.out hb5)
       have c0' := keep_at2 c0 hb5; have g1' := keep_at2 g1 hb5
       have HC3 := Lib.hid (HC2.out w5 B5 d5 ht5)
       clear hb5 ht5 HC1 HC2 c0 g0 g1
       generalize (Ix.insAll (W ++ [x1])).length = l5 at *
       go_wp2_with fail
       refine HC3.out.mono ?_; rintro e w6 ⟨B6, d6, rfl, ht6, hb6⟩
       have HB6 := Lib.hid (below_step HB5.out hb6); have HT6 := Lib.hid ht6
       clear hb6 ht6 HC3 HB5 c0' g1'
       have HRL : Hid (∃ l6, l6 = (Ix.insAll (W ++ [x1] ++ [x2])).length) := Lib.hid ⟨_, rfl⟩
       obtain ⟨l6, hl6⟩ := HRL.out
       rw [← hl6]
       have HL6 := Lib.hid hl6
       clear hl6 HRL
       go_wp2_with fail
       go_roundw
       case rel =>
        refine ⟨m + 1, B6, d6, hml, rfl, ?_, ?_, ?_, HB6.out⟩
        · rw [HTK.out]; exact HS3.out
        · rw [HTK.out, HL6.out]
        · rw [HTK.out]; exact HT6.out
       case measure => exact meas_lt0 hml
     · obtain rfl : m = l.length := Nat.le_antisymm hm (Nat.le_of_not_lt hml)
       have d3 : decide ((l.length : Int) < (l.length : Int)) = false := decide_eq_false (Int.lt_irrefl _)
       have hs2 := HS2.out; have ht2 := HT2.out
       rw [List.take_length] at hs2 ht2 ⊢
       have HS4 := Lib.hid hs2; have HT4 := Lib.hid ht2
       clear hs2 ht2 HS2 HT2
       obtain ⟨lv, hlv⟩ : ∃ lv, lv = (Ix.insAll (W0 ++ wordsL2 l)).length := ⟨_, rfl⟩
       rw [← hlv]
       have HLV := Lib.hid hlv
       clear hlv
       go_wp2_with fail
       go_roundw
       case rel =>
        refine ⟨k + 1, B2, d2, hkn, rfl, ?_, ?_, ?_, HB2.out⟩
        · rw [HWS.out]; exact ⟨by have := HS4.out.few; omega, HS4.out.small⟩
        · rw [HWS.out, HLV.out]
        · rw [HWS.out]; exact HT4.out
       case measure => exact meas_lt0 hkn
  · obtain rfl : k = n := Nat.le_antisymm hk (Nat.le_of_not_lt hkn)
    have d1 : decide ((k : Int) < (k : Int)) = false := decide_eq_false (Int.lt_irrefl _)
    have e : Ix.syms (entL q k) = Ix.insAll (Ix.words (entL q k)) := rfl
    obtain ⟨lv, hlv⟩ : ∃ lv, lv = (Ix.insAll (Ix.words (entL q k))).length := ⟨_, rfl⟩
    rw [← hlv]
    have HLV := Lib.hid hlv; have HE := Lib.hid e
    clear hlv e
    go_wp2_with fail
    go_ret
    rw [HE.out]
    exact ⟨B, d, by rw [HLV.out]; rfl, HT.out, HB.out⟩
end Go.Proofs.YtliobahnekohmaaGreat
/-
  The document's Postings: the walk.
-/
namespace Go.Proofs.YtliobahnekohmaaGreat
open Go.RowKit
theorem infoI2 : (Tryz.prog.info? 3).map (fun i => (i.zero, i.size, i.bytes)) = some (some (.int .i64 0), 1, 8) := by kernel_rfl
def one2 (x : Nat) (_ _ : Nat) : Value := .int .i64 (x : Int)
theorem one2_row (w : World) (x : Nat) (T : TypeId) : Row 1 (one2 x) (w.alloc (.cells #[.int .i64 (x : Int)] T)) (some ⟨w.heap.size, 0, none⟩) 1 := row_built 1 _ w _ _ (fun j hj => by
 obtain rfl : j = 0 := by omega
 rfl)
def pl2 (L : List Nat) : List Value := L.flatMap fun i : Nat => [.int .i64 (i : Int)]
theorem pl2_snoc (L : List Nat) (x : Nat) : pl2 (L ++ [x]) = pl2 L ++ [.int .i64 (x : Int)] := by unfold pl2; rw [List.flatMap_append]; rfl
theorem sel_more (b : Nat → Bool) (n : Nat) : Ma.sel b (n + 1) = Ma.sel b n ++ (if b n = true then [n] else []) := by
 unfold Ma.sel
 rw [List.range_succ, List.filter_append, List.filter_cons]
 rfl
theorem hasN_more (f : Nat → Lab) (x : Lab) (n : Nat) : Ix.hasN f x (n + 1) = (Ix.hasN f x n || decide (f n = x)) := by
 unfold Ix.hasN
 rw [List.range_succ, List.any_append]
 simp
set_option maxRecDepth 100000 in
set_option maxHeartbeats 8000000 in
theorem rPostings_any (A : Option Addr) (n c : Nat) (q : Nat → EAt) (x : Lab) (w : World) (hA : EntsIn w A n q) :
 Calls Tryz.prog 25 #[.slice A n c, .agg #[.string x.1, .string x.2]] w (Picks 3 1 (fun i => [.int .i64 (i : Int)]) (Ma.sel (hasE q x) n) w) := by
 obtain ⟨x1, x2⟩ := x
 simp only
 have hn := hA.len
 obtain ⟨wa, hwa⟩ : ∃ wa, wa = w.alloc (.cells #[.string x1, .string x2] 37) := ⟨_, rfl⟩
 have hba : Below w.heap.size w wa := by rw [hwa]; exact (Below.refl _ _).alloc (Nat.le_refl _) _
 have hx : wa.heap[w.heap.size]? = some (.cells #[.string x1, .string x2] 37 (0, 0)) := by rw [hwa]; exact heap_alloc_new w _
 have HA := Lib.hid (hA.later hba); have HX := Lib.hid hx; have HBA := Lib.hid hba
 have heg : Tryz.prog.eqGuardType Tryz.prog.depth 37 = false := by kernel_rfl
 clear hA hx hba
 go_enter Tryz.func25, Tryz.ntmps25
 go_upto_region 1 with fail
 rw [← hwa]
 clear hwa
 go_wp2_with fail
 go_loopw [5, 6, 7, 8] (fun v i _ _ wr => ∃ k : Nat, k ≤ n ∧ i = .int .i64 k ∧ wr.ownsRow wa.heap.size 3 1 v (Ma.sel (hasE q (x1, x2)) k).length (pl2 (Ma.sel (hasE q (x1, x2)) k)) ∧ Below wa.heap.size wa wr) (fun _ i _ _ _ => n - (intOf i).toNat)
 case atStart => exact ⟨0, Nat.zero_le _, rfl, World.ownsRow_nil _ _ _ _, Below.refl _ _⟩
 case round =>
  obtain ⟨k, hk, rfl, hown, hbl⟩ := hrel
  have HO := Lib.hid hown; have HBL := Lib.hid hbl
  clear hown hbl
  by_cases hkn : k < n
  · have d1 : decide ((k : Int) < (n : Int)) = true := decide_eq_true (Int.ofNat_lt.2 hkn)
    have i0 : (0 : Int) ≤ (k : Int) := Int.natCast_nonneg _
    have i1 : (k : Int) < (n : Int) := Int.ofNat_lt.2 hkn
    obtain ⟨wb, hwb⟩ : ∃ wb, wb = wr := ⟨_, rfl⟩
    subst hwb
    have hll := Ma.sel_length (hasE q (x1, x2)) k
    have HSE := Lib.hid (sel_more (hasE q (x1, x2)) k)
    have HCE := Lib.hid (fun (U : World) (hU : Below wa.heap.size wa U) => HA.out.cells hU hkn)
    have HRO := Lib.hid (HA.out.each k hkn).row
    have hlm := (HA.out.each k hkn).len
    have hHE : hasE q (x1, x2) k = Ix.hasN (La.at_ (q k).e.l) (x1, x2) (q k).e.l.length := rfl
    have HHE := Lib.hid hHE
    clear hHE
    generalize (q k).e.l = l at *
    generalize Ma.sel (hasE q (x1, x2)) k = L at *
    go_wp2_with fail
    go_loopw [7, 8] (fun v i wr => ∃ m : Nat, m ≤ l.length ∧ i = .int .i64 m ∧ v = .bool (Ix.hasN (La.at_ l) (x1, x2) m) ∧ DrewOf wb wr) (fun _ i _ => l.length - (intOf i).toNat)
    case atStart => exact ⟨0, Nat.zero_le _, rfl, rfl, ⟨0, rfl⟩⟩
    case round =>
     obtain ⟨m, hm, rfl, rfl, nq, rfl⟩ := hrel
     obtain ⟨ad, rfl, c0, -, -, -⟩ := HCE.out wb HBL.out
     by_cases hml : m < l.length
     · have d3 : decide ((m : Int) < (l.length : Int)) = true := decide_eq_true (Int.ofNat_lt.2 hml)
       have k0 : (0 : Int) ≤ (m : Int) := Int.natCast_nonneg _
       have k1 : (m : Int) < (l.length : Int) := Int.ofNat_lt.2 hml
       have HMO := Lib.hid (hasN_more (La.at_ l) (x1, x2) m)
       obtain ⟨ad2, e2, g0, g1⟩ := HRO.out.at_ HBL.out hml
       rw [e2] at c0
       clear e2
       have z0 : wb.cell? ⟨w.heap.size, 0, none⟩ = some (.string x1) := cell_of_row _ _ _ _ _ _ (heap_keep HX.out HBL.out)
       have z1 : wb.cell? ⟨w.heap.size, 1, none⟩ = some (.string x2) := cell_of_row _ _ _ _ _ _ (heap_keep HX.out HBL.out)
       have hel : ∀ W, (Op.equalIn 10000 37 (.agg #[.string (La.at_ l m).1, .string (La.at_ l m).2]) (.agg #[.string x1, .string x2])).run Tryz.prog W = .ok (decide (La.at_ l m = (x1, x2))) W := fun W => by
        rw [run_equal_lab, str_beq, str_beq]
        congr 1
        rw [Bool.eq_iff_iff, Bool.and_eq_true, decide_eq_true_eq, decide_eq_true_eq, decide_eq_true_eq]
        exact ⟨fun h => Prod.ext h.1 h.2, fun h => ⟨by rw [h], by rw [h]⟩⟩
       generalize decide (La.at_ l m = (x1, x2)) = be at *
       generalize La.at_ l m = y at *
       obtain ⟨y1, y2⟩ := y
       simp only at hel g0 g1
       generalize Ix.hasN (La.at_ l) (x1, x2) m = bh at *
       cases bh with
       | true =>
        go_wp2_with fail
        go_quiet (fail)
        go_wp2_with fail
        go_roundw
        case rel => exact ⟨m + 1, hml, rfl, by rw [HMO.out]; rfl, _, rfl⟩
        case measure => exact meas_lt0 hml
       | false =>
        go_wp2_with fail
        go_quiet (fail)
        go_wp2_with fail
        go_roundw
        case rel => exact ⟨m + 1, hml, rfl, by rw [HMO.out]; rfl, _, rfl⟩
        case measure => exact meas_lt0 hml
     · obtain rfl : m = l.length := Nat.le_antisymm hm (Nat.le_of_not_lt hml)
       have d3 : decide ((l.length : Int) < (l.length : Int)) = false := decide_eq_false (Int.lt_irrefl _)
       have HBQ : Hid (Below wa.heap.size wa (wb.drewN nq)) := Lib.hid (below_drewN HBL.out nq)
       have hsz : wa.heap.size ≤ (wb.drewN nq).heap.size := HBQ.out.size
       have hl1 : L.length + 1 ≤ 1000000 := by omega
       rw [← HHE.out]
       have HOQ : Hid ((wb.drewN nq).ownsRow wa.heap.size 3 1 u5 L.length (pl2 L)) := Lib.hid HO.out
       generalize hasE q (x1, x2) k = bk at *
       obtain ⟨wq, hwq⟩ : ∃ wq, wq = wb.drewN nq := ⟨_, rfl⟩
       rw [← hwq] at HBQ hsz HOQ ⊢
       have c0' : wq.cell? (ad.add (k * 4)) = some (.slice (q k).A l.length (q k).c) := by rw [hwq]; exact c0
       clear hwq c0 HO
       cases bk with
       | true =>
        go_wp2_with (at_builtin; go_must (refine wpList_append_row _ rfl _ _ 43 3 rfl 1 8 (.int .i64 0) Tryz.underlying43 infoI2 rfl (by decide) (by decide) wa.heap.size _ L.length (pl2 L) rfl (row_far HOQ.out ((Below.refl _ _).alloc (Nat.le_refl _) _)) ⟨wq.heap.size, 0, none⟩ 1 1 (one2 k) (fun _ _ => rfl) rfl (one2_row wq k 3) hl1 (by simp; omega) ?_); intro v8 w8 hown8 hg8; have HO8 := Lib.hid hown8; have HB8 := Lib.hid ((HBQ.out.alloc hsz _).grown hg8 (by simp; omega) (fun r e => (HOQ.out.lt r e).1)); clear hown8 hg8)
        go_roundw
        case rel => exact ⟨k + 1, hkn, rfl, by rw [HSE.out, if_pos rfl, pl2_snoc, List.length_append]; exact HO8.out, HB8.out⟩
        case measure => exact meas_lt0 hkn
       | false =>
        go_wp2_with fail
        go_roundw
        case rel => exact ⟨k + 1, hkn, rfl, by rw [HSE.out, if_neg (by decide), List.append_nil]; exact HOQ.out, HBQ.out⟩
        case measure => exact meas_lt0 hkn
  · obtain rfl : k = n := Nat.le_antisymm hk (Nat.le_of_not_lt hkn)
    have d1 : decide ((k : Int) < (k : Int)) = false := decide_eq_false (Int.lt_irrefl _)
    have HF : Hid (wr.ownsRow w.heap.size 3 1 u5 (Ma.sel (hasE q (x1, x2)) k).length (pl2 (Ma.sel (hasE q (x1, x2)) k)) ∧ Below w.heap.size w wr) := Lib.hid ⟨own_from HO.out HBA.out.size, HBA.out.trans (HBL.out.mono HBA.out.size)⟩
    go_wp2_with fail
    go_ret
    exact ⟨_, rfl, HF.out⟩
end Go.Proofs.YtliobahnekohmaaGreat
