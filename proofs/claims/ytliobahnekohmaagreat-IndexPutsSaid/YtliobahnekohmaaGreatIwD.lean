import Derived.Test.YtliobahnekohmaaGreatIwA
import Derived.Test.YtliobahnekohmaaGreatIwB
import Derived.Test.YtliobahnekohmaaGreatIxR
import Derived.Test.YtliobahnekohmaaGreatIxC
import Derived.Test.YtliobahnekohmaaGreatNumO
import Derived.Deep.Slices
import Derived.OpenShut
import Derived.ChangeOld
/-
  The law's fixed example.
-/
namespace Go.Proofs.YtliobahnekohmaaGreat
open Go.RowKit
def tA : ByteArray := ⟨#[97]⟩
def tX : ByteArray := ⟨#[120]⟩
def tY : ByteArray := ⟨#[121]⟩
def exL : List Ix.Ent := [⟨[(tA, tX)], 5, 0, 9⟩, ⟨[(tA, tY)], 7, 9, 3⟩]
def exQ (b1 b2 : Nat) (i : Nat) : EAt := if i = 0 then ⟨⟨[(tA, tX)], 5, 0, 9⟩, some ⟨b1, 0, none⟩, 1⟩ else ⟨⟨[(tA, tY)], 7, 9, 3⟩, some ⟨b2, 0, none⟩, 1⟩
theorem exL_q (b1 b2 : Nat) : entL (exQ b1 b2) 2 = exL := rfl
set_option maxRecDepth 100000 in
theorem ex_valid3 : Ix.valid exL 3 = 0 := by decide +kernel
set_option maxRecDepth 100000 in
theorem ex_valid1 : Ix.valid exL 1 = 0 := by decide +kernel
set_option maxRecDepth 100000 in
theorem ex_valid0 : Ix.valid exL 0 = 1 := by decide +kernel
set_option maxRecDepth 100000 in
theorem ex_put2 : (Ix.put 2 []).2 = 0 ∧ (Ix.put 2 []).1.size = 6 ∧ (Ix.put 2 []).1.extract 0 2 = ⟨#[0, 0]⟩ := by decide +kernel
set_option maxRecDepth 100000 in
theorem ex_syms : (Ix.syms exL).length = 3 := by decide +kernel
set_option maxRecDepth 100000 in
theorem ex_sel (b1 b2 : Nat) : Ma.sel (hasE (exQ b1 b2) (tA, tY)) 2 = [1] := by
 have h0 : hasE (exQ b1 b2) (tA, tY) 0 = false := by
  show Ix.hasN (La.at_ [(tA, tX)]) (tA, tY) 1 = false
  decide +kernel
 have h1 : hasE (exQ b1 b2) (tA, tY) 1 = true := by
  show Ix.hasN (La.at_ [(tA, tY)]) (tA, tY) 1 = true
  decide +kernel
 simp [Ma.sel, List.range_succ, h0, h1]
set_option maxRecDepth 100000 in
theorem ex_room : (Ix.put 3 exL).1.size ≤ maxLen := by decide +kernel
def exM (_ : Nat) : Mat := ⟨3, tA, ByteArray.empty⟩
set_option maxRecDepth 100000 in
theorem ex_ask (b1 b2 : Nat) : (Ma.sel (fun i => Ma.all exM 1 (La.at_ (exQ b1 b2 i).e.l) (exQ b1 b2 i).e.l.length) 2).length = 2 := by
 have h0 : Ma.all exM 1 (La.at_ (exQ b1 b2 0).e.l) (exQ b1 b2 0).e.l.length = true := by
  show Ma.all exM 1 (La.at_ [(tA, tX)]) 1 = true
  decide +kernel
 have h1 : Ma.all exM 1 (La.at_ (exQ b1 b2 1).e.l) (exQ b1 b2 1).e.l.length = true := by
  show Ma.all exM 1 (La.at_ [(tA, tY)]) 1 = true
  decide +kernel
 simp [Ma.sel, List.range_succ, h0, h1]
theorem ex_rl (w : World) (b : Nat) (x : Lab) (h : w.heap[b]? = some (.cells #[.string x.1, .string x.2] 37 (0, 0))) : LabRow w (some ⟨b, 0, none⟩) 1 (La.at_ [x]) := fun _ => ⟨⟨b, 0, none⟩, rfl, (Array.getElem?_eq_some_iff.1 h).1, fun i hi => by
 obtain rfl : i = 0 := by omega
 exact ⟨(cell_of_row _ _ 0 _ _ _ h), (cell_of_row _ _ 1 _ _ _ h)⟩⟩
theorem ex_one (w : World) (b : Nat) (x : Lab) (la of le : Int) (h : w.heap[b]? = some (.cells #[.string x.1, .string x.2] 37 (0, 0))) (hx : x.1.size ≤ 20000 ∧ x.2.size ≤ 20000) (h1 : -9223372036854775808 ≤ la ∧ la ≤ 9223372036854775807) (h2 : -9223372036854775808 ≤ of ∧ of ≤ 9223372036854775807) (h3 : -9223372036854775808 ≤ le ∧ le ≤ 9223372036854775807) : EIn w ⟨⟨[x], la, of, le⟩, some ⟨b, 0, none⟩, 1⟩ :=
 ⟨ex_rl w b x h, by show 1 ≤ 300; decide, fun j hj => by
  obtain rfl : j = 0 := by have h : j < 1 := hj; omega
  exact hx, h1, h2, h3⟩
theorem ex_in (w : World) (b1 b2 b3 : Nat) (h1 : w.heap[b1]? = some (.cells #[.string tA, .string tX] 37 (0, 0))) (h2 : w.heap[b2]? = some (.cells #[.string tA, .string tY] 37 (0, 0)))
 (h3 : w.heap[b3]? = some (.cells #[.slice (some ⟨b1, 0, none⟩) 1 1, .int .i64 5, .int .i64 0, .int .i64 9, .slice (some ⟨b2, 0, none⟩) 1 1, .int .i64 7, .int .i64 9, .int .i64 3] 59 (0, 0))) : EntsIn w (some ⟨b3, 0, none⟩) 2 (exQ b1 b2) := by
 refine ⟨fun _ => ⟨⟨b3, 0, none⟩, rfl, (Array.getElem?_eq_some_iff.1 h3).1, fun i hi j hj => ?_⟩, fun i hi => ?_, by decide⟩
 · rw [Addr.add_lit, Nat.zero_add, cell_of_row _ _ _ _ _ _ h3]
   rcases (show i = 0 ∨ i = 1 by omega) with rfl | rfl <;> rcases (show j = 0 ∨ j = 1 ∨ j = 2 ∨ j = 3 by omega) with rfl | rfl | rfl | rfl <;> rfl
 · rcases (show i = 0 ∨ i = 1 by omega) with rfl | rfl
   · exact ex_one w b1 (tA, tX) 5 0 9 h1 (by decide) (by decide) (by decide) (by decide)
   · exact ex_one w b2 (tA, tY) 7 9 3 h2 (by decide) (by decide) (by decide) (by decide)
theorem EntsIn.less {w : World} {A : Option Addr} {n k : Nat} {q : Nat → EAt} (h : EntsIn w A n q) (hk : k ≤ n) : EntsIn w A k q :=
 ⟨fun h0 => by
  obtain ⟨ad, e, hl, hc⟩ := h.row (by omega)
  exact ⟨ad, e, hl, fun i hi j hj => hc i (by omega) j hj⟩, fun i hi => h.each i (by omega), by have := h.len; omega⟩
theorem ex_len {w : World} {base n : Nat} {T : TypeId} {v : Value} {xs : List Value} (h : w.ownsRow base T 1 v n xs) : ∃ A c, v = .slice A n c := by
 rcases h.2 with ⟨e, h0⟩ | ⟨g, cap, cur, e, -, hg, -⟩
 · exact ⟨none, 0, by rw [e, h0]⟩
 · exact ⟨_, cap, e⟩
theorem ex_post {w : World} {base : Nat} {v : Value} (h : w.ownsRow base 3 1 v [1].length ([1].flatMap fun i : Nat => [Value.int .i64 (i : Int)])) : ∃ g c, v = .slice (some ⟨g, 0, none⟩) 1 c ∧ ∀ U, Below w.heap.size w U → U.cell? ⟨g, 0, none⟩ = some (.int .i64 1) := by
 rcases h.2 with ⟨e, h0⟩ | ⟨g, cap, cur, e, -, hg, -⟩
 · cases h0
 · refine ⟨g, cap, e, fun U hU => ?_⟩
   have h2 := row_far h hU
   rw [e] at h2
   exact World.ownsRow.cellAt h2 0 (by decide)
set_option maxRecDepth 100000 in
set_option maxHeartbeats 8000000 in
theorem works_any (w : World) : Calls Tryz.prog 9 #[] w fun e w' => e = .returned (.bool true) ∧ Below w.heap.size w w' := by
 obtain ⟨p0, p1, p2⟩ := ex_put2
 have HP0 := Lib.hid (Put_any none 0 0 none0 2 w (ents_none w))
 have e0 : entL none0 0 = [] := rfl
 rw [e0, p0] at HP0
 generalize (Ix.put 2 []).1 = a0 at *
 obtain ⟨t2, ht2⟩ : ∃ t2 : ByteArray, t2 = ⟨#[0, 0]⟩ := ⟨_, rfl⟩
 rw [← ht2] at p2
 have HTT := Lib.hid ht2
 clear ht2
 have hgp := Ix.get_put ex_valid3
 have HPUT := Lib.hid (Ix.put_ok ex_valid3)
 have hz0 : (Ix.put 3 exL).1.size ≤ maxLen := ex_room
 have he0 : (Ix.put 3 exL).2 = 0 := by rw [Ix.put_ok ex_valid3]
 have hpe : Ix.put 3 exL = ((Ix.put 3 exL).1, 0) := by rw [Ix.put_ok ex_valid3]
 obtain ⟨b, hb⟩ : ∃ b, b = (Ix.put 3 exL).1 := ⟨_, rfl⟩
 rw [← hb] at hgp hz0 hpe
 have he3 : Ix.put 3 exL = (b, 0) := hpe
 have HGE := Lib.hid (fun U => IGet_any b 3 hz0 U)
 rw [hgp] at HGE
 have HG9 := Lib.hid (fun U => IGet_any b 9 hz0 U)
 have hg9 : Ix.get 9 b = ([], 1) := rfl
 rw [hg9] at HG9
 clear hgp hg9 hz0 he0 p0 HPUT e0 hpe hb
 go_enter Tryz.func9, Tryz.ntmps9
 go_wp2_with fail
 refine HP0.out.mono ?_; rintro e w1 ⟨rfl, hb1⟩
 have HB1 := Lib.hid hb1
 clear hb1 HP0
 obtain ⟨w2, hw2⟩ : ∃ w2, w2 = w1.alloc (.cells #[.string tA, .string tX] 37) := ⟨_, rfl⟩
 obtain ⟨w3, hw3⟩ : ∃ w3, w3 = w2.alloc (.cells #[.string tA, .string tY] 37) := ⟨_, rfl⟩
 obtain ⟨w4, hw4⟩ : ∃ w4, w4 = w3.alloc (.cells #[.slice (some ⟨w1.heap.size, 0, none⟩) 1 1, .int .i64 5, .int .i64 0, .int .i64 9, .slice (some ⟨w1.heap.size + 1, 0, none⟩) 1 1, .int .i64 7, .int .i64 9, .int .i64 3] 59) := ⟨_, rfl⟩
 have z2 : w2.heap.size = w1.heap.size + 1 := by rw [hw2, World.size_alloc]
 have z3 : w3.heap.size = w1.heap.size + 2 := by rw [hw3, World.size_alloc, z2]
 have b2 : Below w1.heap.size w1 w2 := by rw [hw2]; exact (Below.refl _ _).alloc (Nat.le_refl _) _
 have b3 : Below w2.heap.size w2 w3 := by rw [hw3]; exact (Below.refl _ _).alloc (Nat.le_refl _) _
 have b4 : Below w3.heap.size w3 w4 := by rw [hw4]; exact (Below.refl _ _).alloc (Nat.le_refl _) _
 have k1 : w4.heap[w1.heap.size]? = some (.cells #[.string tA, .string tX] 37 (0, 0)) := heap_keep (heap_keep (by rw [hw2]; exact heap_alloc_new w1 _) b3) b4
 have k2 : w4.heap[w1.heap.size + 1]? = some (.cells #[.string tA, .string tY] 37 (0, 0)) := heap_keep (by rw [hw3, ← z2]; exact heap_alloc_new w2 _) b4
 have k3 : w4.heap[w1.heap.size + 2]? = some (.cells #[.slice (some ⟨w1.heap.size, 0, none⟩) 1 1, .int .i64 5, .int .i64 0, .int .i64 9, .slice (some ⟨w1.heap.size + 1, 0, none⟩) 1 1, .int .i64 7, .int .i64 9, .int .i64 3] 59 (0, 0)) := by rw [hw4, ← z3]; exact heap_alloc_new w3 _
 have HIN := Lib.hid (ex_in w4 _ _ _ k1 k2 k3)
 have HB4 := Lib.hid (below_step (below_step (below_step HB1.out b2) b3) b4)
 have hwa : w4 = ((w1.alloc (.cells #[.string ⟨#[97]⟩, .string ⟨#[120]⟩] 37)).alloc (.cells #[.string ⟨#[97]⟩, .string ⟨#[121]⟩] 37)).alloc (.cells #[.slice (some ⟨w1.heap.size, 0, none⟩) 1 1, .int .i64 5, .int .i64 0, .int .i64 9, .slice (some ⟨w1.heap.size + 1, 0, none⟩) 1 1, .int .i64 7, .int .i64 9, .int .i64 3] 59) := by rw [hw4, hw3, hw2]; rfl
 clear hw4 hw3 hw2 z2 z3 b2 b3 b4 k1 k2 k3
 go_upto_region 3 with fail
 rw [← hwa]
 clear hwa
 obtain ⟨lb, hlb⟩ : ∃ lb, lb = w1.heap.size + 1 + 1 := ⟨_, rfl⟩
 have hin : EntsIn w4 (some ⟨lb, 0, none⟩) 2 (exQ w1.heap.size (w1.heap.size + 1)) := by rw [hlb]; exact HIN.out
 have hql := exL_q w1.heap.size (w1.heap.size + 1)
 have hqs := ex_sel w1.heap.size (w1.heap.size + 1)
 have hqa := ex_ask w1.heap.size (w1.heap.size + 1)
 rw [← hlb]
 clear HIN hlb
 generalize exQ w1.heap.size (w1.heap.size + 1) = q at *
 have HI4 := Lib.hid hin; have HQL := Lib.hid hql; have HQS := Lib.hid hqs; have HQA := Lib.hid hqa
 have hcp := Put_any (some ⟨lb, 0, none⟩) 2 2 q 3 w4 hin
 rw [hql, he3] at hcp
 have HCP := Lib.hid hcp
 clear hin hql hqs hqa hcp he3
 go_wp2_with fail
 refine HCP.out.mono ?_; rintro e w5 ⟨rfl, hb5⟩
 have HI5 := Lib.hid (HI4.out.later hb5); have HB5 := Lib.hid (below_step HB4.out hb5)
 clear hb5 HCP HI4 HB4
 go_wp2_with fail
 refine (HGE.out w5).mono ?_; rintro e w6 ⟨C, cc, p, rfl, hin6, hel6, hb6⟩
 have HI6 := Lib.hid (HI5.out.later hb6); have HB6 := Lib.hid (below_step HB5.out hb6); have HJ6 := Lib.hid hin6; have HPL6 := Lib.hid hel6
 clear hb6 hin6 hel6 HI5 HB5 HGE
 generalize hln : exL.length = ln at *
 have HLN := Lib.hid hln
 clear hln
 go_wp2_with fail
 refine (HG9.out w6).mono ?_; rintro e w7 ⟨D, dd, r, rfl, -, -, hb7⟩
 have HI7 := Lib.hid (HI6.out.later hb7); have HB7 := Lib.hid (below_step HB6.out hb7); have HJ7 := Lib.hid (HJ6.out.later hb7)
 clear hb7 HI6 HB6 HJ6 HG9
 have HPO := Lib.hid (Postings_any (some ⟨lb, 0, none⟩) 2 2 q (tA, tY) w7 HI7.out)
 rw [HQS.out] at HPO
 unfold tA tY at HPO
 go_wp2_with fail
 refine HPO.out.mono ?_; rintro e w8 ⟨v8, rfl, ho8, hb8⟩
 have HI8 := Lib.hid (HI7.out.later hb8); have HB8 := Lib.hid (below_step HB7.out hb8); have HJ8 := Lib.hid (HJ7.out.later hb8)
 obtain ⟨P8, c8, hv8, hc8⟩ := ex_post ho8
 subst hv8
 clear ho8 hb8 HI7 HB7 HJ7 HPO HQS
 obtain ⟨w9, hw9⟩ : ∃ w9, w9 = w8.alloc (.cells #[.int .i64 3, .string tA, .string ByteArray.empty] 55) := ⟨_, rfl⟩
 have hb9 : Below w8.heap.size w8 w9 := by rw [hw9]; exact (Below.refl _ _).alloc (Nat.le_refl _) _
 have hm9 : Row 3 (mx exM) w9 (some ⟨w8.heap.size, 0, none⟩) 1 := by
  rw [hw9]
  exact row_built 3 _ w8 _ _ (fun j hj => by rcases (show j = 0 ∨ j = 1 ∨ j = 2 by omega) with rfl | rfl | rfl <;> rfl)
 have HI9 := Lib.hid (HI8.out.later hb9); have HB9 := Lib.hid (below_step HB8.out hb9); have HJ9 := Lib.hid (HJ8.out.later hb9)
 have hc9 : w9.cell? ⟨P8, 0, none⟩ = some (.int .i64 1) := hc8 w9 hb9
 have HC9 := Lib.hid (fun (U : World) (hU : Below w8.heap.size w8 U) => hc8 U hU)
 have HAS := Lib.hid (Ask_any (some ⟨lb, 0, none⟩) 2 2 q (some ⟨w8.heap.size, 0, none⟩) 1 1 (by decide) exM w9 HI9.out hm9)
 have HB89 := Lib.hid hb9
 clear hm9 hb9 hc9 hc8 HI8 HB8 HJ8
 have hw9b : w9 = w8.alloc (.cells #[.int .i64 3, .string ⟨#[97]⟩, .string ⟨#[]⟩] 55) := by rw [hw9]; rfl
 clear hw9
 go_wp2_with fail
 rw [← hw9b]
 clear hw9b
 refine HAS.out.mono ?_; rintro e w10 ⟨v10, rfl, ho10, hb10⟩
 rw [HQA.out] at ho10
 obtain ⟨P10, c10, hv10⟩ := ex_len ho10
 subst hv10
 have HI10 := Lib.hid (HI9.out.later hb10); have HB10 := Lib.hid (below_step HB9.out hb10); have HJ10 := Lib.hid (HJ9.out.later hb10); have HB810 := Lib.hid (below_step HB89.out hb10)
 clear ho10 hb10 HI9 HB9 HJ9 HAS HB89 HQA
 have hsy := Symbols_any (some ⟨lb, 0, none⟩) 2 2 q w10 HI10.out
 rw [HQL.out, ex_syms] at hsy
 have HSY := Lib.hid hsy
 clear hsy
 go_wp2_with fail
 refine HSY.out.mono ?_; rintro e w11 ⟨P11, c11, rfl, -, hb11⟩
 have HI11 := Lib.hid (HI10.out.later hb11); have HB11 := Lib.hid (below_step HB10.out hb11); have HJ11 := Lib.hid (HJ10.out.later hb11)
 have HB811 := Lib.hid (below_step HB810.out hb11)
 clear hb11 HSY HI10 HB10 HJ10 HB810
 have HSA : Hid (∀ U, Below w11.heap.size w11 U → Calls Tryz.prog 17 #[.slice (some ⟨lb, 0, none⟩) 2 2, .slice C ln cc] U fun e w' => e = .returned (.bool true) ∧ Below U.heap.size U w') := Lib.hid (fun U hU => by
  have hj := HJ11.out.later hU
  refine (ISame_any _ _ _ _ _ _ q p U (HI11.out.later hU) hj).mono ?_
  rintro e w' ⟨r, rfl, hr, hb⟩
  have : r = true := hr.2 (by rw [HPL6.out]; exact HQL.out)
  subst this
  exact ⟨rfl, hb⟩)
 have HSB : Hid (∀ U, Below w11.heap.size w11 U → Calls Tryz.prog 17 #[.slice (some ⟨lb, 0, none⟩) 2 2, .slice (some ⟨lb, 0, none⟩) 1 2] U fun e w' => e = .returned (.bool false) ∧ Below U.heap.size U w') := Lib.hid (fun U hU => by
  have hi := HI11.out.later hU
  refine (ISame_any _ _ _ _ _ _ q q U hi (hi.less (by decide))).mono ?_
  rintro e w' ⟨r, rfl, hr, hb⟩
  cases r with
  | false => exact ⟨rfl, hb⟩
  | true => have h6 := congrArg List.length (hr.1 rfl); rw [entL_length, entL_length] at h6; omega)
 have HV1 : Hid (∀ U, Below w11.heap.size w11 U → Calls Tryz.prog 16 #[.slice (some ⟨lb, 0, none⟩) 2 2, .int .i64 1] U fun e w' => e = .returned (.int .i64 0) ∧ Below U.heap.size U w') := Lib.hid (fun U hU => by
  have h := Valid_any _ 2 2 q 1 U (HI11.out.later hU)
  rw [HQL.out, ex_valid1] at h
  exact h)
 have HV0 : Hid (∀ U, Below w11.heap.size w11 U → Calls Tryz.prog 16 #[.slice (some ⟨lb, 0, none⟩) 2 2, .int .i64 0] U fun e w' => e = .returned (.int .i64 1) ∧ Below U.heap.size U w') := Lib.hid (fun U hU => by
  have h := Valid_any _ 2 2 q 0 U (HI11.out.later hU)
  rw [HQL.out, ex_valid0] at h
  exact h)
 have HC11 : Hid (∀ U, Below w11.heap.size w11 U → U.cell? ⟨P8, 0, none⟩ = some (.int .i64 1)) := Lib.hid (fun U hU => HC9.out U ((HB811.out).trans (hU.mono HB811.out.size)))
 have HT2 : Hid (∀ U b, U.heap[b]? = some (.cells #[.int .u8 0, .int .u8 0] 5 (0, 0)) → (convert 63 9 (.slice (some ⟨b, 0, none⟩) 2 2)).run Tryz.prog U = .ok (.string t2) U) := Lib.hid (fun U b h => by
  rw [HTT.out]
  exact arr_take U b 63 5 9 5 [0, 0] Tryz.underlying63 Tryz.underlying5 Tryz.underlying9 h 2 2 (by decide))
 clear HI11 HJ11 HC9 HB811 HQL HPL6 HLN
 go_wp2_with fail
 refine plain_robJ [(0, some 48), (1, some 49), (2, some 50), (3, some 51), (4, some 52), (5, some 53), (6, some 54), (7, some 55), (8, some 56), (9, some 57), (10, some 58), (11, some 59), (12, some 60), (13, some 61), (14, some 62), (15, some 63), (16, some 64), (17, some 65), (18, some 66), (19, some 67), (20, some 68), (21, some 69), (22, some 70), (23, some 71), (24, some 72), (25, some 73), (26, some 74), (27, some 75), (28, some 76), (29, some 77), (30, some 78), (31, some 79), (32, some 80), (33, some 81), (34, some 82), (35, some 83), (36, some 84), (37, some 85), (38, some 86), (39, some 87), (40, some 88), (41, some 89), (42, some 90), (43, some 91), (44, some 92), (45, some 93), (46, some 94), (47, some 95), (48, some 96), (49, some 97), (50, some 98), (51, some 99), (52, some 100), (53, some 101), (54, some 102), (55, some 103), (56, some 104), (57, some 105), (58, some 106), (59, some 107), (60, some 108), (61, some 109), (62, some 110), (63, some 111), (64, some 112), (65, some 113), (66, some 114), (67, some 115), (68, some 116), (69, some 0)] [] (fun U V => Below U.heap.size U V) (fun U => Below w11.heap.size w11 U) [(0, .int .i64 0), (1, .bool true), (2, .bool true), (3, .string a0), (4, .int .i64 6), (5, .bool true), (6, .bool true), (7, .bool true), (8, .string a0), (9, .string t2), (11, .string t2), (12, .bool true), (13, .bool true), (14, .bool true), (15, .int .i64 0), (16, .bool true), (17, .bool true), (18, .bool true), (19, .int .i64 0), (20, .bool true), (21, .bool true), (22, .bool true), (23, .int .i64 1), (24, .bool true), (25, .bool true), (26, .bool true), (27, .slice (some ⟨lb, 0, none⟩) 2 2), (28, .slice C ln cc), (29, .bool true), (30, .bool true), (31, .bool true), (32, .slice (some ⟨lb, 0, none⟩) 2 2), (33, .slice (some ⟨lb, 0, none⟩) 2 2), (34, .slice (some ⟨lb, 0, none⟩) 1 2), (35, .bool false), (36, .bool true), (37, .bool true), (38, .bool true), (39, .slice (some ⟨P8, 0, none⟩) 1 c8), (40, .int .i64 1), (41, .bool true), (42, .bool true), (43, .bool true), (44, .slice (some ⟨P8, 0, none⟩) 1 c8), (45, .pointer (some ⟨P8, 0, none⟩)), (46, .int .i64 1), (47, .bool true), (48, .bool true), (49, .bool true), (50, .slice P10 2 c10), (51, .int .i64 2), (52, .bool true), (53, .bool true), (54, .bool true), (55, .slice P11 3 c11), (56, .int .i64 3), (57, .bool true), (58, .bool true), (59, .bool true), (60, .slice (some ⟨lb, 0, none⟩) 2 2), (61, .int .i64 0), (62, .bool true), (63, .bool true), (64, .bool true), (65, .slice (some ⟨lb, 0, none⟩) 2 2), (66, .int .i64 1), (67, .bool true), (68, .bool true), (69, .bool true)] [(10, (fun x W => ∃ b, x = .slice (some ⟨b, 0, none⟩) 2 2 ∧ W.heap[b]? = some (.cells #[.int .u8 0, .int .u8 0] 5 (0, 0)) : Value → World → Prop))] 0 (by kernel_rfl) (by kernel_rfl) (by kernel_rfl) ((Below.refl _ _).drew) (fun U V h hb => h.trans (hb.mono h.size)) ?_ ?_ ?_
 · intro p hp
   simp only [List.mem_cons, List.not_mem_nil, or_false] at hp
   subst hp
   exact fun x U V h hb => by obtain ⟨b, e, hc⟩ := h; exact ⟨b, e, heap_keep hc hb⟩
 · refine ⟨⟨_, rfl, fun ν U hU hp => ?_⟩, ?_⟩
   · simp only [putsν, Act.put, List.setIfInBounds_toArray, List.set_cons_zero, List.set_cons_succ]
     exact Yld.value (.int .i64 0) U (by kernel_rfl) (by go_simp) ⟨Below.refl _ _, Fx.fixed rfl rfl⟩
   refine ⟨⟨_, rfl, fun ν U hU hp => ?_⟩, ?_⟩
   · simp only [putsν, Act.put, List.setIfInBounds_toArray, List.set_cons_zero, List.set_cons_succ]
     have e0 := (hp 0 (by kernel_rfl) (by kernel_rfl)).val _ rfl
     simp only [e0]
     exact Yld.value (.bool true) U (by kernel_rfl) (by go_simp) ⟨Below.refl _ _, Fx.fixed rfl rfl⟩
   refine ⟨⟨_, rfl, fun ν U hU hp => ?_⟩, ?_⟩
   · simp only [putsν, Act.put, List.setIfInBounds_toArray, List.set_cons_zero, List.set_cons_succ]
     have e1 := (hp 1 (by kernel_rfl) (by kernel_rfl)).val _ rfl
     simp only [e1]
     exact Yld.value (.bool true) U (by kernel_rfl) (by go_simp) ⟨Below.refl _ _, Fx.fixed rfl rfl⟩
   refine ⟨⟨_, rfl, fun ν U hU hp => ?_⟩, ?_⟩
   · simp only [putsν, Act.put, List.setIfInBounds_toArray, List.set_cons_zero, List.set_cons_succ]
     have e2 := (hp 2 (by kernel_rfl) (by kernel_rfl)).val _ rfl
     simp only [e2]
     exact Yld.value (.string a0) U (by kernel_rfl) (by go_simp) ⟨Below.refl _ _, Fx.fixed rfl rfl⟩
   refine ⟨⟨_, rfl, fun ν U hU hp => ?_⟩, ?_⟩
   · simp only [putsν, Act.put, List.setIfInBounds_toArray, List.set_cons_zero, List.set_cons_succ]
     have e2 := (hp 2 (by kernel_rfl) (by kernel_rfl)).val _ rfl
     have e3 := (hp 3 (by kernel_rfl) (by kernel_rfl)).val _ rfl
     simp only [e2, e3]
     exact Yld.value (.int .i64 6) U (by kernel_rfl) (by go_simp) ⟨Below.refl _ _, Fx.fixed rfl rfl⟩
   refine ⟨⟨_, rfl, fun ν U hU hp => ?_⟩, ?_⟩
   · simp only [putsν, Act.put, List.setIfInBounds_toArray, List.set_cons_zero, List.set_cons_succ]
     have e2 := (hp 2 (by kernel_rfl) (by kernel_rfl)).val _ rfl
     have e4 := (hp 4 (by kernel_rfl) (by kernel_rfl)).val _ rfl
     simp only [e2, e4]
     exact Yld.value (.bool true) U (by kernel_rfl) (by go_simp) ⟨Below.refl _ _, Fx.fixed rfl rfl⟩
   refine ⟨⟨_, rfl, fun ν U hU hp => ?_⟩, ?_⟩
   · simp only [putsν, Act.put, List.setIfInBounds_toArray, List.set_cons_zero, List.set_cons_succ]
     have e2 := (hp 2 (by kernel_rfl) (by kernel_rfl)).val _ rfl
     have e5 := (hp 5 (by kernel_rfl) (by kernel_rfl)).val _ rfl
     simp only [e2, e5]
     exact Yld.value (.bool true) U (by kernel_rfl) (by go_simp) ⟨Below.refl _ _, Fx.fixed rfl rfl⟩
   refine ⟨⟨_, rfl, fun ν U hU hp => ?_⟩, ?_⟩
   · simp only [putsν, Act.put, List.setIfInBounds_toArray, List.set_cons_zero, List.set_cons_succ]
     have e6 := (hp 6 (by kernel_rfl) (by kernel_rfl)).val _ rfl
     simp only [e6]
     exact Yld.value (.bool true) U (by kernel_rfl) (by go_simp) ⟨Below.refl _ _, Fx.fixed rfl rfl⟩
   refine ⟨⟨_, rfl, fun ν U hU hp => ?_⟩, ?_⟩
   · simp only [putsν, Act.put, List.setIfInBounds_toArray, List.set_cons_zero, List.set_cons_succ]
     have e7 := (hp 7 (by kernel_rfl) (by kernel_rfl)).val _ rfl
     simp only [e7]
     exact Yld.value (.string a0) U (by kernel_rfl) (by go_simp) ⟨Below.refl _ _, Fx.fixed rfl rfl⟩
   refine ⟨⟨_, rfl, fun ν U hU hp => ?_⟩, ?_⟩
   · simp only [putsν, Act.put, List.setIfInBounds_toArray, List.set_cons_zero, List.set_cons_succ]
     have e7 := (hp 7 (by kernel_rfl) (by kernel_rfl)).val _ rfl
     have e8 := (hp 8 (by kernel_rfl) (by kernel_rfl)).val _ rfl
     simp only [e7, e8]
     exact Yld.value (.string t2) U (by kernel_rfl) (by go_simp) ⟨Below.refl _ _, Fx.fixed rfl rfl⟩
   refine ⟨⟨_, rfl, fun ν U hU hp => ?_⟩, ?_⟩
   · simp only [putsν, Act.put, List.setIfInBounds_toArray, List.set_cons_zero, List.set_cons_succ]
     have e7 := (hp 7 (by kernel_rfl) (by kernel_rfl)).val _ rfl
     simp only [e7]
     exact Yld.value (.slice (some ⟨U.heap.size, 0, none⟩) 2 2) _ (by kernel_rfl) (by go_simp) ⟨(Below.refl _ _).alloc (Nat.le_refl _) _, Fx.some_ rfl rfl ⟨_, rfl, heap_alloc_new U _⟩⟩
   refine ⟨⟨_, rfl, fun ν U hU hp => ?_⟩, ?_⟩
   · simp only [putsν, Act.put, List.setIfInBounds_toArray, List.set_cons_zero, List.set_cons_succ]
     have e7 := (hp 7 (by kernel_rfl) (by kernel_rfl)).val _ rfl
     have c10 := (hp 10 (by kernel_rfl) (by kernel_rfl)).is _ rfl
     simp only [e7]
     exact Yld.value (.string t2) U (by kernel_rfl) (by obtain ⟨bb, hbb, hc⟩ := c10; have h0 := HT2.out U bb hc; simp only [hbb]; go_simp) ⟨Below.refl _ _, Fx.fixed rfl rfl⟩
   refine ⟨⟨_, rfl, fun ν U hU hp => ?_⟩, ?_⟩
   · simp only [putsν, Act.put, List.setIfInBounds_toArray, List.set_cons_zero, List.set_cons_succ]
     have e7 := (hp 7 (by kernel_rfl) (by kernel_rfl)).val _ rfl
     have e9 := (hp 9 (by kernel_rfl) (by kernel_rfl)).val _ rfl
     have e11 := (hp 11 (by kernel_rfl) (by kernel_rfl)).val _ rfl
     simp only [e7, e9, e11]
     exact Yld.value (.bool true) U (by kernel_rfl) (by go_simp) ⟨Below.refl _ _, Fx.fixed rfl rfl⟩
   refine ⟨⟨_, rfl, fun ν U hU hp => ?_⟩, ?_⟩
   · simp only [putsν, Act.put, List.setIfInBounds_toArray, List.set_cons_zero, List.set_cons_succ]
     have e7 := (hp 7 (by kernel_rfl) (by kernel_rfl)).val _ rfl
     have e12 := (hp 12 (by kernel_rfl) (by kernel_rfl)).val _ rfl
     simp only [e7, e12]
     exact Yld.value (.bool true) U (by kernel_rfl) (by go_simp) ⟨Below.refl _ _, Fx.fixed rfl rfl⟩
   refine ⟨⟨_, rfl, fun ν U hU hp => ?_⟩, ?_⟩
   · simp only [putsν, Act.put, List.setIfInBounds_toArray, List.set_cons_zero, List.set_cons_succ]
     have e13 := (hp 13 (by kernel_rfl) (by kernel_rfl)).val _ rfl
     simp only [e13]
     exact Yld.value (.bool true) U (by kernel_rfl) (by go_simp) ⟨Below.refl _ _, Fx.fixed rfl rfl⟩
   refine ⟨⟨_, rfl, fun ν U hU hp => ?_⟩, ?_⟩
   · simp only [putsν, Act.put, List.setIfInBounds_toArray, List.set_cons_zero, List.set_cons_succ]
     have e14 := (hp 14 (by kernel_rfl) (by kernel_rfl)).val _ rfl
     simp only [e14]
     exact Yld.value (.int .i64 0) U (by kernel_rfl) (by go_simp) ⟨Below.refl _ _, Fx.fixed rfl rfl⟩
   refine ⟨⟨_, rfl, fun ν U hU hp => ?_⟩, ?_⟩
   · simp only [putsν, Act.put, List.setIfInBounds_toArray, List.set_cons_zero, List.set_cons_succ]
     have e14 := (hp 14 (by kernel_rfl) (by kernel_rfl)).val _ rfl
     have e15 := (hp 15 (by kernel_rfl) (by kernel_rfl)).val _ rfl
     simp only [e14, e15]
     exact Yld.value (.bool true) U (by kernel_rfl) (by go_simp) ⟨Below.refl _ _, Fx.fixed rfl rfl⟩
   refine ⟨⟨_, rfl, fun ν U hU hp => ?_⟩, ?_⟩
   · simp only [putsν, Act.put, List.setIfInBounds_toArray, List.set_cons_zero, List.set_cons_succ]
     have e14 := (hp 14 (by kernel_rfl) (by kernel_rfl)).val _ rfl
     have e16 := (hp 16 (by kernel_rfl) (by kernel_rfl)).val _ rfl
     simp only [e14, e16]
     exact Yld.value (.bool true) U (by kernel_rfl) (by go_simp) ⟨Below.refl _ _, Fx.fixed rfl rfl⟩
   refine ⟨⟨_, rfl, fun ν U hU hp => ?_⟩, ?_⟩
   · simp only [putsν, Act.put, List.setIfInBounds_toArray, List.set_cons_zero, List.set_cons_succ]
     have e17 := (hp 17 (by kernel_rfl) (by kernel_rfl)).val _ rfl
     simp only [e17]
     exact Yld.value (.bool true) U (by kernel_rfl) (by go_simp) ⟨Below.refl _ _, Fx.fixed rfl rfl⟩
   refine ⟨⟨_, rfl, fun ν U hU hp => ?_⟩, ?_⟩
   · simp only [putsν, Act.put, List.setIfInBounds_toArray, List.set_cons_zero, List.set_cons_succ]
     have e18 := (hp 18 (by kernel_rfl) (by kernel_rfl)).val _ rfl
     simp only [e18]
     exact Yld.value (.int .i64 0) U (by kernel_rfl) (by go_simp) ⟨Below.refl _ _, Fx.fixed rfl rfl⟩
   refine ⟨⟨_, rfl, fun ν U hU hp => ?_⟩, ?_⟩
   · simp only [putsν, Act.put, List.setIfInBounds_toArray, List.set_cons_zero, List.set_cons_succ]
     have e18 := (hp 18 (by kernel_rfl) (by kernel_rfl)).val _ rfl
     have e19 := (hp 19 (by kernel_rfl) (by kernel_rfl)).val _ rfl
     simp only [e18, e19]
     exact Yld.value (.bool true) U (by kernel_rfl) (by go_simp) ⟨Below.refl _ _, Fx.fixed rfl rfl⟩
   refine ⟨⟨_, rfl, fun ν U hU hp => ?_⟩, ?_⟩
   · simp only [putsν, Act.put, List.setIfInBounds_toArray, List.set_cons_zero, List.set_cons_succ]
     have e18 := (hp 18 (by kernel_rfl) (by kernel_rfl)).val _ rfl
     have e20 := (hp 20 (by kernel_rfl) (by kernel_rfl)).val _ rfl
     simp only [e18, e20]
     exact Yld.value (.bool true) U (by kernel_rfl) (by go_simp) ⟨Below.refl _ _, Fx.fixed rfl rfl⟩
   refine ⟨⟨_, rfl, fun ν U hU hp => ?_⟩, ?_⟩
   · simp only [putsν, Act.put, List.setIfInBounds_toArray, List.set_cons_zero, List.set_cons_succ]
     have e21 := (hp 21 (by kernel_rfl) (by kernel_rfl)).val _ rfl
     simp only [e21]
     exact Yld.value (.bool true) U (by kernel_rfl) (by go_simp) ⟨Below.refl _ _, Fx.fixed rfl rfl⟩
   refine ⟨⟨_, rfl, fun ν U hU hp => ?_⟩, ?_⟩
   · simp only [putsν, Act.put, List.setIfInBounds_toArray, List.set_cons_zero, List.set_cons_succ]
     have e22 := (hp 22 (by kernel_rfl) (by kernel_rfl)).val _ rfl
     simp only [e22]
     exact Yld.value (.int .i64 1) U (by kernel_rfl) (by go_simp) ⟨Below.refl _ _, Fx.fixed rfl rfl⟩
   refine ⟨⟨_, rfl, fun ν U hU hp => ?_⟩, ?_⟩
   · simp only [putsν, Act.put, List.setIfInBounds_toArray, List.set_cons_zero, List.set_cons_succ]
     have e22 := (hp 22 (by kernel_rfl) (by kernel_rfl)).val _ rfl
     have e23 := (hp 23 (by kernel_rfl) (by kernel_rfl)).val _ rfl
     simp only [e22, e23]
     exact Yld.value (.bool true) U (by kernel_rfl) (by go_simp) ⟨Below.refl _ _, Fx.fixed rfl rfl⟩
   refine ⟨⟨_, rfl, fun ν U hU hp => ?_⟩, ?_⟩
   · simp only [putsν, Act.put, List.setIfInBounds_toArray, List.set_cons_zero, List.set_cons_succ]
     have e22 := (hp 22 (by kernel_rfl) (by kernel_rfl)).val _ rfl
     have e24 := (hp 24 (by kernel_rfl) (by kernel_rfl)).val _ rfl
     simp only [e22, e24]
     exact Yld.value (.bool true) U (by kernel_rfl) (by go_simp) ⟨Below.refl _ _, Fx.fixed rfl rfl⟩
   refine ⟨⟨_, rfl, fun ν U hU hp => ?_⟩, ?_⟩
   · simp only [putsν, Act.put, List.setIfInBounds_toArray, List.set_cons_zero, List.set_cons_succ]
     have e25 := (hp 25 (by kernel_rfl) (by kernel_rfl)).val _ rfl
     simp only [e25]
     exact Yld.value (.bool true) U (by kernel_rfl) (by go_simp) ⟨Below.refl _ _, Fx.fixed rfl rfl⟩
   refine ⟨⟨_, rfl, fun ν U hU hp => ?_⟩, ?_⟩
   · simp only [putsν, Act.put, List.setIfInBounds_toArray, List.set_cons_zero, List.set_cons_succ]
     have e26 := (hp 26 (by kernel_rfl) (by kernel_rfl)).val _ rfl
     simp only [e26]
     exact Yld.value (.slice (some ⟨lb, 0, none⟩) 2 2) U (by kernel_rfl) (by go_simp) ⟨Below.refl _ _, Fx.fixed rfl rfl⟩
   refine ⟨⟨_, rfl, fun ν U hU hp => ?_⟩, ?_⟩
   · simp only [putsν, Act.put, List.setIfInBounds_toArray, List.set_cons_zero, List.set_cons_succ]
     have e26 := (hp 26 (by kernel_rfl) (by kernel_rfl)).val _ rfl
     simp only [e26]
     exact Yld.value (.slice C ln cc) U (by kernel_rfl) (by go_simp) ⟨Below.refl _ _, Fx.fixed rfl rfl⟩
   refine ⟨⟨_, rfl, fun ν U hU hp => ?_⟩, ?_⟩
   · simp only [putsν, Act.put, List.setIfInBounds_toArray, List.set_cons_zero, List.set_cons_succ]
     have e26 := (hp 26 (by kernel_rfl) (by kernel_rfl)).val _ rfl
     have e27 := (hp 27 (by kernel_rfl) (by kernel_rfl)).val _ rfl
     have e28 := (hp 28 (by kernel_rfl) (by kernel_rfl)).val _ rfl
     simp only [e26, e27, e28]
     refine Yld.call 17 #[.slice (some ⟨lb, 0, none⟩) 2 2, .slice C ln cc] (by kernel_rfl) (by go_simp) ?_
     have hcall := HSA.out U hU
     refine hcall.mono ?_
     rintro e V ⟨rfl, hb⟩; exact ⟨_, rfl, hb, Fx.fixed rfl rfl⟩
   refine ⟨⟨_, rfl, fun ν U hU hp => ?_⟩, ?_⟩
   · simp only [putsν, Act.put, List.setIfInBounds_toArray, List.set_cons_zero, List.set_cons_succ]
     have e26 := (hp 26 (by kernel_rfl) (by kernel_rfl)).val _ rfl
     have e29 := (hp 29 (by kernel_rfl) (by kernel_rfl)).val _ rfl
     simp only [e26, e29]
     exact Yld.value (.bool true) U (by kernel_rfl) (by go_simp) ⟨Below.refl _ _, Fx.fixed rfl rfl⟩
   refine ⟨⟨_, rfl, fun ν U hU hp => ?_⟩, ?_⟩
   · simp only [putsν, Act.put, List.setIfInBounds_toArray, List.set_cons_zero, List.set_cons_succ]
     have e30 := (hp 30 (by kernel_rfl) (by kernel_rfl)).val _ rfl
     simp only [e30]
     exact Yld.value (.bool true) U (by kernel_rfl) (by go_simp) ⟨Below.refl _ _, Fx.fixed rfl rfl⟩
   refine ⟨⟨_, rfl, fun ν U hU hp => ?_⟩, ?_⟩
   · simp only [putsν, Act.put, List.setIfInBounds_toArray, List.set_cons_zero, List.set_cons_succ]
     have e31 := (hp 31 (by kernel_rfl) (by kernel_rfl)).val _ rfl
     simp only [e31]
     exact Yld.value (.slice (some ⟨lb, 0, none⟩) 2 2) U (by kernel_rfl) (by go_simp) ⟨Below.refl _ _, Fx.fixed rfl rfl⟩
   refine ⟨⟨_, rfl, fun ν U hU hp => ?_⟩, ?_⟩
   · simp only [putsν, Act.put, List.setIfInBounds_toArray, List.set_cons_zero, List.set_cons_succ]
     have e31 := (hp 31 (by kernel_rfl) (by kernel_rfl)).val _ rfl
     simp only [e31]
     exact Yld.value (.slice (some ⟨lb, 0, none⟩) 2 2) U (by kernel_rfl) (by go_simp) ⟨Below.refl _ _, Fx.fixed rfl rfl⟩
   refine ⟨⟨_, rfl, fun ν U hU hp => ?_⟩, ?_⟩
   · simp only [putsν, Act.put, List.setIfInBounds_toArray, List.set_cons_zero, List.set_cons_succ]
     have e31 := (hp 31 (by kernel_rfl) (by kernel_rfl)).val _ rfl
     have e33 := (hp 33 (by kernel_rfl) (by kernel_rfl)).val _ rfl
     simp only [e31, e33]
     exact Yld.value (.slice (some ⟨lb, 0, none⟩) 1 2) U (by kernel_rfl) (by go_simp) ⟨Below.refl _ _, Fx.fixed rfl rfl⟩
   refine ⟨⟨_, rfl, fun ν U hU hp => ?_⟩, ?_⟩
   · simp only [putsν, Act.put, List.setIfInBounds_toArray, List.set_cons_zero, List.set_cons_succ]
     have e31 := (hp 31 (by kernel_rfl) (by kernel_rfl)).val _ rfl
     have e32 := (hp 32 (by kernel_rfl) (by kernel_rfl)).val _ rfl
     have e34 := (hp 34 (by kernel_rfl) (by kernel_rfl)).val _ rfl
     simp only [e31, e32, e34]
     refine Yld.call 17 #[.slice (some ⟨lb, 0, none⟩) 2 2, .slice (some ⟨lb, 0, none⟩) 1 2] (by kernel_rfl) (by go_simp) ?_
     have hcall := HSB.out U hU
     refine hcall.mono ?_
     rintro e V ⟨rfl, hb⟩; exact ⟨_, rfl, hb, Fx.fixed rfl rfl⟩
   refine ⟨⟨_, rfl, fun ν U hU hp => ?_⟩, ?_⟩
   · simp only [putsν, Act.put, List.setIfInBounds_toArray, List.set_cons_zero, List.set_cons_succ]
     have e31 := (hp 31 (by kernel_rfl) (by kernel_rfl)).val _ rfl
     have e35 := (hp 35 (by kernel_rfl) (by kernel_rfl)).val _ rfl
     simp only [e31, e35]
     exact Yld.value (.bool true) U (by kernel_rfl) (by go_simp) ⟨Below.refl _ _, Fx.fixed rfl rfl⟩
   refine ⟨⟨_, rfl, fun ν U hU hp => ?_⟩, ?_⟩
   · simp only [putsν, Act.put, List.setIfInBounds_toArray, List.set_cons_zero, List.set_cons_succ]
     have e31 := (hp 31 (by kernel_rfl) (by kernel_rfl)).val _ rfl
     have e36 := (hp 36 (by kernel_rfl) (by kernel_rfl)).val _ rfl
     simp only [e31, e36]
     exact Yld.value (.bool true) U (by kernel_rfl) (by go_simp) ⟨Below.refl _ _, Fx.fixed rfl rfl⟩
   refine ⟨⟨_, rfl, fun ν U hU hp => ?_⟩, ?_⟩
   · simp only [putsν, Act.put, List.setIfInBounds_toArray, List.set_cons_zero, List.set_cons_succ]
     have e37 := (hp 37 (by kernel_rfl) (by kernel_rfl)).val _ rfl
     simp only [e37]
     exact Yld.value (.bool true) U (by kernel_rfl) (by go_simp) ⟨Below.refl _ _, Fx.fixed rfl rfl⟩
   refine ⟨⟨_, rfl, fun ν U hU hp => ?_⟩, ?_⟩
   · simp only [putsν, Act.put, List.setIfInBounds_toArray, List.set_cons_zero, List.set_cons_succ]
     have e38 := (hp 38 (by kernel_rfl) (by kernel_rfl)).val _ rfl
     simp only [e38]
     exact Yld.value (.slice (some ⟨P8, 0, none⟩) 1 c8) U (by kernel_rfl) (by go_simp) ⟨Below.refl _ _, Fx.fixed rfl rfl⟩
   refine ⟨⟨_, rfl, fun ν U hU hp => ?_⟩, ?_⟩
   · simp only [putsν, Act.put, List.setIfInBounds_toArray, List.set_cons_zero, List.set_cons_succ]
     have e38 := (hp 38 (by kernel_rfl) (by kernel_rfl)).val _ rfl
     have e39 := (hp 39 (by kernel_rfl) (by kernel_rfl)).val _ rfl
     simp only [e38, e39]
     exact Yld.value (.int .i64 1) U (by kernel_rfl) (by go_simp) ⟨Below.refl _ _, Fx.fixed rfl rfl⟩
   refine ⟨⟨_, rfl, fun ν U hU hp => ?_⟩, ?_⟩
   · simp only [putsν, Act.put, List.setIfInBounds_toArray, List.set_cons_zero, List.set_cons_succ]
     have e38 := (hp 38 (by kernel_rfl) (by kernel_rfl)).val _ rfl
     have e40 := (hp 40 (by kernel_rfl) (by kernel_rfl)).val _ rfl
     simp only [e38, e40]
     exact Yld.value (.bool true) U (by kernel_rfl) (by go_simp) ⟨Below.refl _ _, Fx.fixed rfl rfl⟩
   refine ⟨⟨_, rfl, fun ν U hU hp => ?_⟩, ?_⟩
   · simp only [putsν, Act.put, List.setIfInBounds_toArray, List.set_cons_zero, List.set_cons_succ]
     have e38 := (hp 38 (by kernel_rfl) (by kernel_rfl)).val _ rfl
     have e41 := (hp 41 (by kernel_rfl) (by kernel_rfl)).val _ rfl
     simp only [e38, e41]
     exact Yld.value (.bool true) U (by kernel_rfl) (by go_simp) ⟨Below.refl _ _, Fx.fixed rfl rfl⟩
   refine ⟨⟨_, rfl, fun ν U hU hp => ?_⟩, ?_⟩
   · simp only [putsν, Act.put, List.setIfInBounds_toArray, List.set_cons_zero, List.set_cons_succ]
     have e42 := (hp 42 (by kernel_rfl) (by kernel_rfl)).val _ rfl
     simp only [e42]
     exact Yld.value (.bool true) U (by kernel_rfl) (by go_simp) ⟨Below.refl _ _, Fx.fixed rfl rfl⟩
   refine ⟨⟨_, rfl, fun ν U hU hp => ?_⟩, ?_⟩
   · simp only [putsν, Act.put, List.setIfInBounds_toArray, List.set_cons_zero, List.set_cons_succ]
     have e43 := (hp 43 (by kernel_rfl) (by kernel_rfl)).val _ rfl
     simp only [e43]
     exact Yld.value (.slice (some ⟨P8, 0, none⟩) 1 c8) U (by kernel_rfl) (by go_simp) ⟨Below.refl _ _, Fx.fixed rfl rfl⟩
   refine ⟨⟨_, rfl, fun ν U hU hp => ?_⟩, ?_⟩
   · simp only [putsν, Act.put, List.setIfInBounds_toArray, List.set_cons_zero, List.set_cons_succ]
     have e43 := (hp 43 (by kernel_rfl) (by kernel_rfl)).val _ rfl
     have e44 := (hp 44 (by kernel_rfl) (by kernel_rfl)).val _ rfl
     simp only [e43, e44]
     exact Yld.value (.pointer (some ⟨P8, 0, none⟩)) U (by kernel_rfl) (by go_simp) ⟨Below.refl _ _, Fx.fixed rfl rfl⟩
   refine ⟨⟨_, rfl, fun ν U hU hp => ?_⟩, ?_⟩
   · simp only [putsν, Act.put, List.setIfInBounds_toArray, List.set_cons_zero, List.set_cons_succ]
     have e43 := (hp 43 (by kernel_rfl) (by kernel_rfl)).val _ rfl
     have e45 := (hp 45 (by kernel_rfl) (by kernel_rfl)).val _ rfl
     simp only [e43, e45]
     exact Yld.value (.int .i64 1) U (by kernel_rfl) (by have h0 : U.cell? ⟨P8, 0, none⟩ = some (.int .i64 1) := HC11.out U hU; go_simp) ⟨Below.refl _ _, Fx.fixed rfl rfl⟩
   refine ⟨⟨_, rfl, fun ν U hU hp => ?_⟩, ?_⟩
   · simp only [putsν, Act.put, List.setIfInBounds_toArray, List.set_cons_zero, List.set_cons_succ]
     have e43 := (hp 43 (by kernel_rfl) (by kernel_rfl)).val _ rfl
     have e46 := (hp 46 (by kernel_rfl) (by kernel_rfl)).val _ rfl
     simp only [e43, e46]
     exact Yld.value (.bool true) U (by kernel_rfl) (by go_simp) ⟨Below.refl _ _, Fx.fixed rfl rfl⟩
   refine ⟨⟨_, rfl, fun ν U hU hp => ?_⟩, ?_⟩
   · simp only [putsν, Act.put, List.setIfInBounds_toArray, List.set_cons_zero, List.set_cons_succ]
     have e43 := (hp 43 (by kernel_rfl) (by kernel_rfl)).val _ rfl
     have e47 := (hp 47 (by kernel_rfl) (by kernel_rfl)).val _ rfl
     simp only [e43, e47]
     exact Yld.value (.bool true) U (by kernel_rfl) (by go_simp) ⟨Below.refl _ _, Fx.fixed rfl rfl⟩
   refine ⟨⟨_, rfl, fun ν U hU hp => ?_⟩, ?_⟩
   · simp only [putsν, Act.put, List.setIfInBounds_toArray, List.set_cons_zero, List.set_cons_succ]
     have e48 := (hp 48 (by kernel_rfl) (by kernel_rfl)).val _ rfl
     simp only [e48]
     exact Yld.value (.bool true) U (by kernel_rfl) (by go_simp) ⟨Below.refl _ _, Fx.fixed rfl rfl⟩
   refine ⟨⟨_, rfl, fun ν U hU hp => ?_⟩, ?_⟩
   · simp only [putsν, Act.put, List.setIfInBounds_toArray, List.set_cons_zero, List.set_cons_succ]
     have e49 := (hp 49 (by kernel_rfl) (by kernel_rfl)).val _ rfl
     simp only [e49]
     exact Yld.value (.slice P10 2 c10) U (by kernel_rfl) (by go_simp) ⟨Below.refl _ _, Fx.fixed rfl rfl⟩
   refine ⟨⟨_, rfl, fun ν U hU hp => ?_⟩, ?_⟩
   · simp only [putsν, Act.put, List.setIfInBounds_toArray, List.set_cons_zero, List.set_cons_succ]
     have e49 := (hp 49 (by kernel_rfl) (by kernel_rfl)).val _ rfl
     have e50 := (hp 50 (by kernel_rfl) (by kernel_rfl)).val _ rfl
     simp only [e49, e50]
     exact Yld.value (.int .i64 2) U (by kernel_rfl) (by go_simp) ⟨Below.refl _ _, Fx.fixed rfl rfl⟩
   refine ⟨⟨_, rfl, fun ν U hU hp => ?_⟩, ?_⟩
   · simp only [putsν, Act.put, List.setIfInBounds_toArray, List.set_cons_zero, List.set_cons_succ]
     have e49 := (hp 49 (by kernel_rfl) (by kernel_rfl)).val _ rfl
     have e51 := (hp 51 (by kernel_rfl) (by kernel_rfl)).val _ rfl
     simp only [e49, e51]
     exact Yld.value (.bool true) U (by kernel_rfl) (by go_simp) ⟨Below.refl _ _, Fx.fixed rfl rfl⟩
   refine ⟨⟨_, rfl, fun ν U hU hp => ?_⟩, ?_⟩
   · simp only [putsν, Act.put, List.setIfInBounds_toArray, List.set_cons_zero, List.set_cons_succ]
     have e49 := (hp 49 (by kernel_rfl) (by kernel_rfl)).val _ rfl
     have e52 := (hp 52 (by kernel_rfl) (by kernel_rfl)).val _ rfl
     simp only [e49, e52]
     exact Yld.value (.bool true) U (by kernel_rfl) (by go_simp) ⟨Below.refl _ _, Fx.fixed rfl rfl⟩
   refine ⟨⟨_, rfl, fun ν U hU hp => ?_⟩, ?_⟩
   · simp only [putsν, Act.put, List.setIfInBounds_toArray, List.set_cons_zero, List.set_cons_succ]
     have e53 := (hp 53 (by kernel_rfl) (by kernel_rfl)).val _ rfl
     simp only [e53]
     exact Yld.value (.bool true) U (by kernel_rfl) (by go_simp) ⟨Below.refl _ _, Fx.fixed rfl rfl⟩
   refine ⟨⟨_, rfl, fun ν U hU hp => ?_⟩, ?_⟩
   · simp only [putsν, Act.put, List.setIfInBounds_toArray, List.set_cons_zero, List.set_cons_succ]
     have e54 := (hp 54 (by kernel_rfl) (by kernel_rfl)).val _ rfl
     simp only [e54]
     exact Yld.value (.slice P11 3 c11) U (by kernel_rfl) (by go_simp) ⟨Below.refl _ _, Fx.fixed rfl rfl⟩
   refine ⟨⟨_, rfl, fun ν U hU hp => ?_⟩, ?_⟩
   · simp only [putsν, Act.put, List.setIfInBounds_toArray, List.set_cons_zero, List.set_cons_succ]
     have e54 := (hp 54 (by kernel_rfl) (by kernel_rfl)).val _ rfl
     have e55 := (hp 55 (by kernel_rfl) (by kernel_rfl)).val _ rfl
     simp only [e54, e55]
     exact Yld.value (.int .i64 3) U (by kernel_rfl) (by go_simp) ⟨Below.refl _ _, Fx.fixed rfl rfl⟩
   refine ⟨⟨_, rfl, fun ν U hU hp => ?_⟩, ?_⟩
   · simp only [putsν, Act.put, List.setIfInBounds_toArray, List.set_cons_zero, List.set_cons_succ]
     have e54 := (hp 54 (by kernel_rfl) (by kernel_rfl)).val _ rfl
     have e56 := (hp 56 (by kernel_rfl) (by kernel_rfl)).val _ rfl
     simp only [e54, e56]
     exact Yld.value (.bool true) U (by kernel_rfl) (by go_simp) ⟨Below.refl _ _, Fx.fixed rfl rfl⟩
   refine ⟨⟨_, rfl, fun ν U hU hp => ?_⟩, ?_⟩
   · simp only [putsν, Act.put, List.setIfInBounds_toArray, List.set_cons_zero, List.set_cons_succ]
     have e54 := (hp 54 (by kernel_rfl) (by kernel_rfl)).val _ rfl
     have e57 := (hp 57 (by kernel_rfl) (by kernel_rfl)).val _ rfl
     simp only [e54, e57]
     exact Yld.value (.bool true) U (by kernel_rfl) (by go_simp) ⟨Below.refl _ _, Fx.fixed rfl rfl⟩
   refine ⟨⟨_, rfl, fun ν U hU hp => ?_⟩, ?_⟩
   · simp only [putsν, Act.put, List.setIfInBounds_toArray, List.set_cons_zero, List.set_cons_succ]
     have e58 := (hp 58 (by kernel_rfl) (by kernel_rfl)).val _ rfl
     simp only [e58]
     exact Yld.value (.bool true) U (by kernel_rfl) (by go_simp) ⟨Below.refl _ _, Fx.fixed rfl rfl⟩
   refine ⟨⟨_, rfl, fun ν U hU hp => ?_⟩, ?_⟩
   · simp only [putsν, Act.put, List.setIfInBounds_toArray, List.set_cons_zero, List.set_cons_succ]
     have e59 := (hp 59 (by kernel_rfl) (by kernel_rfl)).val _ rfl
     simp only [e59]
     exact Yld.value (.slice (some ⟨lb, 0, none⟩) 2 2) U (by kernel_rfl) (by go_simp) ⟨Below.refl _ _, Fx.fixed rfl rfl⟩
   refine ⟨⟨_, rfl, fun ν U hU hp => ?_⟩, ?_⟩
   · simp only [putsν, Act.put, List.setIfInBounds_toArray, List.set_cons_zero, List.set_cons_succ]
     have e59 := (hp 59 (by kernel_rfl) (by kernel_rfl)).val _ rfl
     have e60 := (hp 60 (by kernel_rfl) (by kernel_rfl)).val _ rfl
     simp only [e59, e60]
     refine Yld.call 16 #[.slice (some ⟨lb, 0, none⟩) 2 2, .int .i64 1] (by kernel_rfl) (by go_simp) ?_
     have hcall := HV1.out U hU
     refine hcall.mono ?_
     rintro e V ⟨rfl, hb⟩; exact ⟨_, rfl, hb, Fx.fixed rfl rfl⟩
   refine ⟨⟨_, rfl, fun ν U hU hp => ?_⟩, ?_⟩
   · simp only [putsν, Act.put, List.setIfInBounds_toArray, List.set_cons_zero, List.set_cons_succ]
     have e59 := (hp 59 (by kernel_rfl) (by kernel_rfl)).val _ rfl
     have e61 := (hp 61 (by kernel_rfl) (by kernel_rfl)).val _ rfl
     simp only [e59, e61]
     exact Yld.value (.bool true) U (by kernel_rfl) (by go_simp) ⟨Below.refl _ _, Fx.fixed rfl rfl⟩
   refine ⟨⟨_, rfl, fun ν U hU hp => ?_⟩, ?_⟩
   · simp only [putsν, Act.put, List.setIfInBounds_toArray, List.set_cons_zero, List.set_cons_succ]
     have e59 := (hp 59 (by kernel_rfl) (by kernel_rfl)).val _ rfl
     have e62 := (hp 62 (by kernel_rfl) (by kernel_rfl)).val _ rfl
     simp only [e59, e62]
     exact Yld.value (.bool true) U (by kernel_rfl) (by go_simp) ⟨Below.refl _ _, Fx.fixed rfl rfl⟩
   refine ⟨⟨_, rfl, fun ν U hU hp => ?_⟩, ?_⟩
   · simp only [putsν, Act.put, List.setIfInBounds_toArray, List.set_cons_zero, List.set_cons_succ]
     have e63 := (hp 63 (by kernel_rfl) (by kernel_rfl)).val _ rfl
     simp only [e63]
     exact Yld.value (.bool true) U (by kernel_rfl) (by go_simp) ⟨Below.refl _ _, Fx.fixed rfl rfl⟩
   refine ⟨⟨_, rfl, fun ν U hU hp => ?_⟩, ?_⟩
   · simp only [putsν, Act.put, List.setIfInBounds_toArray, List.set_cons_zero, List.set_cons_succ]
     have e64 := (hp 64 (by kernel_rfl) (by kernel_rfl)).val _ rfl
     simp only [e64]
     exact Yld.value (.slice (some ⟨lb, 0, none⟩) 2 2) U (by kernel_rfl) (by go_simp) ⟨Below.refl _ _, Fx.fixed rfl rfl⟩
   refine ⟨⟨_, rfl, fun ν U hU hp => ?_⟩, ?_⟩
   · simp only [putsν, Act.put, List.setIfInBounds_toArray, List.set_cons_zero, List.set_cons_succ]
     have e64 := (hp 64 (by kernel_rfl) (by kernel_rfl)).val _ rfl
     have e65 := (hp 65 (by kernel_rfl) (by kernel_rfl)).val _ rfl
     simp only [e64, e65]
     refine Yld.call 16 #[.slice (some ⟨lb, 0, none⟩) 2 2, .int .i64 0] (by kernel_rfl) (by go_simp) ?_
     have hcall := HV0.out U hU
     refine hcall.mono ?_
     rintro e V ⟨rfl, hb⟩; exact ⟨_, rfl, hb, Fx.fixed rfl rfl⟩
   refine ⟨⟨_, rfl, fun ν U hU hp => ?_⟩, ?_⟩
   · simp only [putsν, Act.put, List.setIfInBounds_toArray, List.set_cons_zero, List.set_cons_succ]
     have e64 := (hp 64 (by kernel_rfl) (by kernel_rfl)).val _ rfl
     have e66 := (hp 66 (by kernel_rfl) (by kernel_rfl)).val _ rfl
     simp only [e64, e66]
     exact Yld.value (.bool true) U (by kernel_rfl) (by go_simp) ⟨Below.refl _ _, Fx.fixed rfl rfl⟩
   refine ⟨⟨_, rfl, fun ν U hU hp => ?_⟩, ?_⟩
   · simp only [putsν, Act.put, List.setIfInBounds_toArray, List.set_cons_zero, List.set_cons_succ]
     have e64 := (hp 64 (by kernel_rfl) (by kernel_rfl)).val _ rfl
     have e67 := (hp 67 (by kernel_rfl) (by kernel_rfl)).val _ rfl
     simp only [e64, e67]
     exact Yld.value (.bool true) U (by kernel_rfl) (by go_simp) ⟨Below.refl _ _, Fx.fixed rfl rfl⟩
   refine ⟨⟨_, rfl, fun ν U hU hp => ?_⟩, ?_⟩
   · simp only [putsν, Act.put, List.setIfInBounds_toArray, List.set_cons_zero, List.set_cons_succ]
     have e68 := (hp 68 (by kernel_rfl) (by kernel_rfl)).val _ rfl
     simp only [e68]
     exact Yld.value (.bool true) U (by kernel_rfl) (by go_simp) ⟨Below.refl _ _, Fx.fixed rfl rfl⟩
   trivial
 intro ν w18 hS18 hf
 have e0 := (hf 0 (by kernel_rfl)).val _ rfl
 have e1 := (hf 1 (by kernel_rfl)).val _ rfl
 have e2 := (hf 2 (by kernel_rfl)).val _ rfl
 have e3 := (hf 3 (by kernel_rfl)).val _ rfl
 have e4 := (hf 4 (by kernel_rfl)).val _ rfl
 have e5 := (hf 5 (by kernel_rfl)).val _ rfl
 have e6 := (hf 6 (by kernel_rfl)).val _ rfl
 have e7 := (hf 7 (by kernel_rfl)).val _ rfl
 have e8 := (hf 8 (by kernel_rfl)).val _ rfl
 have e9 := (hf 9 (by kernel_rfl)).val _ rfl
 have c10 := (hf 10 (by kernel_rfl)).is _ rfl
 have e11 := (hf 11 (by kernel_rfl)).val _ rfl
 have e12 := (hf 12 (by kernel_rfl)).val _ rfl
 have e13 := (hf 13 (by kernel_rfl)).val _ rfl
 have e14 := (hf 14 (by kernel_rfl)).val _ rfl
 have e15 := (hf 15 (by kernel_rfl)).val _ rfl
 have e16 := (hf 16 (by kernel_rfl)).val _ rfl
 have e17 := (hf 17 (by kernel_rfl)).val _ rfl
 have e18 := (hf 18 (by kernel_rfl)).val _ rfl
 have e19 := (hf 19 (by kernel_rfl)).val _ rfl
 have e20 := (hf 20 (by kernel_rfl)).val _ rfl
 have e21 := (hf 21 (by kernel_rfl)).val _ rfl
 have e22 := (hf 22 (by kernel_rfl)).val _ rfl
 have e23 := (hf 23 (by kernel_rfl)).val _ rfl
 have e24 := (hf 24 (by kernel_rfl)).val _ rfl
 have e25 := (hf 25 (by kernel_rfl)).val _ rfl
 have e26 := (hf 26 (by kernel_rfl)).val _ rfl
 have e27 := (hf 27 (by kernel_rfl)).val _ rfl
 have e28 := (hf 28 (by kernel_rfl)).val _ rfl
 have e29 := (hf 29 (by kernel_rfl)).val _ rfl
 have e30 := (hf 30 (by kernel_rfl)).val _ rfl
 have e31 := (hf 31 (by kernel_rfl)).val _ rfl
 have e32 := (hf 32 (by kernel_rfl)).val _ rfl
 have e33 := (hf 33 (by kernel_rfl)).val _ rfl
 have e34 := (hf 34 (by kernel_rfl)).val _ rfl
 have e35 := (hf 35 (by kernel_rfl)).val _ rfl
 have e36 := (hf 36 (by kernel_rfl)).val _ rfl
 have e37 := (hf 37 (by kernel_rfl)).val _ rfl
 have e38 := (hf 38 (by kernel_rfl)).val _ rfl
 have e39 := (hf 39 (by kernel_rfl)).val _ rfl
 have e40 := (hf 40 (by kernel_rfl)).val _ rfl
 have e41 := (hf 41 (by kernel_rfl)).val _ rfl
 have e42 := (hf 42 (by kernel_rfl)).val _ rfl
 have e43 := (hf 43 (by kernel_rfl)).val _ rfl
 have e44 := (hf 44 (by kernel_rfl)).val _ rfl
 have e45 := (hf 45 (by kernel_rfl)).val _ rfl
 have e46 := (hf 46 (by kernel_rfl)).val _ rfl
 have e47 := (hf 47 (by kernel_rfl)).val _ rfl
 have e48 := (hf 48 (by kernel_rfl)).val _ rfl
 have e49 := (hf 49 (by kernel_rfl)).val _ rfl
 have e50 := (hf 50 (by kernel_rfl)).val _ rfl
 have e51 := (hf 51 (by kernel_rfl)).val _ rfl
 have e52 := (hf 52 (by kernel_rfl)).val _ rfl
 have e53 := (hf 53 (by kernel_rfl)).val _ rfl
 have e54 := (hf 54 (by kernel_rfl)).val _ rfl
 have e55 := (hf 55 (by kernel_rfl)).val _ rfl
 have e56 := (hf 56 (by kernel_rfl)).val _ rfl
 have e57 := (hf 57 (by kernel_rfl)).val _ rfl
 have e58 := (hf 58 (by kernel_rfl)).val _ rfl
 have e59 := (hf 59 (by kernel_rfl)).val _ rfl
 have e60 := (hf 60 (by kernel_rfl)).val _ rfl
 have e61 := (hf 61 (by kernel_rfl)).val _ rfl
 have e62 := (hf 62 (by kernel_rfl)).val _ rfl
 have e63 := (hf 63 (by kernel_rfl)).val _ rfl
 have e64 := (hf 64 (by kernel_rfl)).val _ rfl
 have e65 := (hf 65 (by kernel_rfl)).val _ rfl
 have e66 := (hf 66 (by kernel_rfl)).val _ rfl
 have e67 := (hf 67 (by kernel_rfl)).val _ rfl
 have e68 := (hf 68 (by kernel_rfl)).val _ rfl
 have e69 := (hf 69 (by kernel_rfl)).val _ rfl
 simp only [putsν, Act.put, List.setIfInBounds_toArray, List.set_cons_zero, List.set_cons_succ, e0, e1, e2, e3, e4, e5, e6, e7, e8, e9, e11, e12, e13, e14, e15, e16, e17, e18, e19, e20, e21, e22, e23, e24, e25, e26, e27, e28, e29, e30, e31, e32, e33, e34, e35, e36, e37, e38, e39, e40, e41, e42, e43, e44, e45, e46, e47, e48, e49, e50, e51, e52, e53, e54, e55, e56, e57, e58, e59, e60, e61, e62, e63, e64, e65, e66, e67, e68, e69]
 clear hf e0 e1 e2 e3 e4 e5 e6 e7 e8 e9 e11 e12 e13 e14 e15 e16 e17 e18 e19 e20 e21 e22 e23 e24 e25 e26 e27 e28 e29 e30 e31 e32 e33 e34 e35 e36 e37 e38 e39 e40 e41 e42 e43 e44 e45 e46 e47 e48 e49 e50 e51 e52 e53 e54 e55 e56 e57 e58 e59 e60 e61 e62 e63 e64 e65 e66 e67 e68 e69
 refine wpAnyT_done (by kernel_rfl) ?_ _
 refine only_mk ?_
 have HFIN := Lib.hid (below_step HB11.out hS18)
 clear hS18 HB11
 go_wp2_with fail
 go_ret
 exact ⟨rfl, HFIN.out⟩
end Go.Proofs.YtliobahnekohmaaGreat
/-
  Entries that came in.
-/
namespace Go.Proofs.YtliobahnekohmaaGreat
open Go.RowKit
open Go.ChangeShapes Go.WideShapes Go.Deep
section
variable {H : Type} {enc : TypeId × Value → H} {w : World} {spare : Nat → Bool} {held : Bool}
set_option maxRecDepth 100000 in
theorem labs_of {fuel : Nat} {v : Value} {x : DataW H × List MemPlace} (h : DataW.trod enc Tryz.prog w 0 spare held fuel 57 [v] = some x) :
 ∃ (A : Option Addr) (l : List Lab) (c : Nat), v = .slice A l.length c ∧ l.length ≤ maxLen ∧ (A = none → l.length = 0 ∧ c = 0) ∧ LabRow w A l.length (La.at_ l) := by
 rcases open_slice_pairs Tryz.underlying57 Tryz.underlying37 rfl rfl rfl rfl rfl h with ⟨hcs, _⟩ | ⟨a, len, cap, m, n', V0, V1, D0, D1, P0, P1, hcs, _, hl, hm, hmm, _, hi⟩
 · exact ⟨none, [], 0, (List.cons.inj hcs).1, by simp, fun _ => ⟨rfl, rfl⟩, fun h => absurd h (Nat.lt_irrefl 0)⟩
 · have hlm : len ≤ m := by rw [hmm]; split <;> omega
   have each : ∀ i, i < m → ∃ q : Lab, V0 i = .string q.1 ∧ V1 i = .string q.2 := fun i him => by
    obtain ⟨_, _, g0, g1⟩ := hi i him
    obtain ⟨z0, e0, w0⟩ := text_of_trod Tryz.underlying9 g0
    obtain ⟨z1, e1, w1⟩ := text_of_trod Tryz.underlying9 g1
    exact ⟨(z0, z1), e0, e1⟩
   have : Inhabited Lab := ⟨(ByteArray.empty, ByteArray.empty)⟩
   obtain ⟨q, hq⟩ := choose_lt each
   have hlen : ((List.range len).map q).length = len := by simp
   refine ⟨some a, (List.range len).map q, cap, by rw [hlen]; exact (List.cons.inj hcs).1, by rw [hlen]; exact Nat.le_trans hl hm, (fun h => by cases h), ?_⟩
   rw [hlen]
   intro hn
   refine ⟨a, rfl, ?_, fun i hin => ?_⟩
   · have := block_lt_of_cell (hi 0 (by omega)).1
     rwa [addr_block] at this
   · obtain ⟨g0, g1, _, _⟩ := hi i (by omega)
     obtain ⟨q0, q1⟩ := hq i (by omega)
     rw [q0] at g0; rw [q1] at g1
     have e : La.at_ ((List.range len).map q) i = q i := by unfold La.at_; simp [List.getD, hin]
     rw [e]
     exact ⟨g0, g1⟩
def EAt.cells (x : EAt) : List Value := [.slice x.A x.e.l.length x.c, .int .i64 x.e.last, .int .i64 x.e.off, .int .i64 x.e.len]
structure EAt.Came (w : World) (x : EAt) : Prop where
 labs : LabRow w x.A x.e.l.length (La.at_ x.e.l)
 words : EWords x.e
 len : x.e.l.length ≤ maxLen
set_option maxRecDepth 100000 in
set_option maxHeartbeats 1000000 in
theorem ent_of {fuel : Nat} {cs : List Value} {x : DataW H × List MemPlace} (h : DataW.trod enc Tryz.prog w 0 spare held fuel 59 cs = some x) :
 ∃ o : EAt, cs = o.cells ∧ o.Came w := by
 obtain ⟨xs, k, hk, hxy, hlen, hxl, hf⟩ := DataW.trod_struct Tryz.underlying59 h
 have hc : Tryz.prog.cellsOf 59 = 4 := by kernel_rfl
 rw [hc] at hlen
 match xs, hxl, cs, hlen with
 | [y0, y1, y2, y3], _, [v0, v1, v2, v3], _ =>
  have g0 := hf 0 _ rfl
  have g1 := hf 1 _ rfl
  have g2 := hf 2 _ rfl
  have g3 := hf 3 _ rfl
  have e0 : Tryz.prog.cellsOf 3 = 1 := by kernel_rfl
  have e1 : Tryz.prog.cellsOf 57 = 1 := by kernel_rfl
  have e3 : Tryz.prog.cellsOf 2 = 1 := by kernel_rfl
  simp [e0, e1, e3] at g0 g1 g2 g3
  obtain ⟨A1, l, c1, h1, q1, z1, r1⟩ := labs_of g0
  obtain ⟨a1, h11, _, w1⟩ := DataW.trod_int Tryz.underlying2 g1
  obtain ⟨a2, h2, _, w2⟩ := DataW.trod_int Tryz.underlying3 g2
  obtain ⟨a3, h3, _, w3⟩ := DataW.trod_int Tryz.underlying3 g3
  refine ⟨⟨⟨l, a1, a2, a3⟩, A1, c1⟩, ?_, ⟨r1, ⟨(i64_bd a1 w1).out, (i64_bd a2 w2).out, (i64_bd a3 w3).out⟩, q1⟩⟩
  rw [h1, show v1 = .int .i64 a1 from (List.cons.inj h11).1, show v2 = .int .i64 a2 from (List.cons.inj h2).1, show v3 = .int .i64 a3 from (List.cons.inj h3).1]
  rfl
theorem ex_cells (q : Nat → EAt) (i j : Nat) (hj : j < 4) : (q i).cells[j]? = some (ex q i j) := by
 rcases (show j = 0 ∨ j = 1 ∨ j = 2 ∨ j = 3 by omega) with rfl | rfl | rfl | rfl <;> rfl
set_option maxRecDepth 100000 in
set_option maxHeartbeats 1000000 in
theorem ents_of {fuel : Nat} {v : Value} {x : DataW H × List MemPlace} (hf : DataW.trod enc Tryz.prog w 0 spare held fuel 22 [v] = some x) :
 ∃ (A : Option Addr) (n c : Nat) (q : Nat → EAt), v = .slice A n c ∧ n ≤ maxLen ∧ (A = none → n = 0 ∧ c = 0) ∧ EntsRaw w A n q := by
 rcases open_slice Tryz.underlying22 hf with ⟨hcs, _⟩ | ⟨a, len, cap, m, n', D, Pl, hcs, _, hl, hm, hmm, _, hi⟩
 · obtain rfl := (List.cons.inj hcs).1
   exact ⟨none, 0, 0, fun _ => ⟨⟨[], 0, 0, 0⟩, none, 0⟩, rfl, by simp, fun _ => ⟨rfl, rfl⟩, fun h => absurd h (by omega), fun i hi => absurd hi (by omega), fun i hi => absurd hi (by omega), fun i hi => absurd hi (by omega)⟩
 · obtain rfl := (List.cons.inj hcs).1
   have hc4 : Tryz.prog.cellsOf 59 = 4 := by kernel_rfl
   have hlm : len ≤ m := by rw [hmm]; split <;> omega
   have each : ∀ i, i < m → ∃ q : EAt, (∀ j, j < 4 → w.cell? (a.add (i * 4 + j)) = q.cells[j]?) ∧ q.Came w := fun i him => by
    obtain ⟨cs', h1, h2⟩ := hi i him
    rw [hc4] at h1
    obtain ⟨_, hlen, hcell⟩ := World.cells?_some h1
    obtain ⟨q, rfl, s1⟩ := ent_of h2
    refine ⟨q, fun j hj => ?_, s1⟩
    have e := hcell j (by omega)
    rw [add_add] at e
    rw [e]
   have : Inhabited EAt := ⟨⟨⟨[], 0, 0, 0⟩, none, 0⟩⟩
   obtain ⟨q, hq⟩ := choose_lt each
   refine ⟨some a, len, cap, q, rfl, Nat.le_trans hl hm, (fun h => by cases h), ⟨fun hn => ⟨a, rfl, ?_, fun i hin j hj => ?_⟩, fun i hin => (hq i (by omega)).2.labs, fun i hin => (hq i (by omega)).2.words, fun i hin => (hq i (by omega)).2.len⟩⟩
   · have := block_lt_of_cell ((hq 0 (by omega)).1 0 (by omega))
     rwa [addr_block] at this
   · rw [(hq i (by omega)).1 j hj]
     exact ex_cells q i j hj
set_option maxRecDepth 100000 in
theorem open_ents {r : Reach} {b0 : Nat} {v : Value} {d : DataW H} {p : List MemPlace} (hv : Value.okWide Tryz.prog w r b0 22 v) (h : DataW.Trod enc Tryz.prog w 0 spare held 22 v d p) :
 ∃ (A : Option Addr) (n c : Nat) (q : Nat → EAt), v = .slice A n c ∧ n ≤ maxLen ∧ (A = none → n = 0 ∧ c = 0) ∧ EntsRaw w A n q := by
 obtain ⟨A, n, c, rfl⟩ := okWide_slice Tryz.underlying22 hv
 obtain ⟨fuel, hf⟩ := h
 exact ents_of hf
end
end Go.Proofs.YtliobahnekohmaaGreat
/-
  IndexBack: the walk.
-/
namespace Go.Proofs.YtliobahnekohmaaGreat
open Go.RowKit
end Go.Proofs.YtliobahnekohmaaGreat
