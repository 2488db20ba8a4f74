import Derived.Test.YtliobahnekohmaaGreatIzH
import Derived.Test.YtliobahnekohmaaGreatIxY
import Derived.Test.YtliobahnekohmaaGreatMaG
/-
  Get: the walk.
-/
namespace Go.Proofs.YtliobahnekohmaaGreat
open Go.RowKit
theorem rentries {w U : World} {rb : Nat} {c : Ix.Cu} {g : Int} (hg : 1 ≤ g ∧ g ≤ 3) (h : Rdr w U rb c [] (.slice none 0 0) 0 0) :
 Calls Tryz.prog 57 #[.pointer (some ⟨rb, 0, none⟩), .int .i64 g] U (EntsOut w rb (Ix.rd g c).1 (Ix.rd g c).2) := by
 rcases (show g = 1 ∨ g = 2 ∨ g = 3 by omega) with rfl | rfl | rfl
 · exact rentries_1 h
 · exact rentries_2 h
 · exact rentries_3 h
theorem Ix.good_le (s : ByteArray) : (Crc.good s).1.size ≤ s.size := by
 unfold Crc.good
 split
 · exact Nat.zero_le _
 · split
   · rw [ByteArray.size_extract]; omega
   · exact Nat.zero_le _
theorem tell_bytes {a b : ByteArray} : (a.toList == b.toList) = true ↔ a = b := by rw [str_beq, decide_eq_true_eq]
def none0 : Nat → EAt := fun _ => ⟨⟨[], 0, 0, 0⟩, none, 0⟩
theorem ents_none (w : World) : EntsIn w none 0 none0 := ⟨fun h => absurd h (Nat.lt_irrefl 0), fun i hi => absurd hi (Nat.not_lt_zero i), by decide⟩
def GetOut (w : World) (L : List Ix.Ent) (r : Int) (e : Ending) (w' : World) : Prop :=
 ∃ A k q, e = .returned (.tuple #[.slice A L.length k, .int .i64 r]) ∧ EntsIn w' A L.length q ∧ entL q L.length = L ∧ Below w.heap.size w w'
set_option maxRecDepth 100000 in
set_option maxHeartbeats 4000000 in
theorem IGet_any (s : ByteArray) (g : Int) (hs : s.size ≤ maxLen) (w : World) :
 Calls Tryz.prog 27 #[.string s, .int .i64 g] w (GetOut w (Ix.get g s).1 (Ix.get g s).2) := by
 have HG := Lib.hid (isGen_any g w)
 have HGD := Lib.hid (fun U => Good_any s hs U)
 have hzb := Ix.good_le s
 have hget : Ix.get g s = if Ix.isG g = false then ([], 1) else if (Crc.good s).2 = false then ([], 9) else if (Ix.rd g ⟨(Crc.good s).1, false⟩).2.bad = true ∨ Ix.put g (Ix.rd g ⟨(Crc.good s).1, false⟩).1 ≠ (s, 0) then ([], 9) else ((Ix.rd g ⟨(Crc.good s).1, false⟩).1, 0) := rfl
 rcases hi : Ix.isG g with _ | _
 · rw [hget, if_pos hi]
   rw [hi] at HG
   clear hget hi
   go_enter Tryz.func27, Tryz.ntmps27
   go_wp2_with fail
   refine HG.out.mono ?_; rintro e w1 ⟨rfl, rfl⟩
   go_wp2_with fail
   exact bodyPost_ret (results_tmp2 rfl _ _ _) rfl ⟨none, 0, none0, rfl, ents_none _, rfl, Below.refl _ _⟩
 · have hg3 : 1 ≤ g ∧ g ≤ 3 := by unfold Ix.isG at hi; exact of_decide_eq_true hi
   rw [if_neg (by rw [hi]; decide)] at hget
   rw [hi] at HG
   generalize Crc.good s = gd at *
   obtain ⟨b, ok⟩ := gd
   simp only at hget HGD hzb
   cases ok with
   | false =>
    rw [hget, if_pos rfl]
    clear hget hi hg3
    go_enter Tryz.func27, Tryz.ntmps27
    go_wp2_with fail
    refine HG.out.mono ?_; rintro e w1 ⟨rfl, rfl⟩
    go_wp2_with fail
    refine (HGD.out _).mono ?_; rintro e w2 ⟨rfl, hb⟩
    have HB := Lib.hid hb
    clear hb
    go_wp2_with fail
    exact bodyPost_ret (results_tmp2 rfl _ _ _) rfl ⟨none, 0, none0, rfl, ents_none _, rfl, HB.out⟩
   | true =>
    rw [if_neg (by decide)] at hget
    have HEN := Lib.hid (fun (w U : World) rb (h : Rdr w U rb ⟨b, false⟩ [] (.slice none 0 0) 0 0) => rentries hg3 h)
    generalize Ix.rd g ⟨b, false⟩ = re at *
    obtain ⟨L, c2⟩ := re
    simp only at hget HEN
    have HGET := Lib.hid hget
    clear hget hi hg3
    go_enter Tryz.func27, Tryz.ntmps27
    go_wp2_with fail
    refine HG.out.mono ?_; rintro e w1 ⟨rfl, rfl⟩
    go_wp2_with fail
    refine (HGD.out _).mono ?_; rintro e w2 ⟨rfl, hb⟩
    have HB2 := Lib.hid hb
    obtain ⟨w3, hw3⟩ : ∃ w3, w3 = w2.alloc (.cells #[.string b, .bool false, .slice none 0 0, .int .i64 0, .int .i64 0] 98) := ⟨_, rfl⟩
    have hb3 : Below w2.heap.size w2 w3 := by rw [hw3]; exact (Below.refl _ _).alloc (Nat.le_refl _) _
    have hc3 : w3.heap[w2.heap.size]? = some (.cells #[.string b, .bool false, .slice none 0 0, .int .i64 0, .int .i64 0] 98 (0, 0)) := by rw [hw3]; exact heap_alloc_new w2 _
    have hr3 : Rdr w2 w3 w2.heap.size ⟨b, false⟩ [] (.slice none 0 0) 0 0 := ⟨hc3, World.ownsRow_nil _ _ _ _, hb3, Nat.le_refl _, Nat.le_trans hzb hs⟩
    have HC := Lib.hid (HEN.out w2 w3 w2.heap.size hr3)
    clear hb hr3 hc3 hb3 HEN HGD HG
    go_upto_region 7 with fail
    rw [← hw3]
    clear hw3
    go_wp2_with fail
    refine HC.out.mono ?_; rintro e w4 ⟨A, k, q, S, sv, la, en, rfl, hin, hel, hrd⟩
    have HIN := Lib.hid hin; have HEL := Lib.hid hel; have HRD := Lib.hid hrd
    have hput := Put_any A L.length k q g w4 hin
    rw [hel] at hput
    have HP := Lib.hid hput
    clear hin hel hrd hput HC
    generalize Ix.put g L = pt at *
    obtain ⟨t, er⟩ := pt
    simp only at HP
    go_wp2_with fail
    refine HP.out.mono ?_; rintro e w5 ⟨rfl, hb5⟩
    have HR5 := Lib.hid (HRD.out.later hb5)
    have HI5 := Lib.hid (HIN.out.later hb5)
    have k0 := HR5.out.cells.2.1
    have HB5 : Hid (Below w1.heap.size w1 w5) := Lib.hid (HB2.out.trans (HR5.out.bel.mono HB2.out.size))
    clear hb5 HP HRD HIN
    rcases hbad : c2.bad with _ | _
    · rw [hbad] at k0
      by_cases her : er = 0
      · by_cases hts : t = s
        · have hres : Ix.get g s = (L, 0) := by
           rw [HGET.out, if_neg ?_]
           rintro (h | h)
           · rw [hbad] at h; cases h
           · exact h (by rw [her, hts])
          subst her; subst hts
          have d2 : (t.toList == t.toList) = true := beq_self_eq_true _
          have HRS := Lib.hid hres
          clear HGET hres
          go_wp2_with fail
          refine bodyPost_ret (results_tmp2 rfl _ _ _) rfl ?_; rw [HRS.out]; exact ⟨A, k, q, rfl, HI5.out, HEL.out, HB5.out⟩
        · have hres : Ix.get g s = ([], 9) := by
           rw [HGET.out, if_pos]
           right
           intro h
           exact hts (Prod.mk.inj h).1
          have d2 : (t.toList == s.toList) = false := by
           rcases hq : (t.toList == s.toList) with _ | _
           · rfl
           · exact absurd (tell_bytes.1 hq) hts
          have d3 : (!t.toList == s.toList) = true := by rw [d2]; rfl
          subst her
          have HRS := Lib.hid hres
          clear HGET hres hts
          go_wp2_with fail
          refine bodyPost_ret (results_tmp2 rfl _ _ _) rfl ?_; rw [HRS.out]; exact ⟨none, 0, none0, rfl, ents_none _, rfl, HB5.out⟩
      · have hres : Ix.get g s = ([], 9) := by
         rw [HGET.out, if_pos]
         right
         intro h
         exact her (Prod.mk.inj h).2
        have d1 : (er != 0) = true := bne_iff_ne.2 her
        have HRS := Lib.hid hres
        clear HGET hres her
        go_wp2_with fail
        refine bodyPost_ret (results_tmp2 rfl _ _ _) rfl ?_; rw [HRS.out]; exact ⟨none, 0, none0, rfl, ents_none _, rfl, HB5.out⟩
    · rw [hbad] at k0
      have hres : Ix.get g s = ([], 9) := by
       rw [HGET.out, if_pos (Or.inl hbad)]
      have HRS := Lib.hid hres
      clear HGET hres
      go_wp2_with fail
      refine bodyPost_ret (results_tmp2 rfl _ _ _) rfl ?_; rw [HRS.out]; exact ⟨none, 0, none0, rfl, ents_none _, rfl, HB5.out⟩
end Go.Proofs.YtliobahnekohmaaGreat
/-
  Ask: the walk.
-/
namespace Go.Proofs.YtliobahnekohmaaGreat
open Go.RowKit
def ax (q : Nat → EAt) : Nat → Nat → Value := lx (fun i => (q i).A) (fun i => (q i).e.l.length) (fun i => (q i).c)
theorem infoLs : (Tryz.prog.info? 57).map (fun i => (i.zero, i.size, i.bytes)) = some (some (.slice none 0 0), 1, 24) := by kernel_rfl
def ax1 (q : Nat → EAt) (k : Nat) (_ _ : Nat) : Value := .slice (q k).A (q k).e.l.length (q k).c
theorem ax1_row (q : Nat → EAt) (k : Nat) (w : World) (T : TypeId) : Row 1 (ax1 q k) (w.alloc (.cells #[.slice (q k).A (q k).e.l.length (q k).c] T)) (some ⟨w.heap.size, 0, none⟩) 1 := row_built 1 _ w _ _ (fun j hj => by
 obtain rfl : j = 0 := by omega
 rfl)
set_option maxRecDepth 100000 in
set_option maxHeartbeats 4000000 in
theorem Ask_any (A : Option Addr) (n c : Nat) (q : Nat → EAt) (B : Option Addr) (k cm : Nat) (hk : k ≤ 1000000) (m : Nat → Mat) (w : World) (hA : EntsIn w A n q) (hB : Row 3 (mx m) w B k) :
 Calls Tryz.prog 22 #[.slice A n c, .slice B k cm] w (Picks 3 1 (fun i => [.int .i64 (i : Int)]) (Ma.sel (fun i => Ma.all m k (La.at_ (q i).e.l) (q i).e.l.length) n) w) := by
 have hn := hA.len
 have HA := Lib.hid hA; have HB := Lib.hid hB
 clear hA hB
 go_enter Tryz.func22, Tryz.ntmps22
 go_wp2_with fail
 go_loopw [5, 10] (fun v i wr => ∃ j : Nat, j ≤ n ∧ i = .int .i64 j ∧ wr.ownsRow w.heap.size 57 1 v j (rcells 1 (ax q) j) ∧ Below w.heap.size w wr) (fun _ i _ => n - (intOf i).toNat)
 case atStart => exact ⟨0, Nat.zero_le _, rfl, World.ownsRow_nil _ _ _ _, Below.refl _ _⟩
 case round =>
  obtain ⟨j, hj, rfl, hown, hbl⟩ := hrel
  have HO := Lib.hid hown; have HBL := Lib.hid hbl
  have i0 : (0 : Int) ≤ (j : Int) := by omega
  by_cases hjn : j < n
  · have d1 : decide ((j : Int) < (n : Int)) = true := decide_eq_true (Int.ofNat_lt.2 hjn)
    have i1 : (j : Int) < (n : Int) := Int.ofNat_lt.2 hjn
    obtain ⟨ad, rfl, x0, x1, x2, x3⟩ := HA.out.cells hbl hjn
    obtain ⟨w1, hw1⟩ : ∃ w1, w1 = wr.alloc (.cells (entC (q j)) 59) := ⟨_, rfl⟩
    have hb1 : Below wr.heap.size wr w1 := by rw [hw1]; exact (Below.refl _ _).alloc (Nat.le_refl _) _
    have he1 : w1.heap[wr.heap.size]? = some (.cells (entC (q j)) 59 (0, 0)) := by rw [hw1]; exact heap_alloc_new wr _
    have y0 := cell_of_row _ _ 0 _ _ _ he1
    unfold entC at hw1 y0
    simp only [List.getElem?_toArray, List.getElem?_cons_zero] at y0
    have hb2 : Below w1.heap.size w1 (w1.alloc (.cells #[.slice (q j).A (q j).e.l.length (q j).c] 57)) := (Below.refl _ _).alloc (Nat.le_refl _) _
    have HO2 := Lib.hid (row_far (row_far hown hb1) hb2)
    have HROW := Lib.hid (ax1_row q j w1 57)
    have HBB := Lib.hid (below_step (below_step hbl hb1) hb2)
    clear he1 hown hbl hb1 hb2
    go_upto_region 5 with fail
    rw [← hw1]
    clear hw1 x0 x1 x2 x3
    have hbb := HBB.out.size
    go_wp2_with (at_builtin; go_must (refine wpList_append_row _ rfl _ _ 56 57 rfl 1 24 (.slice none 0 0) Tryz.underlying56 infoLs rfl (by decide) (by decide) w.heap.size _ j (rcells 1 (ax q) j) rfl HO2.out ⟨w1.heap.size, 0, none⟩ 1 1 (ax1 q j) (fun _ _ => rfl) rfl HROW.out (by omega) hbb ?_); intro v8 w8 hown8 hg8; have HO8 := Lib.hid hown8; have HB8 := Lib.hid (HBB.out.grown hg8 HBB.out.size (fun r e => (HO2.out.lt r e).1)); clear hown8 hg8)
    have ho8 := HO8.out
    have e8 : rcells 1 (ax q) j ++ rcells 1 (ax1 q j) 1 = rcells 1 (ax q) (j + 1) := by rw [rcells_succ 1 (ax q) j]; rfl
    rw [e8] at ho8
    have HO9 := Lib.hid ho8
    clear ho8 e8 HO8
    go_roundw
    case rel => exact ⟨j + 1, hjn, rfl, HO9.out, HB8.out⟩
    case measure => exact meas_lt0 hjn
  · obtain rfl : j = n := Nat.le_antisymm hj (Nat.le_of_not_lt hjn)
    have d1 : decide ((j : Int) < (j : Int)) = false := decide_eq_false (Int.lt_irrefl _)
    obtain ⟨C, cc, hv, -, -, -, hrow⟩ := own_row hown
    subst hv
    have HS := Lib.hid (Select_any B k cm hk m C j cc (by omega) (fun i => (q i).A) (fun i => (q i).e.l.length) (fun i => (q i).c) (fun i => La.at_ (q i).e.l) (fun i hi => by have := (HA.out.each i hi).len; omega) wr (HB.out.later hbl) hrow (fun i hi => (HA.out.each i hi).row.later hbl))
    clear hown hrow hbl
    go_wp2_with fail
    refine HS.out.mono ?_; rintro e w5 ⟨v, rfl, ho, hb⟩
    have HF : Hid (w5.ownsRow w.heap.size 3 1 v (Ma.sel (fun i => Ma.all m k (La.at_ (q i).e.l) (q i).e.l.length) j).length ((Ma.sel (fun i => Ma.all m k (La.at_ (q i).e.l) (q i).e.l.length) j).flatMap (fun i : Nat => [.int .i64 (i : Int)])) ∧ Below w.heap.size w w5) := Lib.hid ⟨own_from ho HBL.out.size, below_step HBL.out hb⟩
    clear ho hb HS
    go_wp2_with fail
    go_ret
    exact ⟨v, rfl, HF.out⟩
end Go.Proofs.YtliobahnekohmaaGreat
