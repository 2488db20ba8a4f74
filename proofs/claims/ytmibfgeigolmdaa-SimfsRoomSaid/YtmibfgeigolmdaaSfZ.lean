/-
  What an act comes to.
-/
import Derived.Test.YtmibfgeigolmdaaSfY
namespace Go.Proofs.Ytmibfgeigolmdaa
open Go.RowKit
/-- what an act comes to; a new file would be at y -/
def Sf.St.act (S : Sf.St) (x : ActAt) (y : Nat) : Sf.St × Int :=
  if x.k = 0 then S.create x.a y else if x.k = 1 then S.append x.a x.b else if x.k = 2 then S.cut x.a x.n else if x.k = 3 then S.sync x.a else if x.k = 4 then S.dirDo else if x.k = 5 then S.rename x.a x.b else if x.k = 6 then S.remove x.a else
  if x.k = 7 then ({ S with room := max x.n 0 }, 0) else if x.k = 8 then ({ S with fuse := Sf.fuseOf x.n }, 0) else if x.k = 9 then (S.crash x.kp, 0) else (S, 0)
theorem Sf.StOk.room {B N : Nat} {S : Sf.St} (h : Sf.StOk B N S) (n : Int) (hn : n ≤ 9223372036854775807) : Sf.StOk B N { S with room := max n 0 } :=
  ⟨h.nam, h.his, h.file, h.few, h.f1, h.f2, h.s1, h.s2, (by show 0 ≤ max n 0; omega), (by show max n 0 ≤ _; omega)⟩
theorem Sf.StOk.setFuse {B N : Nat} {S : Sf.St} (h : Sf.StOk B N S) (n : Int) : Sf.StOk B N { S with fuse := Sf.fuseOf n } :=
  ⟨h.nam, h.his, h.file, h.few, (by show -1 ≤ Sf.fuseOf n; unfold Sf.fuseOf; omega), (by show Sf.fuseOf n ≤ _; unfold Sf.fuseOf; omega), h.s1, h.s2, h.r1, h.r2⟩
theorem Sf.StOk.act {B N : Nat} {S : Sf.St} (h : Sf.StOk B N S) (x : ActAt) {y : Nat} (hy : ¬ Sf.live S.synced S.chg y) (hx : fewA x = true) (hn : x.n ≤ 9223372036854775807) : Sf.StOk (B + 300) (N + 1) (S.act x y).1 := by
  have hB := Nat.le_add_right B 300
  have hN := Nat.le_succ N
  have hr := Nat.le_refl (N + 1)
  unfold Sf.St.act
  split
  · exact (h.create x.a hy).mono hB hr
  split
  · exact h.append x.a x.b (fewA_yes hx).2.1
  split
  · exact (h.cut x.a x.n).mono hB hr
  split
  · exact (h.sync x.a).mono hB hr
  split
  · exact h.dirDo.mono hB hr
  split
  · exact (h.rename x.a x.b).mono hB hr
  split
  · exact (h.remove x.a).mono hB hr
  split
  · exact (h.room x.n hn).mono hB hN
  split
  · exact (h.setFuse x.n).mono hB hN
  split
  · exact (h.crash x.kp).mono hB hN
  · exact h.mono hB hN
theorem Left.after {w w1 w2 : World} {base fb : Nat} {S2 : Sf.St} (hb : Below base w w1) (hs : Stays w w1) (h : Left w1 base fb S2 w2) : Left w base fb S2 w2 := ⟨h.fs, hb.trans h.bel, hs.trans h.st⟩
set_option maxRecDepth 100000 in
set_option maxHeartbeats 2000000 in
theorem act_any {w : World} {base fb B N : Nat} {S : Sf.St} (h : FsAt w base fb S) (hbase : base ≤ w.heap.size) (hok : Sf.StOk B N S) (hN : N ≤ 998) (hB : B ≤ 100000000) (x : ActAt) (hx : fewA x = true) (hk : ∀ W, Below base w W → Stays w W → ActIn W x) :
    Calls Try.prog 11 #[.pointer (some ⟨fb, 0, none⟩), .agg #[.int .i64 x.k, .string x.a, .string x.b, .int .i64 x.n, .slice x.ka x.kp.n x.kc]] w fun e w' => ∃ y, ¬ Sf.live S.synced S.chg y ∧ e = .returned (.int .i64 (S.act x y).2) ∧ Left w base fb (S.act x y).1 w' := by
  obtain ⟨w1, hw1⟩ : ∃ w1, w1 = w.alloc (.cells #[.int .i64 x.k, .string x.a, .string x.b, .int .i64 x.n, .slice x.ka x.kp.n x.kc] 31) := ⟨_, rfl⟩
  obtain ⟨xb, hxb⟩ : ∃ xb, xb = w.heap.size := ⟨_, rfl⟩
  have hb1 : Below w.heap.size w w1 := by rw [hw1]; exact (Below.refl _ _).alloc (Nat.le_refl _) _
  have hx1 : w1.heap[xb]? = some (.cells #[.int .i64 x.k, .string x.a, .string x.b, .int .i64 x.n, .slice x.ka x.kp.n x.kc] 31 (0, 0)) := by rw [hw1, hxb]; exact heap_alloc_new w _
  have h1 := h.far hb1
  have hbase1 := Nat.le_trans hbase hb1.size
  have hbb := hb1.mono hbase
  have hss := Stays.below hb1
  have HNL : Hid (¬ Sf.live S.synced S.chg xb) := Lib.hid (by rw [hxb]; exact (FsL.newFile h hbase).1)
  have HLA : Hid (∀ S2 w2, Left w1 base fb S2 w2 → Left w base fb S2 w2) := Lib.hid (fun S2 w2 hl => hl.after hbb hss)
  have HL0 : Hid (Left w base fb S w1) := Lib.hid ((Left.refl h1).after hbb hss)
  have hin := hk w (Below.refl _ _) (Stays.refl _)
  obtain ⟨fa, fb2, -⟩ := fewA_yes hx
  have hsa : x.a.size ≤ maxLen := hin.asz
  have hsb : x.b.size ≤ maxLen := hin.bsz
  have c0 : w1.cell? ⟨xb, 0, none⟩ = some (.int .i64 x.k) := cell_of_row _ _ _ _ _ _ hx1
  have c1 : w1.cell? ⟨xb, 1, none⟩ = some (.string x.a) := cell_of_row _ _ _ _ _ _ hx1
  have c2 : w1.cell? ⟨xb, 2, none⟩ = some (.string x.b) := cell_of_row _ _ _ _ _ _ hx1
  have c3 : w1.cell? ⟨xb, 3, none⟩ = some (.int .i64 x.n) := cell_of_row _ _ _ _ _ _ hx1
  have c4 : w1.cell? ⟨xb, 4, none⟩ = some (.slice x.ka x.kp.n x.kc) := cell_of_row _ _ _ _ _ _ hx1
  by_cases k0 : x.k = 0
  · have e0 : ∀ y, S.act x y = S.create x.a y := fun y => by unfold Sf.St.act; rw [if_pos k0]
    have HC := Lib.hid (Create_any h1 hbase1 hok (by omega) x.a hsa)
    have HE := Lib.hid e0
    rw [k0] at hw1 c0 ⊢
    clear h hbase hok hx hk hin hb1 hx1 h1 hbase1 hbb hss e0 k0
    go_enter Try.func11, Try.ntmps11
    go_upto_region 1 with (fail)
    rw [← hw1, ← hxb]
    clear hw1 hxb
    go_wp2_with fail
    refine HC.out.mono ?_; rintro e w2 ⟨hnl, rfl, hl⟩
    have HN := Lib.hid hnl; have HL := Lib.hid (HLA.out _ _ hl)
    clear hnl hl
    go_wp2_with fail
    go_ret
    exact ⟨_, HN.out, by rw [HE.out]; rfl, by rw [HE.out]; exact HL.out⟩
  by_cases k1 : x.k = 1
  · have e0 : ∀ y, S.act x y = S.append x.a x.b := fun y => by unfold Sf.St.act; rw [if_neg k0]; rw [if_pos k1]
    have HC := Lib.hid (Append_any h1 hbase1 hok (by omega) hB x.a hsa x.b fb2)
    have HE := Lib.hid e0
    rw [k1] at hw1 c0 ⊢
    clear h hbase hok hx hk hin hb1 hx1 h1 hbase1 hbb hss e0 k0 k1
    go_enter Try.func11, Try.ntmps11
    go_upto_region 1 with (fail)
    rw [← hw1, ← hxb]
    clear hw1 hxb
    go_wp2_with fail
    refine HC.out.mono ?_; rintro e w2 ⟨rfl, hl⟩
    have HL := Lib.hid (HLA.out _ _ hl)
    clear hl
    go_wp2_with fail
    go_ret
    exact ⟨_, HNL.out, by rw [HE.out]; rfl, by rw [HE.out]; exact HL.out⟩
  by_cases k2 : x.k = 2
  · have e0 : ∀ y, S.act x y = S.cut x.a x.n := fun y => by unfold Sf.St.act; rw [if_neg k0]; rw [if_neg k1]; rw [if_pos k2]
    have HC := Lib.hid (Cut_any h1 hbase1 hok (by omega) (by omega) x.a hsa x.n)
    have HE := Lib.hid e0
    rw [k2] at hw1 c0 ⊢
    clear h hbase hok hx hk hin hb1 hx1 h1 hbase1 hbb hss e0 k0 k1 k2
    go_enter Try.func11, Try.ntmps11
    go_upto_region 1 with (fail)
    rw [← hw1, ← hxb]
    clear hw1 hxb
    go_wp2_with fail
    refine HC.out.mono ?_; rintro e w2 ⟨rfl, hl⟩
    have HL := Lib.hid (HLA.out _ _ hl)
    clear hl
    go_wp2_with fail
    go_ret
    exact ⟨_, HNL.out, by rw [HE.out]; rfl, by rw [HE.out]; exact HL.out⟩
  by_cases k3 : x.k = 3
  · have e0 : ∀ y, S.act x y = S.sync x.a := fun y => by unfold Sf.St.act; rw [if_neg k0]; rw [if_neg k1]; rw [if_neg k2]; rw [if_pos k3]
    have HC := Lib.hid (Sync_any h1 hbase1 hok (by omega) x.a hsa)
    have HE := Lib.hid e0
    rw [k3] at hw1 c0 ⊢
    clear h hbase hok hx hk hin hb1 hx1 h1 hbase1 hbb hss e0 k0 k1 k2 k3
    go_enter Try.func11, Try.ntmps11
    go_upto_region 1 with (fail)
    rw [← hw1, ← hxb]
    clear hw1 hxb
    go_wp2_with fail
    refine HC.out.mono ?_; rintro e w2 ⟨rfl, hl⟩
    have HL := Lib.hid (HLA.out _ _ hl)
    clear hl
    go_wp2_with fail
    go_ret
    exact ⟨_, HNL.out, by rw [HE.out]; rfl, by rw [HE.out]; exact HL.out⟩
  by_cases k4 : x.k = 4
  · have e0 : ∀ y, S.act x y = S.dirDo := fun y => by unfold Sf.St.act; rw [if_neg k0]; rw [if_neg k1]; rw [if_neg k2]; rw [if_neg k3]; rw [if_pos k4]
    have HC := Lib.hid (SyncDir_any h1 hbase1 hok (by omega))
    have HE := Lib.hid e0
    rw [k4] at hw1 c0 ⊢
    clear h hbase hok hx hk hin hb1 hx1 h1 hbase1 hbb hss e0 k0 k1 k2 k3 k4
    go_enter Try.func11, Try.ntmps11
    go_upto_region 1 with (fail)
    rw [← hw1, ← hxb]
    clear hw1 hxb
    go_wp2_with fail
    refine HC.out.mono ?_; rintro e w2 ⟨rfl, hl⟩
    have HL := Lib.hid (HLA.out _ _ hl)
    clear hl
    go_wp2_with fail
    go_ret
    exact ⟨_, HNL.out, by rw [HE.out]; rfl, by rw [HE.out]; exact HL.out⟩
  by_cases k5 : x.k = 5
  · have e0 : ∀ y, S.act x y = S.rename x.a x.b := fun y => by unfold Sf.St.act; rw [if_neg k0]; rw [if_neg k1]; rw [if_neg k2]; rw [if_neg k3]; rw [if_neg k4]; rw [if_pos k5]
    have HC := Lib.hid (Rename_any h1 hbase1 hok (by omega) x.a x.b hsa hsb)
    have HE := Lib.hid e0
    rw [k5] at hw1 c0 ⊢
    clear h hbase hok hx hk hin hb1 hx1 h1 hbase1 hbb hss e0 k0 k1 k2 k3 k4 k5
    go_enter Try.func11, Try.ntmps11
    go_upto_region 1 with (fail)
    rw [← hw1, ← hxb]
    clear hw1 hxb
    go_wp2_with fail
    refine HC.out.mono ?_; rintro e w2 ⟨rfl, hl⟩
    have HL := Lib.hid (HLA.out _ _ hl)
    clear hl
    go_wp2_with fail
    go_ret
    exact ⟨_, HNL.out, by rw [HE.out]; rfl, by rw [HE.out]; exact HL.out⟩
  by_cases k6 : x.k = 6
  · have e0 : ∀ y, S.act x y = S.remove x.a := fun y => by unfold Sf.St.act; rw [if_neg k0]; rw [if_neg k1]; rw [if_neg k2]; rw [if_neg k3]; rw [if_neg k4]; rw [if_neg k5]; rw [if_pos k6]
    have HC := Lib.hid (Remove_any h1 hbase1 hok (by omega) x.a hsa)
    have HE := Lib.hid e0
    rw [k6] at hw1 c0 ⊢
    clear h hbase hok hx hk hin hb1 hx1 h1 hbase1 hbb hss e0 k0 k1 k2 k3 k4 k5 k6
    go_enter Try.func11, Try.ntmps11
    go_upto_region 1 with (fail)
    rw [← hw1, ← hxb]
    clear hw1 hxb
    go_wp2_with fail
    refine HC.out.mono ?_; rintro e w2 ⟨rfl, hl⟩
    have HL := Lib.hid (HLA.out _ _ hl)
    clear hl
    go_wp2_with fail
    go_ret
    exact ⟨_, HNL.out, by rw [HE.out]; rfl, by rw [HE.out]; exact HL.out⟩
  by_cases k7 : x.k = 7
  · have e0 : ∀ y, S.act x y = ({ S with room := max x.n 0 }, 0) := fun y => by unfold Sf.St.act; rw [if_neg k0]; rw [if_neg k1]; rw [if_neg k2]; rw [if_neg k3]; rw [if_neg k4]; rw [if_neg k5]; rw [if_neg k6]; rw [if_pos k7]
    have HC := Lib.hid (Room_any h1 hbase1 x.n)
    have HE := Lib.hid e0
    rw [k7] at hw1 c0 ⊢
    clear h hbase hok hx hk hin hb1 hx1 h1 hbase1 hbb hss e0 k0 k1 k2 k3 k4 k5 k6 k7
    go_enter Try.func11, Try.ntmps11
    go_upto_region 1 with (fail)
    rw [← hw1, ← hxb]
    clear hw1 hxb
    go_wp2_with fail
    refine HC.out.mono ?_; rintro e w2 ⟨rfl, l1, l2, l3⟩
    have hl : Left w1 base fb _ w2 := ⟨l1, l2, l3⟩
    clear l1 l2 l3
    have HL := Lib.hid (HLA.out _ _ hl)
    clear hl
    go_wp2_with fail
    go_ret
    exact ⟨_, HNL.out, by rw [HE.out]; rfl, by rw [HE.out]; exact HL.out⟩
  by_cases k8 : x.k = 8
  · have e0 : ∀ y, S.act x y = ({ S with fuse := Sf.fuseOf x.n }, 0) := fun y => by unfold Sf.St.act; rw [if_neg k0]; rw [if_neg k1]; rw [if_neg k2]; rw [if_neg k3]; rw [if_neg k4]; rw [if_neg k5]; rw [if_neg k6]; rw [if_neg k7]; rw [if_pos k8]
    have HC := Lib.hid (Fuse_any h1 hbase1 x.n)
    have HE := Lib.hid e0
    rw [k8] at hw1 c0 ⊢
    clear h hbase hok hx hk hin hb1 hx1 h1 hbase1 hbb hss e0 k0 k1 k2 k3 k4 k5 k6 k7 k8
    go_enter Try.func11, Try.ntmps11
    go_upto_region 1 with (fail)
    rw [← hw1, ← hxb]
    clear hw1 hxb
    go_wp2_with fail
    refine HC.out.mono ?_; rintro e w2 ⟨rfl, l1, l2, l3⟩
    have hl : Left w1 base fb _ w2 := ⟨l1, l2, l3⟩
    clear l1 l2 l3
    have HL := Lib.hid (HLA.out _ _ hl)
    clear hl
    go_wp2_with fail
    go_ret
    exact ⟨_, HNL.out, by rw [HE.out]; rfl, by rw [HE.out]; exact HL.out⟩
  by_cases k9 : x.k = 9
  · have e0 : ∀ y, S.act x y = (S.crash x.kp, 0) := fun y => by unfold Sf.St.act; rw [if_neg k0]; rw [if_neg k1]; rw [if_neg k2]; rw [if_neg k3]; rw [if_neg k4]; rw [if_neg k5]; rw [if_neg k6]; rw [if_neg k7]; rw [if_neg k8]; rw [if_pos k9]
    have HC := Lib.hid (Crash_any h1 hbase1 hok (by omega) (by omega) (fun W a b => (hk W (hbb.trans a) (hss.trans b)).keep))
    have HE := Lib.hid e0
    rw [k9] at hw1 c0 ⊢
    clear h hbase hok hx hk hin hb1 hx1 h1 hbase1 hbb hss e0 k0 k1 k2 k3 k4 k5 k6 k7 k8 k9
    go_enter Try.func11, Try.ntmps11
    go_upto_region 1 with (fail)
    rw [← hw1, ← hxb]
    clear hw1 hxb
    go_wp2_with fail
    refine HC.out.mono ?_; rintro e w2 ⟨rfl, hl⟩
    have HL := Lib.hid (HLA.out _ _ hl)
    clear hl
    go_wp2_with fail
    go_ret
    exact ⟨_, HNL.out, by rw [HE.out]; rfl, by rw [HE.out]; exact HL.out⟩
  have e0 : ∀ y, S.act x y = (S, 0) := fun y => by unfold Sf.St.act; rw [if_neg k0, if_neg k1, if_neg k2, if_neg k3, if_neg k4, if_neg k5, if_neg k6, if_neg k7, if_neg k8, if_neg k9]
  have HE := Lib.hid e0
  have d0 : decide (x.k = 0) = false := decide_eq_false k0
  have b0 : (x.k == 0) = false := by simpa using k0
  have d1 : decide (x.k = 1) = false := decide_eq_false k1
  have b1 : (x.k == 1) = false := by simpa using k1
  have d2 : decide (x.k = 2) = false := decide_eq_false k2
  have b2 : (x.k == 2) = false := by simpa using k2
  have d3 : decide (x.k = 3) = false := decide_eq_false k3
  have b3 : (x.k == 3) = false := by simpa using k3
  have d4 : decide (x.k = 4) = false := decide_eq_false k4
  have b4 : (x.k == 4) = false := by simpa using k4
  have d5 : decide (x.k = 5) = false := decide_eq_false k5
  have b5 : (x.k == 5) = false := by simpa using k5
  have d6 : decide (x.k = 6) = false := decide_eq_false k6
  have b6 : (x.k == 6) = false := by simpa using k6
  have d7 : decide (x.k = 7) = false := decide_eq_false k7
  have b7 : (x.k == 7) = false := by simpa using k7
  have d8 : decide (x.k = 8) = false := decide_eq_false k8
  have b8 : (x.k == 8) = false := by simpa using k8
  have d9 : decide (x.k = 9) = false := decide_eq_false k9
  have b9 : (x.k == 9) = false := by simpa using k9
  clear h hbase hok hx hk hin hb1 hx1 h1 hbase1 hbb hss e0 k0 k1 k2 k3 k4 k5 k6 k7 k8 k9
  go_enter Try.func11, Try.ntmps11
  go_upto_region 1 with (fail)
  rw [← hw1, ← hxb]
  clear hw1 hxb
  go_wp2_with fail
  go_ret
  exact ⟨_, HNL.out, by rw [HE.out]; rfl, by rw [HE.out]; exact HL0.out⟩
end Go.Proofs.Ytmibfgeigolmdaa
