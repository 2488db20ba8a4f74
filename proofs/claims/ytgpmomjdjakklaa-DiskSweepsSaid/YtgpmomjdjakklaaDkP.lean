/-
  The fixed example.
-/
import Derived.Test.YtgpmomjdjakklaaDkO
namespace Go.Proofs.Ytgpmomjdjakklaa
open Go.RowKit Go.Maps
namespace Sf
def yN : ByteArray := ⟨#[121]⟩
def oldB : ByteArray := ⟨#[111, 108, 100]⟩
def newB : ByteArray := ⟨#[110, 101, 119]⟩
def g0 : ByteArray → Option ByteArray := fun _ => none
def g1 : ByteArray → Option ByteArray := putG g0 xN oldB
def g2 : ByteArray → Option ByteArray := putG g1 xN newB
theorem g1_x : g1 xN = some oldB := by unfold g1 putG; exact if_pos rfl
theorem g1_o {s : ByteArray} (h : s ≠ xN) : g1 s = none := by
  unfold g1 putG
  rw [if_neg h]
  split <;> rfl
theorem g2_x : g2 xN = some newB := by unfold g2 putG; exact if_pos rfl
theorem g2_o {s : ByteArray} (h : s ≠ xN) : g2 s = none := by
  unfold g2 putG
  rw [if_neg h]
  split
  · rfl
  · exact g1_o h
theorem tmp_x : tmp xN ≠ xN := (tmp_ne xN).symm
theorem size_zero {S : St} (hn : Nice S.names) (hk : KS S.names) (h : ∀ s, cont S s = none) : Go.Maps.size S.names = 0 := by
  have := size_le hn hk [] (fun s x hx => by
    have h2 := h s
    rw [cont_of hx] at h2
    cases h2)
  simpa using this
theorem size_one {S : St} (hn : Nice S.names) (hk : KS S.names) (n : ByteArray) (h : ∀ s, s ≠ n → cont S s = none) : Go.Maps.size S.names ≤ 1 :=
  size_le hn hk [n] (fun s x hx => by
    by_cases e : s = n
    · simp [e]
    · have h2 := h s e
      rw [cont_of hx] at h2
      cases h2)
theorem total_zero {B N : Nat} {S : St} (hok : StOk B N S) (hk : KS S.names) (h : ∀ s, cont S s = none) : S.total = 0 := by
  have := total_le hok
  rw [size_zero hok.nice hk h, Nat.zero_mul] at this
  omega
/-- another file is made, and swept -/
theorem ex_sweep {B N : Nat} {S : St} (hok : StOk B N S) (hk : KS S.names) (h : Has S g2) (hf : S.fuse = -1) {z : Nat} (hz : ¬ live S.synced S.chg z) (hk3 : KS (S.create yN z).1.names) (hn3 : Nice (S.create yN z).1.names) :
    ∃ T, (S.create yN z).1.sweep [[120]] = (T, 1, 0) ∧ Has T g2 ∧ T.fuse = -1 := by
  have hzl : ∀ s, look S.names s ≠ some z := fun s hs => hz (hok.lives hs)
  have hly : look S.names yN = none := cont_none ((h.at_ yN).trans (g2_o (by decide)))
  have hsz : Go.Maps.size S.names < 64 := Nat.lt_of_le_of_lt (size_one hok.nice hk xN (fun s hs => (h.at_ s).trans (g2_o hs))) (by decide)
  have e := create_yes z h.dead (by decide : isName yN = true) hly hsz (by rw [hf]; decide)
  rw [e] at hk3 hn3 ⊢
  obtain ⟨S3, hS3⟩ : ∃ S3, S3 = (S.file z file0).tick.naming (.cre yN z) := ⟨_, rfl⟩
  show ∃ T, ((S.file z file0).tick.naming (.cre yN z)).sweep [[120]] = (T, 1, 0) ∧ Has T g2 ∧ T.fuse = -1
  have hk4 : KS S3.names := by rw [hS3]; exact hk3
  have hn4 : Nice S3.names := by rw [hS3]; exact hn3
  rw [← hS3]
  have l3 : ∀ s, look S3.names s = if s = yN then some z else look S.names s := fun s => by
    rw [hS3]
    show look (S.names.put (key yN) (Sf.hd z)) s = _
    split
    · rename_i e; rw [e]; exact look_put_same hok.nice.tidy.isMap yN z
    · rename_i e; exact look_put_other e _
  have d3 : S3.dead = false := by rw [hS3]; exact h.dead
  have f3 : S3.fuse = -1 := by rw [hS3]; exact tick_fuse (S := S) hf
  have F3 : ∀ x, x ≠ z → S3.F x = S.F x := fun x hx => by rw [hS3]; exact if_neg hx
  clear hS3 e hk3 hn3
  have hls : list S3.names = [[120], [121]] := by
    rw [list_eq hn4 hk4 (L := [[120], [121]]) (by decide) (fun s => by
      rw [l3]
      by_cases e1 : bs s = yN
      · rw [if_pos e1]
        have : s = [121] := bs_inj (e1.trans (by rfl : yN = bs [121]))
        simp [this]
      · rw [if_neg e1, ← cont_is, h.at_]
        by_cases e2 : bs s = xN
        · rw [e2, g2_x]
          have : s = [120] := bs_inj (e2.trans (by rfl : xN = bs [120]))
          simp [this]
        · rw [g2_o e2]
          simp only [Option.isSome_none, Bool.false_eq_true, false_iff, List.mem_cons, List.not_mem_nil, or_false]
          rintro (e | e)
          · exact e2 (by rw [e]; rfl)
          · exact e1 (by rw [e]; rfl))]
    exact List.mergeSort_of_pairwise (by decide)
  have hall : ∀ k ∈ list S3.names, (look S3.names (bs k)).isSome = true := fun k hk5 => (mem_list_iff hn4 hk4 k).1 hk5
  obtain ⟨T, h1, h2, h3, h4, h5, -⟩ := sweep_to [[120]] (list S3.names) S3 0 d3 f3 (list_nodup hn4 hk4) hall
  have hlen : ((list S3.names).filter fun k => decide (k ∉ [[120]])).length = 1 := by rw [hls]; decide
  rw [hlen] at h1
  have hlt : ∀ s, look T.names s = if s = xN then look S.names xN else none := fun s => by
    rw [h5, hls, l3]
    by_cases e1 : s = xN
    · rw [if_pos e1, e1]
      rw [if_neg (by decide), if_neg (by decide)]
    · rw [if_neg e1]
      by_cases e2 : s = yN
      · rw [e2]
        rw [if_pos (by decide)]
      · rw [if_neg e2]
        have hno : look S.names s = none := cont_none ((h.at_ s).trans (g2_o e1))
        rw [hno]
        split <;> rfl
  refine ⟨T.tick.dir, ?_, ⟨h2, rfl, rfl, fun s => ?_, fun s x hx => ?_⟩, tick_fuse h3⟩
  · unfold St.sweep
    rw [h1]
    show (if (0 : Int) = 0 then (if 0 + 1 = 0 then _ else _) else _) = _
    rw [if_pos rfl, if_neg (by decide), dir_yes h2 (by rw [h3]; decide)]
  · show Option.map (fun x => (T.F x).bytes) (look T.names s) = _
    rw [hlt]
    by_cases e1 : s = xN
    · rw [if_pos e1, e1, ← h.at_ xN]
      unfold cont
      cases hx : look S.names xN with
      | none => rfl
      | some x =>
        show some (T.F x).bytes = some (S.F x).bytes
        rw [h4, F3 x (fun e => hzl xN (by rw [← e]; exact hx))]
    · rw [if_neg e1, g2_o e1]; rfl
  · have hx2 : look T.names s = some x := hx
    rw [hlt] at hx2
    split at hx2
    · show T.F x = Sf.whole (T.F x).bytes
      rw [h4, F3 x (fun e => hzl xN (by rw [← e]; exact hx2))]
      exact h.wh xN x hx2
    · cases hx2
end Sf
theorem texts_one {U : World} {g : Nat} {fr : Nat × Nat} (h : U.heap[g]? = some (.cells #[.string ⟨#[120]⟩] 9 fr)) : Row 1 (tx [[120]]) U (some ⟨g, 0, none⟩) 1 := row_there 1 _ U g _ _ fr h (fun j hj => by
  obtain rfl : j = 0 := by omega
  rfl)
set_option maxRecDepth 100000 in
set_option maxHeartbeats 4000000 in
theorem works_any (W : World) : Calls Try.prog 8 #[] W fun e w' => e = .returned (.bool true) ∧ Below W.heap.size W w' := by
  have hxs : (⟨#[120]⟩ : ByteArray).size ≤ maxLen := by decide
  go_enter Try.func8, Try.ntmps8
  go_wp2_with fail
  refine (runs_new (Below.refl W.heap.size W) 100 (by decide)).mono ?_; rintro e w1 ⟨fb, rfl, hr, -⟩
  have R1 := Lib.hid hr; clear hr
  go_wp2_with fail
  refine (Save_any R1.out (by decide) (by decide) ⟨#[120]⟩ (by decide) ⟨#[111, 108, 100]⟩ (by decide)).mono ?_; rintro e w2 ⟨y, hy, rfl, hr, -⟩
  have hS := Sf.has_save R1.out.ok R1.out.keys (Sf.Has.new 100) rfl (n := Sf.xN) (b := Sf.oldB) (by decide) (by decide) hy (by decide) (by rw [Sf.total_zero R1.out.ok R1.out.keys (Sf.Has.new 100).at_]; decide)
  obtain ⟨s1, s2, s3, s4, s5⟩ := hS
  have R2 := Lib.hid hr
  rw [show ((Sf.St.new 100).save ⟨#[120]⟩ ⟨#[111, 108, 100]⟩ y).2 = 0 from s1]
  obtain ⟨S1, hS1⟩ : ∃ S1, S1 = ((Sf.St.new 100).save Sf.xN Sf.oldB y).1 := ⟨_, rfl⟩
  rw [← hS1] at s2 s3 s4 s5
  rw [show ((Sf.St.new 100).save ⟨#[120]⟩ ⟨#[111, 108, 100]⟩ y).1 = S1 from hS1.symm] at R2
  have H1 : Hid (Sf.Has S1 Sf.g1 ∧ S1.fuse = -1 ∧ S1.room = 100 ∧ S1.steps = 5) := Lib.hid ⟨s2, s3, s4, s5⟩
  clear hS1 s1 s2 s3 s4 s5 hr hy R1
  go_wp2_with fail
  refine (Steps_any R2.out.fs).mono ?_; rintro e w3 ⟨rfl, rfl⟩
  rw [H1.out.2.2.2]
  go_wp2_with fail
  refine (Save_any R2.out (by decide) (by decide) ⟨#[120]⟩ (by decide) ⟨#[110, 101, 119]⟩ (by decide)).mono ?_; rintro e w4 ⟨y2, hy, rfl, hr, -⟩
  have hS := Sf.has_save R2.out.ok R2.out.keys H1.out.1 H1.out.2.1 (n := Sf.xN) (b := Sf.newB) (by decide) (by decide) hy (Nat.lt_of_le_of_lt (Sf.size_one R2.out.ok.nice R2.out.keys Sf.xN (fun s hs => (H1.out.1.at_ s).trans (Sf.g1_o hs))) (by decide)) (by
    rw [Sf.total_one R2.out.ok.nice R2.out.keys ((H1.out.1.at_ Sf.xN).trans Sf.g1_x) (fun s hs => (H1.out.1.at_ s).trans (Sf.g1_o hs)), H1.out.2.2.1]
    decide)
  obtain ⟨s1, s2, s3, s4, s5⟩ := hS
  have R4 := Lib.hid hr
  rw [show (S1.save ⟨#[120]⟩ ⟨#[110, 101, 119]⟩ y2).2 = 0 from s1]
  obtain ⟨S2, hS2⟩ : ∃ S2, S2 = (S1.save Sf.xN Sf.newB y2).1 := ⟨_, rfl⟩
  rw [← hS2] at s2 s3 s4 s5
  rw [show (S1.save ⟨#[120]⟩ ⟨#[110, 101, 119]⟩ y2).1 = S2 from hS2.symm] at R4
  rw [Sf.g1_o Sf.tmp_x, H1.out.2.2.2] at s5
  have H2 : Hid (Sf.Has S2 Sf.g2 ∧ S2.fuse = -1 ∧ S2.steps = 10) := Lib.hid ⟨s2, s3, s5⟩
  clear hS2 s1 s2 s3 s4 s5 hr hy R2 H1
  go_wp2_with fail
  refine (Steps_any R4.out.fs).mono ?_; rintro e w5 ⟨rfl, rfl⟩
  rw [H2.out.2.2]
  go_wp2_with fail
  refine (R4.out.read ⟨#[120]⟩ hxs).mono ?_; rintro e w6 ⟨rfl, hb6⟩
  have R6 := Lib.hid (R4.out.far hb6); clear hb6 R4
  rw [show S2.read ⟨#[120]⟩ = (⟨#[110, 101, 119]⟩, 0) from Sf.read_some H2.out.1.dead ((H2.out.1.at_ Sf.xN).trans Sf.g2_x)]
  go_wp2_with fail
  refine (R6.out.create (by decide) ⟨#[121]⟩ (by decide)).mono ?_; rintro e w7 ⟨z, hz, rfl, hr, -⟩
  obtain ⟨T5, t1, t2, t3⟩ := Sf.ex_sweep R6.out.ok R6.out.keys H2.out.1 H2.out.2.1 hz hr.keys hr.ok.nice
  have R7 := Lib.hid hr
  have HT : Hid ((S2.create ⟨#[121]⟩ z).1.sweep [[120]] = (T5, 1, 0)) := Lib.hid t1
  have H5 : Hid (Sf.Has T5 Sf.g2 ∧ T5.fuse = -1) := Lib.hid ⟨t2, t3⟩
  generalize (S2.create ⟨#[121]⟩ z).1 = S3 at *
  generalize (S2.create ⟨#[121]⟩ z).2 = e3 at *
  clear hr hz t1 t2 t3 R6 H2
  go_wp2_with fail
  obtain ⟨w8, hw8⟩ : ∃ w8, w8 = w7.alloc (.cells #[.string ⟨#[120]⟩] 9) := ⟨_, rfl⟩
  obtain ⟨g, hg⟩ : ∃ g, g = w7.heap.size := ⟨_, rfl⟩
  have hb8 : Below w7.heap.size w7 w8 := by rw [hw8]; exact (Below.refl _ _).alloc (Nat.le_refl _) _
  have hc8 : w8.heap[g]? = some (.cells #[.string ⟨#[120]⟩] 9 (0, 0)) := by rw [hw8, hg]; exact heap_alloc_new w7 _
  rw [← hw8, ← hg]
  have R8 := Lib.hid (R7.out.far hb8)
  have HC8 := Lib.hid hc8
  clear hw8 hg hb8 hc8 R7
  refine (Sweep_any R8.out (by decide) (some ⟨g, 0, none⟩) 1 [[120]] (by decide) (fun U _ hm => texts_one (hm.st.block HC8.out (by decide)))).mono ?_; rintro e w9 ⟨rfl, hr, -⟩
  rw [HT.out] at hr ⊢
  have R9 := Lib.hid hr
  clear hr R8 HC8 HT
  go_wp2_with fail
  refine (Repair_any R9.out (by decide) (by decide) ⟨#[120]⟩ hxs 1).mono ?_; rintro e wa ⟨rfl, hr, -⟩
  obtain ⟨-, hp⟩ := Sf.has_repair H5.out.1 R9.out.ok.nice H5.out.2 Sf.g2_x 1
  obtain ⟨p1, p2, p3⟩ := hp (by decide) (by decide)
  have RA := Lib.hid hr
  rw [show (T5.repair ⟨#[120]⟩ 1).2 = 0 from p1]
  have HA : Hid (Sf.Has (T5.repair ⟨#[120]⟩ 1).1 (Sf.setG Sf.g2 Sf.xN (Sf.newB.extract 0 1))) := Lib.hid p2
  generalize (T5.repair ⟨#[120]⟩ 1).1 = T6 at *
  clear hr p1 p2 p3 hp R9 H5
  go_wp2_with fail
  refine (RA.out.crash (by decide) (by decide) (k := Sf.keep0) (fun U _ _ => keep_none U)).mono ?_; rintro e wb ⟨rfl, hr, -, -⟩
  have RB := Lib.hid hr
  have HB := Lib.hid (HA.out.crash Sf.keep0)
  generalize T6.crash Sf.keep0 = T7 at *
  clear hr RA HA
  go_wp2_with fail
  refine (RB.out.read ⟨#[120]⟩ hxs).mono ?_; rintro e wc ⟨rfl, hbc⟩
  have RC := Lib.hid (RB.out.far hbc); clear hbc RB
  rw [show T7.read ⟨#[120]⟩ = (⟨#[110]⟩, 0) from Sf.read_some HB.out.dead ((HB.out.at_ Sf.xN).trans (if_pos rfl))]
  have b0 : ((⟨#[110, 101, 119]⟩ : ByteArray).toList == (⟨#[110, 101, 119]⟩ : ByteArray).toList) = true := by rw [str_beq]; decide
  have b1 : ((⟨#[110]⟩ : ByteArray).toList == (⟨#[110]⟩ : ByteArray).toList) = true := by rw [str_beq]; decide
  go_wp2_with fail
  refine (RC.out.list).mono ?_; rintro e we ⟨A, c, rfl, -, hbe⟩
  have RE := Lib.hid (RC.out.far hbe); clear hbe RC
  have HG : ∀ s, (Sf.cont T7 s).isSome = true ↔ s = Sf.xN := fun s => by
    rw [HB.out.at_]
    unfold Sf.setG
    by_cases e : s = Sf.xN
    · rw [if_pos e]; simp [e]
    · rw [if_neg e, Sf.g2_o e]; simp [e]
  rw [show (Sf.list T7.names).length = 1 by rw [Sf.list_one RE.out.ok.nice RE.out.keys HG]; rfl]
  clear HG
  go_wp2_with fail
  refine (Cost_any RE.out ⟨#[120]⟩ (by decide)).mono ?_; rintro e wf ⟨rfl, hbf⟩
  have RF := Lib.hid (RE.out.far hbf); clear hbf
  rw [show (if (Sf.look T7.names (tmp ⟨#[120]⟩)).isSome = true then (6 : Int) else 5) = 5 from if_neg (by
    rw [← Sf.cont_is, HB.out.at_]
    show ¬ (Sf.setG Sf.g2 Sf.xN (Sf.newB.extract 0 1) (tmp Sf.xN)).isSome = true
    unfold Sf.setG
    rw [if_neg Sf.tmp_x, Sf.g2_o Sf.tmp_x]
    simp)]
  go_wp2_with fail
  go_ret
  exact ⟨rfl, RF.out.bel⟩
end Go.Proofs.Ytgpmomjdjakklaa
