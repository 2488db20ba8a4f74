import Derived.Test.YtidfanmfibbiiaaTrCb
/-
  What add and keep come to.
-/
namespace Go.Proofs.Ytidfanmfibbiiaa
open Go.RowKit
def RecAt.rc (r : RecAt) : Tr.Rec (List Lab) := ⟨r.kind, La.listOf r.f r.ln, r.t, r.hi, r.v⟩
def recsL (r : Nat → RecAt) (m : Nat) : List (Tr.Rec (List Lab)) := (List.range m).map fun i => (r i).rc
theorem recsL_put (r : Nat → RecAt) (m : Nat) (x : RecAt) : recsL (putR r m x) (m + 1) = recsL r m ++ [x.rc] := by
  unfold recsL
  rw [List.range_succ, List.map_append]
  congr 1
  · refine List.map_congr_left (fun i hi => ?_)
    have := List.mem_range.1 hi
    unfold putR
    rw [if_neg (by omega)]
  · simp [putR]
def OpAt.op (o : OpAt) : Tr.Op (List Lab) (List Mat) := ⟨o.kind, La.listOf o.f o.ln, (List.range o.mn).map o.m, o.t, o.hi, o.v⟩
/-- an operation that lies in a world, and is looked at -/
structure OpSm (w : World) (o : OpAt) : Prop where
  labs : LabRow w o.la o.ln o.f
  lnone : o.la = none → o.ln = 0 ∧ o.lc = 0
  lfew : o.ln ≤ 10
  lsz : ∀ i, i < o.ln → (o.f i).1.size ≤ 300 ∧ (o.f i).2.size ≤ 300
  mats : Row 3 (mx o.m) w o.ma o.mn
  mnone : o.ma = none → o.mn = 0 ∧ o.mc = 0
  mfew : o.mn ≤ 10
  msz : ∀ i, i < o.mn → (o.m i).n.size ≤ 300 ∧ (o.m i).v.size ≤ 300
theorem OpSm.later {w w2 : World} {o : OpAt} (h : OpSm w o) (hb : Below w.heap.size w w2) : OpSm w2 o := ⟨h.labs.later hb, h.lnone, h.lfew, h.lsz, h.mats.later hb, h.mnone, h.mfew, h.msz⟩
/-- what an operation at work leaves -/
def OpEnd (w : World) (b : Nat) (op : List Value) (gen : Int) (r : Tr.Stt (List Lab) × Tr.Ans (List Lab) × List (Tr.Rec (List Lab))) (n0 : Nat) (e : Ending) (W' : World) : Prop :=
  e = .returned (.int .i64 r.2.1.err) ∧ ∃ (v' : Value) (mb' n' : Nat) (q' : Nat → SerAt) (cnt : Int) (ans recs : Value), Work w W' b v' r.1.floor mb' op gen 0 cnt ans recs n' q' ∧ sers q' n' = r.1.ser ∧ n' ≤ n0 + 1 ∧
    (r.2.1.err = 0 → cnt = r.2.1.n ∧ (∃ an aq, Raised W' w.heap.size w.heap.size ans an aq ∧ sers aq an = r.2.1.ser ∧ an ≤ 1000) ∧ ∃ m rr, OwnRecs W' w.heap.size recs m rr ∧ recsL rr m = r.2.2 ∧ m ≤ 1000)
theorem no_ans (W : World) (base : Nat) (q : Nat → SerAt) : Raised W base base (.slice none 0 0) 0 q := ⟨World.ownsRow_nil _ _ _ _, fun i hi => by omega, fun i j hi => by omega⟩
theorem no_recs (W : World) (base : Nat) (r : Nat → RecAt) : OwnRecs W base (.slice none 0 0) 0 r := ⟨World.ownsRow_nil _ _ _ _, fun i hi => by omega⟩
theorem run_keep0 (S : Tr.Stt (List Lab)) (o : OpAt) (g : Int) (hk : o.kind = 2) : Tr.run par S o.op g = if Tr.isT o.t then (if S.floor < o.t then (Tr.raiseS S o.t, ⟨0, Tr.raiseN o.t S.ser, []⟩, [⟨2, [], o.t, 0, 0⟩]) else (S, ⟨0, 0, []⟩, [])) else (S, ⟨1, 0, []⟩, []) := by
  unfold Tr.run
  have e : (o.op).kind = 2 := hk
  rw [if_neg (by rw [e]; decide), if_neg (by rw [e]; decide), if_pos e]
  rfl
def rec2 (t : Int) : RecAt := ⟨2, none, 0, 0, fun _ => (ByteArray.empty, ByteArray.empty), t, 0, 0⟩
set_option maxRecDepth 100000 in
set_option maxHeartbeats 4000000 in
theorem keep_any {w W : World} {b mb n : Nat} {sl : Value} {fl gen : Int} {o : OpAt} {q : Nat → SerAt} (hw : Work w W b sl fl mb (opCells o) gen 0 0 (.slice none 0 0) (.slice none 0 0) n q) (hk : o.kind = 2) :
    Calls Try.prog 24 #[.pointer (some ⟨b, 0, none⟩)] W (OpEnd w b (opCells o) gen (Tr.run par ⟨sers q n, fl⟩ o.op gen) n) := by
  have HW := Lib.hid hw
  have HIT := Lib.hid (fun U => isTime_any o.t U)
  have z1 : W.cell? ⟨b, 1, none⟩ = some (.int .i64 fl) := cell_of_row _ _ _ _ _ _ hw.wk
  have z6 : W.cell? ⟨b, 6, none⟩ = some (.int .i64 o.t) := cell_of_row _ _ _ _ _ _ hw.wk
  have HRUN := Lib.hid (run_keep0 ⟨sers q n, fl⟩ o gen hk)
  have HRA := Lib.hid (raise_any hw o.t)
  have hfew := raiseN_few o.t q n (fun i hi => (hw.rows.each i hi).sfew) n (Nat.le_refl _)
  have hnf := hw.rows.few
  clear hw
  go_enter Try.func24, Try.ntmps24
  go_wp2_with fail
  refine (HIT.out _).mono ?_; rintro e w2 ⟨rfl, rfl⟩
  cases c3 : Tr.isT o.t
  · have HE : Hid (OpEnd w b (opCells o) gen (Tr.run par ⟨sers q n, fl⟩ o.op gen) n (.returned (.int .i64 1)) w2) := Lib.hid (by
      rw [HRUN.out, c3]
      simp only [Bool.false_eq_true, if_false]
      exact ⟨rfl, _, mb, n, q, 0, _, _, HW.out, rfl, by omega, fun h => absurd (show (1 : Int) = 0 from h) (by decide)⟩)
    clear c3
    go_wp2_with fail
    go_ret
    exact HE.out
  · by_cases c4 : fl < o.t
    · have d4 : decide (fl < o.t) = true := decide_eq_true c4
      have HR2 : Hid (Tr.run par ⟨sers q n, fl⟩ o.op gen = (Tr.raiseS ⟨sers q n, fl⟩ o.t, ⟨0, Tr.raiseN o.t (sers q n), []⟩, [⟨2, [], o.t, 0, 0⟩])) := Lib.hid (by
        rw [HRUN.out, c3]
        simp only [if_true, c4])
      clear c3 c4
      go_wp2_with fail
      refine HRA.out.mono ?_; rintro e w3 ⟨v3, mb3, n3, q3, rfl, hw3, hs3⟩
      have HW3 := Lib.hid hw3; have HS3 := Lib.hid hs3
      clear hw3 hs3
      have HT := Lib.hid (tell_any HW3.out (no_recs w3 w.heap.size fun _ => rec2 0) (by decide) (rec2 o.t) ⟨World.ownsRow_nil _ _ _ _, fun i (hi : i < 0) => by omega, Nat.zero_le _⟩ ((Tr.raiseN o.t (sers q n) : Nat) : Int) (by omega) (by omega) (by decide) (by decide) rfl)
      have hn3 : n3 ≤ n := by
        have := congrArg List.length HS3.out
        rw [sers_length, List.length_map] at this
        have h2 := (List.filter_sublist (p := Tr.stays o.t) (l := sers q n)).length_le
        rw [sers_length] at h2
        omega
      go_wp2_with fail
      refine HT.out.mono ?_; rintro e w4 ⟨recs4, rfl, hw4, hr4, -⟩
      have HE : Hid (OpEnd w b (opCells o) gen (Tr.run par ⟨sers q n, fl⟩ o.op gen) n (.returned (.int .i64 0)) w4) := Lib.hid (by
        rw [HR2.out]
        refine ⟨rfl, _, mb3, n3, q3, _, _, recs4, hw4, HS3.out, by omega, fun _ => ⟨by simp, ⟨0, q3, no_ans _ _ _, rfl, by omega⟩, 1, _, hr4, ?_, by omega⟩⟩
        rw [recsL_put]; rfl)
      clear hw4 hr4
      go_wp2_with fail
      go_ret
      exact HE.out
    · have d4 : decide (fl < o.t) = false := decide_eq_false c4
      have HE : Hid (OpEnd w b (opCells o) gen (Tr.run par ⟨sers q n, fl⟩ o.op gen) n (.returned (.int .i64 0)) w2) := Lib.hid (by
        rw [HRUN.out, c3]
        simp only [if_true, c4, if_false]
        exact ⟨rfl, _, mb, n, q, 0, _, _, HW.out, rfl, by omega, fun _ => ⟨rfl, ⟨0, q, no_ans _ _ _, rfl, by omega⟩, 0, fun _ => rec2 0, no_recs _ _ _, rfl, by omega⟩⟩)
      clear c3 c4
      go_wp2_with fail
      go_ret
      exact HE.out
end Go.Proofs.Ytidfanmfibbiiaa
/-
  What add comes to.
-/
namespace Go.Proofs.Ytidfanmfibbiiaa
open Go.RowKit
theorem run_add (S : Tr.Stt (List Lab)) (o : OpAt) (g : Int) (hk : o.kind = 0) : Tr.run par S o.op g =
    if (Tr.put par S (La.listOf o.f o.ln) o.t o.v g).2.2 = 0 then
      if (Tr.put par S (La.listOf o.f o.ln) o.t o.v g).2.1 then ((Tr.put par S (La.listOf o.f o.ln) o.t o.v g).1, ⟨0, 1, []⟩, [⟨0, La.listOf o.f o.ln, o.t, 0, o.v⟩]) else (S, ⟨0, 0, []⟩, [])
    else (S, ⟨(Tr.put par S (La.listOf o.f o.ln) o.t o.v g).2.2, 0, []⟩, []) := by
  unfold Tr.run
  have e : (o.op).kind = 0 := hk
  rw [if_pos e]
  rfl
/-- what is read while an operation that appends is done -/
structure AddS (b xb : Nat) (gen : Int) (xc : Array Value) (U : World) : Prop where
  c10 : U.cell? ⟨b, 10, none⟩ = some (.int .i64 gen)
  xk : U.heap[xb]? = some (.cells xc 39 (0, 0))
set_option maxRecDepth 100000 in
set_option maxHeartbeats 4000000 in
theorem add_any {w W : World} {b mb n : Nat} {sl : Value} {fl gen : Int} {o : OpAt} {q : Nat → SerAt} (hw : Work w W b sl fl mb (opCells o) gen 0 0 (.slice none 0 0) (.slice none 0 0) n q) (hn2 : n ≤ 900) (hs9 : ∀ i, i < n → (q i).sn ≤ 900) (ho : OpSm w o) (hk : o.kind = 0) :
    Calls Try.prog 22 #[.pointer (some ⟨b, 0, none⟩)] W (OpEnd w b (opCells o) gen (Tr.run par ⟨sers q n, fl⟩ o.op gen) n) := by
  have HRUN := Lib.hid (run_add ⟨sers q n, fl⟩ o gen hk)
  have HPR := Lib.hid (@Tr.put_did (List Lab) (List Mat) _ par ⟨sers q n, fl⟩ (La.listOf o.f o.ln) o.t o.v gen)
  have HPN := Lib.hid (@Tr.put_no (List Lab) (List Mat) _ par ⟨sers q n, fl⟩ (La.listOf o.f o.ln) o.t o.v gen)
  have HW := Lib.hid hw
  have HO := Lib.hid ho
  have z3 : W.cell? ⟨b, 3, none⟩ = some (.int .i64 o.kind) := cell_of_row _ _ _ _ _ _ hw.wk
  have z4 : W.cell? ⟨b, 4, none⟩ = some (.slice o.la o.ln o.lc) := cell_of_row _ _ _ _ _ _ hw.wk
  have z5 : W.cell? ⟨b, 5, none⟩ = some (.slice o.ma o.mn o.mc) := cell_of_row _ _ _ _ _ _ hw.wk
  have z6 : W.cell? ⟨b, 6, none⟩ = some (.int .i64 o.t) := cell_of_row _ _ _ _ _ _ hw.wk
  have z7 : W.cell? ⟨b, 7, none⟩ = some (.int .i64 o.hi) := cell_of_row _ _ _ _ _ _ hw.wk
  have z8 : W.cell? ⟨b, 8, none⟩ = some (.int .u64 o.v) := cell_of_row _ _ _ _ _ _ hw.wk
  have z9 : W.cell? ⟨b, 9, none⟩ = some (.int .i64 o.gen) := cell_of_row _ _ _ _ _ _ hw.wk
  obtain ⟨w1, hw1⟩ : ∃ w1, w1 = W.alloc (.cells #[.int .i64 o.kind, .slice o.la o.ln o.lc, .slice o.ma o.mn o.mc, .int .i64 o.t, .int .i64 o.hi, .int .u64 o.v, .int .i64 o.gen] 39) := ⟨_, rfl⟩
  have hb1 : Below W.heap.size W w1 := by rw [hw1]; exact (Below.refl _ _).alloc (Nat.le_refl _) _
  have HX1 : Hid (w1.heap[W.heap.size]? = some (.cells #[.int .i64 o.kind, .slice o.la o.ln o.lc, .slice o.ma o.mn o.mc, .int .i64 o.t, .int .i64 o.hi, .int .u64 o.v, .int .i64 o.gen] 39 (0, 0))) := Lib.hid (by rw [hw1]; exact heap_alloc_new W _)
  have HW1 := Lib.hid (hw.far hb1)
  have HB1 := Lib.hid hb1
  have HPU := Lib.hid (fun U (hu : Work w U b sl fl mb (opCells o) gen 0 0 (.slice none 0 0) (.slice none 0 0) n q) => put_any hu hn2 hs9 (c := o.lc) ho.lnone (Nat.le_trans ho.lfew (by decide)) ho.lsz ho.labs o.t o.v gen)
  clear hw ho hs9 hb1 hk
  generalize hrr : Tr.put par ⟨sers q n, fl⟩ (La.listOf o.f o.ln) o.t o.v gen = r at *
  clear hrr
  go_enter Try.func22, Try.ntmps22
  go_wp2_with fail
  rw [← hw1]
  clear hw1 z3 z4 z5 z6 z7 z8 z9
  have HD : Hid (Below w1.heap.size w1 w1.drew) := Lib.hid (Below.refl _ _).drew
  refine plain_T (AddS b W.heap.size gen #[.int .i64 o.kind, .slice o.la o.ln o.lc, .slice o.ma o.mn o.mc, .int .i64 o.t, .int .i64 o.hi, .int .u64 o.v, .int .i64 o.gen]) [] (by kernel_rfl) ?_
  generalize w1.drew = wd at HD ⊢
  have HA : Hid ((AddS b W.heap.size gen #[.int .i64 o.kind, .slice o.la o.ln o.lc, .slice o.ma o.mn o.mc, .int .i64 o.t, .int .i64 o.hi, .int .u64 o.v, .int .i64 o.gen]) wd) := Lib.hid ⟨cell_of_row _ _ _ _ _ _ (heap_keep HW1.out.wk HD.out), heap_keep HX1.out HD.out⟩
  refine wpAnyT_pick (S := (AddS b W.heap.size gen #[.int .i64 o.kind, .slice o.la o.ln o.lc, .slice o.ma o.mn o.mc, .int .i64 o.t, .int .i64 o.hi, .int .u64 o.v, .int .i64 o.gen])) (by kernel_rfl) Only.panic Only.keepsIn (w := wd) HA.out [0, 1, 2, 3, 4, 5, 6, 7, 8, 9, 10] 6 _ _ (by kernel_rfl) ?_
  refine PickT.value (d := some 11) (.pointer (some ⟨b, 0, none⟩)) rfl rfl (by kernel_rfl) (fun U hU => (by go_simp)) ?_
  refine PickT.value (d := some 12) (.pointer (some ⟨W.heap.size, 1, none⟩)) rfl rfl (by kernel_rfl) (fun U hU => (by go_simp)) ?_
  refine PickT.value (d := some 13) (.slice o.la o.ln o.lc) rfl rfl (by kernel_rfl) (fun U hU => (by have h0 : U.cell? ⟨W.heap.size, 1, none⟩ = some (.slice o.la o.ln o.lc) := cell_of_row _ _ _ _ _ _ hU.xk; go_simp)) ?_
  refine PickT.value (d := some 14) (.pointer (some ⟨W.heap.size, 3, none⟩)) rfl rfl (by kernel_rfl) (fun U hU => (by go_simp)) ?_
  refine PickT.value (d := some 15) (.int .i64 o.t) rfl rfl (by kernel_rfl) (fun U hU => (by have h0 : U.cell? ⟨W.heap.size, 3, none⟩ = some (.int .i64 o.t) := cell_of_row _ _ _ _ _ _ hU.xk; go_simp)) ?_
  refine PickT.value (d := some 16) (.pointer (some ⟨W.heap.size, 5, none⟩)) rfl rfl (by kernel_rfl) (fun U hU => (by go_simp)) ?_
  refine PickT.value (d := some 17) (.int .u64 o.v) rfl rfl (by kernel_rfl) (fun U hU => (by have h0 : U.cell? ⟨W.heap.size, 5, none⟩ = some (.int .u64 o.v) := cell_of_row _ _ _ _ _ _ hU.xk; go_simp)) ?_
  refine PickT.value (d := some 18) (.pointer (some ⟨b, 0, none⟩)) rfl rfl (by kernel_rfl) (fun U hU => (by go_simp)) ?_
  refine PickT.value (d := some 19) (.pointer (some ⟨b, 0, none⟩)) rfl rfl (by kernel_rfl) (fun U hU => (by go_simp)) ?_
  refine PickT.value (d := some 20) (.pointer (some ⟨b, 10, none⟩)) rfl rfl (by kernel_rfl) (fun U hU => (by go_simp)) ?_
  refine PickT.value (d := some 21) (.int .i64 gen) rfl rfl (by kernel_rfl) (fun U hU => (by have h0 : U.cell? ⟨b, 10, none⟩ = some (.int .i64 gen) := hU.c10; go_simp)) ?_
  simp only [PickT, Act.put, List.setIfInBounds_toArray, List.set_cons_zero, List.set_cons_succ]
  refine wpAnyT_one (i := 11) (by kernel_rfl) rfl (by kernel_rfl) ?_
  intro K hK
  unfold Oper.wp
  go_simp
  refine (HPU.out _ (HW1.out.far HD.out)).mono ?_; rintro e w5 ⟨rfl, v5, mb5, n5, q5, hw5, hs5, hn5, hk5⟩
  have HW5 := Lib.hid hw5; have HS5 := Lib.hid hs5
  have HX5 : Hid (w5.heap[W.heap.size]? = some (.cells #[.int .i64 o.kind, .slice o.la o.ln o.lc, .slice o.ma o.mn o.mc, .int .i64 o.t, .int .i64 o.hi, .int .u64 o.v, .int .i64 o.gen] 39 (0, 0))) := Lib.hid (hk5 _ _ (heap_keep HX1.out HD.out) (fun cs T fr e => by cases e; decide))
  clear hw5 hs5 hk5
  have HA5 : Hid ((AddS b W.heap.size gen #[.int .i64 o.kind, .slice o.la o.ln o.lc, .slice o.ma o.mn o.mc, .int .i64 o.t, .int .i64 o.hi, .int .u64 o.v, .int .i64 o.gen]) w5) := Lib.hid ⟨cell_of_row _ _ _ _ _ _ HW5.out.wk, HX5.out⟩
  refine hK _ _ (fun _ => HA5.out) ?_
  clear hK K
  cases hd : r.2.1 with
  | false =>
    have HE : Hid (OpEnd w b (opCells o) gen (Tr.run par ⟨sers q n, fl⟩ o.op gen) n (.returned (.int .i64 r.2.2)) w5) := Lib.hid (by
      have h1 := HPN.out hd
      rw [HRUN.out]
      have hw5 := HW5.out
      rw [h1] at hw5
      have hs5 := HS5.out
      rw [h1] at hs5
      split
      · rename_i h0
        rw [hd, if_neg (by decide), h0]
        exact ⟨rfl, _, mb5, n5, q5, 0, _, _, hw5, hs5, hn5, fun _ => ⟨rfl, ⟨0, q5, no_ans _ _ _, rfl, by omega⟩, 0, fun _ => rec2 0, no_recs _ _ _, rfl, by omega⟩⟩
      · rename_i h0
        exact ⟨rfl, _, mb5, n5, q5, 0, _, _, hw5, hs5, hn5, fun h => absurd h h0⟩)
    refine wpAnyT_pick (S := (AddS b W.heap.size gen #[.int .i64 o.kind, .slice o.la o.ln o.lc, .slice o.ma o.mn o.mc, .int .i64 o.t, .int .i64 o.hi, .int .u64 o.v, .int .i64 o.gen])) (by kernel_rfl) Only.panic Only.keepsIn (w := w5) HA5.out [12, 13, 14, 15, 16] 0 _ _ (by kernel_rfl) ?_
    refine PickT.value (d := some 10) (.tuple #[.bool false, .int .i64 r.2.2]) rfl rfl (by kernel_rfl) (fun U hU => (by go_simp)) ?_
    refine PickT.value (d := some 23) (.bool false) rfl rfl (by kernel_rfl) (fun U hU => (by go_simp)) ?_
    refine PickT.value (d := some 24) (.int .i64 r.2.2) rfl rfl (by kernel_rfl) (fun U hU => (by go_simp)) ?_
    refine PickT.value (d := some 4) (.bool false) rfl rfl (by kernel_rfl) (fun U hU => (by go_simp)) ?_
    refine PickT.value (d := some 5) (.int .i64 r.2.2) rfl rfl (by kernel_rfl) (fun U hU => (by go_simp)) ?_
    simp only [PickT, Act.put, List.setIfInBounds_toArray, List.set_cons_zero, List.set_cons_succ]
    refine wpAnyT_done (by kernel_rfl) ?_ _
    refine Only.next ?_
    generalize r.2.2 = er at *
    clear hd
    go_wp2_with fail
    go_ret
    exact HE.out
  | true =>
    have h0 : r.2.2 = 0 := (HPR.out hd).2.2.2.2.1
    have HR2 : Hid (Tr.run par ⟨sers q n, fl⟩ o.op gen = (r.1, ⟨0, 1, []⟩, [⟨0, La.listOf o.f o.ln, o.t, 0, o.v⟩])) := Lib.hid (by
      rw [HRUN.out, if_pos h0, if_pos hd])
    rw [h0]
    refine wpAnyT_pick (S := (AddS b W.heap.size gen #[.int .i64 o.kind, .slice o.la o.ln o.lc, .slice o.ma o.mn o.mc, .int .i64 o.t, .int .i64 o.hi, .int .u64 o.v, .int .i64 o.gen])) (by kernel_rfl) Only.panic Only.keepsIn (w := w5) HA5.out [12, 13, 14, 15, 16] 0 _ _ (by kernel_rfl) ?_
    refine PickT.value (d := some 10) (.tuple #[.bool true, .int .i64 0]) rfl rfl (by kernel_rfl) (fun U hU => (by go_simp)) ?_
    refine PickT.value (d := some 23) (.bool true) rfl rfl (by kernel_rfl) (fun U hU => (by go_simp)) ?_
    refine PickT.value (d := some 24) (.int .i64 0) rfl rfl (by kernel_rfl) (fun U hU => (by go_simp)) ?_
    refine PickT.value (d := some 4) (.bool true) rfl rfl (by kernel_rfl) (fun U hU => (by go_simp)) ?_
    refine PickT.value (d := some 5) (.int .i64 0) rfl rfl (by kernel_rfl) (fun U hU => (by go_simp)) ?_
    simp only [PickT, Act.put, List.setIfInBounds_toArray, List.set_cons_zero, List.set_cons_succ]
    refine wpAnyT_done (by kernel_rfl) ?_ _
    refine Only.next ?_
    clear hd h0 HRUN HPR HPN HPU HA HA5
    go_wp2_with fail
    have HWK5 := HW5.out.wk
    have HD6 : Hid (Below w5.heap.size w5 w5.drew) := Lib.hid (Below.refl _ _).drew
    refine plain_T (fun U => U.heap[W.heap.size]? = some (.cells #[.int .i64 o.kind, .slice o.la o.ln o.lc, .slice o.ma o.mn o.mc, .int .i64 o.t, .int .i64 o.hi, .int .u64 o.v, .int .i64 o.gen] 39 (0, 0))) [9] (by kernel_rfl) ?_
    generalize w5.drew = we at HD6 ⊢
    have HX6 := Lib.hid (heap_keep HX5.out HD6.out)
    refine wpAnyT_pick (S := (fun U => U.heap[W.heap.size]? = some (.cells #[.int .i64 o.kind, .slice o.la o.ln o.lc, .slice o.ma o.mn o.mc, .int .i64 o.t, .int .i64 o.hi, .int .u64 o.v, .int .i64 o.gen] 39 (0, 0)))) (by kernel_rfl) Only.panic Only.keepsIn (w := we) HX6.out [0, 1, 2, 4, 5, 6, 7] 3 _ _ (by kernel_rfl) ?_
    refine PickT.value (d := some 26) (.pointer (some ⟨b, 0, none⟩)) rfl rfl (by kernel_rfl) (fun U hU => (by go_simp)) ?_
    refine PickT.value (d := some 27) (.pointer (some ⟨W.heap.size, 1, none⟩)) rfl rfl (by kernel_rfl) (fun U hU => (by go_simp)) ?_
    refine PickT.value (d := some 28) (.slice o.la o.ln o.lc) rfl rfl (by kernel_rfl) (fun U hU => (by have h0 : U.cell? ⟨W.heap.size, 1, none⟩ = some (.slice o.la o.ln o.lc) := cell_of_row _ _ 1 _ _ _ hU; go_simp)) ?_
    refine PickT.value (d := some 30) (.pointer (some ⟨W.heap.size, 3, none⟩)) rfl rfl (by kernel_rfl) (fun U hU => (by go_simp)) ?_
    refine PickT.value (d := some 31) (.int .i64 o.t) rfl rfl (by kernel_rfl) (fun U hU => (by have h0 : U.cell? ⟨W.heap.size, 3, none⟩ = some (.int .i64 o.t) := cell_of_row _ _ 3 _ _ _ hU; go_simp)) ?_
    refine PickT.value (d := some 32) (.pointer (some ⟨W.heap.size, 5, none⟩)) rfl rfl (by kernel_rfl) (fun U hU => (by go_simp)) ?_
    refine PickT.value (d := some 33) (.int .u64 o.v) rfl rfl (by kernel_rfl) (fun U hU => (by have h0 : U.cell? ⟨W.heap.size, 5, none⟩ = some (.int .u64 o.v) := cell_of_row _ _ 5 _ _ _ hU; go_simp)) ?_
    simp only [PickT, Act.put, List.setIfInBounds_toArray, List.set_cons_zero, List.set_cons_succ]
    refine wpAnyT_one (i := 3) (by kernel_rfl) rfl (by kernel_rfl) ?_
    intro K hK
    unfold Oper.wp
    go_simp
    have HL6 := Lib.hid (HO.out.labs.later (below_step HW5.out.bel HD6.out))
    refine (cloneL_any o.la o.ln o.lc (Nat.le_trans HO.out.lfew (by decide)) HO.out.lnone (lx o.f) (lx_one o.f) we (LabRow.row HL6.out)).mono ?_
    rintro e w7 ⟨v7, rfl, hown7, hb7⟩
    obtain ⟨A7, c7, rfl, -, -, -, -⟩ := own_row hown7
    have HX7 := Lib.hid (heap_keep HX6.out hb7)
    have HW7 := Lib.hid (HW5.out.far (below_step HD6.out hb7))
    have HOR : Hid (OwnRec w7 w.heap.size ⟨0, A7, o.ln, c7, o.f, o.t, 0, o.v⟩) := Lib.hid ⟨own_from hown7 (Nat.le_trans HW5.out.bel.size HD6.out.size), HO.out.lsz, Nat.le_trans HO.out.lfew (by decide)⟩
    clear hown7 hb7
    refine hK _ _ (fun _ => HX7.out) ?_
    clear hK K
    refine wpAnyT_pick (S := (fun U => U.heap[W.heap.size]? = some (.cells #[.int .i64 o.kind, .slice o.la o.ln o.lc, .slice o.ma o.mn o.mc, .int .i64 o.t, .int .i64 o.hi, .int .u64 o.v, .int .i64 o.gen] 39 (0, 0)))) (by kernel_rfl) Only.panic Only.keepsIn (w := w7) HX7.out [8] 1 _ _ (by kernel_rfl) ?_
    refine PickT.value (d := some 34) (.agg #[.int .i64 0, .slice A7 o.ln c7, .int .i64 o.t, .int .i64 0, .int .u64 o.v]) rfl rfl (by kernel_rfl) (fun U hU => (by go_simp)) ?_
    simp only [PickT, Act.put, List.setIfInBounds_toArray, List.set_cons_zero, List.set_cons_succ]
    have HT := Lib.hid (tell_any HW7.out (no_recs w7 w.heap.size fun _ => rec2 0) (by decide) ⟨0, A7, o.ln, c7, o.f, o.t, 0, o.v⟩ HOR.out 1 (by decide) (by decide) (by decide) (by decide) rfl)
    refine wpAnyT_one (i := 9) (by kernel_rfl) rfl (by kernel_rfl) ?_
    intro K hK
    unfold Oper.wp
    go_simp
    refine HT.out.mono ?_; rintro e w8 ⟨recs8, rfl, hw8, hr8, -⟩
    have HE : Hid (OpEnd w b (opCells o) gen (Tr.run par ⟨sers q n, fl⟩ o.op gen) n (.returned (.int .i64 0)) w8) := Lib.hid (by
      rw [HR2.out]
      refine ⟨rfl, _, mb5, n5, q5, _, _, recs8, hw8, HS5.out, hn5, fun _ => ⟨by simp, ⟨0, q5, no_ans _ _ _, rfl, by omega⟩, 1, _, hr8, ?_, by omega⟩⟩
      rw [recsL_put]; rfl)
    clear hw8 hr8
    refine hK _ _ (fun h => absurd h (by decide)) ?_
    clear hK K
    refine wpAnyT_done (by kernel_rfl) ?_ _
    refine Only.next ?_
    go_wp2_with fail
    go_ret
    exact HE.out
end Go.Proofs.Ytidfanmfibbiiaa
/-
  What remove comes to.
-/
namespace Go.Proofs.Ytidfanmfibbiiaa
open Go.RowKit
theorem run_remove (S : Tr.Stt (List Lab)) (o : OpAt) (g : Int) (hk : o.kind = 1) : Tr.run par S o.op g = if par.mok ((List.range o.mn).map o.m) = true ∧ o.t ≤ o.hi then (Tr.removeS par S ((List.range o.mn).map o.m) o.t o.hi, ⟨0, Tr.removeN par ((List.range o.mn).map o.m) o.t o.hi S.ser, []⟩, Tr.removeR par ((List.range o.mn).map o.m) o.t o.hi S.ser) else (S, ⟨1, 0, []⟩, []) := by
  unfold Tr.run
  have e : (o.op).kind = 1 := hk
  rw [if_neg (by rw [e]; decide), if_pos e]
  rfl
theorem run_ask (S : Tr.Stt (List Lab)) (o : OpAt) (g : Int) (hk : o.kind = 3) : Tr.run par S o.op g = if par.mok ((List.range o.mn).map o.m) = true ∧ o.t ≤ o.hi then (S, ⟨0, 0, Tr.askS par ((List.range o.mn).map o.m) o.t o.hi S.ser⟩, []) else (S, ⟨1, 0, []⟩, []) := by
  unfold Tr.run
  have e : (o.op).kind = 3 := hk
  rw [if_neg (by rw [e]; decide), if_neg (by rw [e]; decide), if_neg (by rw [e]; decide), if_pos e]
  rfl
theorem mats_at (m : Nat → Mat) (k i : Nat) (h : i < k) : ((List.range k).map m).getD i ⟨0, ByteArray.empty, ByteArray.empty⟩ = m i := by simp [List.getD, h]
theorem allRight_congr {m m2 : Nat → Mat} {k : Nat} (h : ∀ i, i < k → m i = m2 i) : Ma.allRight m k = Ma.allRight m2 k := by
  unfold Ma.allRight
  congr 1
  rw [Bool.eq_iff_iff, List.all_eq_true, List.all_eq_true]
  exact ⟨fun a i hi => by rw [← h i (List.mem_range.1 hi)]; exact a i hi, fun a i hi => by rw [h i (List.mem_range.1 hi)]; exact a i hi⟩
theorem par_mok (m : Nat → Mat) (k : Nat) : par.mok ((List.range k).map m) = Ma.allRight m k := by
  show Ma.allRight (fun i => ((List.range k).map m).getD i ⟨0, ByteArray.empty, ByteArray.empty⟩) ((List.range k).map m).length = _
  rw [List.length_map, List.length_range]
  exact allRight_congr (fun i hi => mats_at m k i hi)
theorem get_congr {f g : Nat → Lab} {x : ByteArray} {n : Nat} (h : ∀ i, i < n → f i = g i) : ∀ (d k : Nat), k + d ≤ n → La.get f x d k = La.get g x d k
  | 0, _, _ => rfl
  | d + 1, k, hk => by
    unfold La.get
    rw [h k (by omega), get_congr h d (k + 1) (by omega)]
theorem sel_congr {p q : Nat → Bool} {n : Nat} (h : ∀ i, i < n → p i = q i) : Ma.sel p n = Ma.sel q n := List.filter_congr (fun i hi => h i (List.mem_range.1 hi))
theorem fits_congr {f g : Nat → Lab} {n : Nat} (x : Mat) (h : ∀ i, i < n → f i = g i) : Ma.fits x f n = Ma.fits x g n := by
  unfold Ma.fits
  rw [get_congr h n 0 (by omega), sel_congr (p := fun i => decide ((f i).1 = x.n)) (q := fun i => decide ((g i).1 = x.n)) (fun i hi => by rw [h i hi])]
theorem par_fit (m : Nat → Mat) (k : Nat) (f : Nat → Lab) (n : Nat) : par.fit ((List.range k).map m) (La.listOf f n) = Ma.all m k f n := by
  show Ma.all (fun i => ((List.range k).map m).getD i ⟨0, ByteArray.empty, ByteArray.empty⟩) ((List.range k).map m).length (La.at_ (La.listOf f n)) (La.listOf f n).length = _
  rw [List.length_map, List.length_range, La.listOf_length]
  unfold Ma.all
  rw [sel_congr (p := fun i => Ma.fits (((List.range k).map m).getD i ⟨0, ByteArray.empty, ByteArray.empty⟩) (La.at_ (La.listOf f n)) n) (q := fun i => Ma.fits (m i) f n) (fun i hi => by
    show Ma.fits (((List.range k).map m).getD i ⟨0, ByteArray.empty, ByteArray.empty⟩) _ n = _
    rw [mats_at m k i hi, fits_congr _ (fun j hj => La.at_listOf f n j hj)])]
theorem askedE_eq (o : OpAt) : askedE o = if par.mok ((List.range o.mn).map o.m) = true ∧ o.t ≤ o.hi then 0 else 1 := by rw [par_mok]; rfl
/-- one series, as a removal leaves it -/
def cutF (o : OpAt) (x : Tr.Ser (List Lab)) : Tr.Ser (List Lab) := if par.fit ((List.range o.mn).map o.m) x.l then Tr.cutS o.t o.hi x else x
theorem removeN_succ (o : OpAt) (q : Nat → SerAt) (k : Nat) : Tr.removeN par ((List.range o.mn).map o.m) o.t o.hi (sers q (k + 1)) = Tr.removeN par ((List.range o.mn).map o.m) o.t o.hi (sers q k) + (if Ma.all o.m o.mn (q k).f (q k).ln then Tr.lost o.t o.hi (q k).ser else 0) := by
  rw [sers_succ]
  unfold Tr.removeN
  rw [List.map_append, List.sum_append]
  congr 1
  have e : par.fit ((List.range o.mn).map o.m) ((q k).ser).l = Ma.all o.m o.mn (q k).f (q k).ln := par_fit _ _ _ _
  simp only [List.map_cons, List.map_nil, List.sum_cons, List.sum_nil, e, Nat.add_zero]
theorem removeR_succ (o : OpAt) (q : Nat → SerAt) (k : Nat) : Tr.removeR par ((List.range o.mn).map o.m) o.t o.hi (sers q (k + 1)) = Tr.removeR par ((List.range o.mn).map o.m) o.t o.hi (sers q k) ++ (if Ma.all o.m o.mn (q k).f (q k).ln && decide (0 < Tr.lost o.t o.hi (q k).ser) then [⟨1, La.listOf (q k).f (q k).ln, o.t, o.hi, 0⟩] else []) := by
  rw [sers_succ]
  unfold Tr.removeR
  rw [List.filterMap_append]
  congr 1
  have e : par.fit ((List.range o.mn).map o.m) ((q k).ser).l = Ma.all o.m o.mn (q k).f (q k).ln := par_fit _ _ _ _
  rw [List.filterMap_cons, List.filterMap_nil, e]
  split <;> simp_all [SerAt.ser, SerAt.labs]
/-- what holds while series are removed from -/
structure RemAt (w W wr : World) (b xb mb n k : Nat) (sl : Value) (fl gen : Int) (o : OpAt) (q qk : Nat → SerAt) (cnt : Int) (recs : Value) (m : Nat) (rr : Nat → RecAt) : Prop where
  work : Work w wr b sl fl mb (opCells o) gen 0 cnt (.slice none 0 0) recs n qk
  xk : wr.heap[xb]? = some (.cells (opCells o).toArray 39 (0, 0))
  left : ∀ j, k ≤ j → qk j = q j
  ser : sers qk n = ((sers q n).take k).map (cutF o) ++ (sers q n).drop k
  recs : OwnRecs wr w.heap.size recs m rr
  rl : recsL rr m = Tr.removeR par ((List.range o.mn).map o.m) o.t o.hi (sers q k)
  mle : m ≤ k
  cn : cnt = ((Tr.removeN par ((List.range o.mn).map o.m) o.t o.hi (sers q k) : Nat) : Int)
  cb : cnt ≤ k * 1000
theorem take_succ_sers (q : Nat → SerAt) {n k : Nat} (h : k < n) : (sers q n).take (k + 1) = (sers q n).take k ++ [(q k).ser] := by
  rw [List.take_add_one, sers_get h]; rfl
theorem drop_sers (q : Nat → SerAt) {n k : Nat} (h : k < n) : (sers q n).drop k = (q k).ser :: (sers q n).drop (k + 1) := by
  rw [List.drop_eq_getElem_cons (by rw [sers_length]; exact h)]
  congr 1
  have := sers_get (q := q) h
  rw [List.getElem?_eq_getElem (by rw [sers_length]; exact h)] at this
  exact Option.some.inj this
theorem put2_left (q qk : Nat → SerAt) (k : Nat) (B : Option Addr) (m d : Nat) (s : Nat → Sam) (t : Int) (h : ∀ j, k ≤ j → qk j = q j) : ∀ j, k + 1 ≤ j → put2 qk k B m d s t j = q j := fun j hj => by
  unfold put2
  rw [if_neg (by omega)]
  exact h j (by omega)
theorem rem_ser {o : OpAt} {q qk : Nat → SerAt} {n k : Nat} (hk : k < n) (h : sers qk n = ((sers q n).take k).map (cutF o) ++ (sers q n).drop k) (y : Tr.Ser (List Lab)) (hy : y = cutF o (q k).ser) : (sers qk n).set k y = ((sers q n).take (k + 1)).map (cutF o) ++ (sers q n).drop (k + 1) := by
  have hl : (((sers q n).take k).map (cutF o)).length = k := by rw [List.length_map, List.length_take, sers_length]; omega
  rw [h, List.set_append_right _ _ (by omega), hl, Nat.sub_self, drop_sers q hk, List.set_cons_zero, take_succ_sers q hk, List.map_append, hy, List.append_assoc]
  rfl
theorem rem_same {o : OpAt} {q qk : Nat → SerAt} {n k : Nat} (hk : k < n) (h : sers qk n = ((sers q n).take k).map (cutF o) ++ (sers q n).drop k) (hy : cutF o (q k).ser = (q k).ser) : sers qk n = ((sers q n).take (k + 1)).map (cutF o) ++ (sers q n).drop (k + 1) := by
  rw [h, take_succ_sers q hk, List.map_append, drop_sers q hk, List.append_assoc, List.map_cons, List.map_nil, hy]
  rfl
end Go.Proofs.Ytidfanmfibbiiaa
