/-
  Size.
-/
import Derived.Test.YtgpmomjdjakklaaSfQ
namespace Go.Proofs.Ytgpmomjdjakklaa
open Go.RowKit Go.Maps
attribute [local go_sem] Oper.semAt_some
namespace Sf
def szOf (S : St) (d : D) (k : List UInt8) : Nat := match look d (bs k) with
  | some x => (S.F x).bytes.size
  | none => 0
def tot (S : St) (d : D) (ss : List (List UInt8)) : Nat := (ss.map (szOf S d)).sum
/-- how many bytes there are -/
def St.total (S : St) : Nat := tot S S.names (strKeys S.names)
theorem tot_snoc (S : St) (d : D) (ss : List (List UInt8)) (k : List UInt8) : tot S d (ss ++ [k]) = tot S d ss + szOf S d k := by
  unfold tot
  rw [List.map_append, List.sum_append]
  simp
theorem tot_le {S : St} {d : D} {B : Nat} (h : ∀ k, szOf S d k ≤ B) : ∀ ss : List (List UInt8), tot S d ss ≤ ss.length * B
  | [] => by simp [tot]
  | k :: ss => by
    have h1 := tot_le h ss
    have h2 := h k
    have e : tot S d (k :: ss) = szOf S d k + tot S d ss := by unfold tot; simp
    rw [e, List.length_cons, Nat.succ_mul]
    omega
theorem tot_perm {S : St} {d : D} {s t : List (List UInt8)} (h : s.Perm t) : tot S d s = tot S d t := (h.map _).sum_nat
theorem StOk.szOf {B N : Nat} {S : St} (h : StOk B N S) (k : List UInt8) : szOf S S.names k ≤ B := by
  unfold Sf.szOf
  split
  · rename_i x hx
    exact (h.file x (h.lives hx)).size
  · exact Nat.zero_le _
theorem length_strKeys (d : D) : (strKeys d).length = Go.Maps.size d := by
  cases d <;> simp [strKeys, Go.Maps.size]
theorem StOk.total {B N : Nat} {S : St} (h : StOk B N S) : S.total ≤ 64 * B := by
  have h1 := tot_le (S := S) (d := S.names) (B := B) h.szOf (strKeys S.names)
  rw [length_strKeys] at h1
  exact Nat.le_trans h1 (Nat.mul_le_mul_right _ h.nice.few)
end Sf
/-- the sum under way -/
structure Summing (w : World) (S : Sf.St) (ss : List (List UInt8)) (W : World) : Prop where
  sum : W.heap[w.heap.size]? = some (.cells #[.int .i64 ((Sf.tot S S.names ss : Nat) : Int)] 3 (0, 0))
  bel : Below w.heap.size w W
  sz : w.heap.size + 2 ≤ W.heap.size
theorem Summing.kept {w : World} {S : Sf.St} {ss : List (List UInt8)} {W W2 : World} {row : Option Nat} (h : Summing w S ss W) (hg : W.grownBy W2 row) (hr : ∀ r, row = some r → w.heap.size + 2 ≤ r) : Summing w S ss W2 :=
  ⟨(hg.block _ (by have := h.sz; omega) (fun e => by have := hr _ e.symm; omega)).trans h.sum, h.bel.grown hg h.bel.size (fun r e => by have := hr r e; omega), Nat.le_trans h.sz hg.size⟩
theorem summing_end {w W : World} {S : Sf.St} {ss : List (List UInt8)} {k : List UInt8} {v : Int} (h : Summing w S ss W) (hv : v = ((Sf.tot S S.names (ss ++ [k]) : Nat) : Int)) :
    KeepsFrom (w.heap.size + 2) W (W.setCell ⟨w.heap.size, 0, none⟩ (.int .i64 v)).drew ∧ VKeep (w.heap.size + 1) W (W.setCell ⟨w.heap.size, 0, none⟩ (.int .i64 v)).drew ∧ Summing w S (ss ++ [k]) (W.setCell ⟨w.heap.size, 0, none⟩ (.int .i64 v)).drew := by
  have ho := (KeepsOthers.setCell W ⟨w.heap.size, 0, none⟩ (.int .i64 v)).trans (KeepsOthers.drew _)
  have hg := grown_drew (grown_setCell W w.heap.size 0 (.int .i64 v))
  refine ⟨ho.from _, ⟨ho.walks, hg.block (w.heap.size + 1) (by have := h.sz; omega) (fun e => by have := Option.some.inj e; omega)⟩, ⟨?_, h.bel.grown hg h.bel.size (fun r e => by cases e; exact Nat.le_refl _), Nat.le_trans h.sz hg.size⟩⟩
  rw [hv]
  exact heap_setCell_same _ _ 0 _ _ _ h.sum
set_option maxRecDepth 100000 in
set_option maxHeartbeats 1000000 in
theorem Size_any {w : World} {base fb B N : Nat} {S : Sf.St} (h : FsAt w base fb S) (hok : Sf.StOk B N S) (hB : B ≤ 1000000000) :
    Calls Try.prog 43 #[.pointer (some ⟨fb, 0, none⟩)] w fun e w' => e = .returned (.int .i64 ((S.total : Nat) : Int)) ∧ Below w.heap.size w w' := by
  obtain ⟨mb, sb, cv, cvs, h⟩ := h
  have c0 : w.cell? ⟨fb, 0, none⟩ = some (.map (some mb)) := cell_of_row _ _ _ _ _ _ h.blk
  have c7 : (w.alloc (.cells #[.int .i64 0] 3)).cell? ⟨fb, 0, none⟩ = some (.map (some mb)) := (World.cell?_alloc_lt w _ _ (by show fb < _; exact (Array.getElem?_eq_some_iff.1 h.blk).1)).trans c0
  have H := Lib.hid h; have HOK := Lib.hid hok
  clear h hok
  refine (callsIn_wide (n := 3)).1 ?_
  refine callsIn_of_wp_marks Try.func43 rfl trivial ?_ rfl
  simp only [Try.ntmps43, List.size_toArray, List.length_cons, List.length_nil, Nat.reduceAdd, Nat.reduceSub, Array.replicate_succ, Array.replicate_zero, List.push_toArray, List.append_toArray, List.nil_append, List.cons_append]
  refine wpIn_wide.2 ?_
  go_wp2_with fail
  obtain ⟨w1, hw1⟩ : ∃ w1, w1 = w.alloc (.cells #[.int .i64 0] 3) := ⟨_, rfl⟩
  rw [← hw1]
  have hb1 : Below w.heap.size w w1 := by rw [hw1]; exact (Below.refl _ _).alloc (Nat.le_refl _) _
  have hs1 : w1.heap[w.heap.size]? = some (.cells #[.int .i64 0] 3 (0, 0)) := by rw [hw1]; exact heap_alloc_new w _
  have hz1 : w1.heap.size = w.heap.size + 1 := by rw [hw1]; simp
  refine (values_any mb _).mono ?_; rintro e w2 ⟨rfl, hw2⟩
  have hb2 : Below w1.heap.size w1 w2 := by rw [hw2]; exact (Below.refl _ _).alloc (Nat.le_refl _) _
  have hv2 : w2.heap[w.heap.size + 1]? = some (.cells #[.map (some mb)] 47 (0, 0)) := by rw [hw2, ← hz1]; exact heap_alloc_new w1 _
  have hz2 : w2.heap.size = w.heap.size + 2 := by rw [hw2]; simp [hz1]
  have hst : Summing w S [] w2 := ⟨heap_keep hs1 hb2, below_step hb1 hb2, by omega⟩
  have ST := Lib.hid hst; have HB2 := Lib.hid (below_step hb1 hb2)
  rw [hz1]
  clear hw1 hw2 hb1 hb2 hs1 hz1 hst c0 c7
  go_wp2_with fail
  refine (wpIn_wide (n := 3)).1 ?_
  refine' rangeC (gf := 63) (lb := #[.pointer (some ⟨w.heap.size + 1, 0, none⟩)]) rfl (enters_of Try.func63 (by kernel_rfl) rfl)
    (values_hands (w.heap.size + 1) mb S.names HOK.out.nice.files (H.out.far HB2.out).nam hv2) (fun h k => ⟨h.1.trans k.1, k.2.trans h.2⟩) ?ka ?kb (fun _ => rfl) (Summing w S) ?hI ST.out _ ?assign ?body ?done
  case ka =>
    intro o1 o2 _ _
    have t := fun k (hk : k < w2.heap.size) => (Below.heap_alloc (w2.alloc o1) o2 k (by simp; omega)).trans (Below.heap_alloc w2 o1 k hk)
    exact ⟨(KeepsWalks.alloc _ _).trans (KeepsWalks.alloc _ _), t _ (by omega)⟩
  case kb =>
    intro W l o o2 hl ho _ hwk
    exact ⟨KeepsWalks.putObj _ ho hwk, World.putObj_heap_other (by omega)⟩
  case hI =>
    intro s W W2 row h hg hr
    exact h.kept hg (fun r e => by have := (hr r e).1; omega)
  case assign =>
    intro l x W K hK
    gi_wp2
    exact hK
  case body =>
    intro l ss k W hi hmr
    obtain ⟨x, hx, -⟩ := Sf.look_has HOK.out.nice.files (s := bs k) hmr.2
    have hfil := (H.out.far HB2.out).fil x (HOK.out.lives hx)
    have c1 : W.cell? ⟨w.heap.size, 0, none⟩ = some (.int .i64 ((Sf.tot S S.names ss : Nat) : Int)) := cell_of_row _ _ _ _ _ _ hi.sum
    have c2 : W.cell? ⟨x, 0, none⟩ = some (.string (S.F x).bytes) := cell_of_row _ _ _ _ _ _ (heap_keep (H.out.fil x (HOK.out.lives hx)).blk hi.bel)
    have f1 : W.frozen? ⟨w.heap.size, 0, none⟩ = false := frozen_of_row _ _ _ _ _ hi.sum
    have hsz : Sf.szOf S S.names k = (S.F x).bytes.size := by unfold Sf.szOf; rw [hx]
    have ht := Sf.tot_snoc S S.names ss k
    have hle := Sf.tot_le HOK.out.szOf (ss ++ [k])
    have hln : (ss ++ [k]).length ≤ 64 := by
      have := HOK.out.nice.few
      have := hmr.1
      simp
      omega
    have hle2 : Sf.tot S S.names (ss ++ [k]) ≤ 64 * 1000000000 := Nat.le_trans hle (Nat.mul_le_mul hln hB)
    have HFIN := Lib.hid (fun (v : Int) => summing_end (k := k) (v := v) hi)
    rw [hsz] at ht
    generalize hT2 : Sf.tot S S.names (ss ++ [k]) = T2 at *
    generalize hT1 : Sf.tot S S.names ss = T1 at *
    generalize hZ : (S.F x).bytes.size = Z at *
    have hwr : IntKind.i64.wrap ((T1 : Int) + (Z : Int)) = ((T2 : Nat) : Int) := by rw [ht, Int.natCast_add]; exact IntWalk.i64_in _ (by omega)
    simp only [valEnc, hx, ptrV, Option.map_some]
    clear hi hmr hfil hle hln hsz ht hT2 hT1 hx hv2 ST
    gi_upto_region 4 with fail
    refine round_still_tail 7 (by kernel_rfl) (by kernel_rfl) (by kernel_rfl) ?_
    simp only [List.take_succ_cons, List.take_zero, List.drop_succ_cons, List.drop_zero]
    repeat still_step
    refine wpStill_nil ?_
    go_wp2_with fail
    refine only_mk ?_
    have hf := HFIN.out _ rfl
    rw [← hz2] at hf
    exact hf
  case done =>
    intro D ss W hD hp hi hK
    have e1 : Sf.tot S S.names ss = S.total := Sf.tot_perm hp
    have hs := hi.sum
    rw [e1] at hs
    have c1 : W.cell? ⟨w.heap.size, 0, none⟩ = some (.int .i64 ((S.total : Nat) : Int)) := cell_of_row _ _ _ _ _ _ hs
    have HI := Lib.hid hi; have HK := Lib.hid hK
    clear hi hK hp ST hs hv2
    go_wp2_with fail
    refine ⟨by simp, .inl ⟨_, _, rfl, run_takeDeferred HK.out, ?_⟩⟩
    have hk := HI.out.kept (grownBy_putObj' W D (.deferred none)) (fun r e => by cases e; omega)
    exact ⟨_, by simp [results, Try.results43, go_sem], rfl, hk.bel⟩
end Go.Proofs.Ytgpmomjdjakklaa
