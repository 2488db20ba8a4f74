import Derived.Test.YtliobahnekohmaaGreatIxR
import Derived.Lib.RowBridge
import Derived.LoopN
/-
  The postings that a writer puts: the walk's first half (how often each label is there, and which there are).
-/
namespace Go.Proofs.YtliobahnekohmaaGreat
open Go.RowKit
open Go.ChangeMaps (setBlock heap_setBlock_same heap_setBlock_other)
theorem zeroInt (w : World) : (zeroValue 3).run Tryz.prog w = .ok (.int .i64 0) w := by kernel_rfl
def cntE (W : List Lab) (x : Lab) (v : Value) : Option Value :=
 match v with
 | .agg ⟨[.string a, .string b]⟩ => if x = (a, b) then some (.int .i64 ((Ix.cnt x W : Nat) : Int)) else cntF W v
 | _ => cntF W v
theorem cntE_get (W : List Lab) (x : Lab) : cntE W x (.agg #[.string x.1, .string x.2]) = some (.int .i64 ((Ix.cnt x W : Nat) : Int)) := if_pos rfl
theorem cntE_other (W : List Lab) (x : Lab) (v : Value) (h : v ≠ .agg #[.string x.1, .string x.2]) : cntE W x v = cntF W v := by
 unfold cntE
 split
 · rename_i a b
   have hne : ¬ x = (a, b) := fun e => h (by rw [e])
   rw [if_neg hne]
 · rfl
theorem cnt_look {U : World} {cb m : Nat} {W : List Lab} (h : MapIs Tryz.prog 37 U cb m (cntF W)) {x : Lab} (ha : x.1.size ≤ maxLen) (hb : x.2.size ≤ maxLen) : (Instr.lookup 139 (.map (some cb)) (.agg #[.string x.1, .string x.2]) false).run Tryz.prog U = .ok (.int .i64 ((Ix.cnt x W : Nat) : Int)) U := by
 obtain ⟨l, hl⟩ := lkey x ha hb
 by_cases h0 : Ix.cnt x W = 0
 · have := MapIs.look_none (t := 139) (e := 3) h false llaw Tryz.underlying139 (zeroInt U) hl (by rw [cntF_lab, if_pos h0])
   rw [h0]
   simpa using this
 · have := MapIs.look_some (t := 139) (e := 3) h false llaw Tryz.underlying139 hl (by rw [cntF_lab, if_neg h0])
   simpa using this
theorem cnt_more {w : World} {cb m : Nat} {W : List Lab} (h : MapIs Tryz.prog 37 w cb m (cntF W)) {x : Lab} (ha : x.1.size ≤ maxLen) (hb : x.2.size ≤ maxLen) :
 ∃ (st : Nat) (es1 : Array MapEntry) (clock1 : Nat) (es2 : Array MapEntry) (clock2 : Nat),
  (∀ U : World, U.heap[cb]? = w.heap[cb]? → (Instr.mapEntry 139 (.map (some cb)) (.agg #[.string x.1, .string x.2])).run Tryz.prog U = .ok (.tuple #[.int .i64 ((Ix.cnt x W : Nat) : Int), goInt st]) (setBlock U cb (.map es1 clock1))) ∧
  (∀ U : World, U.heap[cb]? = w.heap[cb]? ∨ U.heap[cb]? = some (.map es1 clock1) → (Instr.lookup 139 (.map (some cb)) (.agg #[.string x.1, .string x.2]) false).run Tryz.prog U = .ok (.int .i64 ((Ix.cnt x W : Nat) : Int)) U) ∧
  (∀ U : World, U.heap[cb]? = some (.map es1 clock1) → (Instr.entryStore 139 (.map (some cb)) (goInt st) (.int .i64 (((Ix.cnt x W : Nat) : Int) + 1))).run Tryz.prog U = .ok () (setBlock U cb (.map es2 clock2))) ∧
  ∀ U : World, U.heap[cb]? = some (.map es2 clock2) → MapIs Tryz.prog 37 U cb (m + 1) (cntF (W ++ [x])) := by
 obtain ⟨l, hl⟩ := lkey x ha hb
 obtain ⟨st, es1, clock1, h1, h2, h3⟩ := MapIs.entry (t := 139) (e := 3) h llaw Tryz.underlying139 zeroInt hl
 rw [cntF_get] at h1 h2
 obtain ⟨es2, clock2, h4, h5⟩ := h3 (cntF (W ++ [x])) (.int .i64 (((Ix.cnt x W : Nat) : Int) + 1)) (cntF_more W x) (cntF_other W x)
 refine ⟨st, es1, clock1, es2, clock2, h1, fun U hU => ?_, h4, h5⟩
 rcases hU with hU | hU
 · exact cnt_look (MapIs.same h hU) ha hb
 · have := MapIs.look_some (t := 139) (e := 3) (h2 (cntE W x) (cntE_get W x) (cntE_other W x) U hU) false llaw Tryz.underlying139 hl (cntE_get W x)
   simpa using this
def labC (x : Lab) : List Value := [.string x.1, .string x.2]
theorem cnt_in (x : Lab) (W : List Lab) : Ix.isIn x (Ix.firsts W) = decide (Ix.cnt x W ≠ 0) := by
 rw [Bool.eq_iff_iff, Ix.isIn_iff, Ix.firsts_mem, decide_eq_true_iff]
 exact ⟨fun h => by have := Ix.cnt_pos h; omega, fun h => Classical.byContradiction fun hn => h (Ix.cnt_zero hn)⟩
structure Cn (w U : World) (cb : Nat) (v : Value) (W : List Lab) : Prop where
 bel : Below w.heap.size w U
 lo : w.heap.size ≤ cb
 map : MapIs Tryz.prog 37 U cb W.length (cntF W)
 row : U.ownsRow w.heap.size 37 2 v (Ix.firsts W).length ((Ix.firsts W).flatMap labC)
theorem Cn.later {w U V : World} {cb : Nat} {v : Value} {W : List Lab} (h : Cn w U cb v W) (hb : Below U.heap.size U V) : Cn w V cb v W :=
 ⟨below_step h.bel hb, h.lo, MapIs.same h.map (hb.block cb (MapIs.lt h.map)), row_far h.row hb⟩
theorem MapIs.cells {P : Program} {k : TypeId} {w : World} {b n : Nat} {f : Value → Option Value} (h : MapIs P k w b n f) : ∃ es clock, w.heap[b]? = some (.map es clock) := by
 obtain ⟨es, clock, hb, -⟩ := h
 exact ⟨es, clock, hb⟩
theorem Cn.more {w U V : World} {cb : Nat} {v v2 : Value} {W : List Lab} {R : List Lab} (h : Cn w U cb v W) (hg : U.grownBy V v.ownBlock) (hr : V.ownsRow w.heap.size 37 2 v2 R.length (R.flatMap labC)) :
 Below w.heap.size w V ∧ MapIs Tryz.prog 37 V cb W.length (cntF W) ∧ V.ownsRow w.heap.size 37 2 v2 R.length (R.flatMap labC) := by
 refine ⟨h.bel.grown hg h.bel.size (fun r e => (h.row.lt r e).1), MapIs.same h.map (hg.block cb (MapIs.lt h.map) (fun e => ?_)), hr⟩
 obtain ⟨es, clock, hc⟩ := MapIs.cells h.map
 have := own_cells h.row e.symm hc
 cases this
theorem grown_setBlock {w : World} {b : Nat} {es : Array MapEntry} {clock : Nat} (hb : w.heap[b]? = some (.map es clock)) (X : Obj) : w.grownBy (setBlock w b X) (some b) ∧ (setBlock w b X).heap.size = w.heap.size ∧ (setBlock w b X).heap[b]? = some X :=
 ⟨⟨rfl, rfl, rfl, by simp [setBlock], fun i _ hi => heap_setBlock_other hb _ (fun e => hi (by rw [e]))⟩, by simp [setBlock], heap_setBlock_same hb X⟩
def lx2 (x : Lab) (_ j : Nat) : Value := if j = 0 then .string x.1 else .string x.2
theorem lx2_one (x : Lab) (i j : Nat) : (lx2 x i j).oneCell' = true := by unfold lx2; split <;> rfl
theorem lx2_cells (x : Lab) : rcells 2 (lx2 x) 1 = labC x := rfl
theorem lx2_row (w : World) (x : Lab) (T : TypeId) : Row 2 (lx2 x) (w.alloc (.cells #[.string x.1, .string x.2] T)) (some ⟨w.heap.size, 0, none⟩) 1 := fun _ => ⟨⟨w.heap.size, 0, none⟩, rfl, by simp, fun i hi j hj => by
 obtain rfl : i = 0 := by omega
 rw [Addr.add_lit, Nat.zero_add, Nat.zero_mul, Nat.zero_add]
 have hc := heap_alloc_new w (.cells #[.string x.1, .string x.2] T)
 rw [cell_of_row _ _ _ _ _ _ hc]
 rcases (show j = 0 ∨ j = 1 by omega) with rfl | rfl <;> rfl⟩
theorem seen_bound (q : Nat → EAt) {n : Nat} (h : ∀ i, i < n → (q i).e.l.length ≤ 6) : ∀ k, k ≤ n → ((entL q k).flatMap (·.l)).length ≤ 6 * k
 | 0, _ => Nat.le_refl _
 | k + 1, hk => by
  have ih := seen_bound q h k (by omega)
  have h1 := h k (by omega)
  rw [entL_succ, List.flatMap_append, List.length_append]
  have e : ([(q k).e].flatMap (·.l)) = (q k).e.l := by simp
  rw [e]; omega
theorem seen_succ (q : Nat → EAt) (k : Nat) : (entL q (k + 1)).flatMap (·.l) = (entL q k).flatMap (·.l) ++ (q k).e.l := by
 rw [entL_succ, List.flatMap_append]
 simp
theorem take_lab (l : List Lab) {j : Nat} (hj : j < l.length) : l.take (j + 1) = l.take j ++ [La.at_ l j] := by
 rw [List.take_add_one, List.getElem?_eq_getElem hj]
 have e : La.at_ l j = l[j] := by unfold La.at_; simp [List.getD, hj]
 rw [e]; rfl
theorem run_makeMap_none {P : Program} {t : TypeId} (w : World) : (Instr.makeMap t none).run P w = .ok (.map (some w.heap.size)) (w.alloc (.map #[] 0)) := by
 simp [Instr.makeMap, Result.andThen]
end Go.Proofs.YtliobahnekohmaaGreat
/-
  Sorting labels: what the library's sort leaves.
-/
namespace Go.Proofs.YtliobahnekohmaaGreat
open Go.RowKit
open Go.Sort (Holds PermIn SortedIn HoldsK flatK size_flatK get_flatK putRowK holdsK_putRowK holdsK_ahead)
structure LRow (w : World) (B : Option Addr) (S : List Lab) : Prop where
 row : LabRow w B S.length (La.at_ S)
 typ : 0 < S.length → ∀ ad, B = some ad → ∃ cs fr, w.heap[ad.block]? = some (.cells cs 37 fr)
theorem LRow.wrote {base : Nat} {w V : World} {B : Option Addr} {S : List Lab} (h : LRow w B S) (hw : Wrote base w V) : LRow V B S := by
 refine ⟨fun hn => ?_, fun hn ad e => ?_⟩
 · obtain ⟨ad, e, hlt, hc⟩ := h.row hn
   obtain ⟨cs, fr, hcs⟩ := h.typ hn ad e
   have hv := hw.block hcs (by decide)
   refine ⟨ad, e, Nat.lt_of_lt_of_le hlt hw.size, fun i hi => ?_⟩
   obtain ⟨h0, h1⟩ := hc i hi
   rw [← h0, ← h1]
   unfold World.cell?
   rw [addr_block, addr_block, hv, hcs]
   exact ⟨rfl, rfl⟩
 · obtain ⟨cs, fr, hcs⟩ := h.typ hn ad e
   exact ⟨cs, fr, hw.block hcs (by decide)⟩
theorem LRow.block {w V : World} {B : Option Addr} {S : List Lab} (h : LRow w B S) (hs : w.heap.size ≤ V.heap.size) (hk : ∀ ad, B = some ad → ∀ o, w.heap[ad.block]? = some o → V.heap[ad.block]? = some o) : LRow V B S := by
 refine ⟨fun hn => ?_, fun hn ad e => ?_⟩
 · obtain ⟨ad, e, hlt, hc⟩ := h.row hn
   obtain ⟨cs, fr, hcs⟩ := h.typ hn ad e
   have hv := hk ad e _ hcs
   refine ⟨ad, e, Nat.lt_of_lt_of_le hlt hs, fun i hi => ?_⟩
   obtain ⟨h0, h1⟩ := hc i hi
   rw [← h0, ← h1]
   unfold World.cell?
   rw [addr_block, addr_block, hv, hcs]
   exact ⟨rfl, rfl⟩
 · obtain ⟨cs, fr, hcs⟩ := h.typ hn ad e
   exact ⟨cs, fr, hk ad e _ hcs⟩
theorem LRow.later {w V : World} {B : Option Addr} {S : List Lab} (h : LRow w B S) (hb : Below w.heap.size w V) : LRow V B S :=
 h.block hb.size fun _ _ _ ho => heap_keep ho hb
theorem flat_at : ∀ (d : List Lab) (j : Nat), j < d.length * 2 → (d.flatMap labC)[j]? = some ((labC (d.getD (j / 2) (ByteArray.empty, ByteArray.empty)))[j % 2]!)
 | [], j, h => by simp at h
 | x :: d, 0, _ => rfl
 | x :: d, 1, _ => rfl
 | x :: d, j + 2, h => by
  have ih := flat_at d j (by rw [List.length_cons] at h; omega)
  rw [List.flatMap_cons, show (j + 2) / 2 = j / 2 + 1 by omega, show (j + 2) % 2 = j % 2 by omega, List.getD_cons_succ, ← ih]
  rfl
theorem cells_others (b : Nat) : ∀ (vs : List Value) (o : Nat) (w : World) (k : Nat), k ≠ b → (w.setCells b o vs).heap[k]? = w.heap[k]?
 | [], _, _, _, _ => rfl
 | v :: r, o, w, k, h => by
  show ((w.setCell ⟨b, o, none⟩ v).setCells b (o + 1) r).heap[k]? = _
  rw [cells_others b r (o + 1) _ k h]
  exact heap_setCell_other w ⟨b, o, none⟩ k v h
abbrev encL : ByteArray × ByteArray → List Value := fun x => [Value.string x.1, Value.string x.2]
theorem holdsK_own {w : World} {base g cap : Nat} {d : List Lab} {cur : Array Value} (ho : w.ownsRow base 37 2 (.slice (some ⟨g, 0, none⟩) d.length cap) d.length (d.flatMap labC)) (hc : w.heap[g]? = some (.cells cur 37 (0, 0))) : HoldsK encL 2 w g 0 d.toArray := by
 intro j hj
 rw [size_flatK, List.size_toArray] at hj
 refine ⟨?_, frozen_of_row _ _ _ _ _ hc⟩
 rw [Nat.zero_add, World.ownsRow.cellAt ho j hj, flat_at d j hj, get_flatK _ _ _ _ (by rw [List.size_toArray]; exact hj)]
 have h2 : j / 2 < d.length := by omega
 have e : d.toArray[j / 2]! = d.getD (j / 2) (ByteArray.empty, ByteArray.empty) := by
  rw [getElem!_pos _ _ (by simpa using h2)]
  simp [List.getD, h2]
 rw [e]
 rfl
set_option maxHeartbeats 1000000 in
theorem sortL_any (base g cap : Nat) (d : List Lab) (hbig : d.length ≤ 1000000) (w : World) (hg : base ≤ g) (ho : w.ownsRow base 37 2 (.slice (some ⟨g, 0, none⟩) d.length cap) d.length (d.flatMap labC)) {cur : Array Value} (hc : w.heap[g]? = some (.cells cur 37 (0, 0))) (L : List Ix.Ent) (hL : d = Ix.firsts (L.flatMap (·.l))) :
 Calls Tryz.prog 105 #[.slice (some ⟨g, 0, none⟩) d.length cap, .func (.func 106) #[] #[]] w fun e w' => e = .returned (.tuple #[]) ∧ (Ix.labAll L).length = d.length ∧ LRow w' (some ⟨g, 0, none⟩) (Ix.labAll L) ∧ Below base w w' ∧ (∀ k o, k ≠ g → w.heap[k]? = some o → w'.heap[k]? = some o) := by
 have hH := holdsK_own ho hc
 have hlt := (Array.getElem?_eq_some_iff.1 hc).1
 have hcl : CmpLays Tryz.prog 106 #[] encL 2 cmpL g 0 d.toArray.size w := fun m os dk _ x y => (closure_any x y _).mono fun _ _ ⟨h1, q, os', h2⟩ => ⟨h1, q, os', h2⟩
 have hs := Tryz.slices_SortFunc_label cmpL Ix.swo_labs g 0 cap d.toArray w hcl hH hlt (by rw [List.size_toArray]; omega)
 rw [List.size_toArray] at hs
 refine hs.mono ?_
 rintro e w' ⟨rfl, d', n, os, hp, hst, rfl⟩
 have hz : d'.size = d.length := hp.1.trans (by simp)
 have hsorted : d'.toList = Ix.labAll L := Ix.sorted_labs (d := d.toArray) (d' := d') (L := L) hL (by rw [List.size_toArray]; exact hp) (by rw [List.size_toArray]; exact hst)
 have hH2 : HoldsK encL 2 (putRowK encL 2 (Go.Sort.ahead w n) g 0 d') g 0 d' := holdsK_putRowK _ _ _ _ _ d.toArray d' (holdsK_ahead _ _ w n g 0 d.toArray hH) (by rw [hz, List.size_toArray])
 have hl : (flatK encL 2 d').toList.length = (flatK encL 2 d.toArray).size := by simp [hz]
 have he : putRowK encL 2 (Go.Sort.ahead w n) g 0 d' = (w.drewN n).setCells g 0 ((flatK encL 2 d').toList.map id) := by
  have := Go.Lib.putRow_eq_setCells id w g 0 (flatK encL 2 d.toArray) (flatK encL 2 d').toList n hH hl
  rw [← this, Array.toArray_toList]
  rfl
 unfold sortWorldK
 rw [he] at hH2 ⊢
 have hb1 : Below base w ((w.drewN n).setCells g 0 ((flatK encL 2 d').toList.map id)) := below_cells hg _ _ _ (drewN_below base w n)
 have hot : ∀ k o, k ≠ g → w.heap[k]? = some o → ((w.drewN n).setCells g 0 ((flatK encL 2 d').toList.map id)).heap[k]? = some o := fun k o hk h => (cells_others g _ 0 (w.drewN n) k hk).trans h
 have hsz : ((w.drewN n).setCells g 0 ((flatK encL 2 d').toList.map id)).heap.size = w.heap.size := by
  rw [size_cells]; rfl
 obtain ⟨cs, hcs⟩ := setCells_typed g ((flatK encL 2 d').toList.map id) 0 (w.drewN n) cur hc
 generalize (w.drewN n).setCells g 0 ((flatK encL 2 d').toList.map id) = V at *
 have hcell : ∀ i, i < (Ix.labAll L).length → V.cell? ⟨g, i * 2, none⟩ = some (.string (La.at_ (Ix.labAll L) i).1) ∧ V.cell? ⟨g, i * 2 + 1, none⟩ = some (.string (La.at_ (Ix.labAll L) i).2) := fun i hi => by
  have hi2 : i < d'.size := by rw [← Array.length_toList, hsorted]; exact hi
  have e : d'[i]! = La.at_ (Ix.labAll L) i := by
   rw [getElem!_pos d' i hi2, ← hsorted]
   unfold La.at_
   simp [List.getD, hi2]
  have h0 := HoldsK.cell hH2 hi2 (c := 0) (by omega)
  have h1 := HoldsK.cell hH2 hi2 (c := 1) (by omega)
  rw [e] at h0 h1
  rw [Nat.zero_add] at h0 h1
  exact ⟨h0.1, h1.1⟩
 have hcg : (Go.Sort.grow V os).heap[g]? = V.heap[g]? := Go.Sort.heap_grow_old V os (by omega)
 refine ⟨rfl, by rw [← hsorted, Array.length_toList, hz], ⟨fun hn => ⟨⟨g, 0, none⟩, rfl, by rw [Go.Sort.size_grow]; show g < _; omega, fun i hi => ?_⟩, fun _ ad e => by cases e; exact ⟨cs, _, hcg.trans hcs⟩⟩, ?_, fun k o hk h => ?_⟩
 · obtain ⟨h0, h1⟩ := hcell i hi
   rw [Addr.add_lit, Addr.add_lit, Nat.zero_add, Nat.zero_add, ← h0, ← h1]
   unfold World.cell?
   rw [hcg]
   exact ⟨rfl, rfl⟩
 · exact hb1.trans ⟨rfl, rfl, rfl, by rw [Go.Sort.size_grow]; omega, fun k hk => Go.Sort.heap_grow_old V os (by omega)⟩
 · have := hot k o hk h
   exact (Go.Sort.heap_grow_old V os (by have := (Array.getElem?_eq_some_iff.1 this).1; exact this)).trans this
theorem insertL_none (p : Option Addr) (cap : Nat) (fv : Value) (w : World) : Calls Tryz.prog 155 #[.slice p 0 cap, .int .i64 0, .int .i64 0, fv] w fun e w' => e = .returned (.tuple #[]) ∧ w = w' := by
 go_enter Tryz.func155, Tryz.ntmps155
 go_wp2_with fail
 refine wp_loop_rounds 1 ?_
 rw [rounds_succ]
 go_wp2_with fail
 go_end0
 exact ⟨rfl, rfl⟩
theorem pdqL_none (p : Option Addr) (cap : Nat) (lim : Int) (fv : Value) (w : World) : Calls Tryz.prog 138 #[.slice p 0 cap, .int .i64 0, .int .i64 0, .int .i64 lim, fv] w fun e w' => e = .returned (.tuple #[]) ∧ w = w' := by
 go_enter Tryz.func138, Tryz.ntmps138
 go_wp2_with fail
 refine wp_loop_rounds 1 ?_
 rw [rounds_succ]
 go_wp2_with fail
 refine (insertL_none p cap fv w).mono ?_; rintro e w2 ⟨rfl, rfl⟩
 go_wp2_with fail
 (try simp only [Exit.inBlock, Exit.then]); refine bodyPost_ret (results_none rfl _ _ _) rfl ?_
 exact ⟨rfl, rfl⟩
theorem sortL_none (p : Option Addr) (cap : Nat) (fv : Value) (w : World) : Calls Tryz.prog 105 #[.slice p 0 cap, fv] w fun e w' => e = .returned (.tuple #[]) ∧ w = w' := by
 have hl := Lib.hid (Tryz.bits_Len 0 w (by omega) (by omega))
 go_enter Tryz.func105, Tryz.ntmps105
 go_wp2_with fail
 refine hl.out.mono ?_; rintro e w2 ⟨rfl, rfl⟩
 go_wp2_with fail
 refine (pdqL_none p cap _ fv _).mono ?_; rintro e w2 ⟨rfl, rfl⟩
 go_wp2_with fail
 go_end0
 exact ⟨rfl, rfl⟩
theorem labAll_length (L : List Ix.Ent) : (Ix.labAll L).length = (Ix.firsts (L.flatMap (·.l))).length := by
 have h1 : (Ix.labAll L).Nodup := (Ix.labAll_rising L).imp (fun {a b} h e => by rw [e, Ix.labLess_irrefl] at h; cases h)
 exact ((List.perm_ext_iff_of_nodup h1 (Ix.firsts_nodup _)).2 fun y => by rw [Ix.labAll_mem, Ix.firsts_mem]).length_eq
theorem sorted_any (w1 wr : World) (cb : Nat) (v : Value) (L : List Ix.Ent) (h : Cn w1 wr cb v (L.flatMap (·.l))) (hbig : (L.flatMap (·.l)).length ≤ 1000000) :
 ∃ B d, v = .slice B (Ix.labAll L).length d ∧ Calls Tryz.prog 105 #[v, .func (.func 106) #[] #[]] wr fun e w' => e = .returned (.tuple #[]) ∧ LRow w' B (Ix.labAll L) ∧ Below w1.heap.size wr w' ∧ MapIs Tryz.prog 37 w' cb (L.flatMap (·.l)).length (cntF (L.flatMap (·.l))) := by
 have hll := labAll_length L
 have hfl := Ix.firsts_length (L.flatMap (·.l))
 rcases h.row.2 with ⟨hv, h0⟩ | ⟨g, cap, cur, hv, hbg, hg, hcap, -, -, -⟩
 · have hS : Ix.labAll L = [] := List.length_eq_zero_iff.1 (by omega)
   refine ⟨none, 0, by rw [hv, hS]; rfl, ?_⟩
   rw [hv]
   refine (sortL_none none 0 _ wr).mono ?_
   rintro e w2 ⟨rfl, rfl⟩
   exact ⟨rfl, ⟨fun hn => by rw [hS] at hn; exact absurd hn (Nat.lt_irrefl 0), fun hn => by rw [hS] at hn; exact absurd hn (Nat.lt_irrefl 0)⟩, Below.refl _ _, h.map⟩
 · refine ⟨some ⟨g, 0, none⟩, cap, by rw [hv, hll], ?_⟩
   have ho := h.row
   rw [hv] at ho ⊢
   have hc := sortL_any w1.heap.size g cap (Ix.firsts (L.flatMap (·.l))) (by omega) wr hbg ho hg L rfl
   refine hc.mono ?_
   rintro e w2 ⟨rfl, -, h1, h2, h3⟩
   refine ⟨rfl, h1, h2, ?_⟩
   obtain ⟨es, clock, hc⟩ := MapIs.cells h.map
   exact MapIs.same h.map ((h3 cb _ (fun e => by rw [e, hg] at hc; cases hc) hc).trans hc.symm)
end Go.Proofs.YtliobahnekohmaaGreat
