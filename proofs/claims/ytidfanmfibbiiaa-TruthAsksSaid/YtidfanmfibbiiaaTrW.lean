/-
  What tell and asked come to; worlds in which blocks of other types stay as they were.
-/
import Derived.Test.YtidfanmfibbiiaaTrR
import Derived.Test.YtidfanmfibbiiaaTrU
import Derived.Test.YtidfanmfibbiiaaRegT
namespace Go.Proofs.Ytidfanmfibbiiaa
open Go.RowKit
theorem Keeps.own {Ts : List TypeId} {W W2 : World} {base e k n : Nat} {v : Value} {xs : List Value} (ho : W.ownsRow base e k v n xs) (he : e ∈ Ts) (hg : W.grownBy W2 v.ownBlock) : Keeps Ts W W2 := by
  rcases ho.2 with ⟨rfl, -⟩ | ⟨g, cap, cur, rfl, -, hc, -⟩
  · exact fun j o ho _ => (hg.block j (Array.getElem?_eq_some_iff.1 ho).1 (fun e => by cases e)).trans ho
  · exact Keeps.grown hc he hg
theorem row_keeps {Ts : List TypeId} {W W2 : World} {base e k n : Nat} {v : Value} {xs : List Value} (h : W.ownsRow base e k v n xs) (hk : Keeps Ts W W2) (he : e ∉ Ts) : W2.ownsRow base e k v n xs := by
  refine ⟨h.1, ?_⟩
  rcases h.2 with h0 | ⟨g, cap, cur, rfl, hb, hc, hx⟩
  · exact Or.inl h0
  · exact Or.inr ⟨g, cap, cur, rfl, hb, hk _ _ hc (fun cs T fr e => by cases e; exact he), hx⟩
theorem OwnSer.keeps {Ts : List TypeId} {W W2 : World} {base : Nat} {q : SerAt} (h : OwnSer W base q) (hk : Keeps Ts W W2) (hL : 60 ∉ Ts) (hS : 51 ∉ Ts) : OwnSer W2 base q :=
  ⟨row_keeps h.labo hk hL, row_keeps h.samo hk hS, h.lsize, h.lfew, h.sfew⟩
theorem WorkRows.keeps {Ts : List TypeId} {W W2 : World} {base : Nat} {v : Value} {n : Nat} {q : Nat → SerAt} (h : WorkRows W base v n q) (hk : Keeps Ts W W2) (hR : 48 ∉ Ts) (hL : 60 ∉ Ts) (hS : 51 ∉ Ts) : WorkRows W2 base v n q :=
  ⟨row_keeps h.own hk hR, h.few, fun i hi => (h.each i hi).keeps hk hL hS, h.apart⟩
theorem MapIs.keeps {Ts : List TypeId} {P : Program} {k : TypeId} {W W2 : World} {b n : Nat} {f : Value → Option Value} (h : MapIs P k W b n f) (hk : Keeps Ts W W2) : MapIs P k W2 b n f := by
  obtain ⟨es, clock, h0, hr⟩ := h
  exact ⟨es, clock, hk _ _ h0 (fun cs T fr e => by cases e), hr⟩
theorem Raised.keeps {Ts : List TypeId} {W W2 : World} {base base2 : Nat} {v : Value} {m : Nat} {q : Nat → SerAt} (h : Raised W base base2 v m q) (hk : Keeps Ts W W2) (hR : 48 ∉ Ts) (hL : 60 ∉ Ts) (hS : 51 ∉ Ts) : Raised W2 base base2 v m q :=
  ⟨row_keeps h.own hk hR, fun i hi => (h.each i hi).keeps hk hL hS, h.apart⟩
/-- a change: where it lies, and what it is -/
structure RecAt where
  kind : Int
  la : Option Addr
  ln : Nat
  lc : Nat
  f : Nat → Lab
  t : Int
  hi : Int
  v : Int
def RecAt.cell (r : RecAt) (j : Nat) : Value := if j = 0 then .int .i64 r.kind else if j = 1 then .slice r.la r.ln r.lc else if j = 2 then .int .i64 r.t else if j = 3 then .int .i64 r.hi else .int .u64 r.v
def cx (r : Nat → RecAt) (i j : Nat) : Value := (r i).cell j
theorem cx_one (r : Nat → RecAt) (i j : Nat) : (cx r i j).oneCell' = true := by
  unfold cx RecAt.cell
  split
  · rfl
  · split
    · rfl
    · split
      · rfl
      · split <;> rfl
/-- its labels are the call's own -/
structure OwnRec (W : World) (base : Nat) (x : RecAt) : Prop where
  labo : W.ownsRow base 60 2 (.slice x.la x.ln x.lc) x.ln (rcells 2 (lx x.f) x.ln)
  lsize : ∀ i, i < x.ln → (x.f i).1.size ≤ 300 ∧ (x.f i).2.size ≤ 300
  lfew : x.ln ≤ 1000
theorem OwnRec.keeps {Ts : List TypeId} {W W2 : World} {base : Nat} {x : RecAt} (h : OwnRec W base x) (hk : Keeps Ts W W2) (hL : 60 ∉ Ts) : OwnRec W2 base x := ⟨row_keeps h.labo hk hL, h.lsize, h.lfew⟩
/-- a row of changes of the call's own -/
structure OwnRecs (W : World) (base : Nat) (v : Value) (m : Nat) (r : Nat → RecAt) : Prop where
  own : W.ownsRow base 64 5 v m (rcells 5 (cx r) m)
  each : ∀ i, i < m → OwnRec W base (r i)
theorem OwnRecs.keeps {Ts : List TypeId} {W W2 : World} {base : Nat} {v : Value} {m : Nat} {r : Nat → RecAt} (h : OwnRecs W base v m r) (hk : Keeps Ts W W2) (hR : 64 ∉ Ts) (hL : 60 ∉ Ts) : OwnRecs W2 base v m r := ⟨row_keeps h.own hk hR, fun i hi => (h.each i hi).keeps hk hL⟩
def putR (r : Nat → RecAt) (m : Nat) (x : RecAt) (i : Nat) : RecAt := if i = m then x else r i
theorem rcells_more (k : Nat) (x y z : Nat → Nat → Value) (m : Nat) (h : ∀ i j, i < m → j < k → y i j = x i j) (h2 : ∀ j, j < k → y m j = z 0 j) : rcells k x m ++ rcells k z 1 = rcells k y (m + 1) := by
  have e1 : rcells k x m = rcells k y m := rcells_congr (fun i j hi hj => (h i j hi hj).symm)
  have e2 : rcells k z 1 = (List.range k).map (y m) := by
    have : rcells k z 1 = (List.range k).map (z 0) := by simp [rcells]
    rw [this]
    exact List.map_congr_left (fun j hj => (h2 j (List.mem_range.1 hj)).symm)
  rw [e1, e2, ← rcells_succ]
theorem OwnRecs.more {W : World} {base : Nat} {v : Value} {m : Nat} {r : Nat → RecAt} {x : RecAt} (ho : W.ownsRow base 64 5 v (m + 1) (rcells 5 (cx r) m ++ rcells 5 (cx fun _ => x) 1)) (he : ∀ i, i < m → OwnRec W base (r i)) (hx : OwnRec W base x) : OwnRecs W base v (m + 1) (putR r m x) := by
  have ek : putR r m x m = x := by unfold putR; rw [if_pos rfl]
  have ei : ∀ i, i ≠ m → putR r m x i = r i := fun i hi => by unfold putR; rw [if_neg hi]
  refine ⟨?_, fun i hi => ?_⟩
  · rw [← rcells_more 5 (cx r) (cx (putR r m x)) (cx fun _ => x) m (fun i j hi _ => by unfold cx; rw [ei i (by omega)]) (fun j _ => by unfold cx; rw [ek])]
    exact ho
  · by_cases e : i = m
    · rw [e, ek]; exact hx
    · rw [ei i e]; exact he i (by omega)
/-- two blocks that are held -/
structure Two (w : World) (b xb : Nat) (wc xc : Array Value) (T1 T2 : TypeId) (U : World) : Prop where
  bel : Below w.heap.size w U
  wk : U.heap[b]? = some (.cells wc T1 (0, 0))
  xk : U.heap[xb]? = some (.cells xc T2 (0, 0))
theorem Two.far {w : World} {b xb : Nat} {wc xc : Array Value} {T1 T2 : TypeId} {U V : World} (h : Two w b xb wc xc T1 T2 U) (hb : Below U.heap.size U V) : Two w b xb wc xc T1 T2 V := ⟨below_step h.bel hb, heap_keep h.wk hb, heap_keep h.xk hb⟩
theorem Two.grown {w : World} {b xb : Nat} {wc xc : Array Value} {T1 T2 : TypeId} {U V : World} {row : Option Nat} (h : Two w b xb wc xc T1 T2 U) (hg : U.grownBy V row) (h1 : row ≠ some b) (h2 : row ≠ some xb) (h3 : ∀ r, row = some r → w.heap.size ≤ r) : Two w b xb wc xc T1 T2 V :=
  ⟨h.bel.grown hg h.bel.size h3, (hg.block b (Array.getElem?_eq_some_iff.1 h.wk).1 (fun e => h1 e.symm)).trans h.wk, (hg.block xb (Array.getElem?_eq_some_iff.1 h.xk).1 (fun e => h2 e.symm)).trans h.xk⟩
theorem Below.wider {w U V : World} {row : Option Nat} (h : Below w.heap.size w U) (hg : U.grownBy V row) (h3 : ∀ r, row = some r → w.heap.size ≤ r) : Below w.heap.size w V := h.grown hg h.size h3
theorem infoRec : (Try.prog.info? 64).map (fun i => (i.zero, i.size, i.bytes)) = some (some (.agg #[.int .i64 0, .slice none 0 0, .int .i64 0, .int .i64 0, .int .u64 0]), 5, 56) := by kernel_rfl
/-- a row behind a row of the call's own: one operation -/
theorem wp_append_row {o : Oper} {a : Act} {K : Act → World → Prop} {Q : Exit → Act → World → Prop} (w : World) (s y : Operand) (T E : TypeId)
    (ho : o.op = .call { callee := .builtin .append, args := #[s, y], argTypes := #[T, T] })
    (k by_ : Nat) (z : Value) (ht : Try.prog.underlying T = some (.slice E)) (hinfo : (Try.prog.info? E).map (fun i => (i.zero, i.size, i.bytes)) = some (some z, k, by_)) (hzs : z.cells.size = k) (hk : 0 < k) (hby : by_ ≤ 1000)
    (base : Nat) (v : Value) (n0 : Nat) (xs : List Value) (hs : a.eval s = v) (hown : w.ownsRow base E k v n0 xs)
    (ad : Addr) (n c : Nat) (x : Nat → Nat → Value) (hx1 : ∀ i j, (x i j).oneCell' = true) (hy : a.eval y = .slice (some ad) n c) (hA : Row k x w (some ad) n) (hsz : n0 + n ≤ 1000000) (hbase : base ≤ w.heap.size)
    (h : ∀ v' w', w'.ownsRow base E k v' (n0 + n) (xs ++ rcells k x n) → w.grownBy w' v.ownBlock → (v' = .slice none 0 0 ↔ v = .slice none 0 0 ∧ n = 0) → K (a.put o.dst v') w') : o.wp Try.prog a w K Q := by
  obtain ⟨i0, hi0, hz0, hz1, hz2⟩ := info_parts hinfo
  have hb2 : (n0 + n) * by_ ≤ 1000000 * 1000 := Nat.mul_le_mul hsz hby
  exact wp_append_own w s y T ho base E i0 z k by_ ht hi0 hz0 hz1 hz2 hzs hk v n0 xs hs hown ad n c (rcells k x n) hy (rcells_length k x n) (hA.cells hk) (rcells_one hx1 n) (by unfold maxLen; omega) (by omega) hbase (fun v' w' h1 h2 h3 => h v' w' h1 h2 h3)
theorem row_built (k : Nat) (x : Nat → Nat → Value) (W : World) (cs : Array Value) (T : TypeId) (hc : ∀ j, j < k → cs[j]? = some (x 0 j)) : Row k x (W.alloc (.cells cs T)) (some ⟨W.heap.size, 0, none⟩) 1 := fun _ => ⟨⟨W.heap.size, 0, none⟩, rfl, by simp, fun i hi j hj => by
  obtain rfl : i = 0 := by omega
  rw [Addr.add_lit, Nat.zero_mul, Nat.zero_add, Nat.zero_add]
  exact cell_of_row _ _ _ _ _ _ (by rw [heap_alloc_new W _]) |>.trans (by simpa using hc j hj)⟩
set_option maxRecDepth 100000 in
set_option maxHeartbeats 4000000 in
theorem tell_any {w W : World} {b mb n : Nat} {v : Value} {fl gen err cnt : Int} {op : List Value} {ans recs : Value} {q : Nat → SerAt} (hw : Work w W b v fl mb op gen err cnt ans recs n q) {m : Nat} {r : Nat → RecAt} (hr : OwnRecs W w.heap.size recs m r) (hm : m ≤ 100000)
    (x : RecAt) (hx : OwnRec W w.heap.size x) (k : Int) (hk0 : 0 ≤ k) (hk1 : k ≤ 1000000) (hc0 : 0 ≤ cnt) (hc1 : cnt ≤ 1000000000) (hol : op.length = 7) :
    Calls Try.prog 41 #[.pointer (some ⟨b, 0, none⟩), .int .i64 k, .agg #[.int .i64 x.kind, .slice x.la x.ln x.lc, .int .i64 x.t, .int .i64 x.hi, .int .u64 x.v]] W fun e W' => ∃ recs' : Value, e = .returned (.tuple #[]) ∧
      Work w W' b v fl mb op gen err (cnt + k) ans recs' n q ∧ OwnRecs W' w.heap.size recs' (m + 1) (putR r m x) ∧ Keeps [70, 64] W W' := by
  obtain ⟨o0, o1, o2, o3, o4, o5, o6, rfl⟩ : ∃ o0 o1 o2 o3 o4 o5 o6, op = [o0, o1, o2, o3, o4, o5, o6] := by
    match op, hol with
    | [a, b, c, d, e, f, g], _ => exact ⟨a, b, c, d, e, f, g, rfl⟩
  obtain ⟨w1, hw1⟩ : ∃ w1, w1 = W.alloc (.cells #[.int .i64 x.kind, .slice x.la x.ln x.lc, .int .i64 x.t, .int .i64 x.hi, .int .u64 x.v] 64) := ⟨_, rfl⟩
  have hb1 : Below W.heap.size W w1 := by rw [hw1]; exact (Below.refl _ _).alloc (Nat.le_refl _) _
  have hx1 : w1.heap[W.heap.size]? = some (.cells #[.int .i64 x.kind, .slice x.la x.ln x.lc, .int .i64 x.t, .int .i64 x.hi, .int .u64 x.v] 64 (0, 0)) := by rw [hw1]; exact heap_alloc_new W _
  have HW1 := Lib.hid (hw.far hb1)
  have z12 : W.cell? ⟨b, 12, none⟩ = some (.int .i64 cnt) := cell_of_row _ _ _ _ _ _ hw.wk
  have f12 : W.frozen? ⟨b, 12, none⟩ = false := frozen_of_row _ _ _ _ _ hw.wk
  have hbl : b < W.heap.size := (Array.getElem?_eq_some_iff.1 hw.wk).1
  have j1 : IntKind.i64.wrap (cnt + k) = cnt + k := IntWalk.i64_in _ (by omega)
  have j2 : wrap64 (cnt + k) = cnt + k := IntWalk.wrap64_in _ (by omega)
  obtain ⟨w2, hw2⟩ : ∃ w2, w2 = w1.setCell ⟨b, 12, none⟩ (.int .i64 (cnt + k)) := ⟨_, rfl⟩
  obtain ⟨p1, p2, p3, p4⟩ := HW1.out.write 12 (.int .i64 (cnt + k))
  rw [← hw2] at p1 p2 p3 p4
  have hg2 : w1.grownBy w2 (some b) := by rw [hw2]; exact grown_setCell _ _ _ _
  have HW2 : Hid (Work w w2 b v fl mb [o0, o1, o2, o3, o4, o5, o6] gen err (cnt + k) ans recs n q) := Lib.hid ⟨p1, hw.lo, by rw [p2]; rfl, p3, hw.mlo, p4⟩
  have hk12 : Keeps [70, 64] W w2 := (Keeps.below hb1).trans (Keeps.grown HW1.out.wk (by simp) hg2)
  have hr1 := hr.keeps (Keeps.below (Ts := [70]) hb1) (by decide) (by decide)
  have HR2 := Lib.hid (hr1.keeps (Keeps.grown (Ts := [70]) HW1.out.wk (by simp) hg2) (by decide) (by decide))
  have HX2 := Lib.hid (hx.keeps hk12 (by decide))
  have hbx : b ≠ W.heap.size := by have := (Array.getElem?_eq_some_iff.1 hw.wk).1; omega
  have hx2 : w2.heap[W.heap.size]? = some (.cells #[.int .i64 x.kind, .slice x.la x.ln x.lc, .int .i64 x.t, .int .i64 x.hi, .int .u64 x.v] 64 (0, 0)) := (hg2.block _ (Array.getElem?_eq_some_iff.1 hx1).1 (fun e => by cases e; exact hbx rfl)).trans hx1
  have HS2 : Hid (Two w b W.heap.size (workCells v fl (.map (some mb)) [o0, o1, o2, o3, o4, o5, o6] gen err (cnt + k) ans recs) #[.int .i64 x.kind, .slice x.la x.ln x.lc, .int .i64 x.t, .int .i64 x.hi, .int .u64 x.v] 70 64 w2) := Lib.hid ⟨HW2.out.bel, HW2.out.wk, hx2⟩
  have HK2 := Lib.hid hk12
  have HRL : Hid (recs.ownBlock ≠ some W.heap.size) := Lib.hid (fun e => by have := (hr.own.lt _ e).2; omega)
  have HRB : Hid (recs.ownBlock ≠ some b) := Lib.hid (block_other hr.own hw.wk (by decide))
  have hw2' : w2 = (W.setCell ⟨b, 12, none⟩ (.int .i64 (cnt + k))).alloc (.cells #[.int .i64 x.kind, .slice x.la x.ln x.lc, .int .i64 x.t, .int .i64 x.hi, .int .u64 x.v] 64) := by rw [hw2, hw1]; exact World.setCell_alloc_past _ _ _ _ hbl
  clear hw hr hx hb1 hx1 p1 p2 p3 p4 hg2 hk12 hr1 hbx hx2 hw1 hw2
  go_enter Try.func41, Try.ntmps41
  go_wp2_with fail
  rw [← hw2']
  clear hw2' z12 f12 j1 j2
  refine plain_T (Two w b W.heap.size (workCells v fl (.map (some mb)) [o0, o1, o2, o3, o4, o5, o6] gen err (cnt + k) ans recs) #[.int .i64 x.kind, .slice x.la x.ln x.lc, .int .i64 x.t, .int .i64 x.hi, .int .u64 x.v] 70 64) [10] (by kernel_rfl) ?_
  have HD := Lib.hid (HS2.out.far (Below.refl _ _).drew)
  have HWD := Lib.hid (HW2.out.far (Below.refl _ _).drew)
  have HRD := Lib.hid (HR2.out.keeps (Keeps.below (Ts := []) (Below.refl _ w2).drew) (by decide) (by decide))
  have HXD := Lib.hid (HX2.out.keeps (Keeps.below (Ts := []) (Below.refl _ w2).drew) (by decide))
  have HKD := Lib.hid (HK2.out.trans (Keeps.below (Below.refl _ w2).drew))
  generalize w2.drew = wd at HD HWD HRD HXD HKD ⊢
  clear HS2 HW2 HR2 HX2 HK2
  refine wpAnyT_pick (S := (Two w b W.heap.size (workCells v fl (.map (some mb)) [o0, o1, o2, o3, o4, o5, o6] gen err (cnt + k) ans recs) #[.int .i64 x.kind, .slice x.la x.ln x.lc, .int .i64 x.t, .int .i64 x.hi, .int .u64 x.v] 70 64)) (by kernel_rfl) Only.panic Only.keepsIn (w := wd) HD.out [0, 1, 2, 3, 4, 5] 5 _ _ (by kernel_rfl) ?_
  refine PickT.value (d := some 16) (.pointer (some ⟨b, 0, none⟩)) rfl rfl (by kernel_rfl) (fun U hU => (by go_simp)) ?_
  refine PickT.value (d := some 17) (.pointer (some ⟨b, 0, none⟩)) rfl rfl (by kernel_rfl) (fun U hU => (by go_simp)) ?_
  refine PickT.value (d := some 18) (.pointer (some ⟨b, 0, none⟩)) rfl rfl (by kernel_rfl) (fun U hU => (by go_simp)) ?_
  refine PickT.value (d := some 19) (.pointer (some ⟨b, 14, none⟩)) rfl rfl (by kernel_rfl) (fun U hU => (by go_simp)) ?_
  refine PickT.value (d := some 20) (recs) rfl rfl (by kernel_rfl) (fun U hU => (by have h0 : U.cell? ⟨b, 14, none⟩ = some (recs) := cell_of_row _ _ _ _ _ _ hU.wk; go_simp)) ?_
  refine PickT.value (d := some 21) (.agg #[.int .i64 x.kind, .slice x.la x.ln x.lc, .int .i64 x.t, .int .i64 x.hi, .int .u64 x.v]) rfl rfl (by kernel_rfl) (fun U hU => (by have h0 := cell_of_row _ _ 0 _ _ _ hU.xk; have h1 := cell_of_row _ _ 1 _ _ _ hU.xk; have h2 := cell_of_row _ _ 2 _ _ _ hU.xk; have h3 := cell_of_row _ _ 3 _ _ _ hU.xk; have h4 := cell_of_row _ _ 4 _ _ _ hU.xk; go_simp)) ?_
  simp only [PickT, Act.put, List.setIfInBounds_toArray, List.set_cons_zero, List.set_cons_succ]
  refine wpAnyT_one (i := 6) (by kernel_rfl) rfl (by kernel_rfl) ?_
  intro K hK
  unfold Oper.wp
  go_simp
  have HAL := Lib.hid ((Below.refl wd.heap.size wd).alloc (Nat.le_refl _) (.cells #[.int .i64 x.kind, .slice x.la x.ln x.lc, .int .i64 x.t, .int .i64 x.hi, .int .u64 x.v] 64))
  have HD6 := Lib.hid (HD.out.far HAL.out)
  refine hK _ _ (fun _ => HD6.out) ?_
  clear hK K
  refine wpAnyT_one (i := 7) (by kernel_rfl) rfl (by kernel_rfl) ?_
  intro K hK
  have HO6 := Lib.hid (HRD.out.own.alloc (.cells #[.int .i64 x.kind, .slice x.la x.ln x.lc, .int .i64 x.t, .int .i64 x.hi, .int .u64 x.v] 64))
  refine wp_append_row _ _ _ 32 64 rfl 5 56 _ Try.underlying32 infoRec rfl (by decide) (by decide) w.heap.size recs m (rcells 5 (cx r) m) rfl HO6.out ⟨wd.heap.size, 0, none⟩ 1 1 (cx fun _ => x) (cx_one _) rfl (row_built 5 (cx fun _ => x) wd _ _ (fun j hj => by rcases (show j = 0 ∨ j = 1 ∨ j = 2 ∨ j = 3 ∨ j = 4 by omega) with rfl | rfl | rfl | rfl | rfl <;> rfl)) (by omega) HD6.out.bel.size ?_
  intro recs' w7 hown7 hg7 _
  obtain ⟨g7, cap7, rfl⟩ := ownsRow_succ hown7
  have HD7 := Lib.hid (HD6.out.grown hg7 HRB.out HRL.out (fun r e => (HO6.out.lt r e).1))
  have hk67 : Keeps [64] wd w7 := (Keeps.below HAL.out).trans (Keeps.own HO6.out (by simp) hg7)
  have hk07 : Keeps [70, 64] W w7 := HKD.out.trans (hk67.mono (by simp))
  have HK7 := Lib.hid hk67; have HK07 := Lib.hid hk07; have HOWN7 := Lib.hid hown7
  clear hg7 hown7 hk67 hk07
  refine hK _ _ (fun _ => HD7.out) ?_
  clear hK K
  refine wpAnyT_pick (S := (Two w b W.heap.size (workCells v fl (.map (some mb)) [o0, o1, o2, o3, o4, o5, o6] gen err (cnt + k) ans recs) #[.int .i64 x.kind, .slice x.la x.ln x.lc, .int .i64 x.t, .int .i64 x.hi, .int .u64 x.v] 70 64)) (by kernel_rfl) Only.panic Only.keepsIn (w := w7) HD7.out [8, 9] 1 _ _ (by kernel_rfl) ?_
  refine PickT.value (d := some 24) (.pointer (some ⟨b, 0, none⟩)) rfl rfl (by kernel_rfl) (fun U hU => (by go_simp)) ?_
  refine PickT.value (d := some 25) (.pointer (some ⟨b, 14, none⟩)) rfl rfl (by kernel_rfl) (fun U hU => (by go_simp)) ?_
  simp only [PickT, Act.put, List.setIfInBounds_toArray]
  have f14 : w7.frozen? ⟨b, 14, none⟩ = false := frozen_of_row _ _ _ _ _ HD7.out.wk
  have z14 : w7.cell? ⟨b, 14, none⟩ = some recs := cell_of_row _ _ _ _ _ _ HD7.out.wk
  refine wpAnyT_one (i := 10) (by kernel_rfl) rfl (by kernel_rfl) ?_
  intro K hK
  unfold Oper.wp
  go_simp
  refine hK _ _ (fun h => absurd h (by decide)) ?_
  clear hK K
  refine wpAnyT_done (by kernel_rfl) ?_ _
  refine only_mk ?_
  have HGS := Lib.hid (grown_setCell w7 b 14 (.slice (some ⟨g7, 0, none⟩) (m + 1) cap7))
  have HW7 : Hid (Work w w7 b v fl mb [o0, o1, o2, o3, o4, o5, o6] gen err (cnt + k) ans recs n q) := Lib.hid ⟨HD7.out.bel, HWD.out.lo, HD7.out.wk, HWD.out.rows.keeps HK7.out (by decide) (by decide) (by decide), HWD.out.mlo, HWD.out.map.keeps HK7.out⟩
  obtain ⟨p1, p2, p3, p4⟩ := HW7.out.write 14 (.slice (some ⟨g7, 0, none⟩) (m + 1) cap7)
  have HW8 : Hid (Work w (w7.setCell ⟨b, 14, none⟩ (.slice (some ⟨g7, 0, none⟩) (m + 1) cap7)) b v fl mb [o0, o1, o2, o3, o4, o5, o6] gen err (cnt + k) ans (.slice (some ⟨g7, 0, none⟩) (m + 1) cap7) n q) := Lib.hid ⟨p1, HW7.out.lo, by rw [p2]; rfl, p3, HW7.out.mlo, p4⟩
  have HK8 : Hid (Keeps [70] w7 (w7.setCell ⟨b, 14, none⟩ (.slice (some ⟨g7, 0, none⟩) (m + 1) cap7))) := Lib.hid (Keeps.grown HD7.out.wk (by simp) HGS.out)
  have HO8 := Lib.hid (row_keeps HOWN7.out HK8.out (by decide))
  have HX8 := Lib.hid ((HXD.out.keeps HK7.out (by decide)).keeps HK8.out (by decide))
  have HE8 := Lib.hid (fun i (hi : i < m) => ((HRD.out.each i hi).keeps HK7.out (by decide)).keeps HK8.out (by decide))
  have HKE := Lib.hid (HK07.out.trans (HK8.out.mono (by simp)))
  clear p1 p2 p3 p4 f14 z14
  refine ⟨rfl, .tuple #[], results_none rfl _ _ _, ?_⟩
  exact ⟨_, rfl, HW8.out, OwnRecs.more HO8.out HE8.out HX8.out, HKE.out⟩
/-- matchers that stand in a state at work -/
def opCells (o : OpAt) : List Value := [.int .i64 o.kind, .slice o.la o.ln o.lc, .slice o.ma o.mn o.mc, .int .i64 o.t, .int .i64 o.hi, .int .u64 o.v, .int .i64 o.gen]
def askedE (o : OpAt) : Int := if Ma.allRight o.m o.mn = true ∧ o.t ≤ o.hi then 0 else 1
set_option maxRecDepth 100000 in
set_option maxHeartbeats 4000000 in
theorem asked_any {w W : World} {b mb n : Nat} {v : Value} {fl gen err cnt : Int} {ans recs : Value} {q : Nat → SerAt} {o : OpAt} (hw : Work w W b v fl mb (opCells o) gen err cnt ans recs n q)
    (hM : Row 3 (mx o.m) W o.ma o.mn) (hmn : o.mn ≤ 1000000) (hms : ∀ i, i < o.mn → (o.m i).n.size ≤ maxLen ∧ (o.m i).v.size ≤ maxLen) :
    Calls Try.prog 42 #[.pointer (some ⟨b, 0, none⟩)] W fun e W' => e = .returned (.int .i64 (askedE o)) ∧ Below W.heap.size W W' := by
  have hE : askedE o = if Ma.allRight o.m o.mn = true ∧ o.t ≤ o.hi then 0 else 1 := rfl
  by_cases hr : Ma.allRight o.m o.mn = true
  · by_cases ht : o.t ≤ o.hi
    · rw [if_pos ⟨hr, ht⟩] at hE
      have HE := Lib.hid hE
      have d1 : ¬ o.hi < o.t := by omega
      have d2 : decide (o.hi < o.t) = false := decide_eq_false d1
      clear hE ht
      have HWK := Lib.hid hw.wk
      have HC := Lib.hid (fun U (hb : Below W.heap.size W U) => MCheck_any o.ma o.mn o.mc hmn o.m hms U (hM.later hb))
      clear hw hM hms
      go_enter Try.func42, Try.ntmps42
      go_wp2_with fail
      refine plain_T (fun U => Below W.heap.size W U) [] (by kernel_rfl) ?_
      have HD : Hid (Below W.heap.size W W.drew) := Lib.hid (Below.refl _ _).drew
      generalize W.drew = wd at HD ⊢
      refine wpAnyT_pick (S := (fun U => Below W.heap.size W U)) (by kernel_rfl) Only.panic Only.keepsIn (w := wd) HD.out [0, 1, 2, 3, 4] 15 _ _ (by kernel_rfl) ?_
      refine PickT.value (d := some 3) (.pointer (some ⟨b, 0, none⟩)) rfl rfl (by kernel_rfl) (fun U hU => (by go_simp)) ?_
      refine PickT.value (d := some 4) (.pointer (some ⟨b, 0, none⟩)) rfl rfl (by kernel_rfl) (fun U hU => (by go_simp)) ?_
      refine PickT.value (d := some 5) (.pointer (some ⟨b, 3, none⟩)) rfl rfl (by kernel_rfl) (fun U hU => (by go_simp)) ?_
      refine PickT.value (d := some 6) (.pointer (some ⟨b, 5, none⟩)) rfl rfl (by kernel_rfl) (fun U hU => (by go_simp)) ?_
      refine PickT.value (d := some 7) (.slice o.ma o.mn o.mc) rfl rfl (by kernel_rfl) (fun U hU => (by have h0 : U.cell? ⟨b, 5, none⟩ = some (.slice o.ma o.mn o.mc) := cell_of_row _ _ 5 _ _ _ (heap_keep HWK.out hU); go_simp)) ?_
      simp only [PickT, Act.put, List.setIfInBounds_toArray, List.set_cons_zero, List.set_cons_succ]
      refine wpAnyT_one (i := 5) (by kernel_rfl) rfl (by kernel_rfl) ?_
      intro K hK
      unfold Oper.wp
      go_simp
      refine (HC.out _ HD.out).mono ?_; rintro e w2 ⟨rfl, hb2⟩
      have HB2 := Lib.hid (below_step HD.out hb2); clear hb2
      refine hK _ _ (fun _ => HB2.out) ?_
      clear hK K
      have hr0 : ((Ma.err (Ma.allRight o.m o.mn) : Nat) : Int) = 0 := by rw [hr]; rfl
      rw [hr0]
      refine wpAnyT_pick (S := (fun U => Below W.heap.size W U)) (by kernel_rfl) Only.panic Only.keepsIn (w := w2) HB2.out [6, 7, 8, 9, 10, 11, 12, 13, 14, 15, 16, 17, 18, 19] 0 _ _ (by kernel_rfl) ?_
      refine PickT.value (d := some 9) (.bool false) rfl rfl (by kernel_rfl) (fun U hU => (by go_simp)) ?_
      refine PickT.value (d := some 10) (.bool false) rfl rfl (by kernel_rfl) (fun U hU => (by go_simp)) ?_
      refine PickT.value (d := some 11) (.pointer (some ⟨b, 0, none⟩)) rfl rfl (by kernel_rfl) (fun U hU => (by go_simp)) ?_
      refine PickT.value (d := some 12) (.pointer (some ⟨b, 0, none⟩)) rfl rfl (by kernel_rfl) (fun U hU => (by go_simp)) ?_
      refine PickT.value (d := some 13) (.pointer (some ⟨b, 3, none⟩)) rfl rfl (by kernel_rfl) (fun U hU => (by go_simp)) ?_
      refine PickT.value (d := some 14) (.pointer (some ⟨b, 6, none⟩)) rfl rfl (by kernel_rfl) (fun U hU => (by go_simp)) ?_
      refine PickT.value (d := some 15) (.int .i64 o.t) rfl rfl (by kernel_rfl) (fun U hU => (by have h0 : U.cell? ⟨b, 6, none⟩ = some (.int .i64 o.t) := cell_of_row _ _ 6 _ _ _ (heap_keep HWK.out hU); go_simp)) ?_
      refine PickT.value (d := some 16) (.pointer (some ⟨b, 0, none⟩)) rfl rfl (by kernel_rfl) (fun U hU => (by go_simp)) ?_
      refine PickT.value (d := some 17) (.pointer (some ⟨b, 0, none⟩)) rfl rfl (by kernel_rfl) (fun U hU => (by go_simp)) ?_
      refine PickT.value (d := some 18) (.pointer (some ⟨b, 3, none⟩)) rfl rfl (by kernel_rfl) (fun U hU => (by go_simp)) ?_
      refine PickT.value (d := some 19) (.pointer (some ⟨b, 7, none⟩)) rfl rfl (by kernel_rfl) (fun U hU => (by go_simp)) ?_
      refine PickT.value (d := some 20) (.int .i64 o.hi) rfl rfl (by kernel_rfl) (fun U hU => (by have h0 : U.cell? ⟨b, 7, none⟩ = some (.int .i64 o.hi) := cell_of_row _ _ 7 _ _ _ (heap_keep HWK.out hU); go_simp)) ?_
      refine PickT.value (d := some 21) (.bool false) rfl rfl (by kernel_rfl) (fun U hU => (by go_simp)) ?_
      refine PickT.value (d := some 22) (.bool false) rfl rfl (by kernel_rfl) (fun U hU => (by go_simp)) ?_
      simp only [PickT, Act.put, List.setIfInBounds_toArray, List.set_cons_zero, List.set_cons_succ]
      refine wpAnyT_done (by kernel_rfl) ?_ _
      refine Only.next ?_
      go_wp2_with fail
      go_ret
      exact ⟨by rw [HE.out]; rfl, HB2.out⟩
    · rw [if_neg (fun h => ht h.2)] at hE
      have HE := Lib.hid hE
      have d1 : o.hi < o.t := by omega
      have d2 : decide (o.hi < o.t) = true := decide_eq_true d1
      clear hE ht
      have HWK := Lib.hid hw.wk
      have HC := Lib.hid (fun U (hb : Below W.heap.size W U) => MCheck_any o.ma o.mn o.mc hmn o.m hms U (hM.later hb))
      clear hw hM hms
      go_enter Try.func42, Try.ntmps42
      go_wp2_with fail
      refine plain_T (fun U => Below W.heap.size W U) [] (by kernel_rfl) ?_
      have HD : Hid (Below W.heap.size W W.drew) := Lib.hid (Below.refl _ _).drew
      generalize W.drew = wd at HD ⊢
      refine wpAnyT_pick (S := (fun U => Below W.heap.size W U)) (by kernel_rfl) Only.panic Only.keepsIn (w := wd) HD.out [0, 1, 2, 3, 4] 15 _ _ (by kernel_rfl) ?_
      refine PickT.value (d := some 3) (.pointer (some ⟨b, 0, none⟩)) rfl rfl (by kernel_rfl) (fun U hU => (by go_simp)) ?_
      refine PickT.value (d := some 4) (.pointer (some ⟨b, 0, none⟩)) rfl rfl (by kernel_rfl) (fun U hU => (by go_simp)) ?_
      refine PickT.value (d := some 5) (.pointer (some ⟨b, 3, none⟩)) rfl rfl (by kernel_rfl) (fun U hU => (by go_simp)) ?_
      refine PickT.value (d := some 6) (.pointer (some ⟨b, 5, none⟩)) rfl rfl (by kernel_rfl) (fun U hU => (by go_simp)) ?_
      refine PickT.value (d := some 7) (.slice o.ma o.mn o.mc) rfl rfl (by kernel_rfl) (fun U hU => (by have h0 : U.cell? ⟨b, 5, none⟩ = some (.slice o.ma o.mn o.mc) := cell_of_row _ _ 5 _ _ _ (heap_keep HWK.out hU); go_simp)) ?_
      simp only [PickT, Act.put, List.setIfInBounds_toArray, List.set_cons_zero, List.set_cons_succ]
      refine wpAnyT_one (i := 5) (by kernel_rfl) rfl (by kernel_rfl) ?_
      intro K hK
      unfold Oper.wp
      go_simp
      refine (HC.out _ HD.out).mono ?_; rintro e w2 ⟨rfl, hb2⟩
      have HB2 := Lib.hid (below_step HD.out hb2); clear hb2
      refine hK _ _ (fun _ => HB2.out) ?_
      clear hK K
      have hr0 : ((Ma.err (Ma.allRight o.m o.mn) : Nat) : Int) = 0 := by rw [hr]; rfl
      rw [hr0]
      refine wpAnyT_pick (S := (fun U => Below W.heap.size W U)) (by kernel_rfl) Only.panic Only.keepsIn (w := w2) HB2.out [6, 7, 8, 9, 10, 11, 12, 13, 14, 15, 16, 17, 18, 19] 0 _ _ (by kernel_rfl) ?_
      refine PickT.value (d := some 9) (.bool false) rfl rfl (by kernel_rfl) (fun U hU => (by go_simp)) ?_
      refine PickT.value (d := some 10) (.bool false) rfl rfl (by kernel_rfl) (fun U hU => (by go_simp)) ?_
      refine PickT.value (d := some 11) (.pointer (some ⟨b, 0, none⟩)) rfl rfl (by kernel_rfl) (fun U hU => (by go_simp)) ?_
      refine PickT.value (d := some 12) (.pointer (some ⟨b, 0, none⟩)) rfl rfl (by kernel_rfl) (fun U hU => (by go_simp)) ?_
      refine PickT.value (d := some 13) (.pointer (some ⟨b, 3, none⟩)) rfl rfl (by kernel_rfl) (fun U hU => (by go_simp)) ?_
      refine PickT.value (d := some 14) (.pointer (some ⟨b, 6, none⟩)) rfl rfl (by kernel_rfl) (fun U hU => (by go_simp)) ?_
      refine PickT.value (d := some 15) (.int .i64 o.t) rfl rfl (by kernel_rfl) (fun U hU => (by have h0 : U.cell? ⟨b, 6, none⟩ = some (.int .i64 o.t) := cell_of_row _ _ 6 _ _ _ (heap_keep HWK.out hU); go_simp)) ?_
      refine PickT.value (d := some 16) (.pointer (some ⟨b, 0, none⟩)) rfl rfl (by kernel_rfl) (fun U hU => (by go_simp)) ?_
      refine PickT.value (d := some 17) (.pointer (some ⟨b, 0, none⟩)) rfl rfl (by kernel_rfl) (fun U hU => (by go_simp)) ?_
      refine PickT.value (d := some 18) (.pointer (some ⟨b, 3, none⟩)) rfl rfl (by kernel_rfl) (fun U hU => (by go_simp)) ?_
      refine PickT.value (d := some 19) (.pointer (some ⟨b, 7, none⟩)) rfl rfl (by kernel_rfl) (fun U hU => (by go_simp)) ?_
      refine PickT.value (d := some 20) (.int .i64 o.hi) rfl rfl (by kernel_rfl) (fun U hU => (by have h0 : U.cell? ⟨b, 7, none⟩ = some (.int .i64 o.hi) := cell_of_row _ _ 7 _ _ _ (heap_keep HWK.out hU); go_simp)) ?_
      refine PickT.value (d := some 21) (.bool true) rfl rfl (by kernel_rfl) (fun U hU => (by go_simp)) ?_
      refine PickT.value (d := some 22) (.bool true) rfl rfl (by kernel_rfl) (fun U hU => (by go_simp)) ?_
      simp only [PickT, Act.put, List.setIfInBounds_toArray, List.set_cons_zero, List.set_cons_succ]
      refine wpAnyT_done (by kernel_rfl) ?_ _
      refine Only.next ?_
      go_wp2_with fail
      go_ret
      exact ⟨by rw [HE.out]; rfl, HB2.out⟩
  · rw [if_neg (fun h => hr h.1)] at hE
    have HE := Lib.hid hE
    clear hE
    have HWK := Lib.hid hw.wk
    have HC := Lib.hid (fun U (hb : Below W.heap.size W U) => MCheck_any o.ma o.mn o.mc hmn o.m hms U (hM.later hb))
    clear hw hM hms
    go_enter Try.func42, Try.ntmps42
    go_wp2_with fail
    refine plain_T (fun U => Below W.heap.size W U) [] (by kernel_rfl) ?_
    have HD : Hid (Below W.heap.size W W.drew) := Lib.hid (Below.refl _ _).drew
    generalize W.drew = wd at HD ⊢
    refine wpAnyT_pick (S := (fun U => Below W.heap.size W U)) (by kernel_rfl) Only.panic Only.keepsIn (w := wd) HD.out [0, 1, 2, 3, 4] 15 _ _ (by kernel_rfl) ?_
    refine PickT.value (d := some 3) (.pointer (some ⟨b, 0, none⟩)) rfl rfl (by kernel_rfl) (fun U hU => (by go_simp)) ?_
    refine PickT.value (d := some 4) (.pointer (some ⟨b, 0, none⟩)) rfl rfl (by kernel_rfl) (fun U hU => (by go_simp)) ?_
    refine PickT.value (d := some 5) (.pointer (some ⟨b, 3, none⟩)) rfl rfl (by kernel_rfl) (fun U hU => (by go_simp)) ?_
    refine PickT.value (d := some 6) (.pointer (some ⟨b, 5, none⟩)) rfl rfl (by kernel_rfl) (fun U hU => (by go_simp)) ?_
    refine PickT.value (d := some 7) (.slice o.ma o.mn o.mc) rfl rfl (by kernel_rfl) (fun U hU => (by have h0 : U.cell? ⟨b, 5, none⟩ = some (.slice o.ma o.mn o.mc) := cell_of_row _ _ 5 _ _ _ (heap_keep HWK.out hU); go_simp)) ?_
    simp only [PickT, Act.put, List.setIfInBounds_toArray, List.set_cons_zero, List.set_cons_succ]
    refine wpAnyT_one (i := 5) (by kernel_rfl) rfl (by kernel_rfl) ?_
    intro K hK
    unfold Oper.wp
    go_simp
    refine (HC.out _ HD.out).mono ?_; rintro e w2 ⟨rfl, hb2⟩
    have HB2 := Lib.hid (below_step HD.out hb2); clear hb2
    refine hK _ _ (fun _ => HB2.out) ?_
    clear hK K
    have hr0 : ((Ma.err (Ma.allRight o.m o.mn) : Nat) : Int) = 1 := by rw [Bool.eq_false_iff.2 hr]; rfl
    rw [hr0]
    refine wpAnyT_pick (S := (fun U => Below W.heap.size W U)) (by kernel_rfl) Only.panic Only.keepsIn (w := w2) HB2.out [6, 7, 8, 9, 10, 11, 12, 13, 14, 15, 16, 17, 18, 19] 0 _ _ (by kernel_rfl) ?_
    refine PickT.value (d := some 9) (.bool true) rfl rfl (by kernel_rfl) (fun U hU => (by go_simp)) ?_
    refine PickT.value (d := some 10) (.bool true) rfl rfl (by kernel_rfl) (fun U hU => (by go_simp)) ?_
    refine PickT.skip (d := some 11) rfl rfl (by kernel_rfl) ?_
    refine PickT.skip (d := some 12) rfl rfl (by kernel_rfl) ?_
    refine PickT.skip (d := some 13) rfl rfl (by kernel_rfl) ?_
    refine PickT.skip (d := some 14) rfl rfl (by kernel_rfl) ?_
    refine PickT.skip (d := some 15) rfl rfl (by kernel_rfl) ?_
    refine PickT.skip (d := some 16) rfl rfl (by kernel_rfl) ?_
    refine PickT.skip (d := some 17) rfl rfl (by kernel_rfl) ?_
    refine PickT.skip (d := some 18) rfl rfl (by kernel_rfl) ?_
    refine PickT.skip (d := some 19) rfl rfl (by kernel_rfl) ?_
    refine PickT.skip (d := some 20) rfl rfl (by kernel_rfl) ?_
    refine PickT.skip (d := some 21) rfl rfl (by kernel_rfl) ?_
    refine PickT.value (d := some 22) (.bool true) rfl rfl (by kernel_rfl) (fun U hU => (by go_simp)) ?_
    simp only [PickT, Act.put, List.setIfInBounds_toArray, List.set_cons_zero, List.set_cons_succ]
    refine wpAnyT_done (by kernel_rfl) ?_ _
    refine Only.next ?_
    go_wp2_with fail
    go_ret
    exact ⟨by rw [HE.out]; rfl, HB2.out⟩
end Go.Proofs.Ytidfanmfibbiiaa
