/-
  The keys that were told, in a world: a row of texts, and a map of places.
-/
import Derived.Test.YtaillfnmaiiapaaWaC
import Derived.Test.YtaillfnmaiiapaaMapF
import Derived.Maps.AppendAt
namespace Go.Proofs.Ytaillfnmaiiapaa
open Go.RowKit
theorem wlaw : Go.Maps.Keyed Try.prog 9 := Go.Maps.string_keyed Try.underlying9
theorem wkey {s : ByteArray} (h : s.size ≤ maxLen) : keyOf Try.prog 9 (.string s) = some (.string s.data.toList) := Go.WideMaps.keyOf_string_mk Try.underlying9 h
/-- keys as a row -/
def kx (K : List ByteArray) (i _ : Nat) : Value := .string (K.getD i ByteArray.empty)
/-- .. and their places -/
def placeF (K : List ByteArray) : Value → Option Value
  | .string s => (Wa.place K s).map fun (i : Nat) => Value.int .i64 (i : Int)
  | _ => none
theorem placeF_str (K : List ByteArray) (s : ByteArray) : placeF K (.string s) = (Wa.place K s).map fun (i : Nat) => Value.int .i64 (i : Int) := by simp only [placeF]
theorem Wa.place_snoc {K : List ByteArray} {k : ByteArray} (h : Wa.place K k = none) (s : ByteArray) : Wa.place (K ++ [k]) s = if s = k then some K.length else Wa.place K s := by
  unfold Wa.place at h ⊢
  rw [List.findIdx?_append]
  by_cases hs : s = k
  · subst hs
    rw [h, if_pos rfl]
    simp
  · rw [if_neg hs]
    have e : List.findIdx? (fun x => decide (x = s)) [k] = none := by
      simp
      exact fun e => hs e.symm
    rw [e]
    simp
/-- what was told -/
structure NamesIn (w : World) (base nb mb : Nat) (v : Value) (K : List ByteArray) : Prop where
  cells : w.heap[nb]? = some (.cells #[v, .map (some mb)] 78 (0, 0))
  keys : w.ownsRow base 9 1 v K.length (rcells 1 (kx K) K.length)
  map : MapIs Try.prog 9 w mb K.length (placeF K)
  nlo : base ≤ nb
  mlo : base ≤ mb
/-- all but what was told stays -/
def NKeeps (mb : Nat) (w w2 : World) : Prop := ∀ (g : Nat) (o : Obj), w.heap[g]? = some o → g ≠ mb → (∀ cs T fr, o = Obj.cells cs T fr → T ≠ 78 ∧ T ≠ 9) → w2.heap[g]? = some o
theorem NKeeps.refl (mb : Nat) (w : World) : NKeeps mb w w := fun _ _ h _ _ => h
theorem NKeeps.trans {mb : Nat} {w w2 w3 : World} (h : NKeeps mb w w2) (h2 : NKeeps mb w2 w3) : NKeeps mb w w3 := fun g o ho hm hn => h2 g o (h g o ho hm hn) hm hn
theorem NKeeps.below {mb : Nat} {w w2 : World} (h : Below w.heap.size w w2) : NKeeps mb w w2 := fun _ _ ho _ _ => heap_keep ho h
theorem NamesIn.later {w w2 : World} {base nb mb : Nat} {v : Value} {K : List ByteArray} (h : NamesIn w base nb mb v K) (hb : Below w.heap.size w w2) : NamesIn w2 base nb mb v K :=
  ⟨heap_keep h.cells hb, row_far h.keys hb, h.map.kept (grown_of_below (row := none) hb) (by simp), h.nlo, h.mlo⟩
theorem kx_one (K : List ByteArray) (i j : Nat) : (kx K i j).oneCell' = true := rfl
theorem rcells_congr {k : Nat} {x y : Nat → Nat → Value} : ∀ n, (∀ i, i < n → ∀ j, j < k → x i j = y i j) → rcells k x n = rcells k y n
  | 0, _ => rfl
  | n + 1, h => by
    rw [rcells_succ, rcells_succ, rcells_congr n fun i hi => h i (by omega)]
    congr 1
    exact List.map_congr_left fun j hj => h n (by omega) j (List.mem_range.1 hj)
theorem kx_snoc (K : List ByteArray) (k : ByteArray) : rcells 1 (kx K) K.length ++ rcells 1 (fun _ _ => .string k) 1 = rcells 1 (kx (K ++ [k])) (K ++ [k]).length := by
  have e : (K ++ [k]).length = K.length + 1 := by simp
  rw [e, rcells_succ 1 (kx (K ++ [k])) K.length]
  congr 1
  · refine rcells_congr _ fun i hi j _ => ?_
    unfold kx
    rw [List.getD_eq_getElem?_getD, List.getD_eq_getElem?_getD, List.getElem?_append_left hi]
  · show [Value.string k] = [kx (K ++ [k]) K.length 0]
    unfold kx
    rw [List.getD_eq_getElem?_getD]
    simp
/-- a row behind a row of the call's own: where it lies, too -/
theorem wp_append_row_at {o : Oper} {a : Act} {K : Act → World → Prop} {Q : Exit → Act → World → Prop} (w : World) (s y : Operand) (T E : TypeId)
    (ho : o.op = .call { callee := .builtin .append, args := #[s, y], argTypes := #[T, T] })
    (k by_ : Nat) (z : Value) (ht : Try.prog.underlying T = some (.slice E)) (hinfo : (Try.prog.info? E).map (fun i => (i.zero, i.size, i.bytes)) = some (some z, k, by_)) (hzs : z.cells.size = k) (hk : 0 < k) (hby : by_ ≤ 1000)
    (base : Nat) (v : Value) (n0 : Nat) (xs : List Value) (hs : a.eval s = v) (hown : w.ownsRow base E k v n0 xs)
    (ad : Addr) (n c : Nat) (x : Nat → Nat → Value) (hx1 : ∀ i j, (x i j).oneCell' = true) (hy : a.eval y = .slice (some ad) n c) (hA : Row k x w (some ad) n) (hsz : n0 + n ≤ 1000000) (hbase : base ≤ w.heap.size)
    (h : ∀ v' w', w'.ownsRow base E k v' (n0 + n) (xs ++ rcells k x n) → w.grownBy w' v.ownBlock → (v'.ownBlock = v.ownBlock ∨ v'.ownBlock = some w.heap.size) → K (a.put o.dst v') w') : o.wp Try.prog a w K Q := by
  obtain ⟨i0, hi0, hz0, hz1, hz2⟩ := info_parts hinfo
  have hb2 : (n0 + n) * by_ ≤ 1000000 * 1000 := Nat.mul_le_mul hsz hby
  obtain ⟨v', w', hr, h2, h3, -, h5⟩ := run_append_own_at (P := Try.prog) w base T o.type E i0 z k by_ ht hi0 hz0 hz1 hz2 hzs hk v n0 xs hown ad n c (rcells k x n) (rcells_length k x n) (hA.cells hk) (rcells_one hx1 n) (by unfold maxLen; omega) (by omega) hbase
  unfold Oper.wp execOp
  simp only [ho, resolve, invoke, builtin, Sem.run_bind, Sem.run_pure, Result.andThen_ok, List.map_toArray, List.map_cons, List.map_nil, hs, hy, hr]
  exact h v' w' h2 h3 h5
theorem wpList_append_row_at {ops : Array Oper} {rest : List Oper} {o : Oper} {a : Act} {Q : Exit → Act → World → Prop} (w : World) (hgd : o.guard = none) (s y : Operand) (T E : TypeId)
    (ho : o.op = .call { callee := .builtin .append, args := #[s, y], argTypes := #[T, T] })
    (k by_ : Nat) (z : Value) (ht : Try.prog.underlying T = some (.slice E)) (hinfo : (Try.prog.info? E).map (fun i => (i.zero, i.size, i.bytes)) = some (some z, k, by_)) (hzs : z.cells.size = k) (hk : 0 < k) (hby : by_ ≤ 1000)
    (base : Nat) (v : Value) (n0 : Nat) (xs : List Value) (hs : a.eval s = v) (hown : w.ownsRow base E k v n0 xs)
    (ad : Addr) (n c : Nat) (x : Nat → Nat → Value) (hx1 : ∀ i j, (x i j).oneCell' = true) (hy : a.eval y = .slice (some ad) n c) (hA : Row k x w (some ad) n) (hsz : n0 + n ≤ 1000000) (hbase : base ≤ w.heap.size)
    (h : ∀ v' w', w'.ownsRow base E k v' (n0 + n) (xs ++ rcells k x n) → w.grownBy w' v.ownBlock → (v'.ownBlock = v.ownBlock ∨ v'.ownBlock = some w.heap.size) → wpList Try.prog ops Q rest (a.put o.dst v') w') : wpList Try.prog ops Q (o :: rest) a w :=
  wpList_plain hgd fun _ hK => wp_append_row_at w s y T E ho k by_ z ht hinfo hzs hk hby base v n0 xs hs hown ad n c x hx1 hy hA hsz hbase (fun v' w' h1 h2 h3 => hK _ _ (h v' w' h1 h2 h3))
theorem infoT : (Try.prog.info? 9).map (fun i => (i.zero, i.size, i.bytes)) = some (some (.string ByteArray.empty), 1, 16) := by kernel_rfl
theorem own_not {w : World} {base e k n g : Nat} {v : Value} {xs : List Value} {o : Obj} (h : w.ownsRow base e k v n xs) (ho : w.heap[g]? = some o) (hn : ∀ cs fr, o ≠ .cells cs e fr) : v.ownBlock ≠ some g := by
  rcases h.2 with ⟨rfl, _⟩ | ⟨g', c, cur, rfl, _, hg, _⟩
  · intro e; cases e
  · intro e
    have e2 : g' = g := by simpa [Value.ownBlock] using e
    subst e2
    rw [ho] at hg
    exact hn _ _ (Option.some.inj hg)
theorem NamesIn.ne {w : World} {base nb mb : Nat} {v : Value} {K : List ByteArray} (h : NamesIn w base nb mb v K) : nb ≠ mb := by
  rintro rfl
  obtain ⟨es, clock, hb, -⟩ := h.map
  rw [h.cells] at hb
  cases hb
theorem own_snoc {w : World} {base : Nat} {v : Value} {K : List ByteArray} {k : ByteArray} (h : w.ownsRow base 9 1 v (K.length + 1) (rcells 1 (kx K) K.length ++ rcells 1 (fun _ _ => .string k) 1)) : w.ownsRow base 9 1 v (K ++ [k]).length (rcells 1 (kx (K ++ [k])) (K ++ [k]).length) := by
  have e : (K ++ [k]).length = K.length + 1 := by simp
  rw [← kx_snoc, e]; exact h
theorem own_snoc_slice {w : World} {base : Nat} {v : Value} {K : List ByteArray} {k : ByteArray} (h : w.ownsRow base 9 1 v (K.length + 1) (rcells 1 (kx K) K.length ++ rcells 1 (fun _ _ => .string k) 1)) : ∃ A c, v = .slice A (K.length + 1) c := by
  obtain ⟨A, c, e, -⟩ := own_row (own_snoc h)
  have e2 : (K ++ [k]).length = K.length + 1 := by simp
  rw [e2] at e
  exact ⟨A, c, e⟩
/-- another key was told -/
theorem NamesIn.more {w w1 w2 w3 : World} {base nb mb : Nat} {v v' : Value} {K : List ByteArray} {k : ByteArray} (h : NamesIn w base nb mb v K) (hmap : MapIs Try.prog 9 w1 mb (K.length + 1) (placeF (K ++ [k]))) (hg1 : w.drew.grownBy w1 (some mb)) (hs : w1.heap.size = w.heap.size)
    (hb2 : Below w1.heap.size w1 w2) (ho : w3.ownsRow base 9 1 v' (K.length + 1) (rcells 1 (kx K) K.length ++ rcells 1 (fun _ _ => .string k) 1)) (hg3 : w2.grownBy w3 v.ownBlock) :
    NamesIn (w3.setCell ⟨nb, 0, none⟩ v') base nb mb v' (K ++ [k]) ∧ NKeeps mb w (w3.setCell ⟨nb, 0, none⟩ v') ∧ Below base w (w3.setCell ⟨nb, 0, none⟩ v') := by
  have hne := h.ne
  have hx1 : w1.heap[nb]? = some (.cells #[v, .map (some mb)] 78 (0, 0)) := (hg1.block nb (by have := (Array.getElem?_eq_some_iff.1 h.cells).1; exact this) (fun e => hne (by cases e; rfl))).trans h.cells
  have hx2 := heap_keep hx1 hb2
  obtain ⟨es, clock, hm0, -⟩ := h.map
  have ho1 : w1.ownsRow base 9 1 v K.length (rcells 1 (kx K) K.length) := row_kept (W := w.drew) h.keys hg1 (fun r e => by
    obtain rfl : mb = r := Option.some.inj e
    exact own_not h.keys hm0 (fun cs fr e => by cases e))
  have ho2 := row_far ho1 hb2
  have hm2 := hmap.kept (grown_of_below (row := none) hb2) (by simp)
  have hmo : some mb ≠ v.ownBlock := by
    obtain ⟨es2, clock2, hm3, -⟩ := hm2
    exact fun e => own_not ho2 hm3 (fun cs fr e => by cases e) e.symm
  have hno : v.ownBlock ≠ some nb := own_not ho2 hx2 (fun cs fr e => by cases e)
  have hx3 : w3.heap[nb]? = some (.cells #[v, .map (some mb)] 78 (0, 0)) := (hg3.block nb (Array.getElem?_eq_some_iff.1 hx2).1 (fun e => hno e.symm)).trans hx2
  have hgs := grown_setCell w3 nb 0 v'
  have hx4 := heap_setCell_same w3 nb 0 _ _ v' hx3
  have ho3 := own_snoc ho
  refine ⟨⟨hx4, row_kept ho3 hgs (fun r e => ?_), ?_, h.nlo, h.mlo⟩, fun g o hg hgm hgt => ?_, ?_⟩
  · obtain rfl : nb = r := Option.some.inj e
    exact own_not ho3 hx3 (fun cs fr e => by cases e)
  · have e : (K ++ [k]).length = K.length + 1 := by simp
    rw [e]
    exact (hm2.kept hg3 hmo).kept hgs (fun e => hne (by cases e; rfl))
  · have hlt := (Array.getElem?_eq_some_iff.1 hg).1
    have hgn : g ≠ nb := by
      rintro rfl
      rw [h.cells] at hg
      exact (hgt _ _ _ (Option.some.inj hg).symm).1 rfl
    have q1 : w1.heap[g]? = some o := (hg1.block g hlt (fun e => hgm (by cases e; rfl))).trans hg
    have q2 := heap_keep q1 hb2
    have q3 : w3.heap[g]? = some o := (hg3.block g (Array.getElem?_eq_some_iff.1 q2).1 (fun e => own_not ho2 q2 (fun cs fr eo => (hgt cs 9 fr eo).2 rfl) e.symm)).trans q2
    exact (hgs.block g (Array.getElem?_eq_some_iff.1 q3).1 (fun e => hgn (by cases e; rfl))).trans q3
  · have b1 : Below base w w1 := ((Below.refl base w).drew).grown hg1 (by have := (Array.getElem?_eq_some_iff.1 h.cells).1; have := h.nlo; show base ≤ w.heap.size; omega) (fun r e => by obtain rfl : mb = r := Option.some.inj e; exact h.mlo)
    have b2 : Below base w w2 := b1.trans (hb2.mono (by have := (Array.getElem?_eq_some_iff.1 h.cells).1; have := h.nlo; omega))
    have b3 := b2.grown hg3 (by have := b2.size; have := (Array.getElem?_eq_some_iff.1 h.cells).1; have := h.nlo; omega) (fun r e => (ho2.lt r e).1)
    exact b3.setCell h.nlo _
set_option maxRecDepth 100000 in
set_option maxHeartbeats 2000000 in
theorem add_any {w : World} {base nb mb : Nat} {v : Value} {K : List ByteArray} (h : NamesIn w base nb mb v K) (hK : K.length ≤ 900000) (k : ByteArray) (hk : k.size ≤ maxLen) (hn : Wa.place K k = none) :
    Calls Try.prog 57 #[.pointer (some ⟨nb, 0, none⟩), .string k] w fun e w' => e = .returned (.tuple #[]) ∧ ∃ v', NamesIn w' base nb mb v' (K ++ [k]) ∧ NKeeps mb w w' ∧ Below base w w' := by
  obtain ⟨A, c, rfl, hc⟩ := own_row h.keys
  have hx1 := h.cells
  have c0 := cell_of_row _ _ 0 _ _ _ hx1
  have c1 := cell_of_row _ _ 1 _ _ _ hx1
  have f0 := frozen_of_row _ _ 0 _ _ hx1
  simp only [List.getElem?_toArray, List.getElem?_cons_zero, List.getElem?_cons_succ] at c0 c1
  obtain ⟨w1, hrun, hmap, hgr, hsz⟩ := h.map.drew.put wlaw (t := 76) (e := 3) Try.underlying76 (key := .string k) (val := .int .i64 (K.length : Int)) (wkey hk) (placeF (K ++ [k]))
    (by rw [placeF_str, Wa.place_snoc hn, if_pos rfl]; rfl)
    (fun x hx => by
      cases x <;> try rfl
      rename_i s
      rw [placeF_str, placeF_str, Wa.place_snoc hn, if_neg (fun e => hx (by rw [e]))])
  have H := Lib.hid h; have HMAP := Lib.hid hmap; have HGR := Lib.hid hgr; have HSZ := Lib.hid hsz
  clear hmap hgr hsz h hx1
  go_enter Try.func57, Try.ntmps57
  go_wp2_with fail
  go_region
  have hne := H.out.ne
  have hx1 : w1.heap[nb]? = some (.cells #[.slice A K.length c, .map (some mb)] 78 (0, 0)) := (HGR.out.block nb (by have := (Array.getElem?_eq_some_iff.1 H.out.cells).1; exact this) (fun e => hne (by cases e; rfl))).trans H.out.cells
  have hown : w1.ownsRow base 9 1 (.slice A K.length c) K.length (rcells 1 (kx K) K.length) := row_kept (W := w.drew) H.out.keys HGR.out (fun r e => by
    obtain rfl : mb = r := Option.some.inj e
    obtain ⟨es, clock, hb, -⟩ := H.out.map
    exact own_not H.out.keys hb (fun cs fr e => by cases e))
  have hba := (Below.refl w1.heap.size w1).alloc (Nat.le_refl _) (.cells #[.string k] 9)
  have hnew := heap_alloc_new w1 (.cells #[.string k] 9)
  have HX1 := Lib.hid (heap_keep hx1 hba); have HO1 := Lib.hid (row_far hown hba)
  have HB1 := Lib.hid hba
  have hrow : Row 1 (fun _ _ => .string k) (w1.alloc (.cells #[.string k] 9)) (some ⟨w1.heap.size, 0, none⟩) 1 := row_built 1 _ w1 _ _ (fun j hj => by
    obtain rfl : j = 0 := by omega
    rfl)
  have HROW := Lib.hid hrow
  have HSZ2 : Hid (base ≤ (w1.alloc (.cells #[.string k] 9)).heap.size) := Lib.hid (by
    have h1 := H.out.nlo
    have h2 := (Array.getElem?_eq_some_iff.1 H.out.cells).1
    have h3 := HB1.out.size
    have h4 : w1.heap.size = w.heap.size := HSZ.out
    omega)
  have g0 := cell_of_row _ _ 0 _ _ _ hx1
  simp only [List.getElem?_toArray, List.getElem?_cons_zero] at g0
  have HN5 : Hid (nb < (w1.alloc (.cells #[.string k] 9)).heap.size ∧ (Value.slice A K.length c).ownBlock ≠ some nb) := Lib.hid ⟨(Array.getElem?_eq_some_iff.1 HX1.out).1, own_not HO1.out HX1.out (fun cs fr e => by cases e)⟩
  clear hba hnew hrow hx1 hown c0 c1 f0
  go_wp2_with (at_builtin; (refine wpList_append_row_at _ rfl _ _ 30 9 rfl 1 16 (.string ByteArray.empty) Try.underlying30 infoT rfl (by decide) (by decide) base _ K.length (rcells 1 (kx K) K.length) rfl HO1.out ⟨w1.heap.size, 0, none⟩ 1 1 (fun _ _ => .string k) (fun _ _ => rfl) rfl HROW.out (by omega) HSZ2.out ?_); intro v5 w5 hown5 hg5 hl5; obtain ⟨A5, c5, rfl⟩ := own_snoc_slice hown5; have HO5 := Lib.hid hown5; have HG5 := Lib.hid hg5; have hx5 := (hg5.block nb (HN5.out.1) (fun e => HN5.out.2 e.symm)).trans HX1.out; have q0 := cell_of_row _ _ 0 _ _ _ hx5; have q1 := frozen_of_row _ _ 0 _ _ hx5; simp only [List.getElem?_toArray, List.getElem?_cons_zero] at q0; clear hown5 hg5 hl5 hx5)
  go_end0
  exact ⟨rfl, _, H.out.more HMAP.out HGR.out HSZ.out HB1.out HO5.out HG5.out⟩
end Go.Proofs.Ytaillfnmaiiapaa
