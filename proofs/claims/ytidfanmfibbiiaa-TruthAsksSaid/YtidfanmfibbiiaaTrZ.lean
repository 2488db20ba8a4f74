import Derived.Test.YtidfanmfibbiiaaTrW
import Derived.Lib.AppendZerosOnto
import Derived.Lib.Overlaps
import Derived.Laws.Externs
import Derived.Test.YtidfanmfibbiiaaTrV
import Derived.Deep.AppendLies
/-
  What slices.Insert of one series comes to.
-/
namespace Go.Proofs.Ytidfanmfibbiiaa
open Go.RowKit
theorem rcells_add (k : Nat) (x : Nat → Nat → Value) (a b : Nat) : rcells k x (a + b) = rcells k x a ++ rcells k (fun j => x (a + j)) b := by
  unfold rcells
  rw [List.range_add, List.flatMap_append, List.flatMap_map]
theorem rcells_take (k : Nat) (x : Nat → Nat → Value) {i n : Nat} (h : i ≤ n) : (rcells k x n).take (i * k) = rcells k x i := by
  obtain ⟨d, rfl⟩ := Nat.le.dest h
  rw [rcells_add, List.take_left' (rcells_length k x i)]
theorem rcells_drop (k : Nat) (x : Nat → Nat → Value) {i n : Nat} (h : i ≤ n) : (rcells k x n).drop (i * k) = rcells k (fun j => x (i + j)) (n - i) := by
  obtain ⟨d, rfl⟩ := Nat.le.dest h
  rw [rcells_add, List.drop_left' (rcells_length k x i), Nat.add_sub_cancel_left]
/-- one series more, at a place -/
def insq (q : Nat → SerAt) (i : Nat) (x : SerAt) (j : Nat) : SerAt := if j < i then q j else if j = i then x else q (j - 1)
theorem rcells_ins (q : Nat → SerAt) {i n : Nat} (h : i ≤ n) (x : SerAt) : (rcells 3 (rx q) n).take (i * 3) ++ (rcells 3 (rx fun _ => x) 1 ++ (rcells 3 (rx q) n).drop (i * 3)) = rcells 3 (rx (insq q i x)) (n + 1) := by
  rw [rcells_take 3 _ h, rcells_drop 3 _ h]
  have e : n + 1 = i + (1 + (n - i)) := by omega
  rw [e, rcells_add, rcells_add]
  congr 1
  · refine rcells_congr (fun a b ha _ => ?_)
    unfold rx insq
    rw [if_pos ha]
  · congr 1
    · refine rcells_congr (fun a b ha _ => ?_)
      obtain rfl : a = 0 := by omega
      have e1 : insq q i x (i + 0) = x := by unfold insq; rw [if_neg (by omega), if_pos (by omega)]
      show rx (fun _ => x) 0 b = rx (insq q i x) (i + 0) b
      unfold rx
      rw [e1]
    · refine rcells_congr (fun a b ha _ => ?_)
      have e1 : insq q i x (i + (1 + a)) = q (i + a) := by unfold insq; rw [if_neg (by omega), if_neg (by omega), show i + (1 + a) - 1 = i + a by omega]
      show rx q (i + a) b = rx (insq q i x) (i + (1 + a)) b
      unfold rx
      rw [e1]
/-- copy, where its run is known: one operation, and as one of a row -/
theorem wp_copy_here {P : Program} {W : World} {o : Oper} {a : Act} {K : Act → World → Prop} {Q : Exit → Act → World → Prop} {d s : Operand} {t u : TypeId} {v x v2 : Value} {W2 : World}
    (ho : o.op = .call { callee := .builtin .copy, args := #[d, s], argTypes := #[t, u] }) (hd : a.eval d = v) (hs : a.eval s = x) (hr : (Builtin.copy_ #[t, u] o.type #[v, x]).run P W = .ok v2 W2) (h : K (a.put o.dst v2) W2) : o.wp P a W K Q := by
  unfold Oper.wp execOp
  simp only [ho, resolve, invoke, builtin, Sem.run_bind, Sem.run_pure, Result.andThen_ok, List.map_toArray, List.map_cons, List.map_nil, hd, hs, hr]
  exact h
theorem wpList_copy_here {P : Program} {W : World} {ops : Array Oper} {rest : List Oper} {o : Oper} {a : Act} {Q : Exit → Act → World → Prop} {d s : Operand} {t u : TypeId} {v x v2 : Value} {W2 : World}
    (hg : o.guard = none) (ho : o.op = .call { callee := .builtin .copy, args := #[d, s], argTypes := #[t, u] }) (hd : a.eval d = v) (hs : a.eval s = x) (hr : (Builtin.copy_ #[t, u] o.type #[v, x]).run P W = .ok v2 W2) (h : wpList P ops Q rest (a.put o.dst v2) W2) : wpList P ops Q (o :: rest) a W :=
  wpList_plain hg fun _ hK => wp_copy_here ho hd hs hr (hK _ _ h)
theorem cells_at {W : World} {g : Nat} {cur : Array Value} {T : TypeId} {fr : Nat × Nat} (hc : W.heap[g]? = some (.cells cur T fr)) {j : Nat} {v : Value} (h : cur.toList[j]? = some v) : W.cell? ⟨g, j, none⟩ = some v := (cell_of_row _ _ _ _ _ _ hc).trans (by simpa using h)
theorem splice_shift {L xs vs : List Value} {i n : Nat} (hL : (n + 1) * 3 ≤ L.length) (hi : i ≤ n) (hv : vs.length = 3) (hx : xs = (L.take (n * 3)).drop (i * 3)) {L1 L2 : List Value} (h1 : L1 = L.take ((i + 1) * 3) ++ xs ++ L.drop ((i + 1) * 3 + xs.length)) (h2 : L2 = L1.take (i * 3) ++ vs ++ L1.drop (i * 3 + vs.length)) :
    L1.length = L.length ∧ L2.length = L.length ∧ L2.take ((n + 1) * 3) = (L.take (n * 3)).take (i * 3) ++ (vs ++ xs) := by
  have hxl : xs.length = (n - i) * 3 := by rw [hx, List.length_drop, List.length_take]; omega
  have l1 : L1.length = L.length := by rw [h1]; simp only [List.length_append, List.length_take, List.length_drop, hxl]; omega
  have l2 : L2.length = L.length := by rw [h2]; simp only [List.length_append, List.length_take, List.length_drop, hv, l1]; omega
  have d : L1.drop (i * 3 + vs.length) = xs ++ L.drop ((i + 1) * 3 + xs.length) := by
    rw [h1, List.append_assoc, List.drop_left' (by rw [List.length_take, hv]; omega)]
  have t : L1.take (i * 3) = (L.take (n * 3)).take (i * 3) := by
    rw [h1, List.append_assoc, List.take_append_of_le_length (by rw [List.length_take]; omega), List.take_take, List.take_take]
    congr 1
    omega
  refine ⟨l1, l2, ?_⟩
  rw [h2, d, t, List.append_assoc, ← List.append_assoc vs, ← List.append_assoc, List.take_left']
  simp only [List.length_append, List.length_take, hv, hxl]
  omega
theorem splice_grow {L X xs vs : List Value} {i n : Nat} (hL : (n + 1) * 3 ≤ L.length) (hi : i ≤ n) (hv : vs.length = 3) (hX : X.length = i * 3) (hx : xs.length = (n - i) * 3) (hLX : L.take (i * 3) = X) {L1 L2 : List Value} (h1 : L1 = L.take (i * 3) ++ vs ++ L.drop (i * 3 + vs.length)) (h2 : L2 = L1.take ((i + 1) * 3) ++ xs ++ L1.drop ((i + 1) * 3 + xs.length)) :
    L1.length = L.length ∧ L2.length = L.length ∧ L2.take ((n + 1) * 3) = X ++ (vs ++ xs) := by
  have l1 : L1.length = L.length := by rw [h1]; simp only [List.length_append, List.length_take, List.length_drop, hv]; omega
  have l2 : L2.length = L.length := by rw [h2]; simp only [List.length_append, List.length_take, List.length_drop, hx, l1]; omega
  have t : L1.take ((i + 1) * 3) = X ++ vs := by
    rw [h1, List.take_left' (by simp only [List.length_append, List.length_take, hv]; omega), hLX]
  refine ⟨l1, l2, ?_⟩
  rw [h2, t, List.take_left' (by simp only [List.length_append, hX, hv, hx]; omega), List.append_assoc]
theorem w64_up (a : Nat) (h : a ≤ 1000000) : wrap64 ((a : Int) + 1) = (a : Int) + 1 := IntWalk.wrap64_in _ (by omega)
theorem i64_up (a : Nat) (h : a ≤ 1000000) : IntKind.i64.wrap ((a : Int) + 1) = (a : Int) + 1 := IntWalk.i64_in _ (by omega)
theorem w64_dn (a b : Nat) (h : a ≤ 1000000) (hb : b ≤ a) : wrap64 ((a : Int) + 1 - (b : Int)) = (a : Int) + 1 - (b : Int) := IntWalk.wrap64_in _ (by omega)
theorem i64_dn (a b : Nat) (h : a ≤ 1000000) (hb : b ≤ a) : IntKind.i64.wrap ((a : Int) + 1 - (b : Int)) = (a : Int) + 1 - (b : Int) := IntWalk.i64_in _ (by omega)
set_option maxRecDepth 100000 in
set_option maxHeartbeats 4000000 in
theorem insert_shift {W : World} {g c n i vb : Nat} {cur : Array Value} {vs : List Value} (hc : W.heap[g]? = some (.cells cur 48 (0, 0))) (hcs : cur.size = c * 3) (hcm : c ≤ maxLen) (hroom : n + 1 ≤ c) (hi : i < n) (hn : n ≤ 1000)
    (hv : W.heap[vb]? = some (.cells vs.toArray 48 (0, 0))) (hvl : vs.length = 3) (hvg : vb ≠ g) (h1 : ∀ v ∈ vs, v.oneCell' = true) (h2 : ∀ v ∈ cur.toList.take (n * 3), v.oneCell' = true) :
    Calls Try.prog 68 #[.slice (some ⟨g, 0, none⟩) n c, .int .i64 i, .slice (some ⟨vb, 0, none⟩) 1 1] W fun e W' => e = .returned (.slice (some ⟨g, 0, none⟩) (n + 1) c) ∧
      ∃ cur2 : Array Value, W'.heap[g]? = some (.cells cur2 48 (0, 0)) ∧ cur2.size = c * 3 ∧ cur2.toList.take ((n + 1) * 3) = (cur.toList.take (n * 3)).take (i * 3) ++ (vs ++ (cur.toList.take (n * 3)).drop (i * 3)) ∧ W.grownBy W' (some g) := by
  have HCM := Lib.hid hcm; clear hcm
  obtain ⟨i0, hi0, hz0, hz1, hz2⟩ := info_parts infoSer
  have hlen : cur.toList.length = c * 3 := by simpa using hcs
  obtain ⟨xs, hxs⟩ : ∃ xs, xs = (cur.toList.take (n * 3)).drop (i * 3) := ⟨_, rfl⟩
  have hxl : xs.length = (n - i) * 3 := by rw [hxs, List.length_drop, List.length_take, hlen]; omega
  have hov : ∀ lb cb, (callFunc 80 #[.slice (some ⟨vb, 0, none⟩) 1 1, .slice (some ⟨g, (i + 1) * 3, none⟩) lb cb]).run Try.prog W = .ok (.value (.bool false)) W := fun lb cb => by
    rw [run_callFunc_extern Try.func80 (by kernel_rfl) (by kernel_rfl) (by kernel_rfl) (e := Extern.SlicesOverlaps.overlaps #[26, 26] #[4]) (by kernel_rfl),
      Lib.run_overlaps_apart W 26 4 48 Try.underlying26 3 (fun w => by simp [sizeOf, typeInfo, hi0, hz1]) ⟨vb, 0, none⟩ ⟨g, (i + 1) * 3, none⟩ 1 1 lb cb hvg 48 48 vs.toArray.size cur.size (by unfold World.shape?; simp [hv]) (by unfold World.shape?; simp [hc]) (by omega) (frozen_of_row _ _ _ _ _ hv) (frozen_of_row _ _ _ _ _ hv)]
    rfl
  have hsz : (Try.prog.info? 48).map (·.size) = some 3 := by rw [hi0]; simp [hz1]
  have hcp1 := run_copy_rowk (P := Try.prog) W.drew 26 26 3 48 3 g ((i + 1) * 3) (n + 1 - (i + 1)) (c - (i + 1)) ⟨g, i * 3, none⟩ (n + 1 - i) (c - i) cur 48 xs Try.underlying26 hsz hc (by rw [hxl, show Nat.min (n + 1 - i) (n + 1 - (i + 1)) = n - i from by simp only [Nat.min_def]; split <;> omega]) (fun j v hj => by
    rw [Addr.add_lit]
    refine cells_at hc ?_
    rw [hxs, List.getElem?_drop, List.getElem?_take] at hj
    split at hj
    · exact hj
    · cases hj) (by rw [hxl, hcs]; omega) (fun v hv => h2 v (by rw [hxs] at hv; exact List.mem_of_mem_drop hv))
  obtain ⟨cur1, hcur1⟩ : ∃ cur1, cur1 = (cur.toList.take ((i + 1) * 3) ++ xs ++ cur.toList.drop ((i + 1) * 3 + xs.length)).toArray := ⟨_, rfl⟩
  obtain ⟨cur2, hcur2⟩ : ∃ cur2, cur2 = (cur1.toList.take (i * 3) ++ vs ++ cur1.toList.drop (i * 3 + vs.length)).toArray := ⟨_, rfl⟩
  rw [← hcur1] at hcp1
  obtain ⟨l1, l2, l3⟩ := splice_shift (L := cur.toList) (L1 := cur1.toList) (L2 := cur2.toList) (by rw [hlen]; omega) (Nat.le_of_lt hi) hvl hxs (by rw [hcur1]) (by rw [hcur2])
  have hz1c : cur1.size = c * 3 := by rw [← Array.length_toList, l1, hlen]
  have hz2c : cur2.size = c * 3 := by rw [← Array.length_toList, l2, hlen]
  obtain ⟨W1, hW1⟩ : ∃ W1, W1 = W.drew.setRow g cur1 := ⟨_, rfl⟩
  rw [← hW1] at hcp1
  have hc1 : W1.heap[g]? = some (.cells cur1 48 (0, 0)) := by rw [hW1]; exact setRow_heap W.drew g cur _ _ _ hc
  have hv1 : W1.heap[vb]? = some (.cells vs.toArray 48 (0, 0)) := by rw [hW1]; exact (setRow_other W.drew g vb cur1 hvg).trans hv
  have hcp2 := run_copy_rowk (P := Try.prog) W1 26 26 3 48 3 g (i * 3) (n + 1 - i) (c - i) ⟨vb, 0, none⟩ 1 1 cur1 48 vs Try.underlying26 hsz hc1 (by rw [hvl, show Nat.min 1 (n + 1 - i) = 1 from by simp only [Nat.min_def]; split <;> omega]) (fun j v hj => by
    rw [Addr.add_lit, Nat.zero_add]
    exact cells_at hv1 (by simpa using hj)) (by rw [hvl, hz1c]; omega) h1
  rw [← hcur2] at hcp2
  have HG2 : Hid (W.grownBy (W1.setRow g cur2) (some g)) := Lib.hid (by rw [hW1]; exact grown_trans (grown_trans (grown_drew (grown_refl W (some g))) (grown_setRow W.drew g cur1)) (grown_setRow _ _ _))
  have HC2 : Hid ((W1.setRow g cur2).heap[g]? = some (.cells cur2 48 (0, 0))) := Lib.hid (setRow_heap W1 g cur1 _ _ _ hc1)
  have HZ2 : Hid (cur2.size = c * 3) := Lib.hid hz2c
  have HT2 : Hid (cur2.toList.take ((n + 1) * 3) = (cur.toList.take (n * 3)).take (i * 3) ++ (vs ++ (cur.toList.take (n * 3)).drop (i * 3))) := Lib.hid (by rw [l3, hxs])
  have HCP2 := Lib.hid hcp2
  clear hcp2 l1 l2 l3 hcur1 hcur2 hc1 hv1 hz1c hz2c
  have hz3 : ¬ ((i : Int) = (n : Int)) := by omega
  have hz4 : ((i : Int) == (n : Int)) = false := by simpa using hz3
  have i2 : (0 : Int) ≤ (i : Int) + 1 := by omega
  have i7 : i ≤ n := by omega
  have i8 : ¬ c = i := by omega
  have i9 : ¬ c = i + 1 := by omega
  have i10 : ¬ (c : Int) < (n : Int) + 1 := by omega
  have i11 : (n : Int) + 1 ≤ (c : Int) := by omega
  have i12 : (i : Int) ≤ (n : Int) + 1 := by omega
  have i13 : (i : Int) ≤ (n : Int) := by omega
  have i4 : wrap64 ((n : Int) + 1) = (n : Int) + 1 := w64_up n (Nat.le_trans hn (by decide))
  have i5 : IntKind.i64.wrap ((n : Int) + 1) = (n : Int) + 1 := i64_up n (Nat.le_trans hn (by decide))
  have i1 : IntKind.i64.wrap ((i : Int) + 1) = (i : Int) + 1 := i64_up i (Nat.le_trans (Nat.le_of_lt hi) (Nat.le_trans hn (by decide)))
  have i3 : ((i : Int) + 1).toNat = i + 1 := rfl
  have i6 : ((n : Int) + 1).toNat = n + 1 := rfl
  have HCP1 := Lib.hid hcp1; have HC := Lib.hid hc; have HV := Lib.hid hv; have H1 := Lib.hid h1; have H2 := Lib.hid h2; have HXS := Lib.hid hxs; have HXL := Lib.hid hxl; have HSZ := Lib.hid hsz; have HLEN := Lib.hid hlen; have HCS := Lib.hid hcs
  clear hcp1 hc hv h1 h2 hxs hxl hsz hlen hcs hi0 hz0 hz1 hz2
  clear i0
  go_enter Try.func68, Try.ntmps68
  go_wp2_with (simp only [hov])
  refine plain_T (fun U => U = U) [8] (by kernel_rfl) ?_
  have HD : Hid (W.drew = W.drew) := Lib.hid rfl
  refine wpAnyT_pick (S := (fun U => U = U)) (by kernel_rfl) Only.panic Only.keepsIn (w := W.drew) HD.out [0, 1, 2, 3, 4, 5, 6, 7] 1 _ _ (by kernel_rfl) ?_
  refine PickT.value (d := some 69) (.slice (some ⟨g, 0, none⟩) (n + 1) c) rfl rfl (by kernel_rfl) (fun U hU => (by go_simp)) ?_
  refine PickT.value (d := some 70) (.int .i64 (i : Int)) rfl rfl (by kernel_rfl) (fun U hU => (by go_simp)) ?_
  refine PickT.value (d := some 71) (.int .i64 1) rfl rfl (by kernel_rfl) (fun U hU => (by go_simp)) ?_
  refine PickT.value (d := some 72) (.int .i64 ((i : Int) + 1)) rfl rfl (by kernel_rfl) (fun U hU => (by go_simp)) ?_
  refine PickT.value (d := some 73) (.slice (some ⟨g, (i + 1) * 3, none⟩) (n + 1 - (i + 1)) (c - (i + 1))) rfl rfl (by kernel_rfl) (fun U hU => (by go_simp)) ?_
  refine PickT.value (d := some 74) (.slice (some ⟨g, 0, none⟩) (n + 1) c) rfl rfl (by kernel_rfl) (fun U hU => (by go_simp)) ?_
  refine PickT.value (d := some 75) (.int .i64 (i : Int)) rfl rfl (by kernel_rfl) (fun U hU => (by go_simp)) ?_
  refine PickT.value (d := some 76) (.slice (some ⟨g, i * 3, none⟩) (n + 1 - i) (c - i)) rfl rfl (by kernel_rfl) (fun U hU => (by go_simp)) ?_
  simp only [PickT, Act.put, List.setIfInBounds_toArray, List.set_cons_zero, List.set_cons_succ]
  refine wpAnyT_one (i := 8) (by kernel_rfl) rfl (by kernel_rfl) ?_
  intro K hK
  refine wp_copy_here rfl rfl rfl HCP1.out ?_
  refine hK _ _ (fun h => absurd h (by decide)) ?_
  clear hK K
  refine wpAnyT_done (by kernel_rfl) ?_ _
  refine Only.next ?_
  subst hW1
  go_wp2_with fail
  rw [HCP2.out]
  go_wp2_with fail
  go_ret
  exact ⟨rfl, cur2, HC2.out, HZ2.out, HT2.out, HG2.out⟩
set_option maxRecDepth 100000 in
set_option maxHeartbeats 4000000 in
theorem insert_grow {W : World} {g n i vb : Nat} {cur : Array Value} {vs : List Value} (hc : W.heap[g]? = some (.cells cur 48 (0, 0))) (hcs : cur.size = n * 3) (hi : i < n) (hn : n ≤ 1000)
    (hv : W.heap[vb]? = some (.cells vs.toArray 48 (0, 0))) (hvl : vs.length = 3) (h1 : ∀ v ∈ vs, v.oneCell' = true) (h2 : ∀ v ∈ cur.toList, v.oneCell' = true) :
    Calls Try.prog 68 #[.slice (some ⟨g, 0, none⟩) n n, .int .i64 i, .slice (some ⟨vb, 0, none⟩) 1 1] W fun e W' => ∃ c, e = .returned (.slice (some ⟨W.heap.size, 0, none⟩) (n + 1) c) ∧ n + 1 ≤ c ∧ c ≤ maxLen ∧
      ∃ cur2 : Array Value, W'.heap[W.heap.size]? = some (.cells cur2 48 (0, 0)) ∧ cur2.size = c * 3 ∧ cur2.toList.take ((n + 1) * 3) = cur.toList.take (i * 3) ++ (vs ++ cur.toList.drop (i * 3)) ∧ Below W.heap.size W W' := by
  obtain ⟨i0, hi0, hz0, hz1, hz2⟩ := info_parts infoSer
  have hlen : cur.toList.length = n * 3 := by simpa using hcs
  have hgl := (Array.getElem?_eq_some_iff.1 hc).1
  have hvl2 := (Array.getElem?_eq_some_iff.1 hv).1
  have hsz : (Try.prog.info? 48).map (·.size) = some 3 := by rw [hi0]; simp [hz1]
  have hold : (Builtin.firstCells i0.size i (.slice (some ⟨g, 0, none⟩) i n)).run Try.prog W.drew = .ok (cur.toList.take (i * 3)).toArray W.drew := by
    rw [hz1]
    exact run_firstCells_some W.drew 3 i ⟨g, 0, none⟩ i n (cur.toList.take (i * 3)) (by rw [List.length_take, hlen]; omega) (fun j v hj => by
      rw [Addr.add_lit, Nat.zero_add]
      rw [List.getElem?_take] at hj
      split at hj
      · exact cells_at hc hj
      · cases hj)
  have hik : i + (n + 1 - i) = n + 1 := by omega
  have hkk : (n : Int) + 1 - (i : Int) = ((n + 1 - i : Nat) : Int) := by omega
  have hrz : ∀ ty, (Builtin.append_ #[26, 3] ty #[.slice (some ⟨g, 0, none⟩) i n, .int .i64 ((n : Int) + 1 - (i : Int))]).run Try.prog W = .ok (.slice (some ⟨W.heap.size, 0, none⟩) (n + 1) (grownCap W (n + 1) n 48)) (W.drew.alloc (.cells ((cur.toList.take (i * 3)).toArray ++ Builtin.zeroCells (Value.agg #[.slice none 0 0, .slice none 0 0, .int .i64 0]).cells (n + 1 - i) ++ Builtin.zeroCells (Value.agg #[.slice none 0 0, .slice none 0 0, .int .i64 0]).cells (grownCap W (n + 1) n 48 - (n + 1))) 48)) := fun ty => by
    have h := Lib.run_append_grow_zeros (P := Try.prog) W 26 3 ty 48 i0 _ .i64 .i64 Try.underlying26 Try.underlying3 hi0 hz0 (some ⟨g, 0, none⟩) i n (cur.toList.take (i * 3)) hold (n + 1 - i) (by omega) (by omega) (by omega) (by omega) (by rw [hz2]; omega) (by rw [hz2, hik]; exact growslice_fits (by omega) (by omega))
    rw [hik] at h
    rw [hkk]
    exact h
  obtain ⟨c, hcc⟩ : ∃ c, c = grownCap W (n + 1) n 48 := ⟨_, rfl⟩
  have hcn : n + 1 ≤ c := by rw [hcc]; exact grownCap_ge _ _ _ _
  have hcm : c ≤ maxLen := by rw [hcc]; exact grownCap_le_maxLen _ _ _ _ (by unfold maxLen; omega)
  obtain ⟨cur0, hcur0⟩ : ∃ cur0 : Array Value, cur0 = (cur.toList.take (i * 3)).toArray ++ Builtin.zeroCells (Value.agg #[.slice none 0 0, .slice none 0 0, .int .i64 0]).cells (n + 1 - i) ++ Builtin.zeroCells (Value.agg #[.slice none 0 0, .slice none 0 0, .int .i64 0]).cells (c - (n + 1)) := ⟨_, rfl⟩
  rw [← hcc, ← hcur0] at hrz
  have hzz : (Value.agg #[.slice none 0 0, .slice none 0 0, .int .i64 0]).cells.size = 3 := rfl
  have hl0 : cur0.size = c * 3 := by
    rw [hcur0]
    simp only [Array.size_append, size_zeroCells, hzz, List.size_toArray, List.length_take, hlen]
    omega
  have ht0 : cur0.toList.take (i * 3) = cur.toList.take (i * 3) := by
    rw [hcur0]
    simp only [Array.toList_append, List.append_assoc]
    exact List.take_left' (by rw [List.length_take, hlen]; omega)
  have hlen0 : cur0.toList.length = c * 3 := by simpa using hl0
  obtain ⟨cur1, hcur1⟩ : ∃ cur1, cur1 = (cur0.toList.take (i * 3) ++ vs ++ cur0.toList.drop (i * 3 + vs.length)).toArray := ⟨_, rfl⟩
  obtain ⟨xs, hxs⟩ : ∃ xs, xs = cur.toList.drop (i * 3) := ⟨_, rfl⟩
  have hxl : xs.length = (n - i) * 3 := by rw [hxs, List.length_drop, hlen]; omega
  obtain ⟨cur2, hcur2⟩ : ∃ cur2, cur2 = (cur1.toList.take ((i + 1) * 3) ++ xs ++ cur1.toList.drop ((i + 1) * 3 + xs.length)).toArray := ⟨_, rfl⟩
  obtain ⟨l1, l2, l3⟩ := splice_grow (L := cur0.toList) (X := cur.toList.take (i * 3)) (L1 := cur1.toList) (L2 := cur2.toList) (n := n) (by rw [hlen0]; omega) (Nat.le_of_lt hi) hvl (by rw [List.length_take, hlen]; omega) hxl ht0 (by rw [hcur1]) (by rw [hcur2])
  have hz1c : cur1.size = c * 3 := by rw [← Array.length_toList, l1, hlen0]
  have hz2c : cur2.size = c * 3 := by rw [← Array.length_toList, l2, hlen0]
  obtain ⟨W0, hW0⟩ : ∃ W0, W0 = W.drew.alloc (.cells cur0 48) := ⟨_, rfl⟩
  rw [← hW0] at hrz
  have hb0 : Below W.heap.size W W0 := by rw [hW0]; exact ((Below.refl _ _).drew).alloc (Nat.le_refl _) _
  have hc0 : W0.heap[W.heap.size]? = some (.cells cur0 48 (0, 0)) := by rw [hW0]; exact heap_alloc_new W.drew _
  have hv0 := heap_keep hv hb0
  have hg0 := heap_keep hc hb0
  have hcp1 := run_copy_rowk (P := Try.prog) W0 26 26 3 48 3 W.heap.size (i * 3) (n + 1 - i) (c - i) ⟨vb, 0, none⟩ 1 1 cur0 48 vs Try.underlying26 hsz hc0 (by rw [hvl, show Nat.min 1 (n + 1 - i) = 1 from by simp only [Nat.min_def]; split <;> omega]) (fun j v hj => by
    rw [Addr.add_lit, Nat.zero_add]
    exact cells_at hv0 (by simpa using hj)) (by rw [hvl, hl0]; omega) h1
  rw [← hcur1] at hcp1
  obtain ⟨W1, hW1⟩ : ∃ W1, W1 = (W0.setRow W.heap.size cur1).drew := ⟨_, rfl⟩
  have hc1 : W1.heap[W.heap.size]? = some (.cells cur1 48 (0, 0)) := by rw [hW1]; exact setRow_heap W0 W.heap.size cur0 _ _ _ hc0
  have hg1 : W1.heap[g]? = some (.cells cur 48 (0, 0)) := by rw [hW1]; exact (setRow_other W0 W.heap.size g cur1 (by omega)).trans hg0
  have hcp2 := run_copy_rowk (P := Try.prog) W1 26 26 3 48 3 W.heap.size ((i + 1) * 3) (n + 1 - (i + 1)) (c - (i + 1)) ⟨g, i * 3, none⟩ (n - i) (n - i) cur1 48 xs Try.underlying26 hsz hc1 (by rw [hxl, show Nat.min (n - i) (n + 1 - (i + 1)) = n - i from by simp only [Nat.min_def]; split <;> omega]) (fun j v hj => by
    rw [Addr.add_lit]
    refine cells_at hg1 ?_
    rw [hxs, List.getElem?_drop] at hj
    exact hj) (by rw [hxl, hz1c]; omega) (fun v hv => h2 v (by rw [hxs] at hv; exact List.mem_of_mem_drop hv))
  rw [← hcur2] at hcp2
  have HC2 : Hid ((W1.setRow W.heap.size cur2).heap[W.heap.size]? = some (.cells cur2 48 (0, 0))) := Lib.hid (setRow_heap W1 W.heap.size cur1 _ _ _ hc1)
  have HB2 : Hid (Below W.heap.size W (W1.setRow W.heap.size cur2)) := Lib.hid (below_setRow (by rw [hW1]; exact (below_setRow hb0 (Nat.le_refl _) _).drew) (Nat.le_refl _) _)
  have HZ2 := Lib.hid hz2c
  have HT2 : Hid (cur2.toList.take ((n + 1) * 3) = cur.toList.take (i * 3) ++ (vs ++ cur.toList.drop (i * 3))) := Lib.hid (by rw [l3, hxs])
  have HCM := Lib.hid hcm; have HCN := Lib.hid hcn; have HCP1 := Lib.hid hcp1; have HCP2 := Lib.hid hcp2; have HRZ := Lib.hid hrz
  have hz3 : ¬ ((i : Int) = (n : Int)) := by omega
  have i2 : (0 : Int) ≤ (i : Int) + 1 := by omega
  have i7 : i ≤ n := by omega
  have i8 : ¬ c = i := by omega
  have i9 : ¬ c = i + 1 := by omega
  have i14 : ¬ n = i := by omega
  have i10 : (n : Int) < (n : Int) + 1 := by omega
  have i12 : (i : Int) ≤ (n : Int) + 1 := by omega
  have i13 : (i : Int) ≤ (n : Int) := by omega
  have i15 : i + 1 ≤ n + 1 := by omega
  clear hold hik hkk hcc hcur0 hzz hl0 ht0 hlen0 hcur1 hxs hxl hcur2 l1 l2 l3 hz1c hz2c hW0 hb0 hc0 hv0 hg0 hcp1 hcp2 hrz hcm hc1 hg1 hc hcs hv hvl h1 h2 hlen hsz hgl hvl2 hcn
  clear hi0 hz0 hz1 hz2
  clear i0
  have i4 : wrap64 ((n : Int) + 1) = (n : Int) + 1 := w64_up n (Nat.le_trans hn (by decide))
  have i5 : IntKind.i64.wrap ((n : Int) + 1) = (n : Int) + 1 := i64_up n (Nat.le_trans hn (by decide))
  have i1 : IntKind.i64.wrap ((i : Int) + 1) = (i : Int) + 1 := i64_up i (Nat.le_trans (Nat.le_of_lt hi) (Nat.le_trans hn (by decide)))
  have i16 : wrap64 ((n : Int) + 1 - (i : Int)) = (n : Int) + 1 - (i : Int) := w64_dn n i (Nat.le_trans hn (by decide)) (Nat.le_of_lt hi)
  have i17 : IntKind.i64.wrap ((n : Int) + 1 - (i : Int)) = (n : Int) + 1 - (i : Int) := i64_dn n i (Nat.le_trans hn (by decide)) (Nat.le_of_lt hi)
  have i3 : ((i : Int) + 1).toNat = i + 1 := rfl
  have i6 : ((n : Int) + 1).toNat = n + 1 := rfl
  go_enter Try.func68, Try.ntmps68
  go_wp2_with (at_builtin; go_must (refine Lib.wpList_append_run _ rfl _ _ _ _ rfl _ _ rfl rfl _ _ (HRZ.out _) ?_))
  rw [HCP1.out]
  go_wp2_with fail
  refine plain_T (fun U => U = U) [8] (by kernel_rfl) ?_
  rw [← hW1]
  clear hW1
  have HD : Hid (W1 = W1) := Lib.hid rfl
  refine wpAnyT_pick (S := (fun U => U = U)) (by kernel_rfl) Only.panic Only.keepsIn (w := W1) HD.out [0, 1, 2, 3, 4, 5, 6, 7] 1 _ _ (by kernel_rfl) ?_
  refine PickT.value (d := some 46) (.slice (some ⟨W.heap.size, 0, none⟩) (n + 1) c) rfl rfl (by kernel_rfl) (fun U hU => (by go_simp)) ?_
  refine PickT.value (d := some 47) (.int .i64 (i : Int)) rfl rfl (by kernel_rfl) (fun U hU => (by go_simp)) ?_
  refine PickT.value (d := some 48) (.int .i64 1) rfl rfl (by kernel_rfl) (fun U hU => (by go_simp)) ?_
  refine PickT.value (d := some 49) (.int .i64 ((i : Int) + 1)) rfl rfl (by kernel_rfl) (fun U hU => (by go_simp)) ?_
  refine PickT.value (d := some 50) (.slice (some ⟨W.heap.size, (i + 1) * 3, none⟩) (n + 1 - (i + 1)) (c - (i + 1))) rfl rfl (by kernel_rfl) (fun U hU => (by go_simp)) ?_
  refine PickT.value (d := some 51) (.slice (some ⟨g, 0, none⟩) n n) rfl rfl (by kernel_rfl) (fun U hU => (by go_simp)) ?_
  refine PickT.value (d := some 52) (.int .i64 (i : Int)) rfl rfl (by kernel_rfl) (fun U hU => (by go_simp)) ?_
  refine PickT.value (d := some 53) (.slice (some ⟨g, i * 3, none⟩) (n - i) (n - i)) rfl rfl (by kernel_rfl) (fun U hU => (by go_simp)) ?_
  simp only [PickT, Act.put, List.setIfInBounds_toArray, List.set_cons_zero, List.set_cons_succ]
  refine wpAnyT_one (i := 8) (by kernel_rfl) rfl (by kernel_rfl) ?_
  intro K hK
  refine wp_copy_here rfl rfl rfl HCP2.out ?_
  refine hK _ _ (fun h => absurd h (by decide)) ?_
  clear hK K
  refine wpAnyT_done (by kernel_rfl) ?_ _
  refine Only.next ?_
  go_wp2_with fail
  go_ret
  exact ⟨c, rfl, HCN.out, HCM.out, cur2, HC2.out, HZ2.out, HT2.out, HB2.out⟩
theorem row_there (k : Nat) (x : Nat → Nat → Value) (W : World) (vb : Nat) (cs : Array Value) (T : TypeId) (fr : Nat × Nat) (h : W.heap[vb]? = some (.cells cs T fr)) (hc : ∀ j, j < k → cs[j]? = some (x 0 j)) : Row k x W (some ⟨vb, 0, none⟩) 1 := fun _ => ⟨⟨vb, 0, none⟩, rfl, (Array.getElem?_eq_some_iff.1 h).1, fun i hi j hj => by
  obtain rfl : i = 0 := by omega
  rw [Addr.add_lit, Nat.zero_mul, Nat.zero_add, Nat.zero_add]
  exact (cell_of_row _ _ _ _ _ _ h).trans (by simpa using hc j hj)⟩
set_option maxRecDepth 100000 in
set_option maxHeartbeats 4000000 in
theorem insert_end {W : World} {base n vb : Nat} {v : Value} {q : Nat → SerAt} {x : SerAt} (ho : W.ownsRow base 48 3 v n (rcells 3 (rx q) n)) (hn : n ≤ 1000) (hbase : base ≤ W.heap.size)
    (hv : W.heap[vb]? = some (.cells #[.slice x.la x.ln x.lc, .slice x.sa x.sn x.sc, .int .i64 x.last] 48 (0, 0))) :
    Calls Try.prog 68 #[v, .int .i64 n, .slice (some ⟨vb, 0, none⟩) 1 1] W fun e W' => ∃ v', e = .returned v' ∧ W'.ownsRow base 48 3 v' (n + 1) (rcells 3 (rx q) n ++ rcells 3 (rx fun _ => x) 1) ∧ W.grownBy W' v.ownBlock := by
  have HR : Hid (Row 3 (rx fun _ => x) W (some ⟨vb, 0, none⟩) 1) := Lib.hid (row_there 3 _ W vb _ _ _ hv (fun j hj => by rcases (show j = 0 ∨ j = 1 ∨ j = 2 by omega) with rfl | rfl | rfl <;> rfl))
  have HO := Lib.hid ho
  obtain ⟨A, c, rfl, hnc, -, hnone, -⟩ := own_row ho
  have hb1 : (n : Int) == (n : Int) := by simp
  clear ho hv
  cases A with
  | none =>
    obtain ⟨rfl, rfl⟩ := hnone rfl
    clear hnone
    go_enter Try.func68, Try.ntmps68
    go_wp2_with (at_builtin; go_must (refine wpList_append_row _ rfl _ _ 26 48 rfl 3 56 (.agg #[.slice none 0 0, .slice none 0 0, .int .i64 0]) Try.underlying26 infoSer rfl (by decide) (by decide) base _ 0 (rcells 3 (rx q) 0) rfl HO.out (some ⟨vb, 0, none⟩) 1 1 (rx fun _ => x) (rx_one _) rfl HR.out (fun e => by cases e) (by omega) hbase ?_); intro v' w' hown' hg' _; have HOW := Lib.hid hown'; have HGW := Lib.hid hg'; clear hown' hg')
    go_ret
    exact ⟨_, rfl, HOW.out, HGW.out⟩
  | some ad =>
    obtain ⟨g, rfl⟩ : ∃ g, ad = ⟨g, 0, none⟩ := by
      rcases HO.out.2 with ⟨e, -⟩ | ⟨g, cap, cur, e, -⟩
      · cases e
      · cases e; exact ⟨g, rfl⟩
    clear hnone
    by_cases hcn : c = n
    · subst hcn
      go_enter Try.func68, Try.ntmps68
      go_wp2_with (at_builtin; go_must (refine wpList_append_row _ rfl _ _ 26 48 rfl 3 56 (.agg #[.slice none 0 0, .slice none 0 0, .int .i64 0]) Try.underlying26 infoSer rfl (by decide) (by decide) base _ c (rcells 3 (rx q) c) rfl HO.out (some ⟨vb, 0, none⟩) 1 1 (rx fun _ => x) (rx_one _) rfl HR.out (fun e => by cases e) (by omega) hbase ?_); intro v' w' hown' hg' _; have HOW := Lib.hid hown'; have HGW := Lib.hid hg'; clear hown' hg')
      go_ret
      exact ⟨_, rfl, HOW.out, HGW.out⟩
    · go_enter Try.func68, Try.ntmps68
      go_wp2_with (at_builtin; go_must (refine wpList_append_row _ rfl _ _ 26 48 rfl 3 56 (.agg #[.slice none 0 0, .slice none 0 0, .int .i64 0]) Try.underlying26 infoSer rfl (by decide) (by decide) base _ n (rcells 3 (rx q) n) rfl HO.out (some ⟨vb, 0, none⟩) 1 1 (rx fun _ => x) (rx_one _) rfl HR.out (fun e => by cases e) (by omega) hbase ?_); intro v' w' hown' hg' _; have HOW := Lib.hid hown'; have HGW := Lib.hid hg'; clear hown' hg')
      go_ret
      exact ⟨_, rfl, HOW.out, HGW.out⟩
theorem one_cells (x : SerAt) : (#[Value.slice x.la x.ln x.lc, .slice x.sa x.sn x.sc, .int .i64 x.last] : Array Value) = (rcells 3 (rx fun _ => x) 1).toArray := rfl
/-- slices.Insert of one series into a row of the call's own -/
theorem insert_any {W : World} {base n i vb : Nat} {v : Value} {q : Nat → SerAt} {x : SerAt} (ho : W.ownsRow base 48 3 v n (rcells 3 (rx q) n)) (hn : n ≤ 1000) (hi : i ≤ n) (hbase : base ≤ W.heap.size)
    (hv : W.heap[vb]? = some (.cells #[.slice x.la x.ln x.lc, .slice x.sa x.sn x.sc, .int .i64 x.last] 48 (0, 0))) (hvo : v.ownBlock ≠ some vb) :
    Calls Try.prog 68 #[v, .int .i64 i, .slice (some ⟨vb, 0, none⟩) 1 1] W fun e W' => ∃ v', e = .returned v' ∧ W'.ownsRow base 48 3 v' (n + 1) (rcells 3 (rx (insq q i x)) (n + 1)) ∧ W.grownBy W' v.ownBlock := by
  by_cases hin : i = n
  · subst hin
    refine (insert_end ho hn hbase hv).mono ?_
    rintro e W' ⟨v', rfl, h1, h2⟩
    refine ⟨v', rfl, ?_, h2⟩
    have h3 := rcells_ins q (Nat.le_refl i) x
    rw [List.take_of_length_le (by rw [rcells_length]; exact Nat.le_refl _), List.drop_of_length_le (by rw [rcells_length]; exact Nat.le_refl _), List.append_nil] at h3
    rw [← h3]
    exact h1
  · have hlt : i < n := by omega
    rcases ho.2 with ⟨rfl, h0⟩ | ⟨g, cap, cur, rfl, hb, hg, hc, hm, hs, ht⟩
    · omega
    · have hvg : vb ≠ g := fun e => hvo (by rw [e]; rfl)
      have h1 : ∀ v ∈ rcells 3 (rx fun _ => x) 1, v.oneCell' = true := rcells_one (rx_one _) 1
      have h2 : ∀ v ∈ rcells 3 (rx q) n, v.oneCell' = true := rcells_one (rx_one _) n
      rw [one_cells] at hv
      by_cases hroom : n + 1 ≤ cap
      · refine (insert_shift hg hs hm hroom hlt hn hv (rcells_length 3 _ 1) hvg h1 (by rw [ht]; exact h2)).mono ?_
        rintro e W' ⟨rfl, cur2, hc2, hs2, ht2, hgr⟩
        refine ⟨_, rfl, ⟨by rw [rcells_length], Or.inr ⟨g, cap, cur2, rfl, hb, hc2, hroom, hm, hs2, ?_⟩⟩, hgr⟩
        rw [ht2, ht, rcells_ins q hi x]
      · obtain rfl : cap = n := by omega
        have hfull : cur.toList = rcells 3 (rx q) cap := by rw [← ht, List.take_of_length_le (by simp [hs])]
        refine (insert_grow hg hs hlt hn hv (rcells_length 3 _ 1) h1 (by rw [hfull]; exact h2)).mono ?_
        rintro e W' ⟨c, rfl, hcn, hcm, cur2, hc2, hs2, ht2, hbe⟩
        refine ⟨_, rfl, ⟨by rw [rcells_length], Or.inr ⟨_, c, cur2, rfl, hbase, hc2, hcn, hcm, hs2, ?_⟩⟩, grown_of_below hbe⟩
        rw [ht2, hfull, rcells_ins q hi x]
end Go.Proofs.Ytidfanmfibbiiaa
/-
  What insert comes to.
-/
namespace Go.Proofs.Ytidfanmfibbiiaa
open Go.RowKit
/-- a block that is held -/
structure One (w : World) (b : Nat) (wc : Array Value) (T1 : TypeId) (U : World) : Prop where
  bel : Below w.heap.size w U
  wk : U.heap[b]? = some (.cells wc T1 (0, 0))
theorem One.far {w : World} {b : Nat} {wc : Array Value} {T1 : TypeId} {U V : World} (h : One w b wc T1 U) (hb : Below U.heap.size U V) : One w b wc T1 V := ⟨below_step h.bel hb, heap_keep h.wk hb⟩
theorem One.grown {w : World} {b : Nat} {wc : Array Value} {T1 : TypeId} {U V : World} {row : Option Nat} (h : One w b wc T1 U) (hg : U.grownBy V row) (h1 : row ≠ some b) (h3 : ∀ r, row = some r → w.heap.size ≤ r) : One w b wc T1 V :=
  ⟨h.bel.grown hg h.bel.size h3, (hg.block b (Array.getElem?_eq_some_iff.1 h.wk).1 (fun e => h1 e.symm)).trans h.wk⟩
theorem WorkRows.ins {W : World} {base : Nat} {v : Value} {n i : Nat} {q : Nat → SerAt} {x : SerAt} (ho : W.ownsRow base 48 3 v (n + 1) (rcells 3 (rx (insq q i x)) (n + 1))) (hn : n + 1 ≤ 1000) (hi : i ≤ n) (he : ∀ j, j < n → OwnSer W base (q j)) (hx : OwnSer W base x) (hxs : x.sa = none)
    (ha : ∀ i j, i < n → j < n → i ≠ j → ∀ r, (Value.slice (q j).sa (q j).sn (q j).sc).ownBlock = some r → (Value.slice (q i).sa (q i).sn (q i).sc).ownBlock ≠ some r) : WorkRows W base v (n + 1) (insq q i x) := by
  have e1 : ∀ j, j < i → insq q i x j = q j := fun j h => by unfold insq; rw [if_pos h]
  have e2 : insq q i x i = x := by unfold insq; rw [if_neg (by omega), if_pos rfl]
  have e3 : ∀ j, i < j → insq q i x j = q (j - 1) := fun j h => by unfold insq; rw [if_neg (by omega), if_neg (by omega)]
  have hno : (Value.slice x.sa x.sn x.sc).ownBlock = none := by rw [hxs]; rfl
  refine ⟨ho, hn, fun j hj => ?_, fun a b ha1 hb1 hab r hr => ?_⟩
  · rcases Nat.lt_trichotomy j i with h | h | h
    · rw [e1 j h]; exact he j (by omega)
    · rw [h, e2]; exact hx
    · rw [e3 j h]; exact he (j - 1) (by omega)
  · rcases Nat.lt_trichotomy b i with h | h | h
    · rw [e1 b h] at hr
      rcases Nat.lt_trichotomy a i with h2 | h2 | h2
      · rw [e1 a h2]; exact ha a b (by omega) (by omega) hab r hr
      · rw [h2, e2, hno]; exact fun e => by cases e
      · rw [e3 a h2]; exact ha (a - 1) b (by omega) (by omega) (by omega) r hr
    · rw [h, e2, hno] at hr; cases hr
    · rw [e3 b h] at hr
      rcases Nat.lt_trichotomy a i with h2 | h2 | h2
      · rw [e1 a h2]; exact ha a (b - 1) (by omega) (by omega) (by omega) r hr
      · rw [h2, e2, hno]; exact fun e => by cases e
      · rw [e3 a h2]; exact ha (a - 1) (b - 1) (by omega) (by omega) (by omega) r hr
/-- the new series -/
def newS (A : Option Addr) (m c : Nat) (f : Nat → Lab) : SerAt := ⟨A, m, c, f, none, 0, 0, fun _ => ⟨0, 0⟩, 0⟩
/-- how many are ahead -/
def aheads (q : Nat → SerAt) (n : Nat) (f : Nat → Lab) (m : Nat) : Nat := ((List.range n).takeWhile fun j => La.less (La.keyB (q j).f (q j).ln) (La.keyB f m)).length
theorem takeWhile_range (p : Nat → Bool) : ∀ (n k : Nat), k ≤ n → (∀ j, j < k → p j = true) → (k < n → p k = false) → ((List.range n).takeWhile p).length = k := by
  intro n k hk h1 h2
  have e : n = k + (n - k) := by omega
  rw [e, List.range_add, List.takeWhile_append_of_pos (fun a ha => h1 a (List.mem_range.1 ha)), List.length_append, List.length_range]
  have : ((List.range (n - k)).map (k + ·)).takeWhile p = [] := by
    rcases Nat.eq_zero_or_pos (n - k) with h | h
    · rw [h]; rfl
    · obtain ⟨d, hd⟩ : ∃ d, n - k = d + 1 := ⟨n - k - 1, by omega⟩
      rw [hd, List.range_succ_eq_map, List.map_cons, List.takeWhile_cons, if_neg]
      rw [Nat.add_zero, h2 (by omega)]
      simp
  rw [this]; rfl
set_option maxRecDepth 100000 in
set_option maxHeartbeats 4000000 in
theorem insertM_any {w W : World} {b mb n : Nat} {v : Value} {fl gen err cnt : Int} {op : List Value} {ans recs : Value} {q : Nat → SerAt} (hw : Work w W b v fl mb op gen err cnt ans recs n q) (hn2 : n ≤ 900)
    {A : Option Addr} {m c : Nat} (hnone : A = none → m = 0 ∧ c = 0) (hm : m ≤ 1000) {f : Nat → Lab} (hf : ∀ i, i < m → (f i).1.size ≤ 300 ∧ (f i).2.size ≤ 300) (hF : LabRow w A m f) :
    Calls Try.prog 53 #[.pointer (some ⟨b, 0, none⟩), .slice A m c] W fun e W' => ∃ (v' : Value) (mb' : Nat) (A' : Option Addr) (c' : Nat), e = .returned (.int .i64 ((aheads q n f m : Nat) : Int)) ∧
      Work w W' b v' fl mb' op gen err cnt ans recs (n + 1) (insq q (aheads q n f m) (newS A' m c' f)) ∧ Keeps [70, 48] W W' := by
  obtain ⟨A0, c0, rfl, hsr⟩ := hw.rows.sers
  have hn := hw.rows.few
  have HW := Lib.hid hw; have HSR := Lib.hid hsr
  have HF := Lib.hid hF; have HN := Lib.hid hnone
  clear hw hsr hF
  go_enter Try.func53, Try.ntmps53
  go_wp2_with fail
  go_loopw [5] (fun i wr => ∃ k : Nat, k ≤ n ∧ i = .int .i64 k ∧ (∀ j, j < k → La.less (La.keyB (q j).f (q j).ln) (La.keyB f m) = true) ∧ Below W.heap.size W wr) (fun i _ => n - (intOf i).toNat)
  case atStart => exact ⟨0, by omega, rfl, fun j hj => by omega, Below.refl _ _⟩
  case round =>
    obtain ⟨k, hk, rfl, hall, hb⟩ := hrel
    have HL := Lib.hid hall; have HB := Lib.hid hb; clear hall hb
    have z0 : wr.cell? ⟨b, 0, none⟩ = some (.slice A0 n c0) := cell_of_row _ _ _ _ _ _ (heap_keep HW.out.wk HB.out)
    have i0 : (0 : Int) ≤ (k : Int) := by omega
    by_cases hlt : k < n
    · have i1 : (k : Int) < (n : Int) := by omega
      have d1 : decide ((k : Int) < (n : Int)) = true := decide_eq_true i1
      obtain ⟨ad, rfl, cc0, -⟩ := HSR.out.row.at_ HB.out hlt
      have x0 := cc0 (by decide)
      have v0 : rx q k 0 = .slice (q k).la (q k).ln (q k).lc := rfl
      rw [v0] at x0
      have hE := (HSR.out.each k hlt).later HB.out
      have HLE := Lib.hid (Less_any (q k).la A (q k).ln m (q k).lc c hE.lfew hm (q k).f f hE.lsize hf wr hE.labs (HF.out.later (below_step HW.out.bel HB.out)))
      have HNX : Hid (La.less (La.keyB (q k).f (q k).ln) (La.keyB f m) = true → ∀ j, j < k + 1 → La.less (La.keyB (q j).f (q j).ln) (La.keyB f m) = true) := Lib.hid (fun h j hj => by
        by_cases e : j = k
        · rw [e]; exact h
        · exact HL.out j (by omega))
      have HLS : Hid (La.less (La.keyB (q k).f (q k).ln) (La.keyB f m) = false → (k < n → La.less (La.keyB (q k).f (q k).ln) (La.keyB f m) = false)) := Lib.hid (fun h _ => h)
      clear cc0 v0 hE
      generalize hrr : La.less (La.keyB (q k).f (q k).ln) (La.keyB f m) = r at HLE HNX HLS
      have HRR := Lib.hid hrr; clear hrr
      go_wp2_with fail
      refine HLE.out.mono ?_; rintro e w2 ⟨rfl, hb2⟩
      have HB2 := Lib.hid (below_step HB.out hb2); clear hb2
      cases r
      · have HLST : Hid (k < n → La.less (La.keyB (q k).f (q k).ln) (La.keyB f m) = false) := Lib.hid (fun _ => HRR.out)
        clear HNX HLS HB z0 x0
        go_wp2_with fail
        clear d1 i1 i0
        have HAH : Hid (aheads q n f m = k) := Lib.hid (takeWhile_range _ n k hk HL.out HLST.out)
        have HWR := Lib.hid (HW.out.far HB2.out)
        refine plain_T (One w b (workCells (.slice (some ad) n c0) fl (.map (some mb)) op gen err cnt ans recs) 70) [15] (by kernel_rfl) ?_
        have HD : Hid (One w b (workCells (.slice (some ad) n c0) fl (.map (some mb)) op gen err cnt ans recs) 70 w2.drew) := Lib.hid ⟨HWR.out.bel.drew, HWR.out.wk⟩
        have HWD := Lib.hid (HWR.out.far (Below.refl _ _).drew)
        have HBD := Lib.hid (HB2.out.drew)
        generalize w2.drew = wd at HD HWD HBD ⊢
        clear HWR HB2 HLST HL
        refine wpAnyT_pick (S := (One w b (workCells (.slice (some ad) n c0) fl (.map (some mb)) op gen err cnt ans recs) 70)) (by kernel_rfl) Only.panic Only.keepsIn (w := wd) HD.out [0, 1, 2, 3, 4, 5, 6, 7] 8 _ _ (by kernel_rfl) ?_
        refine PickT.value (d := some 29) (.pointer (some ⟨b, 0, none⟩)) rfl rfl (by kernel_rfl) (fun U hU => (by go_simp)) ?_
        refine PickT.value (d := some 30) (.pointer (some ⟨b, 0, none⟩)) rfl rfl (by kernel_rfl) (fun U hU => (by go_simp)) ?_
        refine PickT.value (d := some 31) (.pointer (some ⟨b, 0, none⟩)) rfl rfl (by kernel_rfl) (fun U hU => (by go_simp)) ?_
        refine PickT.value (d := some 32) (.pointer (some ⟨b, 0, none⟩)) rfl rfl (by kernel_rfl) (fun U hU => (by go_simp)) ?_
        refine PickT.value (d := some 33) (.pointer (some ⟨b, 0, none⟩)) rfl rfl (by kernel_rfl) (fun U hU => (by go_simp)) ?_
        refine PickT.value (d := some 34) (.slice (some ad) n c0) rfl rfl (by kernel_rfl) (fun U hU => (by have h0 : U.cell? ⟨b, 0, none⟩ = some (.slice (some ad) n c0) := cell_of_row _ _ _ _ _ _ hU.wk; go_simp)) ?_
        refine PickT.value (d := some 35) (.int .i64 (k : Int)) rfl rfl (by kernel_rfl) (fun U hU => (by go_simp)) ?_
        refine PickT.value (d := some 36) (.slice A m c) rfl rfl (by kernel_rfl) (fun U hU => (by go_simp)) ?_
        simp only [PickT, Act.put, List.setIfInBounds_toArray, List.set_cons_zero, List.set_cons_succ]
        refine wpAnyT_one (i := 8) (by kernel_rfl) rfl (by kernel_rfl) ?_
        intro K hK
        unfold Oper.wp
        go_simp
        refine (cloneL_any A m c hm hnone (lx f) (lx_one f) wd (LabRow.row (HF.out.later HWD.out.bel))).mono ?_
        rintro e w8 ⟨v8, rfl, hown8, hb8⟩
        obtain ⟨A8, c8, rfl, -, -, -, -⟩ := own_row hown8
        have HO8 := Lib.hid hown8; have HB8 := Lib.hid hb8
        have HD8 := Lib.hid (HD.out.far hb8)
        clear hown8 hb8
        refine hK _ _ (fun _ => HD8.out) ?_
        clear hK K
        refine wpAnyT_pick (S := (One w b (workCells (.slice (some ad) n c0) fl (.map (some mb)) op gen err cnt ans recs) 70)) (by kernel_rfl) Only.panic Only.keepsIn (w := w8) HD8.out [9] 6 _ _ (by kernel_rfl) ?_
        refine PickT.value (d := some 38) (.agg #[.slice A8 m c8, .slice none 0 0, .int .i64 0]) rfl rfl (by kernel_rfl) (fun U hU => (by go_simp)) ?_
        simp only [PickT, Act.put, List.setIfInBounds_toArray, List.set_cons_zero, List.set_cons_succ]
        refine wpAnyT_one (i := 10) (by kernel_rfl) rfl (by kernel_rfl) ?_
        intro K hK
        unfold Oper.wp
        go_simp
        have HAL := Lib.hid ((Below.refl w8.heap.size w8).alloc (Nat.le_refl _) (.cells #[.slice A8 m c8, .slice none 0 0, .int .i64 0] 48))
        have HD10 := Lib.hid (HD8.out.far HAL.out)
        refine hK _ _ (fun _ => HD10.out) ?_
        clear hK K
        refine wpAnyT_one (i := 11) (by kernel_rfl) rfl (by kernel_rfl) ?_
        intro K hK
        unfold Oper.wp
        go_simp
        have HB10 := Lib.hid (below_step HB8.out HAL.out)
        have HR10 := Lib.hid (HWD.out.rows.far HB10.out)
        have HVB : Hid ((Value.slice (some ad) n c0).ownBlock ≠ some w8.heap.size) := Lib.hid (fun e => by
          have h1 := (HWD.out.rows.own.lt _ e).2
          have h2 := HB8.out.size
          omega)
        have HIN := Lib.hid (insert_any (x := newS A8 m c8 f) HR10.out.own hn (i := k) hk HD10.out.bel.size (heap_alloc_new w8 _) HVB.out)
        refine HIN.out.mono ?_
        rintro e w11 ⟨v11, rfl, hown11, hg11⟩
        have HKP : Hid (Keeps [48] wd w11) := Lib.hid ((Keeps.below HB10.out).trans (Keeps.own HR10.out.own (by simp) hg11))
        have HD11 := Lib.hid (HD10.out.grown hg11 (block_other HR10.out.own HD10.out.wk (by decide)) (fun r e => (HR10.out.own.lt r e).1))
        have HO11 := Lib.hid hown11
        have HL11 := Lib.hid (row_keeps (row_far HO8.out HAL.out) (Keeps.own HR10.out.own (Ts := [48]) (by simp) hg11) (by decide))
        obtain ⟨g11, cap11, rfl⟩ := ownsRow_succ hown11
        clear hown11 hg11
        refine hK _ _ (fun _ => HD11.out) ?_
        clear hK K
        refine wpAnyT_pick (S := (One w b (workCells (.slice (some ad) n c0) fl (.map (some mb)) op gen err cnt ans recs) 70)) (by kernel_rfl) Only.panic Only.keepsIn (w := w11) HD11.out [12, 13, 14] 1 _ _ (by kernel_rfl) ?_
        refine PickT.value (d := some 41) (.pointer (some ⟨b, 0, none⟩)) rfl rfl (by kernel_rfl) (fun U hU => (by go_simp)) ?_
        refine PickT.value (d := some 42) (.pointer (some ⟨b, 0, none⟩)) rfl rfl (by kernel_rfl) (fun U hU => (by go_simp)) ?_
        refine PickT.value (d := some 43) (.pointer (some ⟨b, 0, none⟩)) rfl rfl (by kernel_rfl) (fun U hU => (by go_simp)) ?_
        simp only [PickT, Act.put, List.setIfInBounds_toArray, List.set_cons_zero, List.set_cons_succ]
        have f0 : w11.frozen? ⟨b, 0, none⟩ = false := frozen_of_row _ _ _ _ _ HD11.out.wk
        have z0 : w11.cell? ⟨b, 0, none⟩ = some (.slice (some ad) n c0) := cell_of_row _ _ _ _ _ _ HD11.out.wk
        refine wpAnyT_one (i := 15) (by kernel_rfl) rfl (by kernel_rfl) ?_
        intro K hK
        unfold Oper.wp
        go_simp
        refine hK _ _ (fun h => absurd h (by decide)) ?_
        clear hK K
        clear f0 z0
        have HWS : Hid (w.heap.size ≤ wd.heap.size) := Lib.hid HWD.out.bel.size
        have HX11 : Hid (OwnSer w11 w.heap.size (newS A8 m c8 f)) := Lib.hid ⟨own_from HL11.out HWS.out, World.ownsRow_nil _ _ _ _, hf, hm, Nat.zero_le _⟩
        have HR11 : Hid (WorkRows w11 w.heap.size (.slice (some ⟨g11, 0, none⟩) (n + 1) cap11) (n + 1) (insq q k (newS A8 m c8 f))) := Lib.hid (WorkRows.ins HO11.out (by omega) hk (fun j hj => (HWD.out.rows.each j hj).keeps HKP.out (by decide) (by decide)) HX11.out rfl HWD.out.rows.apart)
        have HM11 := Lib.hid (HWD.out.map.keeps HKP.out)
        have HG12 := Lib.hid (grown_setCell w11 b 0 (.slice (some ⟨g11, 0, none⟩) (n + 1) cap11))
        have HR12 := Lib.hid (HR11.out.kept HD11.out.wk (by decide) (by decide) (by decide) HG12.out)
        have HK12 := Lib.hid (heap_setCell_same w11 b 0 _ _ (.slice (some ⟨g11, 0, none⟩) (n + 1) cap11) HD11.out.wk)
        have HB12 : Hid (Below w.heap.size w (w11.setCell ⟨b, 0, none⟩ (.slice (some ⟨g11, 0, none⟩) (n + 1) cap11))) := Lib.hid (HD11.out.bel.grown HG12.out HD11.out.bel.size (fun r e => by cases e; exact HW.out.lo))
        have HKP2 := Lib.hid (HKP.out.mono (Us := [70, 48]) (by simp))
        have HKP3 := Lib.hid (HKP2.out.trans (Keeps.grown HD11.out.wk (by simp) HG12.out))
        generalize hw12 : w11.setCell ⟨b, 0, none⟩ (.slice (some ⟨g11, 0, none⟩) (n + 1) cap11) = w12 at HR12 HK12 HB12 HKP3 ⊢
        clear hw12 HM11 HX11 HR11 HG12 HL11 HO11 HKP HKP2 HD11 HIN HR10 HVB HB10 HD10 HAL HD8 HO8 HB8
        refine wpAnyT_done (by kernel_rfl) ?_ _
        refine Only.next ?_
        obtain ⟨A3, c3, e3, hs3⟩ := HR12.out.sers
        cases e3
        have HFI := Lib.hid (firsts_any (some ⟨g11, 0, none⟩) (n + 1) cap11 (insq q k (newS A8 m c8 f)) w12 hs3)
        have z12 : w12.cell? ⟨b, 0, none⟩ = some (.slice (some ⟨g11, 0, none⟩) (n + 1) cap11) := cell_of_row _ _ _ _ _ _ HK12.out
        clear hs3
        go_wp2_with fail
        refine HFI.out.mono ?_; rintro e w13 ⟨mb2, rfl, hmb, hmap, hb13⟩
        have hK13 := heap_keep HK12.out hb13
        have f2 : w13.frozen? ⟨b, 2, none⟩ = false := frozen_of_row _ _ _ _ _ hK13
        have z2 : w13.cell? ⟨b, 2, none⟩ = some (.map (some mb)) := cell_of_row _ _ _ _ _ _ hK13
        have hg14 := grown_setCell w13 b 2 (.map (some mb2))
        have hR14 := (HR12.out.far hb13).kept hK13 (by decide) (by decide) (by decide) hg14
        have hK14 := heap_setCell_same w13 b 2 _ _ (.map (some mb2)) hK13
        have hB13 := below_step HB12.out hb13
        have hB14 := hB13.grown hg14 hB13.size (fun r e => by cases e; exact HW.out.lo)
        have hM14 := hmap.kept hg14 (fun e => by
          cases e
          obtain ⟨es, clock, hm, -⟩ := hmap
          rw [hm] at hK13
          cases hK13)
        have HFIN := Lib.hid (show Work w (w13.setCell ⟨b, 2, none⟩ (.map (some mb2))) b (.slice (some ⟨g11, 0, none⟩) (n + 1) cap11) fl mb2 op gen err cnt ans recs (n + 1) (insq q k (newS A8 m c8 f)) from ⟨hB14, HW.out.lo, by rw [hK14]; rfl, hR14, Nat.le_trans HB12.out.size hmb, hM14⟩)
        have HKF := Lib.hid ((Keeps.below (Ts := [70, 48]) HBD.out).trans (HKP3.out.trans ((Keeps.below hb13).trans (Keeps.grown hK13 (by simp) hg14))))
        clear hK13 hg14 hR14 hK14 hB13 hB14 hM14 hmap hb13 hmb z12
        go_wp2_with fail
        go_ret
        rw [HAH.out]
        exact ⟨_, mb2, A8, c8, rfl, HFIN.out, HKF.out⟩
      · have HNY := Lib.hid (HNX.out rfl)
        go_wp2_with fail
        go_roundw
        case rel => exact ⟨k + 1, by omega, by go_num, HNY.out, HB2.out⟩
        case measure => simp [intOf]; omega
    · have d1 : decide ((k : Int) < (n : Int)) = false := decide_eq_false (by omega)
      have HLST : Hid (k < n → La.less (La.keyB (q k).f (q k).ln) (La.keyB f m) = false) := Lib.hid (fun h => absurd h hlt)
      have HB2 := Lib.hid HB.out
      clear HB
      go_wp2_with fail
      clear z0 d1 i0
      have HAH : Hid (aheads q n f m = k) := Lib.hid (takeWhile_range _ n k hk HL.out HLST.out)
      have HWR := Lib.hid (HW.out.far HB2.out)
      refine plain_T (One w b (workCells (.slice A0 n c0) fl (.map (some mb)) op gen err cnt ans recs) 70) [15] (by kernel_rfl) ?_
      have HD : Hid (One w b (workCells (.slice A0 n c0) fl (.map (some mb)) op gen err cnt ans recs) 70 wr.drew) := Lib.hid ⟨HWR.out.bel.drew, HWR.out.wk⟩
      have HWD := Lib.hid (HWR.out.far (Below.refl _ _).drew)
      have HBD := Lib.hid (HB2.out.drew)
      generalize wr.drew = wd at HD HWD HBD ⊢
      clear HWR HB2 HLST HL
      refine wpAnyT_pick (S := (One w b (workCells (.slice A0 n c0) fl (.map (some mb)) op gen err cnt ans recs) 70)) (by kernel_rfl) Only.panic Only.keepsIn (w := wd) HD.out [0, 1, 2, 3, 4, 5, 6, 7] 8 _ _ (by kernel_rfl) ?_
      refine PickT.value (d := some 29) (.pointer (some ⟨b, 0, none⟩)) rfl rfl (by kernel_rfl) (fun U hU => (by go_simp)) ?_
      refine PickT.value (d := some 30) (.pointer (some ⟨b, 0, none⟩)) rfl rfl (by kernel_rfl) (fun U hU => (by go_simp)) ?_
      refine PickT.value (d := some 31) (.pointer (some ⟨b, 0, none⟩)) rfl rfl (by kernel_rfl) (fun U hU => (by go_simp)) ?_
      refine PickT.value (d := some 32) (.pointer (some ⟨b, 0, none⟩)) rfl rfl (by kernel_rfl) (fun U hU => (by go_simp)) ?_
      refine PickT.value (d := some 33) (.pointer (some ⟨b, 0, none⟩)) rfl rfl (by kernel_rfl) (fun U hU => (by go_simp)) ?_
      refine PickT.value (d := some 34) (.slice A0 n c0) rfl rfl (by kernel_rfl) (fun U hU => (by have h0 : U.cell? ⟨b, 0, none⟩ = some (.slice A0 n c0) := cell_of_row _ _ _ _ _ _ hU.wk; go_simp)) ?_
      refine PickT.value (d := some 35) (.int .i64 (k : Int)) rfl rfl (by kernel_rfl) (fun U hU => (by go_simp)) ?_
      refine PickT.value (d := some 36) (.slice A m c) rfl rfl (by kernel_rfl) (fun U hU => (by go_simp)) ?_
      simp only [PickT, Act.put, List.setIfInBounds_toArray, List.set_cons_zero, List.set_cons_succ]
      refine wpAnyT_one (i := 8) (by kernel_rfl) rfl (by kernel_rfl) ?_
      intro K hK
      unfold Oper.wp
      go_simp
      refine (cloneL_any A m c hm hnone (lx f) (lx_one f) wd (LabRow.row (HF.out.later HWD.out.bel))).mono ?_
      rintro e w8 ⟨v8, rfl, hown8, hb8⟩
      obtain ⟨A8, c8, rfl, -, -, -, -⟩ := own_row hown8
      have HO8 := Lib.hid hown8; have HB8 := Lib.hid hb8
      have HD8 := Lib.hid (HD.out.far hb8)
      clear hown8 hb8
      refine hK _ _ (fun _ => HD8.out) ?_
      clear hK K
      refine wpAnyT_pick (S := (One w b (workCells (.slice A0 n c0) fl (.map (some mb)) op gen err cnt ans recs) 70)) (by kernel_rfl) Only.panic Only.keepsIn (w := w8) HD8.out [9] 6 _ _ (by kernel_rfl) ?_
      refine PickT.value (d := some 38) (.agg #[.slice A8 m c8, .slice none 0 0, .int .i64 0]) rfl rfl (by kernel_rfl) (fun U hU => (by go_simp)) ?_
      simp only [PickT, Act.put, List.setIfInBounds_toArray, List.set_cons_zero, List.set_cons_succ]
      refine wpAnyT_one (i := 10) (by kernel_rfl) rfl (by kernel_rfl) ?_
      intro K hK
      unfold Oper.wp
      go_simp
      have HAL := Lib.hid ((Below.refl w8.heap.size w8).alloc (Nat.le_refl _) (.cells #[.slice A8 m c8, .slice none 0 0, .int .i64 0] 48))
      have HD10 := Lib.hid (HD8.out.far HAL.out)
      refine hK _ _ (fun _ => HD10.out) ?_
      clear hK K
      refine wpAnyT_one (i := 11) (by kernel_rfl) rfl (by kernel_rfl) ?_
      intro K hK
      unfold Oper.wp
      go_simp
      have HB10 := Lib.hid (below_step HB8.out HAL.out)
      have HR10 := Lib.hid (HWD.out.rows.far HB10.out)
      have HVB : Hid ((Value.slice A0 n c0).ownBlock ≠ some w8.heap.size) := Lib.hid (fun e => by
        have h1 := (HWD.out.rows.own.lt _ e).2
        have h2 := HB8.out.size
        omega)
      have HIN := Lib.hid (insert_any (x := newS A8 m c8 f) HR10.out.own hn (i := k) hk HD10.out.bel.size (heap_alloc_new w8 _) HVB.out)
      refine HIN.out.mono ?_
      rintro e w11 ⟨v11, rfl, hown11, hg11⟩
      have HKP : Hid (Keeps [48] wd w11) := Lib.hid ((Keeps.below HB10.out).trans (Keeps.own HR10.out.own (by simp) hg11))
      have HD11 := Lib.hid (HD10.out.grown hg11 (block_other HR10.out.own HD10.out.wk (by decide)) (fun r e => (HR10.out.own.lt r e).1))
      have HO11 := Lib.hid hown11
      have HL11 := Lib.hid (row_keeps (row_far HO8.out HAL.out) (Keeps.own HR10.out.own (Ts := [48]) (by simp) hg11) (by decide))
      obtain ⟨g11, cap11, rfl⟩ := ownsRow_succ hown11
      clear hown11 hg11
      refine hK _ _ (fun _ => HD11.out) ?_
      clear hK K
      refine wpAnyT_pick (S := (One w b (workCells (.slice A0 n c0) fl (.map (some mb)) op gen err cnt ans recs) 70)) (by kernel_rfl) Only.panic Only.keepsIn (w := w11) HD11.out [12, 13, 14] 1 _ _ (by kernel_rfl) ?_
      refine PickT.value (d := some 41) (.pointer (some ⟨b, 0, none⟩)) rfl rfl (by kernel_rfl) (fun U hU => (by go_simp)) ?_
      refine PickT.value (d := some 42) (.pointer (some ⟨b, 0, none⟩)) rfl rfl (by kernel_rfl) (fun U hU => (by go_simp)) ?_
      refine PickT.value (d := some 43) (.pointer (some ⟨b, 0, none⟩)) rfl rfl (by kernel_rfl) (fun U hU => (by go_simp)) ?_
      simp only [PickT, Act.put, List.setIfInBounds_toArray, List.set_cons_zero, List.set_cons_succ]
      have f0 : w11.frozen? ⟨b, 0, none⟩ = false := frozen_of_row _ _ _ _ _ HD11.out.wk
      have z0 : w11.cell? ⟨b, 0, none⟩ = some (.slice A0 n c0) := cell_of_row _ _ _ _ _ _ HD11.out.wk
      refine wpAnyT_one (i := 15) (by kernel_rfl) rfl (by kernel_rfl) ?_
      intro K hK
      unfold Oper.wp
      go_simp
      refine hK _ _ (fun h => absurd h (by decide)) ?_
      clear hK K
      clear f0 z0
      have HWS : Hid (w.heap.size ≤ wd.heap.size) := Lib.hid HWD.out.bel.size
      have HX11 : Hid (OwnSer w11 w.heap.size (newS A8 m c8 f)) := Lib.hid ⟨own_from HL11.out HWS.out, World.ownsRow_nil _ _ _ _, hf, hm, Nat.zero_le _⟩
      have HR11 : Hid (WorkRows w11 w.heap.size (.slice (some ⟨g11, 0, none⟩) (n + 1) cap11) (n + 1) (insq q k (newS A8 m c8 f))) := Lib.hid (WorkRows.ins HO11.out (by omega) hk (fun j hj => (HWD.out.rows.each j hj).keeps HKP.out (by decide) (by decide)) HX11.out rfl HWD.out.rows.apart)
      have HM11 := Lib.hid (HWD.out.map.keeps HKP.out)
      have HG12 := Lib.hid (grown_setCell w11 b 0 (.slice (some ⟨g11, 0, none⟩) (n + 1) cap11))
      have HR12 := Lib.hid (HR11.out.kept HD11.out.wk (by decide) (by decide) (by decide) HG12.out)
      have HK12 := Lib.hid (heap_setCell_same w11 b 0 _ _ (.slice (some ⟨g11, 0, none⟩) (n + 1) cap11) HD11.out.wk)
      have HB12 : Hid (Below w.heap.size w (w11.setCell ⟨b, 0, none⟩ (.slice (some ⟨g11, 0, none⟩) (n + 1) cap11))) := Lib.hid (HD11.out.bel.grown HG12.out HD11.out.bel.size (fun r e => by cases e; exact HW.out.lo))
      have HKP2 := Lib.hid (HKP.out.mono (Us := [70, 48]) (by simp))
      have HKP3 := Lib.hid (HKP2.out.trans (Keeps.grown HD11.out.wk (by simp) HG12.out))
      generalize hw12 : w11.setCell ⟨b, 0, none⟩ (.slice (some ⟨g11, 0, none⟩) (n + 1) cap11) = w12 at HR12 HK12 HB12 HKP3 ⊢
      clear hw12 HM11 HX11 HR11 HG12 HL11 HO11 HKP HKP2 HD11 HIN HR10 HVB HB10 HD10 HAL HD8 HO8 HB8
      refine wpAnyT_done (by kernel_rfl) ?_ _
      refine Only.next ?_
      obtain ⟨A3, c3, e3, hs3⟩ := HR12.out.sers
      cases e3
      have HFI := Lib.hid (firsts_any (some ⟨g11, 0, none⟩) (n + 1) cap11 (insq q k (newS A8 m c8 f)) w12 hs3)
      have z12 : w12.cell? ⟨b, 0, none⟩ = some (.slice (some ⟨g11, 0, none⟩) (n + 1) cap11) := cell_of_row _ _ _ _ _ _ HK12.out
      clear hs3
      go_wp2_with fail
      refine HFI.out.mono ?_; rintro e w13 ⟨mb2, rfl, hmb, hmap, hb13⟩
      have hK13 := heap_keep HK12.out hb13
      have f2 : w13.frozen? ⟨b, 2, none⟩ = false := frozen_of_row _ _ _ _ _ hK13
      have z2 : w13.cell? ⟨b, 2, none⟩ = some (.map (some mb)) := cell_of_row _ _ _ _ _ _ hK13
      have hg14 := grown_setCell w13 b 2 (.map (some mb2))
      have hR14 := (HR12.out.far hb13).kept hK13 (by decide) (by decide) (by decide) hg14
      have hK14 := heap_setCell_same w13 b 2 _ _ (.map (some mb2)) hK13
      have hB13 := below_step HB12.out hb13
      have hB14 := hB13.grown hg14 hB13.size (fun r e => by cases e; exact HW.out.lo)
      have hM14 := hmap.kept hg14 (fun e => by
        cases e
        obtain ⟨es, clock, hm, -⟩ := hmap
        rw [hm] at hK13
        cases hK13)
      have HFIN := Lib.hid (show Work w (w13.setCell ⟨b, 2, none⟩ (.map (some mb2))) b (.slice (some ⟨g11, 0, none⟩) (n + 1) cap11) fl mb2 op gen err cnt ans recs (n + 1) (insq q k (newS A8 m c8 f)) from ⟨hB14, HW.out.lo, by rw [hK14]; rfl, hR14, Nat.le_trans HB12.out.size hmb, hM14⟩)
      have HKF := Lib.hid ((Keeps.below (Ts := [70, 48]) HBD.out).trans (HKP3.out.trans ((Keeps.below hb13).trans (Keeps.grown hK13 (by simp) hg14))))
      clear hK13 hg14 hR14 hK14 hB13 hB14 hM14 hmap hb13 hmb z12
      go_wp2_with fail
      go_ret
      rw [HAH.out]
      exact ⟨_, mb2, A8, c8, rfl, HFIN.out, HKF.out⟩
end Go.Proofs.Ytidfanmfibbiiaa
/-
  What put comes to.
-/
namespace Go.Proofs.Ytidfanmfibbiiaa
open Go.RowKit
/-- the samples, and the last time, of one series are others -/
theorem rows_set {W : World} {base g cap n k : Nat} {q : Nat → SerAt} {B : Option Addr} {m d : Nat} {s : Nat → Sam} {t : Int} (ho : W.ownsRow base 48 3 (.slice (some ⟨g, 0, none⟩) n cap) n (rcells 3 (rx q) n)) (hn : n ≤ 1000) (hk : k < n)
    (he : ∀ i, i < n → i ≠ k → OwnSer W base (q i)) (hl : W.ownsRow base 60 2 (.slice (q k).la (q k).ln (q k).lc) (q k).ln (rcells 2 (lx (q k).f) (q k).ln)) (h1 : ∀ i, i < (q k).ln → ((q k).f i).1.size ≤ 300 ∧ ((q k).f i).2.size ≤ 300) (h2 : (q k).ln ≤ 1000)
    (hs : W.ownsRow base 51 2 (.slice B m d) m (rcells 2 (sx s) m)) (hm : m ≤ 1000) (hap : ∀ i, i < n → i ≠ k → ∀ r, (Value.slice B m d).ownBlock = some r → (Value.slice (q i).sa (q i).sn (q i).sc).ownBlock ≠ some r)
    (ha : ∀ i j, i < n → j < n → i ≠ j → ∀ r, (Value.slice (q j).sa (q j).sn (q j).sc).ownBlock = some r → (Value.slice (q i).sa (q i).sn (q i).sc).ownBlock ≠ some r) :
    WorkRows ((W.setCell ⟨g, k * 3 + 1, none⟩ (.slice B m d)).setCell ⟨g, k * 3 + 2, none⟩ (.int .i64 t)) base (.slice (some ⟨g, 0, none⟩) n cap) n (put2 q k B m d s t) := by
  have hgr := grown_trans (grown_setCell W g (k * 3 + 1) (.slice B m d)) (grown_setCell _ g (k * 3 + 2) (.int .i64 t))
  have kp : ∀ {e k2 m2 : Nat} {u : Value} {xs : List Value} {b2 : Nat}, W.ownsRow b2 e k2 u m2 xs → e ≠ 48 → ∀ r, some g = some r → u.ownBlock ≠ some r := fun hx hne r e => by cases e; exact row_apart hx ho hne rfl
  have ek : put2 q k B m d s t k = ⟨(q k).la, (q k).ln, (q k).lc, (q k).f, B, m, d, s, t⟩ := by unfold put2; rw [if_pos rfl]
  have ei : ∀ i, i ≠ k → put2 q k B m d s t i = q i := fun i hi => by unfold put2; rw [if_neg hi]
  refine ⟨?_, hn, fun i hi => ?_, fun i j hi hj hij r hr => ?_⟩
  · have h3 := ((ho.stored (k * 3 + 1) (.slice B m d)).1.stored (k * 3 + 2) (.int .i64 t)).1
    have e1 : (rcells 3 (rx q) n).set (k * 3 + 1) (.slice B m d) = rcells 3 (fun a c => if a = k ∧ c = 1 then .slice B m d else rx q a c) n :=
      rcells_set 3 _ _ n k 1 (by omega) _ (by simp) (fun a c _ _ hx => by
        rw [if_neg]
        rintro ⟨rfl, rfl⟩
        rcases hx with hx | hx <;> exact hx rfl)
    have e2 : (rcells 3 (fun a c => if a = k ∧ c = 1 then .slice B m d else rx q a c) n).set (k * 3 + 2) (.int .i64 t) = rcells 3 (rx (put2 q k B m d s t)) n :=
      rcells_set 3 _ _ n k 2 (by omega) _ (by unfold rx; rw [ek]; rfl) (fun a c _ hc3 hx => by
        by_cases ea : a = k
        · subst ea
          rcases (show c = 0 ∨ c = 1 ∨ c = 2 by omega) with rfl | rfl | rfl
          · rw [if_neg (by omega)]; unfold rx; rw [ek]; rfl
          · rw [if_pos ⟨rfl, rfl⟩]; unfold rx; rw [ek]; rfl
          · rcases hx with hx | hx <;> exact absurd rfl hx
        · rw [if_neg (fun h => ea h.1)]
          unfold rx
          rw [ei a ea])
    rw [← e2, ← e1]
    exact h3
  · by_cases e : i = k
    · subst e
      rw [ek]
      exact ⟨row_kept hl hgr (kp hl (by decide)), row_kept hs hgr (kp hs (by decide)), h1, h2, hm⟩
    · rw [ei i e]
      have hi0 := he i hi e
      exact hi0.kept hgr (kp hi0.labo (by decide)) (kp hi0.samo (by decide))
  · by_cases e : i = k
    · subst e
      rw [ei j (fun e => hij e.symm)] at hr
      rw [ek]
      intro e2
      exact hap j hj (fun e => hij e.symm) r e2 hr
    · by_cases e2 : j = k
      · subst e2
        rw [ek] at hr
        rw [ei i e]
        exact hap i hi e r hr
      · rw [ei j e2] at hr
        rw [ei i e]
        exact ha i j hi hj hij r hr
theorem samRow_one (W : World) (t v : Int) : Row 2 (sx fun _ => ⟨t, v⟩) (W.alloc (.cells #[.int .i64 t, .int .u64 v] 51)) (some ⟨W.heap.size, 0, none⟩) 1 := row_built 2 _ W _ _ (fun j hj => by rcases (show j = 0 ∨ j = 1 by omega) with rfl | rfl <;> rfl)
/-- one sample more -/
def snoc (s : Nat → Sam) (m : Nat) (x : Sam) (i : Nat) : Sam := if i = m then x else s i
theorem snoc_cells (s : Nat → Sam) (m : Nat) (x : Sam) : rcells 2 (sx s) m ++ rcells 2 (sx fun _ => x) 1 = rcells 2 (sx (snoc s m x)) (m + 1) :=
  rcells_more 2 _ _ _ m (fun i j hi _ => by
    have e : snoc s m x i = s i := by unfold snoc; rw [if_neg (by omega)]
    unfold sx
    rw [e]) (fun j _ => by
    have e : snoc s m x m = x := by unfold snoc; rw [if_pos rfl]
    unfold sx
    rw [e])
theorem snoc_map (s : Nat → Sam) (m : Nat) (x : Sam) : (List.range (m + 1)).map (snoc s m x) = (List.range m).map s ++ [x] := by
  rw [List.range_succ, List.map_append]
  congr 1
  · refine List.map_congr_left (fun i hi => ?_)
    have := List.mem_range.1 hi
    unfold snoc
    rw [if_neg (by omega)]
  · simp [snoc]
/-- the sample laid behind those of a series: what the work is then -/
theorem put_step {w W w1 : World} {b g cap mb n k : Nat} {fl gen err cnt : Int} {op : List Value} {ans recs : Value} {q : Nat → SerAt} (hw : Work w W b (.slice (some ⟨g, 0, none⟩) n cap) fl mb op gen err cnt ans recs n q) (hk : k < n) (h9 : (q k).sn ≤ 900) (t v : Int) {o : Obj} {gs caps : Nat}
    (hown : w1.ownsRow w.heap.size 51 2 (.slice (some ⟨gs, 0, none⟩) ((q k).sn + 1) caps) ((q k).sn + 1) (rcells 2 (sx (q k).s) (q k).sn ++ rcells 2 (sx fun _ => ⟨t, v⟩) 1))
    (hg : (W.alloc o).grownBy w1 (Value.slice (q k).sa (q k).sn (q k).sc).ownBlock) (hlie : (Value.slice (q k).sa (q k).sn (q k).sc).ownBlock = some gs ∨ gs = W.heap.size + 1) :
    Work w ((w1.setCell ⟨g, k * 3 + 1, none⟩ (.slice (some ⟨gs, 0, none⟩) ((q k).sn + 1) caps)).setCell ⟨g, k * 3 + 2, none⟩ (.int .i64 t)) b (.slice (some ⟨g, 0, none⟩) n cap) fl mb op gen err cnt ans recs n (put2 q k (some ⟨gs, 0, none⟩) ((q k).sn + 1) caps (snoc (q k).s (q k).sn ⟨t, v⟩) t) ∧
    Keeps [51, 48] W ((w1.setCell ⟨g, k * 3 + 1, none⟩ (.slice (some ⟨gs, 0, none⟩) ((q k).sn + 1) caps)).setCell ⟨g, k * 3 + 2, none⟩ (.int .i64 t)) := by
  have hal : Below W.heap.size W (W.alloc o) := (Below.refl _ _).alloc (Nat.le_refl _) _
  have hk0 : Keeps [51] W w1 := (Keeps.below hal).trans (Keeps.own ((hw.rows.each k hk).samo.alloc o) (by simp) hg)
  have hown1 := row_keeps hw.rows.own hk0 (by decide)
  obtain ⟨g1, c1, cur1, e1, -, hc1, -⟩ : ∃ g1 c1 cur1, Value.slice (some ⟨g, 0, none⟩) n cap = .slice (some ⟨g1, 0, none⟩) n c1 ∧ w.heap.size ≤ g1 ∧ w1.heap[g1]? = some (.cells cur1 48 (0, 0)) ∧ True := by
    rcases hown1.2 with ⟨e, -⟩ | ⟨g1, c1, cur1, e, hb, hc, -⟩
    · cases e
    · exact ⟨g1, c1, cur1, e, hb, hc, trivial⟩
  cases e1
  have hg1 := grown_setCell w1 g (k * 3 + 1) (.slice (some ⟨gs, 0, none⟩) ((q k).sn + 1) caps)
  have hg2 := grown_setCell (w1.setCell ⟨g, k * 3 + 1, none⟩ (.slice (some ⟨gs, 0, none⟩) ((q k).sn + 1) caps)) g (k * 3 + 2) (.int .i64 t)
  have hgr := grown_trans hg1 hg2
  have hk1 : Keeps [48] w1 ((w1.setCell ⟨g, k * 3 + 1, none⟩ (.slice (some ⟨gs, 0, none⟩) ((q k).sn + 1) caps)).setCell ⟨g, k * 3 + 2, none⟩ (.int .i64 t)) := Keeps.grown hc1 (by simp) hgr
  have hkk : Keeps [51, 48] W _ := (hk0.mono (by simp)).trans (hk1.mono (by simp))
  have hglo : w.heap.size ≤ g := (hown1.lt g rfl).1
  have hbel1 : Below w.heap.size w w1 := (hw.bel.alloc hw.bel.size o).grown hg (Nat.le_trans hw.bel.size hal.size) (fun r e => ((hw.rows.each k hk).samo.lt r e).1)
  refine ⟨⟨hbel1.grown hgr hbel1.size (fun r e => by cases e; exact hglo), hw.lo, hkk _ _ hw.wk (fun cs T fr e => by cases e; decide), ?_, hw.mlo, ?_⟩, hkk⟩
  · have hlab : ∀ i, i < n → w1.ownsRow w.heap.size 60 2 (.slice (q i).la (q i).ln (q i).lc) (q i).ln (rcells 2 (lx (q i).f) (q i).ln) := fun i hi => row_keeps (hw.rows.each i hi).labo hk0 (by decide)
    refine rows_set hown1 hw.rows.few hk (fun i hi hik => ⟨hlab i hi, ?_, (hw.rows.each i hi).lsize, (hw.rows.each i hi).lfew, (hw.rows.each i hi).sfew⟩) (hlab k hk) (hw.rows.each k hk).lsize (hw.rows.each k hk).lfew ?_ (by omega) (fun i hi hik r hr => ?_) hw.rows.apart
    · exact row_kept ((hw.rows.each i hi).samo.alloc o) hg (fun r e => hw.rows.apart i k hi hk hik r e)
    · rw [← snoc_cells]
      exact hown
    · have hr2 : gs = r := Option.some.inj hr
      subst hr2
      rcases hlie with h | h
      · exact hw.rows.apart i k hi hk hik _ h
      · intro e
        have := ((hw.rows.each i hi).samo.lt _ e).2
        omega
  · rw [keys_put2]
    exact hw.map.keeps hkk
end Go.Proofs.Ytidfanmfibbiiaa
