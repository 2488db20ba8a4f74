/-
  The form of a generation: the walk.
-/
import Derived.Test.YtaillfnmaiiapaaWaRC
import Derived.Test.YtaillfnmaiiapaaRegT
import Derived.Laws.AppendOwnNone
import Derived.Lib.LazyBuf
namespace Go.Proofs.Ytaillfnmaiiapaa
open Go.RowKit
section Cut
variable {P : Program} {ops : Array Oper} {Q : Exit → Act → World → Prop} {md : Region.Mode} {S : World → Prop}
def puts (a : Act) : List (Option Tmp × Value) → Act
  | [] => a
  | (d, v) :: r => puts (a.put d v) r
theorem plain_T_cut {id : Nat} {a : Act} {w : World} (S : World → Prop) (T : List Nat) (R : Act → Act → World → Prop) (hm : P.follows .mixedOrders = true)
    (h : wpAnyT P .any ops (Only (R a)) S T ops.size (Array.replicate ops.size false) a w.drew) (hR : ∀ a2 w2, R a a2 w2 → Q .normal a2 w2) : (Code.region id ops true).wp P Q a w :=
  Code.wp_mono (Q := Only (R a)) (fun e a2 w2 he => by cases e <;> first | exact hR _ _ he | exact he.elim) (plain_T (Q := Only (R a)) S T hm h)
/-- two that are left, in either order -/
theorem wpAnyT_two {T : List Nat} {i j : Nat} {oi oj : Oper} {fuel : Nat} {listed : Array Bool} {a : Act} {w : World} (hr : Region.ready md ops listed = [i, j]) (hi : ops[i]? = some oi) (hj : ops[j]? = some oj) (hwi : Region.wanted oi (yielded ops a.tmps) = true) (hwj : Region.wanted oj (yielded ops a.tmps) = true)
    (h1 : ∀ K : Act → World → Prop, (∀ a2 w2, (T.contains i = false → S w2) → wpAnyT P md ops Q S T fuel (listed.setIfInBounds i true) a2 w2 → K a2 w2) → oi.wp P a w K Q)
    (h2 : ∀ K : Act → World → Prop, (∀ a2 w2, (T.contains j = false → S w2) → wpAnyT P md ops Q S T fuel (listed.setIfInBounds j true) a2 w2 → K a2 w2) → oj.wp P a w K Q) : wpAnyT P md ops Q S T (fuel + 1) listed a w := by
  refine ⟨fun h0 => (by rw [hr] at h0; cases h0), ?_⟩
  intro k hk
  rw [hr] at hk
  rcases (show k = i ∨ k = j by simpa using hk) with rfl | rfl
  · unfold wpOp
    simp only [hi, hwi, if_true]
    exact .inl (h1 _ (fun a2 w2 hS hk => ⟨hS, hk⟩))
  · unfold wpOp
    simp only [hj, hwj, if_true]
    exact .inl (h2 _ (fun a2 w2 hS hk => ⟨hS, hk⟩))
end Cut
theorem run_makeMap_room {P : Program} {t k e : TypeId} (ht : P.underlying t = some (.map k e)) (a : Int) (w : World) : (Instr.makeMap t (some (.int .i64 a))).run P w = .ok (.map (some w.heap.size)) (w.alloc (.map #[] 0)) := by
  simp [Instr.makeMap, run_underlying ht, asInt, asIntOf, Result.andThen]
/-- a new row of nothing -/
theorem own_new (w : World) (base E k : Nat) (hb : base ≤ w.heap.size) : (w.alloc (.cells #[] E)).ownsRow base E k (.slice (some ⟨w.heap.size, 0, none⟩) 0 0) 0 [] :=
  ⟨by simp, Or.inr ⟨w.heap.size, 0, #[], rfl, hb, heap_alloc_new w _, Nat.le_refl _, Nat.zero_le _, by simp, by simp⟩⟩
/-- a row behind a row of the call's own -/
theorem wpList_append_row {ops : Array Oper} {rest : List Oper} {o : Oper} {a : Act} {Q : Exit → Act → World → Prop} (w : World) (hgd : o.guard = none) (s y : Operand) (T E : TypeId)
    (ho : o.op = .call { callee := .builtin .append, args := #[s, y], argTypes := #[T, T] })
    (k by_ : Nat) (z : Value) (ht : Try.prog.underlying T = some (.slice E)) (hinfo : (Try.prog.info? E).map (fun i => (i.zero, i.size, i.bytes)) = some (some z, k, by_)) (hzs : z.cells.size = k) (hk : 0 < k) (hby : by_ ≤ 1000)
    (base : Nat) (v : Value) (n0 : Nat) (xs : List Value) (hs : a.eval s = v) (hown : w.ownsRow base E k v n0 xs)
    (A : Option Addr) (n c : Nat) (x : Nat → Nat → Value) (hx1 : ∀ i j, (x i j).oneCell' = true) (hy : a.eval y = .slice A n c) (hA : Row k x w A n) (hnone : A = none → n = 0 ∧ c = 0) (hsz : n0 + n ≤ 1000000) (hbase : base ≤ w.heap.size)
    (h : ∀ v' w', w'.ownsRow base E k v' (n0 + n) (xs ++ rcells k x n) → w.grownBy w' v.ownBlock → (v' = .slice none 0 0 ↔ v = .slice none 0 0 ∧ n = 0) → wpList Try.prog ops Q rest (a.put o.dst v') w') : wpList Try.prog ops Q (o :: rest) a w := by
  obtain ⟨i0, hi0, hz0, hz1, hz2⟩ := info_parts hinfo
  cases A with
  | none =>
    obtain ⟨rfl, rfl⟩ := hnone rfl
    refine wpList_append_own_none hgd s y T ho base E i0 k ht hi0 v n0 xs hs hown hy ?_
    exact h v w (by rw [Nat.add_zero]; have e : rcells k x 0 = [] := rfl; rw [e, List.append_nil]; exact hown) (grown_refl _ _) (by simp)
  | some ad =>
    have hb2 : (n0 + n) * by_ ≤ 1000000 * 1000 := Nat.mul_le_mul hsz hby
    exact wpList_append_own w hgd s y T ho base E i0 z k by_ ht hi0 hz0 hz1 hz2 hzs hk v n0 xs hs hown ad n c (rcells k x n) hy (rcells_length k x n) (hA.cells hk) (rcells_one hx1 n) (by unfold maxLen; omega) (by omega) hbase (fun v' w' h1 h2 h3 => h v' w' h1 h2 h3)
set_option maxRecDepth 100000 in
set_option maxHeartbeats 1000000 in
theorem cloneT_any (A : Option Addr) (n c : Nat) (hn : n ≤ 900000) (hnone : A = none → n = 0 ∧ c = 0) (x : Nat → Nat → Value) (hx : ∀ i j, (x i j).oneCell' = true) (w : World) (hA : Row 1 x w A n) :
    Calls Try.prog 23 #[.slice A n c] w fun e w' => ∃ v, e = .returned v ∧ w'.ownsRow w.heap.size 9 1 v n (rcells 1 x n) ∧ Below w.heap.size w w' := by
  cases A with
  | none =>
    obtain ⟨rfl, rfl⟩ := hnone rfl
    have heq := run_eql_slice_nil (P := Try.prog) w 30 9 none 0 0 Try.underlying30
    clear hA hnone
    go_enter Try.func23, Try.ntmps23
    go_wp2_with fail
    go_ret
    exact ⟨_, rfl, World.ownsRow_nil _ _ _ _, Below.refl _ _⟩
  | some ad =>
    have HA := Lib.hid (Row.later hA ((Below.refl _ _).alloc (Nat.le_refl _) (.cells #[] 9)))
    have HO := Lib.hid (own_new w w.heap.size 9 1 (Nat.le_refl _))
    have HB := Lib.hid ((Below.refl w.heap.size w).alloc (Nat.le_refl _) (.cells #[] 9))
    have HX := Lib.hid hx
    have heq := run_eql_slice_nil (P := Try.prog) w 30 9 (some ad) n c Try.underlying30
    clear hA hnone hx
    go_enter Try.func23, Try.ntmps23
    go_wp2_with (at_builtin; go_must (refine wpList_append_row _ rfl _ _ 30 9 rfl 1 16 (.string ByteArray.empty) Try.underlying30 infoT rfl (by decide) (by decide) w.heap.size _ 0 [] rfl HO.out (some ad) n c x HX.out rfl HA.out (fun e => by cases e) (by omega) (by simp) ?_); intro v4 w4 hown4 hg4 _; have H4 := Lib.hid hown4; have G4 := Lib.hid hg4; clear hown4 hg4)
    go_ret
    have h4 := H4.out
    rw [Nat.zero_add, List.nil_append] at h4
    exact ⟨_, rfl, h4, HB.out.grown G4.out HB.out.size (fun r e => by cases e; exact Nat.le_refl _)⟩
/-- the places of keys behind the first m -/
def tailF (K : List ByteArray) (m : Nat) : Value → Option Value
  | .string s => (Wa.place (K.drop m) s).map fun (i : Nat) => Value.int .i64 ((i + m : Nat) : Int)
  | _ => none
theorem tailF_str (K : List ByteArray) (m : Nat) (s : ByteArray) : tailF K m (.string s) = (Wa.place (K.drop m) s).map fun (i : Nat) => Value.int .i64 ((i + m : Nat) : Int) := by simp only [tailF]
theorem tailF_zero (K : List ByteArray) (x : Value) : tailF K 0 x = placeF K x := by
  cases x <;> try rfl
theorem tailF_end (K : List ByteArray) (x : Value) : tailF K K.length x = none := by
  cases x <;> try rfl
  rename_i s
  rw [tailF_str, List.drop_length]
  rfl
theorem Wa.place_cons (k : ByteArray) (T : List ByteArray) (s : ByteArray) : Wa.place (k :: T) s = if k = s then some 0 else (Wa.place T s).map (· + 1) := by
  unfold Wa.place
  rw [List.findIdx?_cons]
  by_cases h : k = s
  · simp [h]
  · simp [h]
theorem tailF_step {K : List ByteArray} {m : Nat} (hm : m < K.length) (s : ByteArray) : tailF K m (.string s) = if K.getD m ByteArray.empty = s then some (.int .i64 (m : Int)) else tailF K (m + 1) (.string s) := by
  have e : K.drop m = K.getD m ByteArray.empty :: K.drop (m + 1) := by
    rw [List.drop_eq_getElem_cons hm, List.getD_eq_getElem?_getD, List.getElem?_eq_getElem hm]; rfl
  rw [tailF_str, tailF_str, e, Wa.place_cons]
  split
  · simp
  · rw [Option.map_map]
    congr 1
    funext i
    simp only [Function.comp_apply]
    rw [show i + 1 + m = i + (m + 1) from by omega]
/-- a generation's form -/
def formV (g : Int) (nb : Nat) : Value :=
  if g = 1 then .iface 80 (.agg #[.pointer (some ⟨nb, 0, none⟩)]) else if g = 2 then .iface 81 (.agg #[.pointer (some ⟨nb, 0, none⟩)]) else .iface 83 (.agg #[.pointer (some ⟨nb, 0, none⟩)])
/-- names that are made -/
structure Making (w0 w : World) (nb mb : Nat) (v : Value) (K : List ByteArray) (m : Nat) : Prop where
  cells : w.heap[nb]? = some (.cells #[v, .map (some mb)] 78 (0, 0))
  keys : w.ownsRow w0.heap.size 9 1 v K.length (rcells 1 (kx K) K.length)
  map : MapIs Try.prog 9 w mb (K.length - m) (tailF K m)
  nlo : w0.heap.size ≤ nb
  mlo : w0.heap.size ≤ mb
  bel : Below w0.heap.size w0 w
theorem Making.ne {w0 w : World} {nb mb : Nat} {v : Value} {K : List ByteArray} {m : Nat} (h : Making w0 w nb mb v K m) : nb ≠ mb := by
  rintro rfl
  obtain ⟨es, clock, hb, -⟩ := h.map
  rw [h.cells] at hb
  cases hb
theorem Making.put {w0 w w1 : World} {nb mb : Nat} {v : Value} {K : List ByteArray} {m : Nat} (h : Making w0 w nb mb v K (m + 1)) (hmap : MapIs Try.prog 9 w1 mb (K.length - (m + 1) + 1) (tailF K m)) (hm : m < K.length) (hg : w.drew.grownBy w1 (some mb)) : Making w0 w1 nb mb v K m := by
  have hne := h.ne
  obtain ⟨es, clock, hm0, -⟩ := h.map
  refine ⟨(hg.block nb (Array.getElem?_eq_some_iff.1 h.cells).1 (fun e => hne (by cases e; rfl))).trans h.cells, ?_, ?_, h.nlo, h.mlo, ?_⟩
  · exact row_kept (W := w.drew) h.keys hg (fun r e => by
      obtain rfl : mb = r := Option.some.inj e
      exact own_not h.keys hm0 (fun cs fr e => by cases e))
  · exact hmap.mono (by omega)
  · exact (h.bel.drew).grown hg h.bel.size (fun r e => by obtain rfl : mb = r := Option.some.inj e; exact h.mlo)
theorem formV_1 (nb : Nat) : formV 1 nb = .iface 80 (.agg #[.pointer (some ⟨nb, 0, none⟩)]) := rfl
theorem formV_2 (nb : Nat) : formV 2 nb = .iface 81 (.agg #[.pointer (some ⟨nb, 0, none⟩)]) := rfl
theorem formV_3 {g : Int} (h1 : g ≠ 1) (h2 : g ≠ 2) (nb : Nat) : formV g nb = .iface 83 (.agg #[.pointer (some ⟨nb, 0, none⟩)]) := by unfold formV; rw [if_neg h1, if_neg h2]
set_option maxRecDepth 100000 in
set_option maxHeartbeats 4000000 in
theorem formOf_any (g : Int) (A : Option Addr) (c : Nat) (K : List ByteArray) (hK : K.length ≤ 900000) (hks : ∀ k ∈ K, k.size ≤ maxLen) (hnone : A = none → K.length = 0 ∧ c = 0) (w : World) (hA : Row 1 (kx K) w A K.length) :
    Calls Try.prog 20 #[.int .i64 g, .slice A K.length c] w fun e w' => ∃ nb mb v, e = .returned (formV g nb) ∧ NamesIn w' w.heap.size nb mb v K ∧ Below w.heap.size w w' := by
  have HCL := Lib.hid (fun W (hW : Below w.heap.size w W) => cloneT_any A K.length c hK hnone (kx K) (kx_one K) W (hA.later hW))
  have hmm := fun (a : Int) U => run_makeMap_room (P := Try.prog) Try.underlying76 a U
  have HA := Lib.hid hA
  have HKS := Lib.hid hks
  clear hA hks
  go_enter Try.func20, Try.ntmps20
  go_wp2_with fail
  refine plain_T_cut (fun U => Below w.heap.size w U) [] (fun a0 a2 w2 => ∃ (v : Value) (mb nb : Nat), a2 = puts a0 [(some 7, .slice A K.length c), (some 8, v), (some 9, .slice A K.length c), (some 10, .int .i64 (K.length : Int)), (some 11, .map (some mb)), (some 12, .agg #[v, .map (some mb)]), (some 13, .pointer (some ⟨nb, 0, none⟩)), (some 5, .pointer (some ⟨nb, 0, none⟩))] ∧ Making w w2 nb mb v K K.length) (by kernel_rfl) ?_ ?_
  · have HD : Hid (Below w.heap.size w w.drew) := Lib.hid (Below.refl _ _).drew
    generalize w.drew = wd at HD ⊢
    refine wpAnyT_pick (S := (fun U => Below w.heap.size w U)) (by kernel_rfl) Only.panic Only.keepsIn (w := wd) HD.out [0, 2, 3] 5 _ _ (by kernel_rfl) ?_
    refine PickT.value (d := some 7) (.slice A K.length c) rfl rfl (by kernel_rfl) (fun U hU => (by go_simp)) ?_
    refine PickT.value (d := some 9) (.slice A K.length c) rfl rfl (by kernel_rfl) (fun U hU => (by go_simp)) ?_
    refine PickT.value (d := some 10) (.int .i64 (K.length : Int)) rfl rfl (by kernel_rfl) (fun U hU => (by go_simp)) ?_
    simp only [PickT, Act.put, List.setIfInBounds_toArray, List.set_cons_zero, List.set_cons_succ]
    refine wpAnyT_two (i := 1) (j := 4) (by kernel_rfl) rfl rfl (by kernel_rfl) (by kernel_rfl) ?_ ?_
    · intro K' hK; unfold Oper.wp
      go_simp
      refine (HCL.out _ HD.out).mono ?_; rintro e w2 ⟨v, rfl, hown, hb2⟩
      obtain ⟨A8, c8, rfl, -⟩ := own_row hown
      have HB2 := Lib.hid (HD.out.trans (hb2.mono HD.out.size))
      have HO := Lib.hid (own_from hown HD.out.size)
      clear hown hb2
      refine hK _ _ (fun _ => HB2.out) ?_
      clear hK K'
      refine wpAnyT_one (i := 4) (by kernel_rfl) rfl (by kernel_rfl) ?_
      intro K' hK
      unfold Oper.wp
      go_simp
      have hmi := MapIs.made w2 Try.prog 9
      have hb3 : Below w2.heap.size w2 (w2.alloc (.map #[] 0)) := (Below.refl _ _).alloc (Nat.le_refl _) _
      have hlo := HB2.out.size
      obtain ⟨mb, hmb⟩ : ∃ mb, mb = w2.heap.size := ⟨_, rfl⟩
      obtain ⟨w3, hw3⟩ : ∃ w3, w3 = w2.alloc (.map #[] 0) := ⟨_, rfl⟩
      rw [← hw3] at hb3 hmi ⊢
      rw [← hmb] at hmi hlo ⊢
      have HO3 := Lib.hid (row_far HO.out hb3)
      have HB3 := Lib.hid (HB2.out.trans (hb3.mono HB2.out.size))
      have HM3 := Lib.hid hmi; have HL := Lib.hid hlo
      clear hmi hb3 hlo hw3 hmb
      refine hK _ _ (fun _ => HB3.out) ?_
      clear hK K'
      refine wpAnyT_pick (S := (fun U => Below w.heap.size w U)) (by kernel_rfl) Only.panic Only.keepsIn (w := w3) HB3.out [5] 2 _ _ (by kernel_rfl) ?_
      refine PickT.value (d := some 12) (.agg #[.slice A8 K.length c8, .map (some mb)]) rfl rfl (by kernel_rfl) (fun U hU => (by go_simp)) ?_
      simp only [PickT, Act.put, List.setIfInBounds_toArray, List.set_cons_zero, List.set_cons_succ]
      refine wpAnyT_one (i := 6) (by kernel_rfl) rfl (by kernel_rfl) ?_
      intro K' hK
      unfold Oper.wp
      go_simp
      have hb4 : Below w3.heap.size w3 (w3.alloc (.cells #[.slice A8 K.length c8, .map (some mb)] 78)) := (Below.refl _ _).alloc (Nat.le_refl _) _
      have hnew := heap_alloc_new w3 (.cells #[.slice A8 K.length c8, .map (some mb)] 78)
      have HF := Lib.hid (Making.mk (w0 := w) (K := K) (m := K.length) hnew (row_far HO3.out hb4) (((HM3.out.kept (grown_of_below (row := none) hb4) (by simp)).congr (fun key l _ => tailF_end K key)).mono (Nat.zero_le _)) HB3.out.size HL.out (HB3.out.trans (hb4.mono HB3.out.size)))
      clear hb4 hnew
      refine hK _ _ (fun _ => HF.out.bel) ?_
      clear hK K'
      refine wpAnyT_pick (S := (fun U => Below w.heap.size w U)) (by kernel_rfl) Only.panic Only.keepsIn (w := _) HF.out.bel [7] 0 _ _ (by kernel_rfl) ?_
      refine PickT.value (d := some 5) (.pointer (some ⟨w3.heap.size, 0, none⟩)) rfl rfl (by kernel_rfl) (fun U hU => (by go_simp)) ?_
      simp only [PickT, Act.put, List.setIfInBounds_toArray]
      refine wpAnyT_done (by kernel_rfl) ?_ _
      refine only_mk ?_
      exact ⟨_, mb, w3.heap.size, by kernel_rfl, HF.out⟩
    · intro K' hK; unfold Oper.wp
      go_simp
      have hmi := MapIs.made wd Try.prog 9
      have hb3 : Below wd.heap.size wd (wd.alloc (.map #[] 0)) := (Below.refl _ _).alloc (Nat.le_refl _) _
      have hlo := HD.out.size
      obtain ⟨mb, hmb⟩ : ∃ mb, mb = wd.heap.size := ⟨_, rfl⟩
      obtain ⟨w3, hw3⟩ : ∃ w3, w3 = wd.alloc (.map #[] 0) := ⟨_, rfl⟩
      rw [← hw3] at hb3 hmi ⊢
      rw [← hmb] at hmi hlo ⊢
      have HB3 := Lib.hid (HD.out.trans (hb3.mono HD.out.size))
      have HM3 := Lib.hid hmi; have HL := Lib.hid hlo
      clear hmi hb3 hlo hw3 hmb
      refine hK _ _ (fun _ => HB3.out) ?_
      clear hK K'
      refine wpAnyT_one (i := 1) (by kernel_rfl) rfl (by kernel_rfl) ?_
      intro K' hK
      unfold Oper.wp
      go_simp
      refine (HCL.out _ HB3.out).mono ?_; rintro e w2 ⟨v, rfl, hown, hb2⟩
      obtain ⟨A8, c8, rfl, -⟩ := own_row hown
      have HB2 := Lib.hid (HB3.out.trans (hb2.mono HB3.out.size))
      have HO := Lib.hid (own_from hown HB3.out.size)
      have HM2 := Lib.hid (HM3.out.kept (grown_of_below (row := none) hb2) (by simp))
      clear hown hb2
      refine hK _ _ (fun _ => HB2.out) ?_
      clear hK K'
      refine wpAnyT_pick (S := (fun U => Below w.heap.size w U)) (by kernel_rfl) Only.panic Only.keepsIn (w := w2) HB2.out [5] 2 _ _ (by kernel_rfl) ?_
      refine PickT.value (d := some 12) (.agg #[.slice A8 K.length c8, .map (some mb)]) rfl rfl (by kernel_rfl) (fun U hU => (by go_simp)) ?_
      simp only [PickT, Act.put, List.setIfInBounds_toArray, List.set_cons_zero, List.set_cons_succ]
      refine wpAnyT_one (i := 6) (by kernel_rfl) rfl (by kernel_rfl) ?_
      intro K' hK
      unfold Oper.wp
      go_simp
      have hb4 : Below w2.heap.size w2 (w2.alloc (.cells #[.slice A8 K.length c8, .map (some mb)] 78)) := (Below.refl _ _).alloc (Nat.le_refl _) _
      have hnew := heap_alloc_new w2 (.cells #[.slice A8 K.length c8, .map (some mb)] 78)
      have HF := Lib.hid (Making.mk (w0 := w) (K := K) (m := K.length) hnew (row_far HO.out hb4) (((HM2.out.kept (grown_of_below (row := none) hb4) (by simp)).congr (fun key l _ => tailF_end K key)).mono (Nat.zero_le _)) HB2.out.size HL.out (HB2.out.trans (hb4.mono HB2.out.size)))
      clear hb4 hnew
      refine hK _ _ (fun _ => HF.out.bel) ?_
      clear hK K'
      refine wpAnyT_pick (S := (fun U => Below w.heap.size w U)) (by kernel_rfl) Only.panic Only.keepsIn (w := _) HF.out.bel [7] 0 _ _ (by kernel_rfl) ?_
      refine PickT.value (d := some 5) (.pointer (some ⟨w2.heap.size, 0, none⟩)) rfl rfl (by kernel_rfl) (fun U hU => (by go_simp)) ?_
      simp only [PickT, Act.put, List.setIfInBounds_toArray]
      refine wpAnyT_done (by kernel_rfl) ?_ _
      refine only_mk ?_
      exact ⟨_, mb, w2.heap.size, by kernel_rfl, HF.out⟩
  · rintro a2 w2 ⟨v, mb, nb, rfl, hmk⟩
    simp only [puts, Act.put, List.setIfInBounds_toArray, List.set_cons_zero, List.set_cons_succ]
    have HM := Lib.hid hmk
    clear hmk HCL hmm
    have s1 : IntKind.i64.wrap ((K.length : Int) - 1) = (K.length : Int) - 1 := IntWalk.i64_in _ (by omega)
    have s2 : wrap64 ((K.length : Int) - 1) = (K.length : Int) - 1 := IntWalk.wrap64_in _ ⟨by omega, by omega⟩
    refine only_mk ?_
    go_wp2_with fail
    go_loopw [6] (fun i6 wr => ∃ m : Nat, m ≤ K.length ∧ i6 = .int .i64 ((m : Int) - 1) ∧ Making w wr nb mb v K m) (fun i6 _ => (intOf i6 + 1).toNat)
    case atStart => exact ⟨K.length, Nat.le_refl _, rfl, HM.out⟩
    case round =>
      obtain ⟨m, hm, rfl, hmk⟩ := hrel
      have HMK := Lib.hid hmk
      clear hmk s1 s2
      by_cases h0 : m = 0
      · subst h0
        have d1 : decide ((((0 : Nat) : Int) - 1) ≥ 0) = false := by decide
        have d2 : decide (0 ≤ (((0 : Nat) : Int) - 1)) = false := by decide
        have HNI : Hid (NamesIn wr w.heap.size nb mb v K) := Lib.hid ⟨HMK.out.cells, HMK.out.keys, (HMK.out.map.congr (fun key l _ => (tailF_zero K key).symm)).mono (by omega), HMK.out.nlo, HMK.out.mlo⟩
        by_cases h1 : g = 1
        · subst h1
          go_wp2_with fail
          go_ret
          exact ⟨nb, mb, v, rfl, HNI.out, HMK.out.bel⟩
        · by_cases h2 : g = 2
          · have e1 : decide (g = 1) = false := decide_eq_false h1
            subst h2
            go_wp2_with fail
            go_ret
            exact ⟨nb, mb, v, rfl, HNI.out, HMK.out.bel⟩
          · have e1 : decide (g = 1) = false := decide_eq_false h1
            have e2 : decide (g = 2) = false := decide_eq_false h2
            have e3 : (g == 1) = false := beq_eq_false_iff_ne.2 h1
            have e4 : (g == 2) = false := beq_eq_false_iff_ne.2 h2
            have HF3 := Lib.hid (formV_3 h1 h2 nb)
            clear h1 h2
            go_wp2_with fail
            go_ret
            exact ⟨nb, mb, v, congrArg Ending.returned HF3.out.symm, HNI.out, HMK.out.bel⟩
      · obtain ⟨j, rfl⟩ : ∃ j, m = j + 1 := ⟨m - 1, by omega⟩
        have e0 : (((j + 1 : Nat) : Int) - 1) = (j : Int) := by omega
        rw [e0]
        clear e0 h0
        have hjl : j < K.length := hm
        have i0 : (0 : Int) ≤ (j : Int) := Int.natCast_nonneg _
        have d2 : decide ((j : Int) ≥ 0) = true := decide_eq_true i0
        have d3 : decide (0 ≤ (j : Int)) = true := decide_eq_true i0
        have i1 : (j : Int) < (K.length : Int) := by omega
        have d1 : decide ((j : Int) < (K.length : Int)) = true := decide_eq_true i1
        obtain ⟨ad, rfl, x0, -⟩ := HA.out.at_ HMK.out.bel hjl
        have y0 : wr.cell? (ad.add j) = some (.string (K.getD j ByteArray.empty)) := by
          have := x0 (by decide)
          rwa [Nat.mul_one] at this
        have c1 := cell_of_row _ _ 1 _ _ _ HMK.out.cells
        simp only [List.getElem?_toArray, List.getElem?_cons_zero, List.getElem?_cons_succ] at c1
        have hkz : (K.getD j ByteArray.empty).size ≤ maxLen := by
          rw [List.getD_eq_getElem?_getD, List.getElem?_eq_getElem hjl]
          exact HKS.out _ (List.getElem_mem hjl)
        obtain ⟨w5, hrun, hmap, hgr, hsz⟩ := HMK.out.map.drew.put wlaw (t := 76) (e := 3) Try.underlying76 (key := .string (K.getD j ByteArray.empty)) (val := .int .i64 (j : Int)) (wkey hkz) (tailF K j)
          (by rw [tailF_step hjl, if_pos rfl])
          (fun x hx => by
            cases x <;> try rfl
            rename_i s
            rw [tailF_step hjl, if_neg (fun e => hx (by rw [e]))])
        have HM5 := Lib.hid (HMK.out.put hmap hjl hgr)
        obtain ⟨k, hk⟩ : ∃ k, k = K.getD j ByteArray.empty := ⟨_, rfl⟩
        rw [← hk] at y0 hrun
        clear hmap hgr hsz x0 hkz hk
        go_wp2_with fail
        go_region
        go_wp2_with fail
        go_roundw
        case rel => exact ⟨j, by omega, by go_num, HM5.out⟩
        case measure => simp [intOf]
end Go.Proofs.Ytaillfnmaiiapaa
