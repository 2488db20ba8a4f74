import Derived.Test.YtidfanmfibbiiaaTrE
import Derived.Laws.OwnMore
/-
  Series of the call's own: a row, and in it rows that lie apart.
-/
namespace Go.Proofs.Ytidfanmfibbiiaa
open Go.RowKit
/-- a row of the call's own where nothing of it was written -/
theorem row_kept {W W2 : World} {base e k n : Nat} {v : Value} {xs : List Value} {row : Option Nat} (h : W.ownsRow base e k v n xs) (hg : W.grownBy W2 row) (hr : ∀ r, row = some r → v.ownBlock ≠ some r) : W2.ownsRow base e k v n xs := by
  refine ⟨h.1, ?_⟩
  rcases h.2 with h0 | ⟨g, cap, cur, rfl, hb, hc, hx⟩
  · exact Or.inl h0
  · refine Or.inr ⟨g, cap, cur, rfl, hb, (hg.block g (Array.getElem?_eq_some_iff.1 hc).1 (fun e1 => ?_)).trans hc, hx⟩
    exact hr g e1.symm rfl
theorem row_far {W W2 : World} {base e k n : Nat} {v : Value} {xs : List Value} (h : W.ownsRow base e k v n xs) (hb : Below W.heap.size W W2) : W2.ownsRow base e k v n xs := row_kept h (grown_of_below (row := none) hb) (fun r e => by cases e)
/-- two rows of two types lie apart -/
theorem row_apart {W : World} {b1 b2 e1 e2 k1 k2 n1 n2 : Nat} {v1 v2 : Value} {x1 x2 : List Value} (h1 : W.ownsRow b1 e1 k1 v1 n1 x1) (h2 : W.ownsRow b2 e2 k2 v2 n2 x2) (hne : e1 ≠ e2) {r : Nat} (hr : v2.ownBlock = some r) : v1.ownBlock ≠ some r := by
  intro h
  rcases h1.2 with ⟨rfl, -⟩ | ⟨g1, c1, cur1, rfl, -, hc1, -⟩
  · cases h
  · rcases h2.2 with ⟨rfl, -⟩ | ⟨g2, c2, cur2, rfl, -, hc2, -⟩
    · cases hr
    · have a : some g1 = some r := h
      have b : some g2 = some r := hr
      cases a
      cases b
      rw [hc1] at hc2
      cases hc2
      exact hne rfl
/-- a series of the call's own -/
structure OwnSer (W : World) (base : Nat) (q : SerAt) : Prop where
  labo : W.ownsRow base 60 2 (.slice q.la q.ln q.lc) q.ln (rcells 2 (lx q.f) q.ln)
  samo : W.ownsRow base 51 2 (.slice q.sa q.sn q.sc) q.sn (rcells 2 (sx q.s) q.sn)
  lsize : ∀ i, i < q.ln → (q.f i).1.size ≤ 300 ∧ (q.f i).2.size ≤ 300
  lfew : q.ln ≤ 1000
  sfew : q.sn ≤ 1000
theorem OwnSer.kept {W W2 : World} {base : Nat} {q : SerAt} {row : Option Nat} (h : OwnSer W base q) (hg : W.grownBy W2 row) (h1 : ∀ r, row = some r → (Value.slice q.la q.ln q.lc).ownBlock ≠ some r) (h2 : ∀ r, row = some r → (Value.slice q.sa q.sn q.sc).ownBlock ≠ some r) : OwnSer W2 base q :=
  ⟨row_kept h.labo hg h1, row_kept h.samo hg h2, h.lsize, h.lfew, h.sfew⟩
theorem OwnSer.far {W W2 : World} {base : Nat} {q : SerAt} (h : OwnSer W base q) (hb : Below W.heap.size W W2) : OwnSer W2 base q := ⟨row_far h.labo hb, row_far h.samo hb, h.lsize, h.lfew, h.sfew⟩
theorem OwnSer.ser_in {W : World} {base : Nat} {q : SerAt} (h : OwnSer W base q) : SerIn W q := by
  obtain ⟨A, c, e, -, -, h1, h2⟩ := own_row h.labo
  obtain ⟨B, d, e2, -, -, h3, h4⟩ := own_row h.samo
  cases e
  cases e2
  exact ⟨LabRow.of_row h2, h1, h.lsize, h.lfew, h4, h3, h.sfew⟩
/-- .. a row of them -/
structure WorkRows (W : World) (base : Nat) (v : Value) (n : Nat) (q : Nat → SerAt) : Prop where
  own : W.ownsRow base 48 3 v n (rcells 3 (rx q) n)
  few : n ≤ 1000
  each : ∀ i, i < n → OwnSer W base (q i)
  apart : ∀ i j, i < n → j < n → i ≠ j → ∀ r, (Value.slice (q j).sa (q j).sn (q j).sc).ownBlock = some r → (Value.slice (q i).sa (q i).sn (q i).sc).ownBlock ≠ some r
theorem WorkRows.far {W W2 : World} {base : Nat} {v : Value} {n : Nat} {q : Nat → SerAt} (h : WorkRows W base v n q) (hb : Below W.heap.size W W2) : WorkRows W2 base v n q := ⟨row_far h.own hb, h.few, fun i hi => (h.each i hi).far hb, h.apart⟩
theorem WorkRows.sers {W : World} {base : Nat} {v : Value} {n : Nat} {q : Nat → SerAt} (h : WorkRows W base v n q) : ∃ A c, v = .slice A n c ∧ Sers W A n c q := by
  obtain ⟨A, c, e, -, -, h1, h2⟩ := own_row h.own
  exact ⟨A, c, e, h2, h1, h.few, fun i hi => (h.each i hi).ser_in⟩
/-- a write into a block of another type -/
theorem WorkRows.kept {W W2 : World} {base : Nat} {v : Value} {n : Nat} {q : Nat → SerAt} {g : Nat} {cs : Array Value} {T : TypeId} {fr : Nat × Nat} (h : WorkRows W base v n q) (hc : W.heap[g]? = some (.cells cs T fr)) (hL : T ≠ 60) (hS : T ≠ 51) (hR : T ≠ 48) (hg : W.grownBy W2 (some g)) : WorkRows W2 base v n q := by
  have key : ∀ {e k m : Nat} {u : Value} {xs : List Value}, W.ownsRow base e k u m xs → T ≠ e → ∀ r, some g = some r → u.ownBlock ≠ some r := by
    intro e k m u xs ho hne r e1 e2
    cases e1
    rcases ho.2 with ⟨rfl, -⟩ | ⟨g1, c1, cur1, rfl, -, hc1, -⟩
    · cases e2
    · have a : some g1 = some g := e2
      cases a
      rw [hc] at hc1
      cases hc1
      exact hne rfl
  exact ⟨row_kept h.own hg (key h.own hR), h.few, fun i hi => (h.each i hi).kept hg (key (h.each i hi).labo hL) (key (h.each i hi).samo hS), h.apart⟩
/-- a cell of a row written -/
theorem rcells_set (k : Nat) (x y : Nat → Nat → Value) (n i j : Nat) (hj : j < k) (u : Value) (hu : y i j = u) (ho : ∀ a b, a < n → b < k → (a ≠ i ∨ b ≠ j) → y a b = x a b) : (rcells k x n).set (i * k + j) u = rcells k y n := by
  apply List.ext_getElem?
  intro m
  have hk : 0 < k := Nat.lt_of_le_of_lt (Nat.zero_le _) hj
  by_cases hm : m < n * k
  · have h1 : m / k < n := (Nat.div_lt_iff_lt_mul hk).2 hm
    have h2 : m % k < k := Nat.mod_lt _ hk
    have h3 : m / k * k + m % k = m := by rw [Nat.mul_comm]; exact Nat.div_add_mod m k
    have gx := rcells_get k x n (m / k) (m % k) h1 h2
    have gy := rcells_get k y n (m / k) (m % k) h1 h2
    rw [h3] at gx gy
    rw [List.getElem?_set, gx, gy]
    by_cases he : i * k + j = m
    · rw [if_pos he, if_pos (by rw [rcells_length, he]; exact hm)]
      have e1 : m / k = i := by rw [← he, Nat.mul_comm, Nat.mul_add_div hk, Nat.div_eq_of_lt hj, Nat.add_zero]
      have e2 : m % k = j := by rw [← he, Nat.mul_comm, Nat.mul_add_mod, Nat.mod_eq_of_lt hj]
      rw [e1, e2, hu]
    · rw [if_neg he, ho _ _ h1 h2]
      by_cases e1 : m / k = i
      · right
        intro e2
        exact he (by rw [← e1, ← e2]; exact h3)
      · exact Or.inl e1
  · rw [List.getElem?_eq_none (by rw [List.length_set, rcells_length]; omega), List.getElem?_eq_none (by rw [rcells_length]; omega)]
end Go.Proofs.Ytidfanmfibbiiaa
/-
  What begin comes to: a copy of a state, at work.
-/
namespace Go.Proofs.Ytidfanmfibbiiaa
open Go.RowKit
/-- the first so many of a row copied -/
def mix (q' q : Nat → SerAt) (k i : Nat) : SerAt := if i < k then q' i else q i
structure Alike (a b : SerAt) : Prop where
  f : a.f = b.f
  ln : a.ln = b.ln
  s : a.s = b.s
  sn : a.sn = b.sn
  last : a.last = b.last
structure Cloned (W : World) (base : Nat) (v : Value) (n k : Nat) (q q' : Nat → SerAt) : Prop where
  own : W.ownsRow base 48 3 v n (rcells 3 (rx (mix q' q k)) n)
  each : ∀ i, i < k → OwnSer W base (q' i)
  apart : ∀ i j, i < k → j < k → i ≠ j → ∀ r, (Value.slice (q' j).sa (q' j).sn (q' j).sc).ownBlock = some r → (Value.slice (q' i).sa (q' i).sn (q' i).sc).ownBlock ≠ some r
  same : ∀ i, i < k → Alike (q' i) (q i)
theorem Cloned.far {W W2 : World} {base : Nat} {v : Value} {n k : Nat} {q q' : Nat → SerAt} (h : Cloned W base v n k q q') (hb : Below W.heap.size W W2) : Cloned W2 base v n k q q' := ⟨row_far h.own hb, fun i hi => (h.each i hi).far hb, h.apart, h.same⟩
/-- what holds while a series is copied -/
structure BeginS (w : World) (b xb : Nat) (wc xc : Array Value) (U : World) : Prop where
  bel : Below w.heap.size w U
  wk : U.heap[b]? = some (.cells wc 70 (0, 0))
  xk : U.heap[xb]? = some (.cells xc 48 (0, 0))
theorem BeginS.far {w : World} {b xb : Nat} {wc xc : Array Value} {U V : World} (h : BeginS w b xb wc xc U) (hb : Below U.heap.size U V) : BeginS w b xb wc xc V := ⟨below_step h.bel hb, heap_keep h.wk hb, heap_keep h.xk hb⟩
theorem BeginS.set {w : World} {b xb g : Nat} {wc xc : Array Value} {U : World} (h : BeginS w b xb wc xc U) (h1 : b ≠ g) (h2 : xb ≠ g) (h3 : w.heap.size ≤ g) (j : Nat) (v : Value) : BeginS w b xb wc xc (U.setCell ⟨g, j, none⟩ v) :=
  ⟨h.bel.grown (grown_setCell U g j v) h.bel.size (fun r e => by cases e; exact h3), ((grown_setCell U g j v).block b (Array.getElem?_eq_some_iff.1 h.wk).1 (fun e => by cases e; exact h1 rfl)).trans h.wk, ((grown_setCell U g j v).block xb (Array.getElem?_eq_some_iff.1 h.xk).1 (fun e => by cases e; exact h2 rfl)).trans h.xk⟩
/-- the work's cells -/
def workCells (v : Value) (fl : Int) (m : Value) (op : List Value) (gen : Int) (err n : Int) (ser recs : Value) : Array Value := ([v, .int .i64 fl, m] ++ op ++ [.int .i64 gen, .int .i64 err, .int .i64 n, ser, recs]).toArray
def op0 : List Value := [.int .i64 0, .slice none 0 0, .slice none 0 0, .int .i64 0, .int .i64 0, .int .u64 0, .int .i64 0]
theorem rcells_congr {k n : Nat} {x y : Nat → Nat → Value} (h : ∀ i j, i < n → j < k → x i j = y i j) : rcells k x n = rcells k y n := by
  unfold rcells
  have : ∀ m, m ≤ n → (List.range m).flatMap (fun i => (List.range k).map (x i)) = (List.range m).flatMap (fun i => (List.range k).map (y i)) := by
    intro m
    induction m with
    | zero => intro _; rfl
    | succ m ih =>
      intro hm
      rw [List.range_succ, List.flatMap_append, List.flatMap_append, ih (by omega)]
      have e : (List.range k).map (x m) = (List.range k).map (y m) := List.map_congr_left (fun j hj => h m j (by omega) (List.mem_range.1 hj))
      simp only [List.flatMap_cons, List.flatMap_nil, e]
  exact this n (Nat.le_refl _)
/-- one more copied -/
def put1 (q' q : Nat → SerAt) (k : Nat) (A : Option Addr) (c : Nat) (B : Option Addr) (d : Nat) (i : Nat) : SerAt := if i = k then ⟨A, (q k).ln, c, (q k).f, B, (q k).sn, d, (q k).s, (q k).last⟩ else q' i
theorem cloned_step {W : World} {base base2 : Nat} {v : Value} {n k : Nat} {q q' : Nat → SerAt} {A B : Option Addr} {c d : Nat} (hk : k < n)
    (ha : ∀ i j, i < k → j < k → i ≠ j → ∀ r, (Value.slice (q' j).sa (q' j).sn (q' j).sc).ownBlock = some r → (Value.slice (q' i).sa (q' i).sn (q' i).sc).ownBlock ≠ some r)
    (hs : ∀ i, i < k → Alike (q' i) (q i))
    (hr : W.ownsRow base 48 3 v n (((rcells 3 (rx (mix q' q k)) n).set (k * 3) (.slice A (q k).ln c)).set (k * 3 + 1) (.slice B (q k).sn d)))
    (hl : W.ownsRow base 60 2 (.slice A (q k).ln c) (q k).ln (rcells 2 (lx (q k).f) (q k).ln))
    (ho : W.ownsRow base2 51 2 (.slice B (q k).sn d) (q k).sn (rcells 2 (sx (q k).s) (q k).sn)) (hb : base ≤ base2)
    (hlt : ∀ i, i < k → ∀ r, (Value.slice (q' i).sa (q' i).sn (q' i).sc).ownBlock = some r → r < base2)
    (he : ∀ i, i < k → OwnSer W base (q' i)) (h1 : ∀ i, i < (q k).ln → ((q k).f i).1.size ≤ 300 ∧ ((q k).f i).2.size ≤ 300) (h2 : (q k).ln ≤ 1000) (h3 : (q k).sn ≤ 1000) :
    Cloned W base v n (k + 1) q (put1 q' q k A c B d) := by
  have ek : put1 q' q k A c B d k = ⟨A, (q k).ln, c, (q k).f, B, (q k).sn, d, (q k).s, (q k).last⟩ := by unfold put1; rw [if_pos rfl]
  have ei : ∀ i, i ≠ k → put1 q' q k A c B d i = q' i := fun i hi => by unfold put1; rw [if_neg hi]
  have mk : mix (put1 q' q k A c B d) q (k + 1) k = ⟨A, (q k).ln, c, (q k).f, B, (q k).sn, d, (q k).s, (q k).last⟩ := by unfold mix; rw [if_pos (by omega), ek]
  have mi : ∀ i, i ≠ k → mix (put1 q' q k A c B d) q (k + 1) i = mix q' q k i := fun i hi => by
    unfold mix
    by_cases h : i < k
    · rw [if_pos (by omega), if_pos h, ei i hi]
    · rw [if_neg (by omega), if_neg h]
  have m0 : mix q' q k k = q k := by unfold mix; rw [if_neg (Nat.lt_irrefl k)]
  refine ⟨?_, fun i hi => ?_, fun i j hi hj hij r hr2 => ?_, fun i hi => ?_⟩
  · have e1 : (rcells 3 (rx (mix q' q k)) n).set (k * 3) (.slice A (q k).ln c) = rcells 3 (fun a b => if a = k ∧ b = 0 then .slice A (q k).ln c else rx (mix q' q k) a b) n :=
      rcells_set 3 _ _ n k 0 (by omega) _ (by simp) (fun a b _ _ h => by
        rw [if_neg]
        rintro ⟨rfl, rfl⟩
        rcases h with h | h <;> exact h rfl)
    have e2 : (rcells 3 (fun a b => if a = k ∧ b = 0 then .slice A (q k).ln c else rx (mix q' q k) a b) n).set (k * 3 + 1) (.slice B (q k).sn d) = rcells 3 (rx (mix (put1 q' q k A c B d) q (k + 1))) n :=
      rcells_set 3 _ _ n k 1 (by omega) _ (by unfold rx; rw [mk]; rfl) (fun a b _ hb3 h => by
        by_cases ea : a = k
        · subst ea
          rcases (show b = 0 ∨ b = 1 ∨ b = 2 by omega) with rfl | rfl | rfl
          · rw [if_pos ⟨rfl, rfl⟩]; unfold rx; rw [mk]; rfl
          · rcases h with h | h <;> exact absurd rfl h
          · rw [if_neg (by omega)]; unfold rx; rw [mk, m0]; rfl
        · rw [if_neg (fun h => ea h.1)]
          unfold rx
          rw [mi a ea])
    rw [← e2, ← e1]
    exact hr
  · by_cases e : i = k
    · subst e
      rw [ek]
      exact ⟨hl, own_from ho hb, h1, h2, h3⟩
    · rw [ei i e]
      exact he i (by omega)
  · by_cases e : i = k
    · subst e
      rw [ei j (fun e => hij e.symm)] at hr2
      rw [ek]
      intro e2
      have := (ho.lt r e2).1
      have := hlt j (by omega) r hr2
      omega
    · by_cases e2 : j = k
      · subst e2
        rw [ek] at hr2
        rw [ei i e]
        intro e3
        have := (ho.lt r hr2).1
        have := hlt i (by omega) r e3
        omega
      · rw [ei j e2] at hr2
        rw [ei i e]
        exact ha i j (by omega) (by omega) hij r hr2
  · by_cases e : i = k
    · subst e
      rw [ek]
      exact ⟨rfl, rfl, rfl, rfl, rfl⟩
    · rw [ei i e]
      exact hs i (by omega)
set_option maxRecDepth 100000 in
set_option maxHeartbeats 4000000 in
theorem begin_any (A : Option Addr) (n c : Nat) (q : Nat → SerAt) (fl : Int) (w : World) (hA : Sers w A n c q) :
    Calls Try.prog 21 #[.agg #[.slice A n c, .int .i64 fl]] w fun e w' => ∃ b v mb q', e = .returned (.pointer (some ⟨b, 0, none⟩)) ∧ w.heap.size ≤ b ∧ w.heap.size ≤ mb ∧ w'.heap[b]? = some (.cells (workCells v fl (.map (some mb)) op0 0 0 0 (.slice none 0 0) (.slice none 0 0)) 70 (0, 0)) ∧
      WorkRows w' w.heap.size v n q' ∧ MapIs Try.prog 100 w' mb n (firstK (keysOf q') n n) ∧ (∀ i, i < n → Alike (q' i) (q i)) ∧ Below w.heap.size w w' := by
  have hn := hA.few
  obtain ⟨w1, hw1⟩ : ∃ w1, w1 = w.alloc (.cells #[.slice A n c, .int .i64 fl] 28) := ⟨_, rfl⟩
  have hb1 : Below w.heap.size w w1 := by rw [hw1]; exact (Below.refl _ _).alloc (Nat.le_refl _) _
  have hc1 : w1.heap[w.heap.size]? = some (.cells #[.slice A n c, .int .i64 fl] 28 (0, 0)) := by rw [hw1]; exact heap_alloc_new w _
  have HA := Lib.hid (hA.later hb1)
  have HB1 := Lib.hid hb1; have HC1 := Lib.hid hc1
  have HCL := Lib.hid (fun W (hb : Below w1.heap.size w1 W) => cloneR_any A n c hn (hA.later hb1).none (rx q) (rx_one q) W ((hA.later hb1).row.later hb))
  have HA0 := Lib.hid hA
  clear hA hb1 hc1
  go_enter Try.func21, Try.ntmps21
  go_wp2_with fail
  rw [← hw1]
  clear hw1
  refine plain_held (fun U => Below w1.heap.size w1 U) (by kernel_rfl) ?_
  have HD : Hid (Below w1.heap.size w1 w1.drew) := Lib.hid (Below.refl _ _).drew
  generalize w1.drew = wd at HD ⊢
  refine wpAnyH_pickQ (S := fun U => Below w1.heap.size w1 U) (by kernel_rfl) Only.panic Only.keepsIn (w := wd) HD.out [0, 1, 2, 3] 5 _ _ (by kernel_rfl) ?_
  refine PickQ.value (d := some 6) (.pointer (some ⟨w.heap.size, 1, none⟩)) rfl rfl (by kernel_rfl) (fun U hU => (by go_simp)) ?_
  refine PickQ.value (d := some 7) (.int .i64 fl) rfl rfl (by kernel_rfl) (fun U hU => (by have h0 : U.cell? ⟨w.heap.size, 1, none⟩ = some (.int .i64 fl) := cell_of_row _ _ _ _ _ _ (heap_keep HC1.out hU); go_simp)) ?_
  refine PickQ.value (d := some 8) (.pointer (some ⟨w.heap.size, 0, none⟩)) rfl rfl (by kernel_rfl) (fun U hU => (by go_simp)) ?_
  refine PickQ.value (d := some 9) (.slice A n c) rfl rfl (by kernel_rfl) (fun U hU => (by have h0 : U.cell? ⟨w.heap.size, 0, none⟩ = some (.slice A n c) := cell_of_row _ _ _ _ _ _ (heap_keep HC1.out hU); go_simp)) ?_
  simp only [PickQ, Act.put, List.setIfInBounds_toArray, List.set_cons_zero, List.set_cons_succ]
  refine wpAnyH_one (i := 4) (by kernel_rfl) rfl (by kernel_rfl) ?_
  intro K hK
  unfold Oper.wp
  go_simp
  refine (HCL.out _ HD.out).mono ?_; rintro e w2 ⟨v, rfl, hown, hb2⟩
  obtain ⟨A1, c1, rfl, -, -, -, -⟩ := own_row hown
  have HO := Lib.hid hown
  have HB2 := Lib.hid (below_step HD.out hb2); clear hb2 hown
  refine hK _ _ HB2.out (fun _ => ?_)
  clear hK K
  refine wpAnyH_one (i := 5) (by kernel_rfl) rfl (by kernel_rfl) ?_
  intro K hK
  unfold Oper.wp
  go_simp
  refine hK _ _ HB2.out (fun _ => ?_)
  clear hK K
  refine wpAnyH_one (i := 6) (by kernel_rfl) rfl (by kernel_rfl) ?_
  intro K hK
  unfold Oper.wp
  go_simp
  refine hK _ _ HB2.out (fun _ => ?_)
  clear hK K
  refine wpAnyH_one (i := 7) (by kernel_rfl) rfl (by kernel_rfl) ?_
  intro K hK
  unfold Oper.wp
  go_simp
  obtain ⟨w3, hw3⟩ : ∃ w3, w3 = w2.alloc (.cells #[.slice A1 n c1, .int .i64 fl, .map none, .int .i64 0, .slice none 0 0, .slice none 0 0, .int .i64 0, .int .i64 0, .int .u64 0, .int .i64 0, .int .i64 0, .int .i64 0, .int .i64 0, .slice none 0 0, .slice none 0 0] 70) := ⟨_, rfl⟩
  have hbz : w.heap.size ≤ w2.heap.size := Nat.le_trans HB1.out.size HB2.out.size
  have HB3 : Hid (Below w1.heap.size w1 w3) := Lib.hid (by rw [hw3]; exact HB2.out.alloc HB2.out.size _)
  have HBW3 := Lib.hid (below_step HB1.out HB3.out)
  have HW3 : Hid (w3.heap[w2.heap.size]? = some (.cells (workCells (.slice A1 n c1) fl (.map none) op0 0 0 0 (.slice none 0 0) (.slice none 0 0)) 70 (0, 0))) := Lib.hid (by rw [hw3]; exact heap_alloc_new w2 _)
  have HCN : Hid (Cloned w3 w.heap.size (.slice A1 n c1) n 0 q q) := Lib.hid ⟨by
    have e : mix q q 0 = q := by funext i; rfl
    rw [e, hw3]
    exact (own_from HO.out (Nat.le_trans HB1.out.size HD.out.size)).alloc _, fun i hi => by omega, fun i j hi => by omega, fun i hi => by omega⟩
  rw [← hw3]
  refine hK _ _ HB3.out (fun _ => ?_)
  clear hK K hw3 HO HCL HC1 HB2 HD
  refine wpAnyH_one (i := 8) (by kernel_rfl) rfl (by kernel_rfl) ?_
  intro K hK
  unfold Oper.wp
  go_simp
  refine hK _ _ HB3.out (fun _ => ?_)
  clear hK K
  refine wpAnyH_done (by kernel_rfl) ?_ _
  refine Only.next ?_
  have z0 : w3.cell? ⟨w2.heap.size, 0, none⟩ = some (.slice A1 n c1) := cell_of_row _ _ _ _ _ _ HW3.out
  generalize hb : w2.heap.size = b at *
  clear hb
  go_wp2_with fail
  clear z0
  go_loopw [4, 5, 20] (fun _ _ i wr => ∃ (k : Nat) (q' : Nat → SerAt), k ≤ n ∧ i = .int .i64 k ∧ wr.heap[b]? = some (.cells (workCells (.slice A1 n c1) fl (.map none) op0 0 0 0 (.slice none 0 0) (.slice none 0 0)) 70 (0, 0)) ∧ Cloned wr w.heap.size (.slice A1 n c1) n k q q' ∧ Below w.heap.size w wr) (fun _ _ i _ => n - (intOf i).toNat)
  case atStart => exact ⟨0, q, by omega, rfl, HW3.out, HCN.out, HBW3.out⟩
  case round =>
    obtain ⟨k, q', hk, rfl, hw, hcl, hb⟩ := hrel
    have HW := Lib.hid hw; have HC := Lib.hid hcl; have HB := Lib.hid hb; clear hw hcl hb HW3 HCN HBW3 HB3
    by_cases hlt : k < n
    · have hown := HC.out.own
      obtain ⟨g, rfl⟩ : ∃ g, A1 = some ⟨g, 0, none⟩ := by
        rcases hown.2 with ⟨-, h0⟩ | ⟨g, cap, cur, e, -⟩
        · omega
        · cases e
          exact ⟨g, rfl⟩
      have em : mix q' q k k = q k := by unfold mix; rw [if_neg (Nat.lt_irrefl k)]
      have hcell : ∀ j, j < 3 → wr.cell? ⟨g, k * 3 + j, none⟩ = some (rx q k j) := fun j hj => by
        rw [World.ownsRow.cellAt hown _ (by omega), rcells_get 3 _ n k j hlt hj]
        unfold rx
        rw [em]
      have x0 : wr.cell? ⟨g, k * 3, none⟩ = some (.slice (q k).la (q k).ln (q k).lc) := hcell 0 (by omega)
      have x1 : wr.cell? ⟨g, k * 3 + 1, none⟩ = some (.slice (q k).sa (q k).sn (q k).sc) := hcell 1 (by omega)
      have x2 : wr.cell? ⟨g, k * 3 + 2, none⟩ = some (.int .i64 (q k).last) := hcell 2 (by omega)
      have i1 : (k : Int) < (n : Int) := by omega
      have i0 : (0 : Int) ≤ (k : Int) := by omega
      have d1 : decide ((k : Int) < (n : Int)) = true := decide_eq_true i1
      have HS := Lib.hid (fun W (hb : Below w.heap.size w W) => cloneL_any (q k).la (q k).ln (q k).lc (HA0.out.each k hlt).lfew (HA0.out.each k hlt).lnone (lx (q k).f) (lx_one _) W (Row.later (LabRow.row (HA0.out.each k hlt).labs) hb))
      have HT := Lib.hid (fun W (hb : Below w.heap.size w W) => cloneS_any (q k).sa (q k).sn (q k).sc (HA0.out.each k hlt).sfew (HA0.out.each k hlt).snone (sx (q k).s) (sx_one _) W ((HA0.out.each k hlt).sams.later hb))
      clear hown em hcell
      go_wp2_with fail
      obtain ⟨w8, hw8⟩ : ∃ w8, w8 = wr.alloc (.cells #[.slice (q k).la (q k).ln (q k).lc, .slice (q k).sa (q k).sn (q k).sc, .int .i64 (q k).last] 48) := ⟨_, rfl⟩
      obtain ⟨xb, hxb⟩ : ∃ xb, xb = wr.heap.size := ⟨_, rfl⟩
      have hg0 : w.heap.size ≤ g ∧ g < wr.heap.size := by have := HC.out.own.lt g rfl; exact this
      have hbg : b ≠ g := by
        rintro rfl
        rcases HC.out.own.2 with ⟨e, -⟩ | ⟨g1, cap, cur, e, -, hc, -⟩
        · cases e
        · cases e
          have := HW.out
          rw [hc] at this
          cases this
      have HG := Lib.hid (show b ≠ g ∧ xb ≠ g ∧ w.heap.size ≤ g by exact ⟨hbg, by omega, hg0.1⟩)
      have hR8 : Below wr.heap.size wr w8 := by rw [hw8]; exact (Below.refl _ _).alloc (Nat.le_refl _) _
      have HS8 : Hid (BeginS w b xb (workCells (.slice (some ⟨g, 0, none⟩) n c1) fl (.map none) op0 0 0 0 (.slice none 0 0) (.slice none 0 0)) #[.slice (q k).la (q k).ln (q k).lc, .slice (q k).sa (q k).sn (q k).sc, .int .i64 (q k).last] w8) := Lib.hid ⟨below_step HB.out hR8, heap_keep HW.out hR8, by rw [hw8, hxb]; exact heap_alloc_new wr _⟩
      have HC8 := Lib.hid (HC.out.far hR8)
      rw [← hw8, ← hxb]
      clear hw8 x0 x1 x2 hR8 hxb hg0 hbg
      refine plain_held (BeginS w b xb (workCells (.slice (some ⟨g, 0, none⟩) n c1) fl (.map none) op0 0 0 0 (.slice none 0 0) (.slice none 0 0)) #[.slice (q k).la (q k).ln (q k).lc, .slice (q k).sa (q k).sn (q k).sc, .int .i64 (q k).last]) (by kernel_rfl) ?_
      have HD : Hid (BeginS w b xb (workCells (.slice (some ⟨g, 0, none⟩) n c1) fl (.map none) op0 0 0 0 (.slice none 0 0) (.slice none 0 0)) #[.slice (q k).la (q k).ln (q k).lc, .slice (q k).sa (q k).sn (q k).sc, .int .i64 (q k).last] w8.drew) := Lib.hid (HS8.out.far (Below.refl _ _).drew)
      have HCD := Lib.hid (HC8.out.far (Below.refl _ _).drew)
      generalize w8.drew = wd8 at HD HCD ⊢
      refine wpAnyH_pickQ (S := (BeginS w b xb (workCells (.slice (some ⟨g, 0, none⟩) n c1) fl (.map none) op0 0 0 0 (.slice none 0 0) (.slice none 0 0)) #[.slice (q k).la (q k).ln (q k).lc, .slice (q k).sa (q k).sn (q k).sc, .int .i64 (q k).last])) (by kernel_rfl) Only.panic Only.keepsIn (w := wd8) HD.out [0, 1, 2, 3, 4, 5, 6, 7] 4 _ _ (by kernel_rfl) ?_
      refine PickQ.value (d := some 25) (.pointer (some ⟨b, 0, none⟩)) rfl rfl (by kernel_rfl) (fun U hU => (by go_simp)) ?_
      refine PickQ.value (d := some 26) (.pointer (some ⟨b, 0, none⟩)) rfl rfl (by kernel_rfl) (fun U hU => (by go_simp)) ?_
      refine PickQ.value (d := some 27) (.pointer (some ⟨b, 0, none⟩)) rfl rfl (by kernel_rfl) (fun U hU => (by go_simp)) ?_
      refine PickQ.value (d := some 28) (.pointer (some ⟨b, 0, none⟩)) rfl rfl (by kernel_rfl) (fun U hU => (by go_simp)) ?_
      refine PickQ.value (d := some 29) (.slice (some ⟨g, 0, none⟩) n c1) rfl rfl (by kernel_rfl) (fun U hU => (by have h0 : U.cell? ⟨b, 0, none⟩ = some (.slice (some ⟨g, 0, none⟩) n c1) := cell_of_row _ _ _ _ _ _ hU.wk; go_simp)) ?_
      refine PickQ.value (d := some 30) (.int .i64 (k : Int)) rfl rfl (by kernel_rfl) (fun U hU => (by go_simp)) ?_
      refine PickQ.value (d := some 31) (.pointer (some ⟨xb, 0, none⟩)) rfl rfl (by kernel_rfl) (fun U hU => (by go_simp)) ?_
      refine PickQ.value (d := some 32) (.slice (q k).la (q k).ln (q k).lc) rfl rfl (by kernel_rfl) (fun U hU => (by have h0 : U.cell? ⟨xb, 0, none⟩ = some (.slice (q k).la (q k).ln (q k).lc) := cell_of_row _ _ _ _ _ _ hU.xk; go_simp)) ?_
      simp only [PickQ, Act.put, List.setIfInBounds_toArray, List.set_cons_zero, List.set_cons_succ]
      refine wpAnyH_one (i := 8) (by kernel_rfl) rfl (by kernel_rfl) ?_
      intro K hK
      unfold Oper.wp
      go_simp
      refine (HS.out _ HD.out.bel).mono ?_; rintro e w9 ⟨v9, rfl, hown9, hb9⟩
      obtain ⟨A9, c9, rfl, -, -, -, -⟩ := own_row hown9
      have HO9 := Lib.hid hown9; have HO9B := Lib.hid HD.out.bel.size
      have HS9 := Lib.hid (HD.out.far hb9)
      have HC9 := Lib.hid hb9
      refine hK _ _ HS9.out (fun _ => ?_)
      clear hK K
      have HR9 := Lib.hid (row_far HCD.out.own HC9.out)
      have f9 : w9.frozen? ⟨g, k * 3, none⟩ = false := World.ownsRow.frozenAt HR9.out _
      have x9 : w9.cell? ⟨g, k * 3, none⟩ = some (rx (mix q' q k) k 0) := by
        rw [World.ownsRow.cellAt HR9.out _ (by omega)]
        exact rcells_get 3 _ n k 0 hlt (by omega)
      refine wpAnyH_one (i := 9) (by kernel_rfl) rfl (by kernel_rfl) ?_
      intro K hK
      unfold Oper.wp
      go_simp
      refine hK _ _ HS9.out (fun _ => ?_)
      clear hK K
      refine wpAnyH_one (i := 10) (by kernel_rfl) rfl (by kernel_rfl) ?_
      intro K hK
      unfold Oper.wp
      go_simp
      refine hK _ _ HS9.out (fun _ => ?_)
      clear hK K
      refine wpAnyH_one (i := 11) (by kernel_rfl) rfl (by kernel_rfl) ?_
      intro K hK
      unfold Oper.wp
      go_simp
      obtain ⟨w10, hw10⟩ : ∃ w10, w10 = w9.setCell ⟨g, k * 3, none⟩ (.slice A9 (q k).ln c9) := ⟨_, rfl⟩
      have hgr : w9.grownBy w10 (some g) := by rw [hw10]; exact grown_setCell _ _ _ _
      have HS10 : Hid (BeginS w b xb (workCells (.slice (some ⟨g, 0, none⟩) n c1) fl (.map none) op0 0 0 0 (.slice none 0 0) (.slice none 0 0)) #[.slice (q k).la (q k).ln (q k).lc, .slice (q k).sa (q k).sn (q k).sc, .int .i64 (q k).last] w10) := Lib.hid (by rw [hw10]; exact HS9.out.set HG.out.1 HG.out.2.1 HG.out.2.2 _ _)
      have HR10 : Hid (w10.ownsRow w.heap.size 48 3 (.slice (some ⟨g, 0, none⟩) n c1) n ((rcells 3 (rx (mix q' q k)) n).set (k * 3) (.slice A9 (q k).ln c9))) := Lib.hid (by rw [hw10]; exact (HR9.out.stored (k * 3) _).1)
      have HL10 := Lib.hid (row_kept HO9.out hgr (fun r e => by cases e; exact row_apart HO9.out HR9.out (by decide) rfl))
      have HE10 := Lib.hid (fun i (hi : i < k) => ((HCD.out.each i hi).far HC9.out).kept hgr (fun r e => by cases e; exact row_apart ((HCD.out.each i hi).far HC9.out).labo HR9.out (by decide) rfl) (fun r e => by cases e; exact row_apart ((HCD.out.each i hi).far HC9.out).samo HR9.out (by decide) rfl))
      rw [← hw10]
      refine hK _ _ HS10.out (fun _ => ?_)
      clear hK K hw10 hgr f9 x9 HR9 HC9 HCD HD HS9 HO9 HS8
      refine wpAnyH_done (by kernel_rfl) ?_ _
      refine Only.next ?_
      go_wp2_with fail
      refine plain_held (BeginS w b xb (workCells (.slice (some ⟨g, 0, none⟩) n c1) fl (.map none) op0 0 0 0 (.slice none 0 0) (.slice none 0 0)) #[.slice (q k).la (q k).ln (q k).lc, .slice (q k).sa (q k).sn (q k).sc, .int .i64 (q k).last]) (by kernel_rfl) ?_
      have HD : Hid (BeginS w b xb (workCells (.slice (some ⟨g, 0, none⟩) n c1) fl (.map none) op0 0 0 0 (.slice none 0 0) (.slice none 0 0)) #[.slice (q k).la (q k).ln (q k).lc, .slice (q k).sa (q k).sn (q k).sc, .int .i64 (q k).last] w10.drew) := Lib.hid (HS10.out.far (Below.refl _ _).drew)
      have HRD := Lib.hid (row_far HR10.out (Below.refl w10.heap.size w10).drew)
      have HLD := Lib.hid (row_far HL10.out (Below.refl w10.heap.size w10).drew)
      have HED := Lib.hid (fun i (hi : i < k) => (HE10.out i hi).far (Below.refl w10.heap.size w10).drew)
      generalize w10.drew = wd10 at HD HRD HLD HED ⊢
      refine wpAnyH_pickQ (S := (BeginS w b xb (workCells (.slice (some ⟨g, 0, none⟩) n c1) fl (.map none) op0 0 0 0 (.slice none 0 0) (.slice none 0 0)) #[.slice (q k).la (q k).ln (q k).lc, .slice (q k).sa (q k).sn (q k).sc, .int .i64 (q k).last])) (by kernel_rfl) Only.panic Only.keepsIn (w := wd10) HD.out [0, 1, 2, 3, 4, 5, 6, 7] 4 _ _ (by kernel_rfl) ?_
      refine PickQ.value (d := some 36) (.pointer (some ⟨b, 0, none⟩)) rfl rfl (by kernel_rfl) (fun U hU => (by go_simp)) ?_
      refine PickQ.value (d := some 37) (.pointer (some ⟨b, 0, none⟩)) rfl rfl (by kernel_rfl) (fun U hU => (by go_simp)) ?_
      refine PickQ.value (d := some 38) (.pointer (some ⟨b, 0, none⟩)) rfl rfl (by kernel_rfl) (fun U hU => (by go_simp)) ?_
      refine PickQ.value (d := some 39) (.pointer (some ⟨b, 0, none⟩)) rfl rfl (by kernel_rfl) (fun U hU => (by go_simp)) ?_
      refine PickQ.value (d := some 40) (.slice (some ⟨g, 0, none⟩) n c1) rfl rfl (by kernel_rfl) (fun U hU => (by have h0 : U.cell? ⟨b, 0, none⟩ = some (.slice (some ⟨g, 0, none⟩) n c1) := cell_of_row _ _ _ _ _ _ hU.wk; go_simp)) ?_
      refine PickQ.value (d := some 41) (.int .i64 (k : Int)) rfl rfl (by kernel_rfl) (fun U hU => (by go_simp)) ?_
      refine PickQ.value (d := some 42) (.pointer (some ⟨xb, 1, none⟩)) rfl rfl (by kernel_rfl) (fun U hU => (by go_simp)) ?_
      refine PickQ.value (d := some 43) (.slice (q k).sa (q k).sn (q k).sc) rfl rfl (by kernel_rfl) (fun U hU => (by have h0 : U.cell? ⟨xb, 1, none⟩ = some (.slice (q k).sa (q k).sn (q k).sc) := cell_of_row _ _ _ _ _ _ hU.xk; go_simp)) ?_
      simp only [PickQ, Act.put, List.setIfInBounds_toArray, List.set_cons_zero, List.set_cons_succ]
      refine wpAnyH_one (i := 8) (by kernel_rfl) rfl (by kernel_rfl) ?_
      intro K hK
      unfold Oper.wp
      go_simp
      refine (HT.out _ HD.out.bel).mono ?_; rintro e w11 ⟨v11, rfl, hown11, hb11⟩
      obtain ⟨A11, c11, rfl, -, -, -, -⟩ := own_row hown11
      have HO11 := Lib.hid hown11; have HSZ := Lib.hid HD.out.bel.size
      have HS11 := Lib.hid (HD.out.far hb11)
      have HR11 := Lib.hid (row_far HRD.out hb11)
      have HL11 := Lib.hid (row_far HLD.out hb11)
      have HE11 := Lib.hid (fun i (hi : i < k) => (HED.out i hi).far hb11)
      refine hK _ _ HS11.out (fun _ => ?_)
      clear hK K hb11 hown11
      have f11 : w11.frozen? ⟨g, k * 3 + 1, none⟩ = false := World.ownsRow.frozenAt HR11.out _
      have x11 : w11.cell? ⟨g, k * 3 + 1, none⟩ = some (rx (mix q' q k) k 1) := by
        rw [World.ownsRow.cellAt HR11.out _ (by omega), List.getElem?_set_ne (by omega)]
        exact rcells_get 3 _ n k 1 hlt (by omega)
      refine wpAnyH_one (i := 9) (by kernel_rfl) rfl (by kernel_rfl) ?_
      intro K hK
      unfold Oper.wp
      go_simp
      refine hK _ _ HS11.out (fun _ => ?_)
      clear hK K
      refine wpAnyH_one (i := 10) (by kernel_rfl) rfl (by kernel_rfl) ?_
      intro K hK
      unfold Oper.wp
      go_simp
      refine hK _ _ HS11.out (fun _ => ?_)
      clear hK K
      refine wpAnyH_one (i := 11) (by kernel_rfl) rfl (by kernel_rfl) ?_
      intro K hK
      unfold Oper.wp
      go_simp
      obtain ⟨w12, hw12⟩ : ∃ w12, w12 = w11.setCell ⟨g, k * 3 + 1, none⟩ (.slice A11 (q k).sn c11) := ⟨_, rfl⟩
      have hgr : w11.grownBy w12 (some g) := by rw [hw12]; exact grown_setCell _ _ _ _
      have HS12 : Hid (BeginS w b xb (workCells (.slice (some ⟨g, 0, none⟩) n c1) fl (.map none) op0 0 0 0 (.slice none 0 0) (.slice none 0 0)) #[.slice (q k).la (q k).ln (q k).lc, .slice (q k).sa (q k).sn (q k).sc, .int .i64 (q k).last] w12) := Lib.hid (by rw [hw12]; exact HS11.out.set HG.out.1 HG.out.2.1 HG.out.2.2 _ _)
      have hr12 : w12.ownsRow w.heap.size 48 3 (.slice (some ⟨g, 0, none⟩) n c1) n (((rcells 3 (rx (mix q' q k)) n).set (k * 3) (.slice A9 (q k).ln c9)).set (k * 3 + 1) (.slice A11 (q k).sn c11)) := by rw [hw12]; exact (HR11.out.stored (k * 3 + 1) _).1
      have hl12 := row_kept HL11.out hgr (fun r e => by cases e; exact row_apart HL11.out HR11.out (by decide) rfl)
      have ho12 := row_kept HO11.out hgr (fun r e => by cases e; exact row_apart HO11.out HR11.out (by decide) rfl)
      have HE12 := Lib.hid (fun i (hi : i < k) => (HE11.out i hi).kept hgr (fun r e => by cases e; exact row_apart (HE11.out i hi).labo HR11.out (by decide) rfl) (fun r e => by cases e; exact row_apart (HE11.out i hi).samo HR11.out (by decide) rfl))
      have HC12 := Lib.hid (cloned_step hlt HC.out.apart HC.out.same hr12 (own_from hl12 HO9B.out) ho12 HSZ.out (fun i hi r hr => ((HED.out i hi).samo.lt r hr).2) HE12.out (HA0.out.each k hlt).lsize (HA0.out.each k hlt).lfew (HA0.out.each k hlt).sfew)
      rw [← hw12]
      refine hK _ _ HS12.out (fun _ => ?_)
      clear hK K hw12 hgr hr12 hl12 ho12
      refine wpAnyH_done (by kernel_rfl) ?_ _
      refine only_mk ?_
      go_wp2_with fail
      go_roundw
      case rel => exact ⟨k + 1, _, by omega, by go_num, HS12.out.wk, HC12.out, HS12.out.bel⟩
      case measure => simp [intOf]; omega
    · obtain rfl : k = n := by omega
      have d1 : decide ((k : Int) < (k : Int)) = false := by simp
      have z0 : wr.cell? ⟨b, 0, none⟩ = some (.slice A1 k c1) := cell_of_row _ _ _ _ _ _ HW.out
      have hWR : WorkRows wr w.heap.size (.slice A1 k c1) k q' := ⟨by
        have e : rcells 3 (rx q') k = rcells 3 (rx (mix q' q k)) k := rcells_congr (fun i j hi hj => by
          have e2 : mix q' q k i = q' i := by unfold mix; rw [if_pos hi]
          unfold rx; rw [e2])
        rw [e]; exact HC.out.own, hn, HC.out.each, HC.out.apart⟩
      obtain ⟨A2, c2, e2, hsr⟩ := hWR.sers
      cases e2
      have HF := Lib.hid (firsts_any A1 k c1 q' wr hsr)
      have HWR := Lib.hid hWR
      clear hWR hsr
      go_wp2_with fail
      refine HF.out.mono ?_; rintro e w5 ⟨mb, rfl, hmb, hmap, hb5⟩
      have HM5 := Lib.hid hmap
      have HWR5 := Lib.hid (HWR.out.far hb5)
      have hW5 := heap_keep HW.out hb5
      have HB5 := Lib.hid (below_step HB.out hb5)
      have hbl : b < wr.heap.size := (Array.getElem?_eq_some_iff.1 HW.out).1
      have hne : b ≠ mb := by omega
      have f2 : w5.frozen? ⟨b, 2, none⟩ = false := frozen_of_row _ _ _ _ _ hW5
      have z2 : w5.cell? ⟨b, 2, none⟩ = some (.map none) := cell_of_row _ _ _ _ _ _ hW5
      have HW6 := Lib.hid (heap_setCell_same w5 b 2 _ _ (.map (some mb)) hW5)
      have HG := Lib.hid (grown_setCell w5 b 2 (.map (some mb)))
      have HM6 := Lib.hid (HM5.out.kept HG.out (fun e => by cases e; exact hne rfl))
      have HWR6 := Lib.hid (HWR5.out.kept hW5 (by decide) (by decide) (by decide) HG.out)
      have hmb2 : w.heap.size ≤ mb := Nat.le_trans HB.out.size hmb
      have HB6 := Lib.hid (HB5.out.grown HG.out HB5.out.size (fun r e => by cases e; exact hbz))
      clear hb5 hmap hW5 hmb
      go_wp2_with fail
      go_ret
      exact ⟨b, _, mb, q', rfl, hbz, hmb2, by rw [HW6.out]; rfl, HWR6.out, HM6.out, HC.out.same, HB6.out⟩
end Go.Proofs.Ytidfanmfibbiiaa
/-
  What Find and Fits of a state come to.
-/
namespace Go.Proofs.Ytidfanmfibbiiaa
open Go.RowKit
set_option maxRecDepth 100000 in
set_option maxHeartbeats 1000000 in
theorem SFind_any (A : Option Addr) (n c : Nat) (q : Nat → SerAt) (fl : Int) (B : Option Addr) (m d : Nat) (hnone : B = none → m = 0 ∧ d = 0) (g : Nat → Lab) (hg : ∀ i, i < m → (g i).1.size ≤ 300 ∧ (g i).2.size ≤ 300) (w : World) (hA : Sers w A n c q) (hB : LabRow w B m g) :
    Calls Try.prog 16 #[.agg #[.slice A n c, .int .i64 fl], .slice B m d] w fun e w' => e = .returned (.int .i64 (findI (sers q n) (La.listOf g m))) ∧ Below w.heap.size w w' := by
  obtain ⟨w1, hw1⟩ : ∃ w1, w1 = w.alloc (.cells #[.slice A n c, .int .i64 fl] 28) := ⟨_, rfl⟩
  have hb1 : Below w.heap.size w w1 := by rw [hw1]; exact (Below.refl _ _).alloc (Nat.le_refl _) _
  have HC1 : Hid (w1.heap[w.heap.size]? = some (.cells #[.slice A n c, .int .i64 fl] 28 (0, 0))) := Lib.hid (by rw [hw1]; exact heap_alloc_new w _)
  have HB1 := Lib.hid hb1
  have HA := Lib.hid (hA.later hb1); have HB := Lib.hid (hB.later hb1)
  have HF := Lib.hid (fun W (hb : Below w1.heap.size w1 W) => firsts_any A n c q W ((hA.later hb1).later hb))
  have HG := Lib.hid (fun W (hb : Below w1.heap.size w1 W) b hM => find_any A n c q b B m d hnone g hg W ((hA.later hb1).later hb) hM ((hB.later hb1).later hb))
  clear hA hB hb1 hnone hg
  generalize findI (sers q n) (La.listOf g m) = r at *
  go_enter Try.func16, Try.ntmps16
  go_wp2_with fail
  rw [← hw1]
  clear hw1
  refine plain_held (fun U => Below w1.heap.size w1 U) (by kernel_rfl) ?_
  have HD : Hid (Below w1.heap.size w1 w1.drew) := Lib.hid (Below.refl _ _).drew
  generalize w1.drew = wd at HD ⊢
  refine wpAnyH_pickQ (S := fun U => Below w1.heap.size w1 U) (by kernel_rfl) Only.panic Only.keepsIn (w := wd) HD.out [0, 1, 2, 3, 5] 3 _ _ (by kernel_rfl) ?_
  refine PickQ.value (d := some 5) (.pointer (some ⟨w.heap.size, 0, none⟩)) rfl rfl (by kernel_rfl) (fun U hU => (by go_simp)) ?_
  refine PickQ.value (d := some 6) (.slice A n c) rfl rfl (by kernel_rfl) (fun U hU => (by have h0 : U.cell? ⟨w.heap.size, 0, none⟩ = some (.slice A n c) := cell_of_row _ _ _ _ _ _ (heap_keep HC1.out hU); go_simp)) ?_
  refine PickQ.value (d := some 7) (.pointer (some ⟨w.heap.size, 0, none⟩)) rfl rfl (by kernel_rfl) (fun U hU => (by go_simp)) ?_
  refine PickQ.value (d := some 8) (.slice A n c) rfl rfl (by kernel_rfl) (fun U hU => (by have h0 : U.cell? ⟨w.heap.size, 0, none⟩ = some (.slice A n c) := cell_of_row _ _ _ _ _ _ (heap_keep HC1.out hU); go_simp)) ?_
  refine PickQ.value (d := some 10) (.slice B m d) rfl rfl (by kernel_rfl) (fun U hU => (by go_simp)) ?_
  simp only [PickQ, Act.put, List.setIfInBounds_toArray, List.set_cons_zero, List.set_cons_succ]
  refine wpAnyH_one (i := 4) (by kernel_rfl) rfl (by kernel_rfl) ?_
  intro K hK
  unfold Oper.wp
  go_simp
  refine (HF.out _ HD.out).mono ?_; rintro e w2 ⟨b, rfl, -, hM, hb2⟩
  have HM := Lib.hid hM
  have HB2 := Lib.hid (below_step HD.out hb2); clear hb2 hM
  refine hK _ _ HB2.out (fun _ => ?_)
  clear hK K
  refine wpAnyH_one (i := 6) (by kernel_rfl) rfl (by kernel_rfl) ?_
  intro K hK
  unfold Oper.wp
  go_simp
  refine (HG.out _ HB2.out _ HM.out).mono ?_; rintro e w3 ⟨rfl, hb3⟩
  have HB3 := Lib.hid (below_step HB2.out hb3); clear hb3
  refine hK _ _ HB3.out (fun _ => ?_)
  clear hK K
  refine wpAnyH_one (i := 7) (by kernel_rfl) rfl (by kernel_rfl) ?_
  intro K hK
  unfold Oper.wp
  go_simp
  refine hK _ _ HB3.out (fun _ => ?_)
  clear hK K
  refine wpAnyH_done (by kernel_rfl) ?_ _
  refine Only.next ?_
  go_wp2_with fail
  go_ret
  exact ⟨rfl, below_step HB1.out HB3.out⟩
/-- are all labels short enough? -/
def fitsB (q : Nat → SerAt) (n : Nat) (gen : Int) : Bool := (List.range n).all fun i => decide (La.longest (q i).f (q i).ln ≤ La.limit gen)
set_option maxRecDepth 100000 in
set_option maxHeartbeats 1000000 in
theorem Fits_state (A : Option Addr) (n c : Nat) (q : Nat → SerAt) (fl gen : Int) (w : World) (hA : Sers w A n c q) :
    Calls Try.prog 20 #[.agg #[.slice A n c, .int .i64 fl], .int .i64 gen] w fun e w' => e = .returned (.bool (fitsB q n gen)) ∧ Below w.heap.size w w' := by
  obtain ⟨w1, hw1⟩ : ∃ w1, w1 = w.alloc (.cells #[.slice A n c, .int .i64 fl] 28) := ⟨_, rfl⟩
  have hb1 : Below w.heap.size w w1 := by rw [hw1]; exact (Below.refl _ _).alloc (Nat.le_refl _) _
  have HB1 := Lib.hid hb1
  have HA := Lib.hid hA
  have z1 : w1.cell? ⟨w.heap.size, 0, none⟩ = some (.slice A n c) := by rw [hw1]; exact cell_of_row _ _ _ _ _ _ (heap_alloc_new w _)
  have HLM := Lib.hid (fun W => Limit_any gen W)
  have hn := hA.few
  clear hA hb1
  go_enter Try.func20, Try.ntmps20
  go_wp2_with fail
  rw [← hw1]
  clear hw1 z1
  go_loopw [6, 10] (fun _ i wr => ∃ k : Nat, k ≤ n ∧ i = .int .i64 k ∧ (∀ j, j < k → La.longest (q j).f (q j).ln ≤ La.limit gen) ∧ Below w.heap.size w wr) (fun _ i _ => n - (intOf i).toNat)
  case atStart => exact ⟨0, by omega, rfl, fun j hj => by omega, HB1.out⟩
  case round =>
    obtain ⟨k, hk, rfl, hall, hb⟩ := hrel
    have HL := Lib.hid hall; have HB := Lib.hid hb; clear hall hb
    by_cases hlt : k < n
    · obtain ⟨ad, rfl, c0, c1⟩ := HA.out.row.at_ HB.out hlt
      have x0 := c0 (by decide); have x1 := c1 1 (by decide) (by decide); have x2 := c1 2 (by decide) (by decide)
      have v0 : rx q k 0 = .slice (q k).la (q k).ln (q k).lc := rfl
      have v1 : rx q k 1 = .slice (q k).sa (q k).sn (q k).sc := rfl
      have v2 : rx q k 2 = .int .i64 (q k).last := rfl
      rw [v0] at x0; rw [v1] at x1; rw [v2] at x2
      have i1 : (k : Int) < (n : Int) := by omega
      have i0 : (0 : Int) ≤ (k : Int) := by omega
      have d1 : decide ((k : Int) < (n : Int)) = true := decide_eq_true i1
      have hE := HA.out.each k hlt
      have hR8 : Below wr.heap.size wr (wr.alloc (.cells #[.slice (q k).la (q k).ln (q k).lc, .slice (q k).sa (q k).sn (q k).sc, .int .i64 (q k).last] 48)) := (Below.refl _ _).alloc (Nat.le_refl _) _
      have HB8 := Lib.hid (below_step HB.out hR8)
      have HLO := Lib.hid (Longest_any (q k).la (q k).ln (q k).lc (Nat.le_trans hE.lfew (by unfold maxLen; omega)) (q k).f (fun i hi => ⟨size_max (hE.lsize i hi).1, size_max (hE.lsize i hi).2⟩) _ (hE.labs.later HB8.out))
      have HN : Hid (La.longest (q k).f (q k).ln ≤ La.limit gen → ∀ j, j < k + 1 → La.longest (q j).f (q j).ln ≤ La.limit gen) := Lib.hid (fun h j hj => by
        by_cases e : j = k
        · rw [e]; exact h
        · exact HL.out j (by omega))
      have HO : Hid (¬ La.longest (q k).f (q k).ln ≤ La.limit gen → fitsB q n gen = false) := Lib.hid (fun h => by
        unfold fitsB
        rw [List.all_eq_false]
        exact ⟨k, List.mem_range.2 hlt, by simpa using h⟩)
      clear c0 c1 v0 v1 v2 hE hR8 HL
      generalize La.longest (q k).f (q k).ln = lo at *
      generalize La.limit gen = li at *
      go_wp2_with fail
      refine HLO.out.mono ?_; rintro e w5 ⟨rfl, hb5⟩
      have HB5 := Lib.hid (below_step HB8.out hb5); clear hb5
      go_wp2_with fail
      refine (HLM.out _).mono ?_; rintro e w6 ⟨rfl, rfl⟩
      by_cases hf : lo ≤ li
      · have d2 : ¬ li < lo := by omega
        have HF := Lib.hid (HN.out hf)
        clear hf HN HO
        go_wp2_with fail
        go_roundw
        case rel => exact ⟨k + 1, by omega, by go_num, HF.out, HB5.out⟩
        case measure => simp [intOf]; omega
      · have d2 : li < lo := by omega
        have HF := Lib.hid (HO.out hf)
        clear hf HN HO
        go_wp2_with fail
        go_ret
        exact ⟨by rw [HF.out]; rfl, HB5.out⟩
    · obtain rfl : k = n := by omega
      have d1 : decide ((k : Int) < (k : Int)) = false := by simp
      have HF : Hid (fitsB q k gen = true) := Lib.hid (by
        unfold fitsB
        rw [List.all_eq_true]
        intro j hj
        exact decide_eq_true (HL.out j (List.mem_range.1 hj)))
      go_wp2_with fail
      go_ret
      exact ⟨by rw [HF.out]; rfl, HB.out⟩
end Go.Proofs.Ytidfanmfibbiiaa
