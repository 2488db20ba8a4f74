import Derived.Test.YtidfanmfibbiiaaTrI
/-
  A state at work; what drop comes to.
-/
namespace Go.Proofs.Ytidfanmfibbiiaa
open Go.RowKit
theorem sel_map {s : Nat → Sam} (L : List Nat) : (List.range L.length).map (fun j => s (L.getD j 0)) = L.map s := by
  apply List.ext_getElem?
  intro i
  by_cases h : i < L.length
  · simp [List.getElem?_map, List.getElem?_range h, List.getD, List.getElem?_eq_getElem h]
  · rw [List.getElem?_eq_none (by simpa using h), List.getElem?_eq_none (by simpa using h)]
theorem sel_cells (s : Nat → Sam) (L : List Nat) : (L.flatMap fun i => [sx s i 0, sx s i 1]) = rcells 2 (sx fun j => s (L.getD j 0)) L.length := by
  have h : ∀ M : List Sam, (M.flatMap fun x => [Value.int .i64 x.t, Value.int .u64 x.v]) = rcells 2 (sx fun j => M.getD j ⟨0, 0⟩) M.length := by
    intro M
    have e : rcells 2 (sx fun j => M.getD j ⟨0, 0⟩) M.length = ((List.range M.length).map (fun j => M.getD j ⟨0, 0⟩)).flatMap fun x => [Value.int .i64 x.t, Value.int .u64 x.v] := by
      unfold rcells
      rw [List.flatMap_map]
      rfl
    have e2 : (List.range M.length).map (fun j => M.getD j (⟨0, 0⟩ : Sam)) = M := by
      apply List.ext_getElem?
      intro i
      by_cases h : i < M.length
      · simp [List.getElem?_map, List.getElem?_range h, List.getD, List.getElem?_eq_getElem h]
      · rw [List.getElem?_eq_none (by simpa using h), List.getElem?_eq_none (by simpa using h)]
    rw [e, e2]
  have h1 := h (L.map s)
  rw [List.flatMap_map, List.length_map] at h1
  have h2 : rcells 2 (sx fun j => (L.map s).getD j ⟨0, 0⟩) L.length = rcells 2 (sx fun j => s (L.getD j 0)) L.length := rcells_congr (fun i j hi _ => by
    have e : (L.map s).getD i ⟨0, 0⟩ = s (L.getD i 0) := by simp [List.getD, hi]
    unfold sx
    simp only [e])
  rw [← h2, ← h1]
  rfl
theorem sel_without (s : Nat → Sam) (lo hi : Int) (n : Nat) : (Ma.sel (fun i => !Ma.inT lo hi (s i).t) n).map s = Tr.without lo hi ((List.range n).map s) := by
  unfold Ma.sel Tr.without
  rw [List.filter_map]
  rfl
theorem sel_within (s : Nat → Sam) (lo hi : Int) (n : Nat) : (Ma.sel (fun i => Ma.inT lo hi (s i).t) n).map s = Tr.within lo hi ((List.range n).map s) := by
  unfold Ma.sel Tr.within
  rw [List.filter_map]
  rfl
theorem sel_few (b : Nat → Bool) (n : Nat) : (Ma.sel b n).length ≤ n := by
  have := (List.filter_sublist (p := b) (l := List.range n)).length_le
  rw [List.length_range] at this
  exact this
/-- blocks of other types, and all else, stay as they were -/
def Keeps (Ts : List TypeId) (W W2 : World) : Prop := ∀ (g : Nat) (o : Obj), W.heap[g]? = some o → (∀ cs T fr, o = Obj.cells cs T fr → T ∉ Ts) → W2.heap[g]? = some o
theorem Keeps.refl (Ts : List TypeId) (W : World) : Keeps Ts W W := fun _ _ h _ => h
theorem Keeps.trans {Ts : List TypeId} {W W2 W3 : World} (h : Keeps Ts W W2) (h2 : Keeps Ts W2 W3) : Keeps Ts W W3 := fun g o ho hn => h2 g o (h g o ho hn) hn
theorem Keeps.mono {Ts Us : List TypeId} {W W2 : World} (h : Keeps Ts W W2) (hs : ∀ T ∈ Ts, T ∈ Us) : Keeps Us W W2 := fun g o ho hn => h g o ho (fun cs T fr e hT => hn cs T fr e (hs T hT))
theorem Keeps.below {Ts : List TypeId} {W W2 : World} (hb : Below W.heap.size W W2) : Keeps Ts W W2 := fun _ _ h _ => heap_keep h hb
theorem Keeps.grown {Ts : List TypeId} {W W2 : World} {g : Nat} {cs : Array Value} {T : TypeId} {fr : Nat × Nat} (hc : W.heap[g]? = some (.cells cs T fr)) (hT : T ∈ Ts) (hg : W.grownBy W2 (some g)) : Keeps Ts W W2 := fun j o ho hn => by
  refine (hg.block j (Array.getElem?_eq_some_iff.1 ho).1 (fun e => ?_)).trans ho
  cases e
  rw [hc] at ho
  cases ho
  exact hn _ _ _ rfl hT
/-- a state at work -/
structure Work (w W : World) (b : Nat) (v : Value) (fl : Int) (mb : Nat) (op : List Value) (gen err cnt : Int) (ans recs : Value) (n : Nat) (q : Nat → SerAt) : Prop where
  bel : Below w.heap.size w W
  lo : w.heap.size ≤ b
  wk : W.heap[b]? = some (.cells (workCells v fl (.map (some mb)) op gen err cnt ans recs) 70 (0, 0))
  rows : WorkRows W w.heap.size v n q
  mlo : w.heap.size ≤ mb
  map : MapIs Try.prog 100 W mb n (firstK (keysOf q) n n)
theorem Work.far {w W W2 : World} {b : Nat} {v : Value} {fl : Int} {mb : Nat} {op : List Value} {gen err cnt : Int} {ans recs : Value} {n : Nat} {q : Nat → SerAt} (h : Work w W b v fl mb op gen err cnt ans recs n q) (hb : Below W.heap.size W W2) : Work w W2 b v fl mb op gen err cnt ans recs n q :=
  ⟨below_step h.bel hb, h.lo, heap_keep h.wk hb, h.rows.far hb, h.mlo, h.map.later hb⟩
/-- a series with other samples -/
def put2 (q : Nat → SerAt) (k : Nat) (B : Option Addr) (m d : Nat) (s : Nat → Sam) (t : Int) (i : Nat) : SerAt := if i = k then ⟨(q k).la, (q k).ln, (q k).lc, (q k).f, B, m, d, s, t⟩ else q i
theorem keys_put2 (q : Nat → SerAt) (k : Nat) (B : Option Addr) (m d : Nat) (s : Nat → Sam) (t : Int) : keysOf (put2 q k B m d s t) = keysOf q := by
  funext i
  unfold keysOf put2
  split
  · rename_i h; rw [h]
  · rfl
/-- the samples of one series are others -/
theorem WorkRows.put2 {W : World} {base base2 : Nat} {g cap n k : Nat} {q : Nat → SerAt} {B : Option Addr} {m d : Nat} {s : Nat → Sam} (h : WorkRows W base (.slice (some ⟨g, 0, none⟩) n cap) n q) (hk : k < n)
    (ho : W.ownsRow base2 51 2 (.slice B m d) m (rcells 2 (sx s) m)) (hb : base ≤ base2) (hm : m ≤ 1000) (hlt : ∀ i, i < n → ∀ r, (Value.slice (q i).sa (q i).sn (q i).sc).ownBlock = some r → r < base2) :
    WorkRows (W.setCell ⟨g, k * 3 + 1, none⟩ (.slice B m d)) base (.slice (some ⟨g, 0, none⟩) n cap) n (Go.Proofs.Ytidfanmfibbiiaa.put2 q k B m d s (q k).last) := by
  have hgr := grown_setCell W g (k * 3 + 1) (.slice B m d)
  have kp : ∀ {e k2 m2 : Nat} {u : Value} {xs : List Value} {b2 : Nat}, W.ownsRow b2 e k2 u m2 xs → e ≠ 48 → ∀ r, some g = some r → u.ownBlock ≠ some r := fun hx hne r e => by cases e; exact row_apart hx h.own hne rfl
  have ek : Go.Proofs.Ytidfanmfibbiiaa.put2 q k B m d s (q k).last k = ⟨(q k).la, (q k).ln, (q k).lc, (q k).f, B, m, d, s, (q k).last⟩ := by unfold Go.Proofs.Ytidfanmfibbiiaa.put2; rw [if_pos rfl]
  have ei : ∀ i, i ≠ k → Go.Proofs.Ytidfanmfibbiiaa.put2 q k B m d s (q k).last i = q i := fun i hi => by unfold Go.Proofs.Ytidfanmfibbiiaa.put2; rw [if_neg hi]
  refine ⟨?_, h.few, fun i hi => ?_, fun i j hi hj hij r hr => ?_⟩
  · have h1 := (h.own.stored (k * 3 + 1) (.slice B m d)).1
    have h2 : (rcells 3 (rx q) n).set (k * 3 + 1) (.slice B m d) = rcells 3 (rx (Go.Proofs.Ytidfanmfibbiiaa.put2 q k B m d s (q k).last)) n :=
      rcells_set 3 _ _ n k 1 (by omega) _ (by unfold rx; rw [ek]; rfl) (fun a c _ hc3 hx => by
        by_cases ea : a = k
        · subst ea
          rcases (show c = 0 ∨ c = 1 ∨ c = 2 by omega) with rfl | rfl | rfl
          · unfold rx; rw [ek]; rfl
          · rcases hx with hx | hx <;> exact absurd rfl hx
          · unfold rx; rw [ek]; rfl
        · unfold rx; rw [ei a ea])
    rw [← h2]
    exact h1
  · by_cases e : i = k
    · subst e
      rw [ek]
      have hi0 := h.each i hi
      exact ⟨row_kept hi0.labo hgr (kp hi0.labo (by decide)), own_from (row_kept ho hgr (kp ho (by decide))) hb, hi0.lsize, hi0.lfew, hm⟩
    · rw [ei i e]
      have hi0 := h.each i hi
      exact hi0.kept hgr (kp hi0.labo (by decide)) (kp hi0.samo (by decide))
  · by_cases e : i = k
    · subst e
      rw [ei j (fun e => hij e.symm)] at hr
      rw [ek]
      intro e2
      have := (ho.lt r e2).1
      have := hlt j hj r hr
      omega
    · by_cases e2 : j = k
      · subst e2
        rw [ek] at hr
        rw [ei i e]
        intro e3
        have := (ho.lt r hr).1
        have := hlt i hi r e3
        omega
      · rw [ei j e2] at hr
        rw [ei i e]
        exact h.apart i j hi hj hij r hr
end Go.Proofs.Ytidfanmfibbiiaa
/-
  What drop comes to.
-/
namespace Go.Proofs.Ytidfanmfibbiiaa
open Go.RowKit
theorem WorkRows.cells {W : World} {base g cap n k : Nat} {q : Nat → SerAt} (h : WorkRows W base (.slice (some ⟨g, 0, none⟩) n cap) n q) (hk : k < n) (j : Nat) (hj : j < 3) : W.cell? ⟨g, k * 3 + j, none⟩ = some (rx q k j) := by
  rw [World.ownsRow.cellAt h.own _ (by omega)]
  exact rcells_get 3 _ n k j hk hj
set_option maxRecDepth 100000 in
set_option maxHeartbeats 1000000 in
theorem drop_any {w W : World} {b g cap mb n : Nat} {fl gen err cnt : Int} {op : List Value} {ans recs : Value} {q : Nat → SerAt} (hw : Work w W b (.slice (some ⟨g, 0, none⟩) n cap) fl mb op gen err cnt ans recs n q) (k : Nat) (hk : k < n) (lo hi : Int) :
    Calls Try.prog 44 #[.pointer (some ⟨b, 0, none⟩), .int .i64 k, .int .i64 lo, .int .i64 hi] W fun e W' => ∃ (B : Option Addr) (m d : Nat) (s : Nat → Sam), e = .returned (.int .i64 (((q k).sn : Int) - (m : Int))) ∧ m ≤ (q k).sn ∧ (List.range m).map s = Tr.without lo hi ((List.range (q k).sn).map (q k).s) ∧
      Work w W' b (.slice (some ⟨g, 0, none⟩) n cap) fl mb op gen err cnt ans recs n (put2 q k B m d s (q k).last) ∧ W.grownBy W' (some g) := by
  have HW := Lib.hid hw
  have hn := hw.rows.few
  have hE := (hw.rows.each k hk).ser_in
  have hsf := hE.sfew
  have HWO := Lib.hid (Without_any (q k).sa (q k).sn (q k).sc (by omega) (q k).s lo hi W hE.sams)
  have z0 : W.cell? ⟨b, 0, none⟩ = some (.slice (some ⟨g, 0, none⟩) n cap) := cell_of_row _ _ _ _ _ _ hw.wk
  have x1 : W.cell? ⟨g, k * 3 + 1, none⟩ = some (.slice (q k).sa (q k).sn (q k).sc) := hw.rows.cells hk 1 (by omega)
  have i1 : (k : Int) < (n : Int) := by omega
  have i0 : (0 : Int) ≤ (k : Int) := by omega
  have hsl := sel_few (fun i => !Ma.inT lo hi ((q k).s i).t) (q k).sn
  have HSW := Lib.hid (sel_without (q k).s lo hi (q k).sn)
  have HSM := Lib.hid (sel_map (s := (q k).s) (Ma.sel (fun i => !Ma.inT lo hi ((q k).s i).t) (q k).sn))
  have HSC := Lib.hid (sel_cells (q k).s (Ma.sel (fun i => !Ma.inT lo hi ((q k).s i).t) (q k).sn))
  clear hw hE
  generalize Ma.sel (fun i => !Ma.inT lo hi ((q k).s i).t) (q k).sn = L at *
  go_enter Try.func44, Try.ntmps44
  go_wp2_with fail
  refine HWO.out.mono ?_; rintro e w2 ⟨v2, rfl, hown2, hb2⟩
  rw [HSC.out] at hown2
  obtain ⟨B, d, rfl, -, -, -, -⟩ := own_row hown2
  have HW2 := Lib.hid (HW.out.far hb2)
  have HO2 := Lib.hid hown2
  have hx2 : w2.cell? ⟨g, k * 3 + 1, none⟩ = some (.slice (q k).sa (q k).sn (q k).sc) := HW2.out.rows.cells hk 1 (by omega)
  have hf2 : w2.frozen? ⟨g, k * 3 + 1, none⟩ = false := World.ownsRow.frozenAt HW2.out.rows.own _
  have hm2 : L.length ≤ 1000 := by omega
  have j1 : IntKind.i64.wrap (((q k).sn : Int) - (L.length : Int)) = ((q k).sn : Int) - (L.length : Int) := IntWalk.i64_in _ (by omega)
  have j2 : wrap64 (((q k).sn : Int) - (L.length : Int)) = ((q k).sn : Int) - (L.length : Int) := IntWalk.wrap64_in _ (by omega)
  have HR3 := Lib.hid (HW2.out.rows.put2 hk hown2 HW.out.bel.size hm2 (fun i hi r hr => (((HW.out.rows.each i hi).samo).lt r hr).2))
  have hg3 := grown_setCell w2 g (k * 3 + 1) (.slice B L.length d)
  have hgb : w.heap.size ≤ g ∧ g < w2.heap.size := HW2.out.rows.own.lt g rfl
  have hbg : b ≠ g := by
    rintro rfl
    rcases HW2.out.rows.own.2 with ⟨e, -⟩ | ⟨g1, cap1, cur, e, -, hc, -⟩
    · cases e
    · cases e
      have := HW2.out.wk
      rw [hc] at this
      cases this
  have hmg : mb ≠ g := by
    rintro rfl
    rcases HW2.out.rows.own.2 with ⟨e, -⟩ | ⟨g1, cap1, cur, e, -, hc, -⟩
    · cases e
    · cases e
      obtain ⟨es, clock, hm, -⟩ := HW2.out.map
      rw [hc] at hm
      cases hm
  have HW3 : Hid (Work w (w2.setCell ⟨g, k * 3 + 1, none⟩ (.slice B L.length d)) b (.slice (some ⟨g, 0, none⟩) n cap) fl mb op gen err cnt ans recs n (put2 q k B L.length d (fun j => (q k).s (L.getD j 0)) (q k).last)) := Lib.hid
    ⟨HW2.out.bel.grown hg3 HW2.out.bel.size (fun r e => by cases e; exact hgb.1), HW2.out.lo, (hg3.block b (Array.getElem?_eq_some_iff.1 HW2.out.wk).1 (fun e => by cases e; exact hbg rfl)).trans HW2.out.wk, HR3.out, HW2.out.mlo, by
      rw [keys_put2]
      exact HW2.out.map.kept hg3 (fun e => by cases e; exact hmg rfl)⟩
  have HKP : Hid (W.grownBy (w2.setCell ⟨g, k * 3 + 1, none⟩ (.slice B L.length d)) (some g)) := Lib.hid (grown_trans (grown_of_below hb2) hg3)
  clear hb2 hown2 hg3 hgb hbg hmg z0 x1
  go_wp2_with fail
  go_ret
  exact ⟨B, L.length, d, _, rfl, hsl, by rw [HSM.out, HSW.out], HW3.out, HKP.out⟩
end Go.Proofs.Ytidfanmfibbiiaa
/-
  What raise comes to.
-/
namespace Go.Proofs.Ytidfanmfibbiiaa
open Go.RowKit
/-- a cell of the work written -/
theorem Work.write {w W : World} {b : Nat} {v : Value} {fl : Int} {mb : Nat} {op : List Value} {gen err cnt : Int} {ans recs : Value} {n : Nat} {q : Nat → SerAt} (h : Work w W b v fl mb op gen err cnt ans recs n q) (j : Nat) (u : Value) :
    Below w.heap.size w (W.setCell ⟨b, j, none⟩ u) ∧ (W.setCell ⟨b, j, none⟩ u).heap[b]? = some (.cells ((workCells v fl (.map (some mb)) op gen err cnt ans recs).setIfInBounds j u) 70 (0, 0)) ∧ WorkRows (W.setCell ⟨b, j, none⟩ u) w.heap.size v n q ∧ MapIs Try.prog 100 (W.setCell ⟨b, j, none⟩ u) mb n (firstK (keysOf q) n n) := by
  have hg := grown_setCell W b j u
  refine ⟨h.bel.grown hg h.bel.size (fun r e => by cases e; exact h.lo), heap_setCell_same W b j _ _ u h.wk, h.rows.kept h.wk (by decide) (by decide) (by decide) hg, h.map.kept hg (fun e => ?_)⟩
  cases e
  obtain ⟨es, clock, hm, -⟩ := h.map
  have := h.wk
  rw [hm] at this
  cases this
/-- rows of series that were raised -/
structure Raised (W : World) (base base2 : Nat) (v : Value) (m : Nat) (q : Nat → SerAt) : Prop where
  own : W.ownsRow base2 48 3 v m (rcells 3 (rx q) m)
  each : ∀ i, i < m → OwnSer W base (q i)
  apart : ∀ i j, i < m → j < m → i ≠ j → ∀ r, (Value.slice (q j).sa (q j).sn (q j).sc).ownBlock = some r → (Value.slice (q i).sa (q i).sn (q i).sc).ownBlock ≠ some r
theorem Raised.far {W W2 : World} {base base2 : Nat} {v : Value} {m : Nat} {q : Nat → SerAt} (h : Raised W base base2 v m q) (hb : Below W.heap.size W W2) : Raised W2 base base2 v m q := ⟨row_far h.own hb, fun i hi => (h.each i hi).far hb, h.apart⟩
theorem OwnSer.other {W W2 : World} {base g : Nat} {q : SerAt} {cs : Array Value} {T : TypeId} {fr : Nat × Nat} (h : OwnSer W base q) (hc : W.heap[g]? = some (.cells cs T fr)) (hL : T ≠ 60) (hS : T ≠ 51) (hg : W.grownBy W2 (some g)) : OwnSer W2 base q := by
  have key : ∀ {e k m : Nat} {u : Value} {xs : List Value}, W.ownsRow base e k u m xs → T ≠ e → ∀ r, some g = some r → u.ownBlock ≠ some r := by
    intro e k m u xs ho hne r e1 e2
    cases e1
    rcases ho.2 with ⟨rfl, -⟩ | ⟨g1, c1, cur1, rfl, -, hc1, -⟩
    · cases e2
    · have a : some g1 = some g := e2
      cases a
      rw [hc] at hc1
      cases hc1
      exact hne rfl
  exact h.kept hg (key h.labo hL) (key h.samo hS)
theorem Raised.kept {W W2 : World} {base base2 g m : Nat} {v : Value} {q : Nat → SerAt} {cs : Array Value} {T : TypeId} {fr : Nat × Nat} (h : Raised W base base2 v m q) (hc : W.heap[g]? = some (.cells cs T fr)) (hL : T ≠ 60) (hS : T ≠ 51) (hv : v.ownBlock ≠ some g) (hg : W.grownBy W2 (some g)) : Raised W2 base base2 v m q :=
  ⟨row_kept h.own hg (fun r e => by cases e; exact hv), fun i hi => (h.each i hi).other hc hL hS hg, h.apart⟩
theorem rcells_one_more (x : Nat → Nat → Value) (y : Nat → Nat → Value) (z : Nat → Nat → Value) (m : Nat) (h : ∀ i j, i < m → j < 3 → y i j = x i j) (h2 : ∀ j, j < 3 → y m j = z 0 j) : rcells 3 x m ++ rcells 3 z 1 = rcells 3 y (m + 1) := by
  have e1 : rcells 3 x m = rcells 3 y m := rcells_congr (fun i j hi hj => (h i j hi hj).symm)
  have e2 : rcells 3 z 1 = (List.range 3).map (y m) := by
    have : rcells 3 z 1 = (List.range 3).map (z 0) := by simp [rcells]
    rw [this]
    exact List.map_congr_left (fun j hj => (h2 j (List.mem_range.1 hj)).symm)
  rw [e1, e2, ← rcells_succ]
/-- one more series -/
def put3 (q : Nat → SerAt) (m : Nat) (x : SerAt) (i : Nat) : SerAt := if i = m then x else q i
theorem sers_put3 (q : Nat → SerAt) (m : Nat) (x : SerAt) : sers (put3 q m x) (m + 1) = sers q m ++ [x.ser] := by
  unfold sers
  rw [List.range_succ, List.map_append]
  congr 1
  · refine List.map_congr_left (fun i hi => ?_)
    have := List.mem_range.1 hi
    unfold put3
    rw [if_neg (by omega)]
  · simp [put3]
theorem Raised.more {W : World} {base base2 base3 : Nat} {v : Value} {m : Nat} {q : Nat → SerAt} {x : SerAt}
    (hr : W.ownsRow base2 48 3 v (m + 1) (rcells 3 (rx q) m ++ rcells 3 (rx fun _ => x) 1)) (he : ∀ i, i < m → OwnSer W base (q i))
    (ha : ∀ i j, i < m → j < m → i ≠ j → ∀ r, (Value.slice (q j).sa (q j).sn (q j).sc).ownBlock = some r → (Value.slice (q i).sa (q i).sn (q i).sc).ownBlock ≠ some r)
    (hx : OwnSer W base x) (ho : W.ownsRow base3 51 2 (.slice x.sa x.sn x.sc) x.sn (rcells 2 (sx x.s) x.sn)) (hlt : ∀ i, i < m → ∀ r, (Value.slice (q i).sa (q i).sn (q i).sc).ownBlock = some r → r < base3) :
    Raised W base base2 v (m + 1) (put3 q m x) := by
  have ek : put3 q m x m = x := by unfold put3; rw [if_pos rfl]
  have ei : ∀ i, i ≠ m → put3 q m x i = q i := fun i hi => by unfold put3; rw [if_neg hi]
  refine ⟨?_, fun i hi => ?_, fun i j hi hj hij r hr2 => ?_⟩
  · rw [← rcells_one_more (rx q) (rx (put3 q m x)) (rx fun _ => x) m (fun i j hi _ => by unfold rx; rw [ei i (by omega)]) (fun j _ => by unfold rx; rw [ek])]
    exact hr
  · by_cases e : i = m
    · subst e; rw [ek]; exact hx
    · rw [ei i e]; exact he i (by omega)
  · by_cases e : i = m
    · subst e
      rw [ei j (fun e => hij e.symm)] at hr2
      rw [ek]
      intro e2
      have := (ho.lt r e2).1
      have := hlt j (by omega) r hr2
      omega
    · by_cases e2 : j = m
      · subst e2
        rw [ek] at hr2
        rw [ei i e]
        intro e3
        have := (ho.lt r hr2).1
        have := hlt i (by omega) r e3
        omega
      · rw [ei j e2] at hr2
        rw [ei i e]
        exact ha i j (by omega) (by omega) hij r hr2
end Go.Proofs.Ytidfanmfibbiiaa
/-
  What raise comes to: the walk.
-/
namespace Go.Proofs.Ytidfanmfibbiiaa
open Go.RowKit
theorem sers_succ (q : Nat → SerAt) (k : Nat) : sers q (k + 1) = sers q k ++ [(q k).ser] := by
  unfold sers
  rw [List.range_succ, List.map_append]
  rfl
theorem raiseN_succ (t : Int) (q : Nat → SerAt) (k : Nat) : Tr.raiseN t (sers q (k + 1)) = Tr.raiseN t (sers q k) + ((q k).sn - (Tr.within t Tr.top ((List.range (q k).sn).map (q k).s)).length) := by
  rw [sers_succ]
  unfold Tr.raiseN
  rw [List.map_append, List.sum_append]
  simp [SerAt.ser]
theorem raiseN_few (t : Int) (q : Nat → SerAt) (n : Nat) (h : ∀ i, i < n → (q i).sn ≤ 1000) : ∀ k, k ≤ n → Tr.raiseN t (sers q k) ≤ k * 1000
  | 0, _ => by simp [sers, Tr.raiseN]
  | k + 1, hk => by
    have := raiseN_few t q n h k (by omega)
    have := h k (by omega)
    rw [raiseN_succ]
    omega
theorem block_other {W : World} {b1 e k m g : Nat} {u : Value} {xs : List Value} {cs : Array Value} {T : TypeId} {fr : Nat × Nat} (ho : W.ownsRow b1 e k u m xs) (hc : W.heap[g]? = some (.cells cs T fr)) (hne : T ≠ e) : u.ownBlock ≠ some g := by
  intro e2
  rcases ho.2 with ⟨rfl, -⟩ | ⟨g1, c1, cur1, rfl, -, hc1, -⟩
  · cases e2
  · have a : some g1 = some g := e2
    cases a
    rw [hc] at hc1
    cases hc1
    exact hne rfl
/-- a series that was raised -/
def raised (x : SerAt) (B : Option Addr) (m d : Nat) (s : Nat → Sam) : SerAt := ⟨x.la, x.ln, x.lc, x.f, B, m, d, s, x.last⟩
theorem row_one (W : World) (x : SerAt) : Row 3 (rx fun _ => x) (W.alloc (.cells #[.slice x.la x.ln x.lc, .slice x.sa x.sn x.sc, .int .i64 x.last] 48)) (some ⟨W.heap.size, 0, none⟩) 1 := fun _ => ⟨⟨W.heap.size, 0, none⟩, rfl, by simp, fun i hi j hj => by
  obtain rfl : i = 0 := by omega
  rw [Addr.add_lit, cell_of_row _ _ _ _ _ _ (heap_alloc_new W _)]
  rcases (show j = 0 ∨ j = 1 ∨ j = 2 by omega) with rfl | rfl | rfl <;> rfl⟩
theorem raise_step {W1 w10 : World} {base base3 m : Nat} {v2 : Value} {q2 : Nat → SerAt} {x : SerAt} {o : Obj} (hb : Below W1.heap.size W1 w10) (hr : Raised w10 base W1.heap.size v2 m q2) (hl : w10.ownsRow base 60 2 (.slice x.la x.ln x.lc) x.ln (rcells 2 (lx x.f) x.ln))
    (ho : w10.ownsRow base3 51 2 (.slice x.sa x.sn x.sc) x.sn (rcells 2 (sx x.s) x.sn)) (hb3 : base ≤ base3) (h1 : ∀ i, i < x.ln → (x.f i).1.size ≤ 300 ∧ (x.f i).2.size ≤ 300) (h2 : x.ln ≤ 1000) (h3 : x.sn ≤ 1000)
    (hlt : ∀ i, i < m → ∀ r, (Value.slice (q2 i).sa (q2 i).sn (q2 i).sc).ownBlock = some r → r < base3) {v12 : Value} {w12 : World}
    (hown : w12.ownsRow W1.heap.size 48 3 v12 (m + 1) (rcells 3 (rx q2) m ++ rcells 3 (rx fun _ => x) 1)) (hg : (w10.alloc o).grownBy w12 v2.ownBlock) :
    Below W1.heap.size W1 w12 ∧ Raised w12 base W1.heap.size v12 (m + 1) (put3 q2 m x) := by
  have ha := World.grownBy_alloc w10 o none
  have own11 := hr.own.alloc o
  have up : ∀ {b2 e k n2 : Nat} {u : Value} {xs : List Value}, w10.ownsRow b2 e k u n2 xs → e ≠ 48 → w12.ownsRow b2 e k u n2 xs := fun hx hne => by
    have h11 := hx.alloc o
    exact row_kept h11 hg (fun r e => row_apart h11 own11 hne e)
  refine ⟨(hb.alloc hb.size o).grown hg (by have := hb.size; simp; omega) (fun r e => (own11.lt r e).1), Raised.more hown (fun i hi => ?_) hr.apart ⟨up hl (by decide), own_from (up ho (by decide)) hb3, h1, h2, h3⟩ (up ho (by decide)) hlt⟩
  have h := hr.each i hi
  exact ⟨up h.labo (by decide), up h.samo (by decide), h.lsize, h.lfew, h.sfew⟩
set_option maxRecDepth 100000 in
set_option maxHeartbeats 4000000 in
theorem raise_any {w W : World} {b mb n : Nat} {v : Value} {fl gen err cnt : Int} {op : List Value} {ans recs : Value} {q : Nat → SerAt} (hw : Work w W b v fl mb op gen err cnt ans recs n q) (t : Int) :
    Calls Try.prog 45 #[.pointer (some ⟨b, 0, none⟩), .int .i64 t] W fun e W' => ∃ (v' : Value) (mb' n' : Nat) (q' : Nat → SerAt), e = .returned (.int .i64 ((Tr.raiseN t (sers q n) : Nat) : Int)) ∧
      Work w W' b v' t mb' op gen err cnt ans recs n' q' ∧ sers q' n' = ((sers q n).filter (Tr.stays t)).map (Tr.keptS t) := by
  obtain ⟨A, c, rfl, hsr⟩ := hw.rows.sers
  have hn := hw.rows.few
  have z0 : W.cell? ⟨b, 0, none⟩ = some (.slice A n c) := cell_of_row _ _ _ _ _ _ hw.wk
  have z1 : W.cell? ⟨b, 1, none⟩ = some (.int .i64 fl) := cell_of_row _ _ _ _ _ _ hw.wk
  have f1 : W.frozen? ⟨b, 1, none⟩ = false := frozen_of_row _ _ _ _ _ hw.wk
  obtain ⟨W1, hW1⟩ : ∃ W1, W1 = W.setCell ⟨b, 1, none⟩ (.int .i64 t) := ⟨_, rfl⟩
  obtain ⟨k1, k2, k3, -⟩ := hw.write 1 (.int .i64 t)
  rw [← hW1] at k1 k2 k3
  have HB1 := Lib.hid k1
  have HK1 : Hid (W1.heap[b]? = some (.cells (workCells (.slice A n c) t (.map (some mb)) op gen err cnt ans recs) 70 (0, 0))) := Lib.hid (by rw [k2]; rfl)
  have HR1 := Lib.hid k3
  have y0 : W1.cell? ⟨b, 0, none⟩ = some (.slice A n c) := cell_of_row _ _ _ _ _ _ HK1.out
  have HW := Lib.hid hw
  have HS1 := Lib.hid (show ∃ A1 c1, Value.slice A n c = .slice A1 n c1 ∧ Sers W1 A1 n c1 q from k3.sers)
  clear k1 k2 k3 hw hsr
  go_enter Try.func45, Try.ntmps45
  go_wp2_with fail
  rw [← hW1]
  obtain ⟨A1, c1, e1, hS⟩ := HS1.out
  cases e1
  have HS := Lib.hid hS
  have hfew := Lib.hid (raiseN_few t q n (fun i hi => (hS.each i hi).sfew))
  clear hW1 z0 z1 f1 y0 hS HS1
  go_loopw [5, 6, 8, 9, 21] (fun went rest _ _ i wr => ∃ (k m : Nat) (q2 : Nat → SerAt), k ≤ n ∧ m ≤ k ∧ i = .int .i64 k ∧ went = .int .i64 ((Tr.raiseN t (sers q k) : Nat) : Int) ∧ Below W1.heap.size W1 wr ∧ Raised wr w.heap.size W1.heap.size rest m q2 ∧ sers q2 m = ((sers q k).filter (Tr.stays t)).map (Tr.keptS t)) (fun _ _ _ _ i _ => n - (intOf i).toNat)
  case atStart => exact ⟨0, 0, q, by omega, by omega, rfl, rfl, Below.refl _ _, ⟨World.ownsRow_nil _ _ _ _, fun i hi => by omega, fun i j hi => by omega⟩, rfl⟩
  case round =>
    obtain ⟨k, m, q2, hk, hmk, rfl, rfl, hb, hrs, hse⟩ := hrel
    have HB := Lib.hid hb; have HRS := Lib.hid hrs; have HSE := Lib.hid hse
    obtain ⟨A2, c2, rfl, -, -, -, -⟩ := own_row hrs.own
    clear hb hrs hse
    by_cases hlt : k < n
    · obtain ⟨ad, rfl, cc0, cc1⟩ := HS.out.row.at_ HB.out hlt
      have x0 := cc0 (by decide); have x1 := cc1 1 (by decide) (by decide); have x2 := cc1 2 (by decide) (by decide)
      have v0 : rx q k 0 = .slice (q k).la (q k).ln (q k).lc := rfl
      have v1 : rx q k 1 = .slice (q k).sa (q k).sn (q k).sc := rfl
      have v2 : rx q k 2 = .int .i64 (q k).last := rfl
      rw [v0] at x0; rw [v1] at x1; rw [v2] at x2
      have i1 : (k : Int) < (n : Int) := by omega
      have i0 : (0 : Int) ≤ (k : Int) := by omega
      have d1 : decide ((k : Int) < (n : Int)) = true := decide_eq_true i1
      obtain ⟨w8, hw8⟩ : ∃ w8, w8 = wr.alloc (.cells #[.slice (q k).la (q k).ln (q k).lc, .slice (q k).sa (q k).sn (q k).sc, .int .i64 (q k).last] 48) := ⟨_, rfl⟩
      have hR8 : Below wr.heap.size wr w8 := by rw [hw8]; exact (Below.refl _ _).alloc (Nat.le_refl _) _
      have hX8 : w8.heap[wr.heap.size]? = some (.cells #[.slice (q k).la (q k).ln (q k).lc, .slice (q k).sa (q k).sn (q k).sc, .int .i64 (q k).last] 48 (0, 0)) := by rw [hw8]; exact heap_alloc_new wr _
      have HB8 := Lib.hid (below_step HB.out hR8)
      have hE := (HS.out.each k hlt).later HB8.out
      have hsf := hE.sfew
      have HBT := Lib.hid (Between_any (q k).sa (q k).sn (q k).sc (by omega) (q k).s t 9223372036854775807 w8 hE.sams)
      have HRS8 := Lib.hid (HRS.out.far hR8)
      have HX8 := Lib.hid hX8
      have HXB := Lib.hid (Nat.le_refl wr.heap.size)
      have hw1r : W1.heap.size ≤ wr.heap.size := HB.out.size
      have hrf := hfew.out k (by omega)
      clear cc0 cc1 v0 v1 v2 hR8 hX8 hE
      have y1 : w8.cell? ⟨wr.heap.size, 1, none⟩ = some (.slice (q k).sa (q k).sn (q k).sc) := cell_of_row _ _ _ _ _ _ HX8.out
      go_wp2_with fail
      rw [← hw8]
      refine HBT.out.mono ?_; rintro e w9 ⟨v9, rfl, hown9, hb9⟩
      have hsl := sel_few (fun i => Ma.inT t 9223372036854775807 ((q k).s i).t) (q k).sn
      have hsw := sel_within (q k).s t 9223372036854775807 (q k).sn
      have hsm := sel_map (s := (q k).s) (Ma.sel (fun i => Ma.inT t 9223372036854775807 ((q k).s i).t) (q k).sn)
      rw [sel_cells] at hown9
      generalize Ma.sel (fun i => Ma.inT t 9223372036854775807 ((q k).s i).t) (q k).sn = L at *
      obtain ⟨B, d, rfl, -, -, -, -⟩ := own_row hown9
      have hX9 := heap_keep HX8.out hb9
      have hlb : (Value.slice A2 m c2).ownBlock ≠ some wr.heap.size := fun e => by
        have := (HRS.out.own.lt _ e).2
        omega
      have hg10 := grown_setCell w9 wr.heap.size 1 (.slice B L.length d)
      have HB9 := Lib.hid (below_step HB8.out hb9)
      have HB10 := Lib.hid (HB9.out.grown hg10 HB9.out.size (fun r e => by cases e; exact hw1r))
      have HRS10 := Lib.hid ((HRS8.out.far hb9).kept hX9 (by decide) (by decide) hlb hg10)
      have hX10 := heap_setCell_same w9 wr.heap.size 1 _ _ (.slice B L.length d) hX9
      have HO10 := Lib.hid (row_kept hown9 hg10 (fun r e => (Option.some.inj e) ▸ block_other hown9 hX9 (by decide)))
      have f9 : w9.frozen? ⟨wr.heap.size, 1, none⟩ = false := frozen_of_row _ _ _ _ _ hX9
      have u1 : w9.cell? ⟨wr.heap.size, 1, none⟩ = some (.slice (q k).sa (q k).sn (q k).sc) := cell_of_row _ _ _ _ _ _ hX9
      have u0 : w9.cell? ⟨wr.heap.size, 0, none⟩ = some (.slice (q k).la (q k).ln (q k).lc) := cell_of_row _ _ _ _ _ _ hX9
      have u2 : w9.cell? ⟨wr.heap.size, 2, none⟩ = some (.int .i64 (q k).last) := cell_of_row _ _ _ _ _ _ hX9
      have hwl : (Tr.within t Tr.top ((List.range (q k).sn).map (q k).s)).length = L.length := by
        have e : Tr.top = 9223372036854775807 := rfl
        rw [e, ← hsw, List.length_map]
      have hsum : Tr.raiseN t (sers q (k + 1)) = Tr.raiseN t (sers q k) + ((q k).sn - L.length) := by rw [raiseN_succ, hwl]
      have hser : ((q k).ser).s = (List.range (q k).sn).map (q k).s := rfl
      have hkept : Tr.keptS t (q k).ser = (raised (q k) B L.length d (fun j => (q k).s (L.getD j 0))).ser := by
        unfold Tr.keptS raised SerAt.ser SerAt.labs
        simp only [Tr.Ser.mk.injEq, true_and, and_true]
        have e : Tr.top = 9223372036854775807 := rfl
        rw [e, ← hsw, hsm]
      have hst : Tr.stays t (q k).ser = (decide (0 < L.length) || decide (t ≤ (q k).last)) := by
        unfold Tr.stays
        congr 1
        rw [hser, Bool.eq_iff_iff]
        simp only [Bool.not_eq_true', List.isEmpty_eq_false_iff, decide_eq_true_eq]
        rw [← List.length_pos_iff, hwl]
      have j1 : IntKind.i64.wrap (((q k).sn : Int) - (L.length : Int)) = ((q k).sn : Int) - (L.length : Int) := IntWalk.i64_in _ (by omega)
      have j2 : wrap64 (((q k).sn : Int) - (L.length : Int)) = ((q k).sn : Int) - (L.length : Int) := IntWalk.wrap64_in _ (by omega)
      have j3 : IntKind.i64.wrap ((Tr.raiseN t (sers q k) : Int) + (((q k).sn : Int) - (L.length : Int))) = (Tr.raiseN t (sers q k) : Int) + (((q k).sn : Int) - (L.length : Int)) := IntWalk.i64_in _ (by omega)
      have j4 : wrap64 ((Tr.raiseN t (sers q k) : Int) + (((q k).sn : Int) - (L.length : Int))) = (Tr.raiseN t (sers q k) : Int) + (((q k).sn : Int) - (L.length : Int)) := IntWalk.wrap64_in _ (by omega)
      have HSUM := Lib.hid (show ((Tr.raiseN t (sers q (k + 1)) : Nat) : Int) = (Tr.raiseN t (sers q k) : Int) + (((q k).sn : Int) - (L.length : Int)) by rw [hsum]; omega)
      have HKE := Lib.hid hkept; have HST := Lib.hid hst; have HX10 := Lib.hid hX10
      have t0 := cell_of_row _ _ 0 _ _ _ hX10
      have t1 := cell_of_row _ _ 1 _ _ _ hX10
      have t2 := cell_of_row _ _ 2 _ _ _ hX10
      have hsz : (w9.setCell ⟨wr.heap.size, 1, none⟩ (.slice B L.length d)).heap.size = w9.heap.size := by simp
      have HROW : Hid (Row 3 (rx fun _ => raised (q k) B L.length d (fun j => (q k).s (L.getD j 0))) ((w9.setCell ⟨wr.heap.size, 1, none⟩ (.slice B L.length d)).alloc (.cells #[.slice (q k).la (q k).ln (q k).lc, .slice B L.length d, .int .i64 (q k).last] 48)) (some ⟨w9.heap.size, 0, none⟩) 1) := Lib.hid (by
        rw [← hsz]
        exact row_one _ (raised (q k) B L.length d (fun j => (q k).s (L.getD j 0))))
      have HOWN := Lib.hid (HRS10.out.own.alloc (.cells #[.slice (q k).la (q k).ln (q k).lc, .slice B L.length d, .int .i64 (q k).last] 48))
      have h89 : w.heap.size ≤ w8.heap.size := Nat.le_trans HB1.out.size HB8.out.size
      have HFIN := Lib.hid (fun v12 w12 hown hg => raise_step (o := .cells #[.slice (q k).la (q k).ln (q k).lc, .slice B L.length d, .int .i64 (q k).last] 48) (x := raised (q k) B L.length d (fun j => (q k).s (L.getD j 0))) (v12 := v12) (w12 := w12) HB10.out HRS10.out (row_far (HR1.out.each k hlt).labo HB10.out) HO10.out h89 (HR1.out.each k hlt).lsize (HR1.out.each k hlt).lfew (show L.length ≤ 1000 by omega) (fun i hi r hr => ((HRS8.out.each i hi).samo.lt r hr).2) hown hg)
      have hW1z : W1.heap.size ≤ w9.heap.size := HB9.out.size
      have hrl : 0 < L.length ∨ t ≤ (q k).last → sers (put3 q2 m (raised (q k) B L.length d (fun j => (q k).s (L.getD j 0)))) (m + 1) = ((sers q (k + 1)).filter (Tr.stays t)).map (Tr.keptS t) := fun h => by
        have hy : Tr.stays t (q k).ser = true := by
          rw [hst]
          rcases h with h | h
          · rw [decide_eq_true h]; rfl
          · rw [decide_eq_true h, Bool.or_true]
        rw [sers_put3, sers_succ, List.filter_append, List.map_append, HSE.out]
        simp [hy, hkept]
      have HRL := Lib.hid hrl
      clear hkept hst hsum hser hwl hsm hsw hX10 hg10 hX9 hlb hown9 hb9 hsz h89 hrl
      by_cases hL : 0 < L.length
      · have HY := Lib.hid (HRL.out (Or.inl hL))
        have b0 : decide ((0 : Int) < (L.length : Int)) = true := decide_eq_true (by omega)
        clear HST HKE HRL
        go_wp2_with (at_builtin; (refine wpList_append_row _ rfl _ _ 26 48 rfl 3 56 (.agg #[.slice none 0 0, .slice none 0 0, .int .i64 0]) Try.underlying26 infoSer rfl (by decide) (by decide) W1.heap.size _ m (rcells 3 (rx q2) m) rfl HOWN.out (some ⟨w9.heap.size, 0, none⟩) 1 1 (rx fun _ => raised (q k) B L.length d (fun j => (q k).s (L.getD j 0))) (rx_one _) rfl HROW.out (fun e => by cases e) (by omega) (by simp; omega) ?_); intro v12 w12 hown12 hg12 _; have HX12 := Lib.hid (HFIN.out v12 w12 hown12 hg12); clear hown12 hg12)
        go_roundw
        case rel => exact ⟨k + 1, m + 1, _, by omega, by omega, by go_num, by rw [HSUM.out], HX12.out.1, HX12.out.2, HY.out⟩
        case measure => simp [intOf]; omega
      · by_cases hT : t ≤ (q k).last
        · have HY := Lib.hid (HRL.out (Or.inr hT))
          have b0 : decide ((0 : Int) < (L.length : Int)) = false := decide_eq_false (by omega)
          have b1 : decide (t ≤ (q k).last) = true := decide_eq_true hT
          clear HST HKE HRL
          go_wp2_with (at_builtin; (refine wpList_append_row _ rfl _ _ 26 48 rfl 3 56 (.agg #[.slice none 0 0, .slice none 0 0, .int .i64 0]) Try.underlying26 infoSer rfl (by decide) (by decide) W1.heap.size _ m (rcells 3 (rx q2) m) rfl HOWN.out (some ⟨w9.heap.size, 0, none⟩) 1 1 (rx fun _ => raised (q k) B L.length d (fun j => (q k).s (L.getD j 0))) (rx_one _) rfl HROW.out (fun e => by cases e) (by omega) (by simp; omega) ?_); intro v12 w12 hown12 hg12 _; have HX12 := Lib.hid (HFIN.out v12 w12 hown12 hg12); clear hown12 hg12)
          go_roundw
          case rel => exact ⟨k + 1, m + 1, _, by omega, by omega, by go_num, by rw [HSUM.out], HX12.out.1, HX12.out.2, HY.out⟩
          case measure => simp [intOf]; omega
        · have b1 : decide (t ≤ (q k).last) = false := decide_eq_false hT
          have b0 : decide ((0 : Int) < (L.length : Int)) = false := decide_eq_false (by omega)
          have HNO : Hid (Tr.stays t (q k).ser = false) := Lib.hid (by rw [HST.out, b1, decide_eq_false hL]; rfl)
          clear HST HKE
          go_wp2_with fail
          go_roundw
          case rel => exact ⟨k + 1, m, q2, by omega, by omega, by go_num, by rw [HSUM.out], HB10.out, HRS10.out, by rw [sers_succ, List.filter_append, List.map_append, HSE.out]; simp [HNO.out]⟩
          case measure => simp [intOf]; omega
    · obtain rfl : k = n := by omega
      have d1 : decide ((k : Int) < (k : Int)) = false := by simp
      have hK := heap_keep HK1.out HB.out
      have f0 : wr.frozen? ⟨b, 0, none⟩ = false := frozen_of_row _ _ _ _ _ hK
      have zz0 : wr.cell? ⟨b, 0, none⟩ = some (.slice A k c) := cell_of_row _ _ _ _ _ _ hK
      have hmn : m ≤ 1000 := by omega
      have hbz : w.heap.size ≤ W1.heap.size := HB1.out.size
      have hWR : WorkRows wr w.heap.size (.slice A2 m c2) m q2 := ⟨own_from HRS.out.own hbz, hmn, HRS.out.each, HRS.out.apart⟩
      have hg5 := grown_setCell wr b 0 (.slice A2 m c2)
      have hWR5 := hWR.kept hK (by decide) (by decide) (by decide) hg5
      have hK5 := heap_setCell_same wr b 0 _ _ (.slice A2 m c2) hK
      have hB5 := (below_step HB1.out HB.out).grown hg5 (Nat.le_trans hbz HB.out.size) (fun r e => by cases e; exact HW.out.lo)
      obtain ⟨A3, c3, e3, hs5⟩ := hWR5.sers
      cases e3
      have HF := Lib.hid (firsts_any A2 m c2 q2 _ hs5)
      have HK5 := Lib.hid hK5; have HWR5 := Lib.hid hWR5; have HB5 := Lib.hid hB5
      clear hK hWR hg5 hWR5 hK5 hB5 hs5
      go_wp2_with fail
      refine HF.out.mono ?_; rintro e w6 ⟨mb2, rfl, hmb, hmap, hb6⟩
      have hK6 := heap_keep HK5.out hb6
      have f2 : w6.frozen? ⟨b, 2, none⟩ = false := frozen_of_row _ _ _ _ _ hK6
      have z2 : w6.cell? ⟨b, 2, none⟩ = some (.map (some mb)) := cell_of_row _ _ _ _ _ _ hK6
      have hg7 := grown_setCell w6 b 2 (.map (some mb2))
      have hWR7 := (HWR5.out.far hb6).kept hK6 (by decide) (by decide) (by decide) hg7
      have hK7 := heap_setCell_same w6 b 2 _ _ (.map (some mb2)) hK6
      have hB6 := below_step HB5.out hb6
      have hB7 := hB6.grown hg7 hB6.size (fun r e => by cases e; exact HW.out.lo)
      have hM7 := hmap.kept hg7 (fun e => by
        cases e
        obtain ⟨es, clock, hm, -⟩ := hmap
        rw [hm] at hK6
        cases hK6)
      have HFIN := Lib.hid (show Work w (w6.setCell ⟨b, 2, none⟩ (.map (some mb2))) b (.slice A2 m c2) t mb2 op gen err cnt ans recs m q2 from ⟨hB7, HW.out.lo, by rw [hK7]; rfl, hWR7, Nat.le_trans HB5.out.size hmb, hM7⟩)
      clear hK6 hg7 hWR7 hK7 hB6 hB7 hM7 hmap hb6
      go_wp2_with fail
      go_ret
      exact ⟨_, mb2, m, q2, rfl, HFIN.out, HSE.out⟩
end Go.Proofs.Ytidfanmfibbiiaa
