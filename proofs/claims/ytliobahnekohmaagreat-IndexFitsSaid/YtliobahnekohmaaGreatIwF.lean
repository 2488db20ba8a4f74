import Derived.Test.YtliobahnekohmaaGreatIxP
import Derived.Test.YtliobahnekohmaaGreatLaM
import Derived.BigQuiet
import Derived.Test.YtliobahnekohmaaGreatIwD
/-
  Who is asked for by postings, as mathematics; rows of places.
-/
namespace Go.Proofs.YtliobahnekohmaaGreat
open Go.RowKit
namespace La
theorem get_at {f : Nat → Lab} {N : Nat} (hd : ∀ i j, i < N → j < N → (f i).1 = (f j).1 → i = j) (name : ByteArray) : ∀ m i j, i + m ≤ N → i ≤ j → j < i + m → (f j).1 = name → get f name m i = (f j).2
  | 0, i, j, _, h1, h2, _ => by omega
  | m + 1, i, j, h0, h1, h2, h3 => by
    unfold get
    by_cases h : (f i).1 = name
    · rw [if_pos h]
      have := hd i j (by omega) (by omega) (by rw [h, h3])
      rw [this]
    · rw [if_neg h]
      have hne : i ≠ j := fun e => h (by rw [e]; exact h3)
      exact get_at hd name m (i + 1) j (by omega) (by omega) (by omega) h3
theorem get_no {f : Nat → Lab} (name : ByteArray) : ∀ m i, (∀ j, i ≤ j → j < i + m → (f j).1 ≠ name) → get f name m i = ByteArray.empty
  | 0, _, _ => rfl
  | m + 1, i, h => by
    unfold get
    rw [if_neg (h i (by omega) (by omega))]
    exact get_no name m (i + 1) fun j h1 h2 => h j (by omega) (by omega)
end La
namespace Ix
theorem names_apart {l : List Lab} (h : La.rightL l = true) : ∀ i j, i < l.length → j < l.length → (La.at_ l i).1 = (La.at_ l j).1 → i = j := by
  obtain ⟨-, -, h3⟩ := La.right_parts h
  have hlt : ∀ d i, i + d + 1 < l.length → La.less (La.at_ l i).1 (La.at_ l (i + d + 1)).1 = true := by
    intro d
    induction d with
    | zero =>
      intro i hi
      obtain ⟨-, -, h4⟩ := h3 (i + 1) (by omega)
      rcases h4 with h4 | h4
      · omega
      · exact h4
    | succ d ih =>
      intro i hi
      have h1 := ih i (by omega)
      obtain ⟨-, -, h4⟩ := h3 (i + (d + 1) + 1) (by omega)
      rcases h4 with h4 | h4
      · omega
      · exact La.less_trans h1 h4
  have hne : ∀ i j, i < j → j < l.length → (La.at_ l i).1 ≠ (La.at_ l j).1 := fun i j hij hj e => by
    have := hlt (j - i - 1) i (by omega)
    rw [show i + (j - i - 1) + 1 = j by omega, e, La.less_irrefl] at this
    cases this
  intro i j hi hj e
  rcases Nat.lt_trichotomy i j with h | h | h
  · exact absurd e (hne i j h hj)
  · exact h
  · exact absurd e.symm (hne j i h hi)
theorem fits_has {l : List Lab} (h : La.rightL l = true) (n v : ByteArray) (hv : v ≠ ByteArray.empty) : Ma.fits ⟨0, n, v⟩ (La.at_ l) l.length = hasN (La.at_ l) (n, v) l.length := by
  have e : Ma.fits ⟨0, n, v⟩ (La.at_ l) l.length = decide (La.get (La.at_ l) n l.length 0 = v) := rfl
  rw [e]
  by_cases hj : ∃ j, j < l.length ∧ (La.at_ l j).1 = n
  · obtain ⟨j, hjl, hjn⟩ := hj
    rw [La.get_at (names_apart h) n l.length 0 j (by omega) (by omega) (by omega) hjn]
    by_cases hw : (La.at_ l j).2 = v
    · rw [decide_eq_true hw]
      exact (hasN_yes hjl (Prod.ext hjn hw)).symm
    · rw [decide_eq_false hw]
      refine (hasN_no fun i hi e2 => ?_).symm
      have := names_apart h i j hi hjl (by rw [hjn, e2])
      subst this
      exact hw (by rw [e2])
  · rw [La.get_no n l.length 0 fun j _ h2 h3 => hj ⟨j, by omega, h3⟩, decide_eq_false fun e => hv e.symm]
    exact (hasN_no fun i hi e2 => hj ⟨i, hi, by rw [e2]⟩).symm
theorem all_two (m : Nat → Mat) (f : Nat → Lab) (n : Nat) : Ma.all m 2 f n = (Ma.fits (m 0) f n && Ma.fits (m 1) f n) := by
  unfold Ma.all Ma.sel
  rcases h0 : Ma.fits (m 0) f n with _ | _ <;> rcases h1 : Ma.fits (m 1) f n with _ | _ <;> simp [List.range_succ, h0, h1]
/-- what two rows of places both have -/
def bothL (a b : List Nat) : List Nat := a.flatMap fun x => b.filter fun y => decide (x = y)
theorem filter_one : ∀ {b : List Nat}, b.Nodup → ∀ x, b.filter (fun y => decide (x = y)) = if x ∈ b then [x] else []
  | [], _, x => rfl
  | y :: b, h, x => by
    obtain ⟨h1, h2⟩ := List.nodup_cons.1 h
    have ih := filter_one h2 x
    rw [List.filter_cons]
    by_cases e : x = y
    · subst e
      rw [if_pos (by simp), ih, if_neg h1, if_pos (List.mem_cons_self ..)]
    · rw [if_neg (by simpa using e), ih]
      by_cases hm : x ∈ b
      · rw [if_pos hm, if_pos (List.mem_cons_of_mem _ hm)]
      · rw [if_neg hm, if_neg (fun h => by rcases List.mem_cons.1 h with h | h; exact e h; exact hm h)]
theorem bothL_sel (p q : Nat → Bool) (n : Nat) : bothL (Ma.sel p n) (Ma.sel q n) = Ma.sel (fun i => p i && q i) n := by
  have hn : (Ma.sel q n).Nodup := List.Pairwise.filter _ List.nodup_range
  have h1 : ∀ L : List Nat, (∀ x ∈ L, x < n) → (L.filter p).flatMap (fun x => (Ma.sel q n).filter fun y => decide (x = y)) = L.filter fun i => p i && q i := by
    intro L
    induction L with
    | nil => intro _; rfl
    | cons x L ih =>
      intro hL
      have hx := hL x (List.mem_cons_self ..)
      have ih := ih fun y hy => hL y (List.mem_cons_of_mem _ hy)
      rw [List.filter_cons, List.filter_cons]
      rcases hp : p x with _ | _
      · rw [Bool.false_and, if_neg (by decide), if_neg (by decide)]; exact ih
      · rw [if_pos rfl, List.flatMap_cons, ih, filter_one hn, Bool.true_and]
        rcases hq : q x with _ | _
        · have hm : ¬ x ∈ Ma.sel q n := fun h => by have := (List.mem_filter.1 h).2; rw [hq] at this; cases this
          rw [if_neg hm, if_neg (by decide), List.nil_append]
        · have hm : x ∈ Ma.sel q n := List.mem_filter.2 ⟨List.mem_range.2 hx, hq⟩
          rw [if_pos hm, if_pos rfl]; rfl
  exact h1 (List.range n) fun x hx => List.mem_range.1 hx
end Ix
/-- places as cells -/
def pcx (L : List Nat) (i _j : Nat) : Value := .int .i64 ((L.getD i 0 : Nat) : Int)
theorem pcx_cells (L : List Nat) : rcells 1 (pcx L) L.length = L.flatMap fun i : Nat => [.int .i64 (i : Int)] := by
  have h1 : ∀ (x : Nat → Nat → Value) (n : Nat), rcells 1 x n = (List.range n).map fun i => x i 0 := by
    intro x n
    induction n with
    | zero => rfl
    | succ n ih => rw [rcells_succ, ih, show List.range (n + 1) = List.range n ++ [n] from List.range_succ, List.map_append]; rfl
  have h2 : ∀ (M : List Nat), (M.flatMap fun i : Nat => [Value.int .i64 (i : Int)]) = M.map fun i : Nat => Value.int .i64 (i : Int) := by
    intro M
    induction M with
    | nil => rfl
    | cons x M ih => rw [List.flatMap_cons, ih]; rfl
  rw [h1, h2]
  apply List.ext_getElem
  · simp
  · intro i h3 h4
    have h5 : i < L.length := by simpa using h3
    simp [pcx, List.getD, h5]
theorem nat_row {w : World} {base : Nat} {v : Value} {L : List Nat} (h : w.ownsRow base 3 1 v L.length (L.flatMap fun i : Nat => [.int .i64 (i : Int)])) : ∃ A c, v = .slice A L.length c ∧ Row 1 (pcx L) w A L.length := by
  rw [← pcx_cells] at h
  obtain ⟨A, c, e, -, -, -, hr⟩ := own_row h
  exact ⟨A, c, e, hr⟩
end Go.Proofs.YtliobahnekohmaaGreat
/-
  Row of the document's answer, on rows that are alike.
-/
namespace Go.Proofs.YtliobahnekohmaaGreat
open Go.RowKit
set_option maxRecDepth 100000 in
set_option maxHeartbeats 1000000 in
theorem rRow_any (A B : Option Addr) (n c d : Nat) (hn : n ≤ 1000000) (s : Nat → Int) (w : World) (hA : Row 1 (fun j _ => .int .i64 (s j)) w A n) (hB : Row 1 (fun j _ => .int .i64 (s j)) w B n) :
    Calls Tryz.prog 24 #[.slice A n c, .slice B n d] w fun e w' => e = .returned (.bool true) ∧ Below w.heap.size w w' := by
  have HA := Lib.hid hA; have HB := Lib.hid hB; clear hA hB
  go_enter Tryz.func24, Tryz.ntmps24
  go_wp2_with fail
  go_loopw [5] (fun i wr => ∃ k : Nat, k ≤ n ∧ i = .int .i64 k ∧ Below w.heap.size w wr) (fun i _ => n - (intOf i).toNat)
  case atStart => exact ⟨0, by omega, rfl, Below.refl _ _⟩
  case round =>
    obtain ⟨k, hk, rfl, hb⟩ := hrel
    have HBL := Lib.hid hb; clear hb
    by_cases hlt : k < n
    · obtain ⟨ad, rfl, c0, -⟩ := HA.out.at_ HBL.out hlt
      obtain ⟨bd, rfl, e0, -⟩ := HB.out.at_ HBL.out hlt
      have x0 : wr.cell? (ad.add k) = some (.int .i64 (s k)) := by have := c0 (by omega); rw [Nat.mul_one] at this; exact this
      have y0 : wr.cell? (bd.add k) = some (.int .i64 (s k)) := by have := e0 (by omega); rw [Nat.mul_one] at this; exact this
      have i1 : (k : Int) < (n : Int) := by omega
      have i0 : (0 : Int) ≤ (k : Int) := by omega
      have i2 : (s k != s k) = false := by simp
      clear c0 e0
      go_wp2_with fail
      go_quiet (fail)
      go_wp2_with fail
      go_roundw
      case rel => exact ⟨k + 1, by omega, by go_num, below_drewN HBL.out _⟩
      case measure => simp [intOf]; omega
    · obtain rfl : k = n := by omega
      have i1 : ¬ (k : Int) < (k : Int) := by omega
      go_wp2_with fail
      go_ret
      exact ⟨rfl, HBL.out⟩
end Go.Proofs.YtliobahnekohmaaGreat
/-
  IndexFits: the walk.
-/
namespace Go.Proofs.YtliobahnekohmaaGreat
open Go.RowKit
open Go.ChangeShapes Go.WideShapes Go.Deep
section
variable {H : Type} {enc : TypeId × Value → H} {w : World} {spare : Nat → Bool} {held : Bool}
set_option maxRecDepth 100000 in
theorem open_lab {r : Reach} {b0 : Nat} {v : Value} {d : DataW H} {p : List MemPlace} (hv : Value.okWide Tryz.prog w r b0 37 v) (h : DataW.Trod enc Tryz.prog w 0 spare held 37 v d p) :
    ∃ x : Lab, v = .agg #[.string x.1, .string x.2] ∧ x.1.size ≤ maxLen ∧ x.2.size ≤ maxLen := by
  obtain ⟨cs, rfl, hcs⟩ := okWide_struct Tryz.underlying37 hv
  obtain ⟨fuel, hfu⟩ := h
  obtain ⟨xs, k, hk, hxy, hlen, hxl, hf⟩ := DataW.trod_struct Tryz.underlying37 hfu
  have hc : Tryz.prog.cellsOf 37 = 2 := by kernel_rfl
  rw [hc] at hlen
  have c0 : (Value.agg cs).cells.toList = cs.toList := rfl
  rw [c0] at hlen hf
  obtain ⟨v0, v1, hcs2⟩ : ∃ v0 v1, cs = #[v0, v1] := by
    obtain ⟨l⟩ := cs
    match l, hlen with
    | [v0, v1], _ => exact ⟨v0, v1, rfl⟩
  subst hcs2
  match xs, hxl with
  | [y0, y1], _ =>
    have g0 := hf 0 _ rfl
    have g1 := hf 1 _ rfl
    have e1 : Tryz.prog.cellsOf 9 = 1 := by kernel_rfl
    simp [e1] at g0 g1
    obtain ⟨b, hb, hbs⟩ := text_of_trod Tryz.underlying9 g0
    obtain ⟨c, hcc, hcs⟩ := text_of_trod Tryz.underlying9 g1
    exact ⟨(b, c), by rw [hb, hcc], hbs, hcs⟩
end
theorem txt_empty {x : ByteArray} : x.toList.isEmpty = true ↔ x = ByteArray.empty := by
  rw [List.isEmpty_iff]
  have e : (ByteArray.empty).toList = [] := by decide +kernel
  rw [← e, ← beq_iff_eq, str_beq, decide_eq_true_eq]
theorem txt_full {x : ByteArray} (h : x ≠ ByteArray.empty) : x.toList.isEmpty = false := by
  rcases hb : x.toList.isEmpty with _ | _
  · rfl
  · exact absurd (txt_empty.1 hb) h
theorem take_flat {a : List Nat} (f : Nat → List Nat) {i : Nat} (hi : i < a.length) : (a.take (i + 1)).flatMap f = (a.take i).flatMap f ++ f (a.getD i 0) := by
  rw [List.take_add_one, List.getElem?_eq_getElem hi, List.flatMap_append, List.getD_eq_getElem?_getD, List.getElem?_eq_getElem hi]
  simp
theorem take_filter {b : List Nat} (f : Nat → Bool) {k : Nat} (hk : k < b.length) : (b.take (k + 1)).filter f = (b.take k).filter f ++ (if f (b.getD k 0) = true then [b.getD k 0] else []) := by
  rw [List.take_add_one, List.getElem?_eq_getElem hk, List.filter_append, List.getD_eq_getElem?_getD, List.getElem?_eq_getElem hk]
  congr 1
  show [b[k]].filter f = _
  rw [List.filter_cons]
  rfl
def plc (L : List Nat) : List Value := L.flatMap fun i : Nat => [.int .i64 (i : Int)]
theorem plc_snoc (L : List Nat) (x : Nat) : plc (L ++ [x]) = plc L ++ [.int .i64 (x : Int)] := by unfold plc; rw [List.flatMap_append]; rfl
def one1 (x : Nat) (_ _ : Nat) : Value := .int .i64 (x : Int)
theorem one1_row (w : World) (x : Nat) (T : TypeId) : Row 1 (one1 x) (w.alloc (.cells #[.int .i64 (x : Int)] T)) (some ⟨w.heap.size, 0, none⟩) 1 := row_built 1 _ w _ _ (fun j hj => by
  obtain rfl : j = 0 := by omega
  rfl)
theorem infoI : (Tryz.prog.info? 3).map (fun i => (i.zero, i.size, i.bytes)) = some (some (.int .i64 0), 1, 8) := by kernel_rfl
theorem keep_cell {w U : World} {b i : Nat} {v : Value} (h : w.cell? ⟨b, i, none⟩ = some v) (hb : Below w.heap.size w U) : U.cell? ⟨b, i, none⟩ = some v := by
  have hlt := block_lt_of_cell h
  unfold World.cell? at h ⊢
  rw [hb.block b hlt]
  exact h
def fm (x y : Lab) (i : Nat) : Mat := if i = 0 then ⟨0, x.1, x.2⟩ else ⟨0, y.1, y.2⟩
theorem asked_is {q : Nat → EAt} {n : Nat} (x y : Lab) (hx : x.2 ≠ ByteArray.empty) (hy : y.2 ≠ ByteArray.empty) (hr : ∀ i, i < n → La.rightL (q i).e.l = true) :
    Ma.sel (fun i => Ma.all (fm x y) 2 (La.at_ (q i).e.l) (q i).e.l.length) n = Ix.bothL (Ma.sel (hasE q x) n) (Ma.sel (hasE q y) n) := by
  rw [Ix.bothL_sel]
  unfold Ma.sel
  refine List.filter_congr fun i hi => ?_
  have h := hr i (List.mem_range.1 hi)
  rw [Ix.all_two]
  show (Ma.fits ⟨0, x.1, x.2⟩ _ _ && Ma.fits ⟨0, y.1, y.2⟩ _ _) = _
  rw [Ix.fits_has h _ _ hx, Ix.fits_has h _ _ hy]
  rfl
theorem valid_right {q : Nat → EAt} {n : Nat} {g : Int} (h : Ix.valid (entL q n) g = 0) : ∀ i, i < n → La.rightL (q i).e.l = true := fun i hi =>
  (Ix.good h).right _ (List.mem_map.2 ⟨i, List.mem_range.2 hi, rfl⟩)
theorem valid_few {q : Nat → EAt} {n : Nat} {g : Int} (h : Ix.valid (entL q n) g = 0) : n ≤ 20 := by
  have := (Ix.good h).few
  rwa [entL_length] at this
set_option maxRecDepth 100000 in
set_option maxHeartbeats 8000000 in
theorem indexFits_walk {H : Type} {enc : TypeId × Value → H} {r0 : Reach} {b0 : Nat} {v0 : Value} {d0 : DataW H} {p0 : List MemPlace} {r1 : Reach} {b1 : Nat} {v1 : Value} {d1 : DataW H} {p1 : List MemPlace} {r2 : Reach} {b2 : Nat} {v2 : Value} {d2 : DataW H} {p2 : List MemPlace} (w : World)
    (o0 : Value.okWide Tryz.prog w r0 b0 22 v0) (k0 : DataW.Trod enc Tryz.prog w 0 (fun _ => true) true 22 v0 d0 p0)
    (o1 : Value.okWide Tryz.prog w r1 b1 37 v1) (k1 : DataW.Trod enc Tryz.prog w 0 (fun _ => true) true 37 v1 d1 p1)
    (o2 : Value.okWide Tryz.prog w r2 b2 37 v2) (k2 : DataW.Trod enc Tryz.prog w 0 (fun _ => true) true 37 v2 d2 p2) :
    Calls Tryz.prog 6 #[v0, v1, v2] w fun e w' => e = .returned (.bool true) ∧ Below w.heap.size w w' := by
  obtain ⟨A, n, c, q, rfl, hn, -, hA⟩ := open_ents o0 k0
  obtain ⟨x, rfl, -, -⟩ := open_lab o1 k1
  obtain ⟨y, rfl, -, -⟩ := open_lab o2 k2
  obtain ⟨x1, x2⟩ := x
  obtain ⟨y1, y2⟩ := y
  simp only
  clear o0 k0 o1 k1 o2 k2
  obtain ⟨wa, hwa⟩ : ∃ wa, wa = (w.alloc (.cells #[.string x1, .string x2] 37)).alloc (.cells #[.string y1, .string y2] 37) := ⟨_, rfl⟩
  have hba : Below w.heap.size w wa := by rw [hwa]; exact ((Below.refl _ _).alloc (Nat.le_refl _) _).alloc (by simp) _
  have hx : wa.heap[w.heap.size]? = some (.cells #[.string x1, .string x2] 37 (0, 0)) := by rw [hwa]; exact heap_keep (heap_alloc_new w _) ((Below.refl _ _).alloc (Nat.le_refl _) _)
  have hy : wa.heap[w.heap.size + 1]? = some (.cells #[.string y1, .string y2] 37 (0, 0)) := by
    rw [hwa]
    have h := heap_alloc_new (w.alloc (.cells #[.string x1, .string x2] 37)) (.cells #[.string y1, .string y2] 37)
    rw [World.size_alloc] at h
    exact h
  have HA := Lib.hid hA; have HX := Lib.hid hx; have HY := Lib.hid hy
  have HBA := Lib.hid hba
  have HF := Lib.hid (fun U (hU : Below wa.heap.size wa U) => few_any A n c hn q U ((HA.out.later HBA.out).later hU))
  clear hA hx hy hba
  go_enter Tryz.func6, Tryz.ntmps6
  go_upto_region 1 with fail
  rw [← hwa]
  clear hwa
  go_wp2_with fail
  refine (works_any _).mono ?_; rintro e w1 ⟨rfl, hb1⟩
  have HB1 := Lib.hid hb1
  clear hb1
  go_wp2_with fail
  refine (HF.out _ HB1.out).mono ?_; rintro e w2 ⟨rfl, hb2⟩
  have HB2 := Lib.hid (below_step HB1.out hb2)
  clear hb2 HB1 HF
  obtain ⟨f1, hf1⟩ : ∃ f1, f1 = fewR q n := ⟨_, rfl⟩
  rw [← hf1]
  have HFW := Lib.hid hf1
  clear hf1
  cases f1 with
  | false =>
    go_wp2_with fail
    go_ret
    exact ⟨rfl, HBA.out.trans (HB2.out.mono HBA.out.size)⟩
  | true =>
    have hin := ((HA.out.in_ HFW.out.symm).later HBA.out).later HB2.out
    have HIN := Lib.hid hin
    have HV := Lib.hid (Valid_any A n c q 3 w2 hin)
    have HVR := Lib.hid (fun h => And.intro (valid_right (q := q) (n := n) (g := 3) h) (valid_few (q := q) (n := n) (g := 3) h))
    have HX2 := Lib.hid (heap_keep HX.out HB2.out); have HY2 := Lib.hid (heap_keep HY.out HB2.out)
    clear hin HFW HX HY
    generalize Ix.valid (entL q n) 3 = er at *
    go_wp2_with fail
    refine HV.out.mono ?_; rintro e w3 ⟨rfl, hb3⟩
    have HB3 := Lib.hid (below_step HB2.out hb3); have HI3 := Lib.hid (HIN.out.later hb3)
    have HX3 := Lib.hid (heap_keep HX2.out hb3); have HY3 := Lib.hid (heap_keep HY2.out hb3)
    clear hb3 HB2 HIN HX2 HY2 HV
    have u0 := cell_of_row _ _ 0 _ _ _ HX3.out; have u1 := cell_of_row _ _ 1 _ _ _ HX3.out
    have z0 := cell_of_row _ _ 0 _ _ _ HY3.out; have z1 := cell_of_row _ _ 1 _ _ _ HY3.out
    simp only [List.getElem?_toArray, List.getElem?_cons_zero, List.getElem?_cons_succ] at u0 u1 z0 z1
    have HDONE : Hid (∀ U, Below wa.heap.size wa U → Below w.heap.size w U) := Lib.hid (fun U hU => HBA.out.trans (hU.mono HBA.out.size))
    by_cases her : er = 0
    · by_cases hx0 : x2 = ByteArray.empty
      · have ex : x2.toList.isEmpty = true := txt_empty.2 hx0
        subst her
        clear hx0
        go_wp2_with fail
        go_ret
        exact ⟨rfl, HDONE.out _ HB3.out⟩
      · by_cases hy0 : y2 = ByteArray.empty
        · have ex : x2.toList.isEmpty = false := txt_full hx0
          have ey : y2.toList.isEmpty = true := txt_empty.2 hy0
          subst her
          clear hx0 hy0
          go_wp2_with fail
          go_ret
          exact ⟨rfl, HDONE.out _ HB3.out⟩
        · have ex : x2.toList.isEmpty = false := txt_full hx0
          have ey : y2.toList.isEmpty = false := txt_full hy0
          obtain ⟨hright, hn20⟩ := HVR.out her
          have HAS := Lib.hid (asked_is (q := q) (n := n) (x1, x2) (y1, y2) hx0 hy0 hright)
          subst her
          clear hx0 hy0 hright HVR
          have HPX := Lib.hid (fun U (hU : Below w3.heap.size w3 U) => Postings_any A n c q (x1, x2) U (HI3.out.later hU))
          have HPY := Lib.hid (fun U (hU : Below w3.heap.size w3 U) => Postings_any A n c q (y1, y2) U (HI3.out.later hU))
          have hla := Ma.sel_length (hasE q (x1, x2)) n
          have hlb := Ma.sel_length (hasE q (y1, y2)) n
          go_wp2_with fail
          refine (HPX.out w3 (Below.refl _ _)).mono ?_; rintro e w4 ⟨va, rfl, hoa, hb4⟩
          have HB4 := Lib.hid (below_step HB3.out hb4); have HB34 := Lib.hid hb4
          have z0' := keep_cell z0 hb4; have z1' := keep_cell z1 hb4; have u0' := keep_cell u0 hb4; have u1' := keep_cell u1 hb4
          generalize hLa : Ma.sel (hasE q (x1, x2)) n = a at *
          obtain ⟨PA, ca, rfl, hra⟩ := nat_row hoa
          have HRA := Lib.hid hra
          clear hoa hra hb4 HPX u0 u1 z0 z1 hLa
          go_wp2_with fail
          refine (HPY.out w4 HB34.out).mono ?_; rintro e w5 ⟨vb, rfl, hob, hb5⟩
          have HB5 := Lib.hid (below_step HB4.out hb5); have HB35 := Lib.hid (below_step HB34.out hb5)
          have z0 := keep_cell z0' hb5; have z1 := keep_cell z1' hb5; have u0 := keep_cell u0' hb5; have u1 := keep_cell u1' hb5
          have HRA5 := Lib.hid (HRA.out.later hb5)
          generalize hLb : Ma.sel (hasE q (y1, y2)) n = b at *
          obtain ⟨PB, cb, rfl, hrb⟩ := nat_row hob
          have HRB := Lib.hid hrb
          clear hob hrb hb5 HPY u0' u1' z0' z1' hLb HRA HB4 HB34
          have HU0 := Lib.hid u0; have HU1 := Lib.hid u1; have HZ0 := Lib.hid z0; have HZ1 := Lib.hid z1
          clear u0 u1 z0 z1
          have ha20 : a.length ≤ 20 := by omega
          have hb20 : b.length ≤ 20 := by omega
          clear hla hlb
          go_wp2_with fail
          go_loopw [11, 12, 13] (fun v i _ wr => ∃ k : Nat, k ≤ a.length ∧ i = .int .i64 k ∧ ((a.take k).flatMap fun x => b.filter fun y => decide (x = y)).length ≤ 20 * k ∧ wr.ownsRow w5.heap.size 3 1 v ((a.take k).flatMap fun x => b.filter fun y => decide (x = y)).length (plc ((a.take k).flatMap fun x => b.filter fun y => decide (x = y))) ∧ Below w5.heap.size w5 wr) (fun _ i _ _ => a.length - (intOf i).toNat)
          case atStart => exact ⟨0, Nat.zero_le _, rfl, by simp, World.ownsRow_nil _ _ _ _, Below.refl _ _⟩
          case round =>
            obtain ⟨k, hk, rfl, hlen, hown, hbl⟩ := hrel
            have HO := Lib.hid hown; have HBL := Lib.hid hbl; have HLEN := Lib.hid hlen
            clear hown hbl hlen
            by_cases hka : k < a.length
            · have d1 : decide ((k : Int) < (a.length : Int)) = true := decide_eq_true (Int.ofNat_lt.2 hka)
              obtain ⟨wo, hwo⟩ : ∃ wo, wo = wr := ⟨_, rfl⟩
              subst hwo
              have HTF := Lib.hid (take_flat (fun x => b.filter fun y => decide (x = y)) hka)
              obtain ⟨ad, rfl, hca, -⟩ := HRA5.out.at_ (Below.refl _ _) hka
              have HCA := Lib.hid (fun (U : World) (hU : Below w5.heap.size w5 U) => (HRA5.out.at_ hU hka))
              clear hca
              generalize (a.take k).flatMap (fun x => b.filter fun y => decide (x = y)) = L at *
              go_wp2_with fail
              go_loopw [11, 13] (fun v i wr => ∃ m : Nat, m ≤ b.length ∧ i = .int .i64 m ∧ (L ++ (b.take m).filter fun y => decide (a.getD k 0 = y)).length ≤ 20 * k + m ∧ wr.ownsRow w5.heap.size 3 1 v (L ++ (b.take m).filter fun y => decide (a.getD k 0 = y)).length (plc (L ++ (b.take m).filter fun y => decide (a.getD k 0 = y))) ∧ Below w5.heap.size w5 wr) (fun _ i _ => b.length - (intOf i).toNat)
              case atStart => exact ⟨0, Nat.zero_le _, rfl, by simpa using HLEN.out, by simpa using HO.out, HBL.out⟩
              case round =>
                obtain ⟨m, hm, rfl, hlen, hown, hbl⟩ := hrel
                have HOI := Lib.hid hown; have HBI := Lib.hid hbl; have HLI := Lib.hid hlen
                clear hown hbl hlen
                by_cases hmb : m < b.length
                · have d2 : decide ((m : Int) < (b.length : Int)) = true := decide_eq_true (Int.ofNat_lt.2 hmb)
                  have HTM := Lib.hid (take_filter (fun y => decide (a.getD k 0 = y)) hmb)
                  obtain ⟨ad', e', hca, -⟩ := HCA.out wr HBI.out
                  cases e'
                  obtain ⟨bd, rfl, hcb, -⟩ := HRB.out.at_ HBI.out hmb
                  have x0 : wr.cell? (ad.add k) = some (.int .i64 ((a.getD k 0 : Nat) : Int)) := by have := hca (by decide); rw [Nat.mul_one] at this; exact this
                  have y0 : wr.cell? (bd.add m) = some (.int .i64 ((b.getD m 0 : Nat) : Int)) := by have := hcb (by decide); rw [Nat.mul_one] at this; exact this
                  have i0 : (0 : Int) ≤ (k : Int) := Int.natCast_nonneg _
                  have i1 : (k : Int) < (a.length : Int) := Int.ofNat_lt.2 hka
                  have j0 : (0 : Int) ≤ (m : Int) := Int.natCast_nonneg _
                  have j1 : (m : Int) < (b.length : Int) := Int.ofNat_lt.2 hmb
                  clear hca hcb
                  generalize a.getD k 0 = ax at *
                  generalize b.getD m 0 = bx at *
                  generalize (b.take m).filter (fun y => decide (ax = y)) = M at *
                  obtain ⟨M2, hM2⟩ : ∃ M2, (b.take (m + 1)).filter (fun y => decide (ax = y)) = M2 := ⟨_, rfl⟩
                  rw [hM2] at HTM
                  have HM2 := Lib.hid hM2
                  clear hM2
                  by_cases hxy : ax = bx
                  · have e2 : ((ax : Int) == (bx : Int)) = true := by rw [hxy]; exact beq_self_eq_true _
                    have hM : M2 = M ++ [bx] := by rw [HTM.out, if_pos (by simpa using hxy)]
                    have HMX := Lib.hid hM
                    have HBX := Lib.hid hxy
                    have hsz : w5.heap.size ≤ wr.heap.size := HBI.out.size
                    have hll : (L ++ M).length + 1 ≤ 1000000 := by have := HLI.out; omega
                    clear hxy hM HTM
                    go_wp2_with fail
                    go_quiet (fail)
                    go_wp2_with (at_builtin; go_must (refine wpList_append_row _ rfl _ _ 43 3 rfl 1 8 (.int .i64 0) Tryz.underlying43 infoI rfl (by decide) (by decide) w5.heap.size _ (L ++ M).length (plc (L ++ M)) rfl (row_far HOI.out ((below_drewN (Below.refl _ _) nq).alloc (Nat.le_refl _) _)) ⟨wr.heap.size, 0, none⟩ 1 1 (one1 ax) (fun _ _ => rfl) rfl (one1_row (wr.drewN nq) ax 3) hll (by simp; omega) ?_); intro v8 w8 hown8 hg8; have HO8 := Lib.hid hown8; have HG8 := Lib.hid hg8; clear hown8 hg8)
                    go_roundw
                    case rel =>
                      refine ⟨m + 1, hmb, rfl, ?_, ?_, ((below_drewN HBI.out nq).alloc hsz _).grown HG8.out (by simp; omega) (fun r e => (HOI.out.lt r e).1)⟩
                      · rw [HM2.out, HMX.out, ← List.append_assoc, List.length_append]
                        exact Nat.succ_le_succ HLI.out
                      · have ho8 := HO8.out
                        rw [HM2.out, HMX.out, ← List.append_assoc, plc_snoc, List.length_append, ← HBX.out]
                        exact ho8
                    case measure => exact meas_lt0 hmb
                  · have e2 : ((ax : Int) == (bx : Int)) = false := beq_eq_false_iff_ne.2 (fun h => hxy (Int.ofNat.inj h))
                    have hM : M2 = M := by rw [HTM.out, if_neg (by simpa using hxy), List.append_nil]
                    have HMX := Lib.hid hM
                    clear hxy HTM hM
                    go_wp2_with fail
                    go_quiet (fail)
                    go_wp2_with fail
                    go_roundw
                    case rel => exact ⟨m + 1, hmb, rfl, by rw [HM2.out, HMX.out]; exact Nat.le_succ_of_le HLI.out, by rw [HM2.out, HMX.out]; exact HOI.out, below_drewN HBI.out _⟩
                    case measure => exact meas_lt0 hmb
                · obtain rfl : m = b.length := Nat.le_antisymm hm (Nat.le_of_not_lt hmb)
                  have d2 : decide ((b.length : Int) < (b.length : Int)) = false := decide_eq_false (Int.lt_irrefl _)
                  go_wp2_with fail
                  go_roundw
                  case rel =>
                    have hli := HLI.out
                    rw [List.take_length] at hli
                    refine ⟨k + 1, hka, rfl, ?_, ?_, HBI.out⟩
                    · rw [HTF.out]; omega
                    · rw [HTF.out]
                      have hoi := HOI.out
                      rw [List.take_length] at hoi
                      exact hoi
                  case measure => exact meas_lt0 hka
            · obtain rfl : k = a.length := Nat.le_antisymm hk (Nat.le_of_not_lt hka)
              have d1 : decide ((a.length : Int) < (a.length : Int)) = false := decide_eq_false (Int.lt_irrefl _)
              have hfull : (a.take a.length).flatMap (fun x => b.filter fun y => decide (x = y)) = Ix.bothL a b := by rw [List.take_length]; rfl
              have ho := HO.out
              have hle := HLEN.out
              rw [hfull] at ho hle
              obtain ⟨PV, cv, rfl, hrv⟩ := nat_row ho
              have HRV := Lib.hid hrv
              generalize Ix.bothL a b = Z at *
              have u0 := keep_cell HU0.out HBL.out; have u1 := keep_cell HU1.out HBL.out; have z0 := keep_cell HZ0.out HBL.out; have z1 := keep_cell HZ1.out HBL.out
              have HIE := Lib.hid ((HI3.out.later HB35.out).later HBL.out)
              have HBE := Lib.hid (below_step HB5.out HBL.out)
              have hZ : Z.length ≤ 1000000 := by omega
              clear hfull ho hle hrv HO HLEN HRA5 HRB HU0 HU1 HZ0 HZ1 HB5 HB35 HI3 HX3 HY3 HB3 HA
              obtain ⟨wm, hwm⟩ : ∃ wm, wm = wr.alloc (.cells #[.int .i64 0, .string x1, .string x2, .int .i64 0, .string y1, .string y2] 55) := ⟨_, rfl⟩
              have hbm : Below wr.heap.size wr wm := by rw [hwm]; exact (Below.refl _ _).alloc (Nat.le_refl _) _
              have hmm : Row 3 (mx (fm (x1, x2) (y1, y2))) wm (some ⟨wr.heap.size, 0, none⟩) 2 := fun _ => ⟨_, rfl, by rw [hwm]; simp, fun i hi j hj => by
                rw [Addr.add_lit, Nat.zero_add, hwm, cell_of_row _ _ _ _ _ _ (heap_alloc_new wr _)]
                rcases (show i = 0 ∨ i = 1 by omega) with rfl | rfl <;> rcases (show j = 0 ∨ j = 1 ∨ j = 2 by omega) with rfl | rfl | rfl <;> rfl⟩
              have HMM := Lib.hid hmm
              have HIM := Lib.hid (HIE.out.later hbm); have HBM := Lib.hid (below_step HBE.out hbm); have HVM := Lib.hid (HRV.out.later hbm)
              clear hmm hbm HIE HBE HRV HBL
              go_upto_region 19 with fail
              rw [← hwm]
              clear hwm u0 u1 z0 z1
              obtain ⟨mb, hmb⟩ : ∃ mb, mb = wr.heap.size := ⟨_, rfl⟩
              rw [← hmb] at HMM ⊢
              clear hmb
              go_wp2_with fail
              go_loopw [15, 16] (fun v i wr => ∃ j : Nat, j ≤ n ∧ i = .int .i64 j ∧ wr.ownsRow wm.heap.size 57 1 v j (rcells 1 (ax q) j) ∧ Below wm.heap.size wm wr) (fun _ i _ => n - (intOf i).toNat)
              case atStart => exact ⟨0, Nat.zero_le _, rfl, World.ownsRow_nil _ _ _ _, Below.refl _ _⟩
              case round =>
                obtain ⟨j, hj, rfl, hown, hbl⟩ := hrel
                have HO := Lib.hid hown; have HBL := Lib.hid hbl
                clear hown hbl
                by_cases hjn : j < n
                · have d2 : decide ((j : Int) < (n : Int)) = true := decide_eq_true (Int.ofNat_lt.2 hjn)
                  obtain ⟨ad, rfl, c0, -, -, -⟩ := HIM.out.cells HBL.out hjn
                  have i0 : (0 : Int) ≤ (j : Int) := Int.natCast_nonneg _
                  have i1 : (j : Int) < (n : Int) := Int.ofNat_lt.2 hjn
                  have hsz : wm.heap.size ≤ wr.heap.size := HBL.out.size
                  have hll : j + 1 ≤ 1000000 := by omega
                  go_wp2_with (at_builtin; go_must (refine wpList_append_row _ rfl _ _ 56 57 rfl 1 24 (.slice none 0 0) Tryz.underlying56 infoLs rfl (by decide) (by decide) wm.heap.size _ j (rcells 1 (ax q) j) rfl (row_far HO.out ((Below.refl _ _).alloc (Nat.le_refl _) _)) ⟨wr.heap.size, 0, none⟩ 1 1 (ax1 q j) (fun _ _ => rfl) rfl (ax1_row q j wr 57) hll (by simp; omega) ?_); intro v8 w8 hown8 hg8; have HO8 := Lib.hid hown8; have HG8 := Lib.hid hg8; clear hown8 hg8)
                  go_roundw
                  case rel => exact ⟨j + 1, hjn, rfl, by rw [rcells_succ 1 (ax q) j]; exact HO8.out, (HBL.out.alloc hsz _).grown HG8.out (by simp; omega) (fun r e => (HO.out.lt r e).1)⟩
                  case measure => exact meas_lt0 hjn
                · obtain rfl : j = n := Nat.le_antisymm hj (Nat.le_of_not_lt hjn)
                  have d2 : decide ((j : Int) < (j : Int)) = false := decide_eq_false (Int.lt_irrefl _)
                  obtain ⟨PC, cc, rfl, -, -, -, hrc⟩ := own_row HO.out
                  have HRC := Lib.hid hrc
                  have HAK := Lib.hid (Ask_any A j c q (some ⟨mb, 0, none⟩) 2 2 (by decide) (fm (x1, x2) (y1, y2)) wr (HIM.out.later HBL.out) (HMM.out.later HBL.out))
                  have HSE := Lib.hid (fun (U : World) (hU : Below wr.heap.size wr U) => Select_any (some ⟨mb, 0, none⟩) 2 2 (by decide) (fm (x1, x2) (y1, y2)) PC j cc (by omega) (fun i => (q i).A) (fun i => (q i).e.l.length) (fun i => (q i).c) (fun i => La.at_ (q i).e.l) (fun i hi => by have := (HIM.out.each i hi).len; omega) U ((HMM.out.later HBL.out).later hU) (HRC.out.later hU) (fun i hi => ((HIM.out.each i hi).row.later HBL.out).later hU))
                  have HVR2 := Lib.hid (HVM.out.later HBL.out)
                  rw [HAS.out] at HAK HSE
                  clear hrc HO HIM HMM HAS HVM
                  go_wp2_with fail
                  refine HAK.out.mono ?_; rintro e w11 ⟨v11, rfl, ho11, hb11⟩
                  obtain ⟨P1, c1, rfl, hr1⟩ := nat_row ho11
                  have HC1 := Lib.hid (rRow_any P1 PV Z.length c1 cv hZ (fun j => ((Z.getD j 0 : Nat) : Int)) w11 hr1 (HVR2.out.later hb11))
                  have HB11 := Lib.hid hb11
                  clear ho11 hr1 hb11 HAK
                  go_wp2_with fail
                  refine HC1.out.mono ?_; rintro e w12 ⟨rfl, hb12⟩
                  have HB12 := Lib.hid (below_step HB11.out hb12)
                  have HC2 := Lib.hid (HSE.out w12 (below_step HB11.out hb12))
                  clear hb12 HB11 HC1 HSE
                  go_wp2_with fail
                  refine HC2.out.mono ?_; rintro e w13 ⟨v13, rfl, ho13, hb13⟩
                  obtain ⟨P3, c3, rfl, hr3⟩ := nat_row ho13
                  have HC3 := Lib.hid (rRow_any P3 PV Z.length c3 cv hZ (fun j => ((Z.getD j 0 : Nat) : Int)) w13 hr3 ((HVR2.out.later HB12.out).later hb13))
                  have HB13 := Lib.hid (below_step HB12.out hb13)
                  clear ho13 hr3 hb13 HC2 HB12
                  go_wp2_with fail
                  refine HC3.out.mono ?_; rintro e w14 ⟨rfl, hb14⟩
                  have HFIN := Lib.hid (HDONE.out w14 (below_step HBM.out (below_step HBL.out (below_step HB13.out hb14))))
                  clear hb14 HC3 HB13
                  go_wp2_with fail
                  go_ret
                  exact ⟨rfl, HFIN.out⟩
    · have d1 : (er != 0) = true := bne_iff_ne.2 her
      clear her
      go_wp2_with fail
      go_ret
      exact ⟨rfl, HDONE.out _ HB3.out⟩
end Go.Proofs.YtliobahnekohmaaGreat
