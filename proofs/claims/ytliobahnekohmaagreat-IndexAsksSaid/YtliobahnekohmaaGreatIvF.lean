import Derived.Test.YtliobahnekohmaaGreatIxP
import Derived.Test.YtliobahnekohmaaGreatLaM
import Derived.BigQuiet
import Derived.Test.YtliobahnekohmaaGreatIwD
import Derived.Test.YtliobahnekohmaaGreatLaR
import Derived.Test.YtliobahnekohmaaGreatNumO
import Derived.Test.YtliobahnekohmaaGreatRegT
import Derived.Deep.CutBlock
import Derived.Deep.Slices
import Derived.Test.YtliobahnekohmaaGreatMaG
import Derived.Laws.AppendOwnNone
import Derived.Laws.StructEq
/-
  Who is asked for by postings, as mathematics; rows of places.
-/
namespace Go.Proofs.YtliobahnekohmaaGreat
open Go.RowKit
namespace La
theorem get_at {f : Nat → Lab} {N : Nat} (hd : ∀ i j, i < N → j < N → (f i).1 = (f j).1 → i = j) (name : ByteArray) : ∀ m i j, i + m ≤ N → i ≤ j → j < i + m → (f j).1 = name → get f name m i = (f j).2
  | 0, i, j, _, h1, h2, _ => by omega
  | m + 1, i, j, h0, h1, h2, h3 => by
    unfold get
    by_cases h : (f i).1 = name
    · rw [if_pos h]
      have := hd i j (by omega) (by omega) (by rw [h, h3])
      rw [this]
    · rw [if_neg h]
      have hne : i ≠ j := fun e => h (by rw [e]; exact h3)
      exact get_at hd name m (i + 1) j (by omega) (by omega) (by omega) h3
theorem get_no {f : Nat → Lab} (name : ByteArray) : ∀ m i, (∀ j, i ≤ j → j < i + m → (f j).1 ≠ name) → get f name m i = ByteArray.empty
  | 0, _, _ => rfl
  | m + 1, i, h => by
    unfold get
    rw [if_neg (h i (by omega) (by omega))]
    exact get_no name m (i + 1) fun j h1 h2 => h j (by omega) (by omega)
end La
namespace Ix
theorem names_apart {l : List Lab} (h : La.rightL l = true) : ∀ i j, i < l.length → j < l.length → (La.at_ l i).1 = (La.at_ l j).1 → i = j := by
  obtain ⟨-, -, h3⟩ := La.right_parts h
  have hlt : ∀ d i, i + d + 1 < l.length → La.less (La.at_ l i).1 (La.at_ l (i + d + 1)).1 = true := by
    intro d
    induction d with
    | zero =>
      intro i hi
      obtain ⟨-, -, h4⟩ := h3 (i + 1) (by omega)
      rcases h4 with h4 | h4
      · omega
      · exact h4
    | succ d ih =>
      intro i hi
      have h1 := ih i (by omega)
      obtain ⟨-, -, h4⟩ := h3 (i + (d + 1) + 1) (by omega)
      rcases h4 with h4 | h4
      · omega
      · exact La.less_trans h1 h4
  have hne : ∀ i j, i < j → j < l.length → (La.at_ l i).1 ≠ (La.at_ l j).1 := fun i j hij hj e => by
    have := hlt (j - i - 1) i (by omega)
    rw [show i + (j - i - 1) + 1 = j by omega, e, La.less_irrefl] at this
    cases this
  intro i j hi hj e
  rcases Nat.lt_trichotomy i j with h | h | h
  · exact absurd e (hne i j h hj)
  · exact h
  · exact absurd e.symm (hne j i h hi)
theorem fits_has {l : List Lab} (h : La.rightL l = true) (n v : ByteArray) (hv : v ≠ ByteArray.empty) : Ma.fits ⟨0, n, v⟩ (La.at_ l) l.length = hasN (La.at_ l) (n, v) l.length := by
  have e : Ma.fits ⟨0, n, v⟩ (La.at_ l) l.length = decide (La.get (La.at_ l) n l.length 0 = v) := rfl
  rw [e]
  by_cases hj : ∃ j, j < l.length ∧ (La.at_ l j).1 = n
  · obtain ⟨j, hjl, hjn⟩ := hj
    rw [La.get_at (names_apart h) n l.length 0 j (by omega) (by omega) (by omega) hjn]
    by_cases hw : (La.at_ l j).2 = v
    · rw [decide_eq_true hw]
      exact (hasN_yes hjl (Prod.ext hjn hw)).symm
    · rw [decide_eq_false hw]
      refine (hasN_no fun i hi e2 => ?_).symm
      have := names_apart h i j hi hjl (by rw [hjn, e2])
      subst this
      exact hw (by rw [e2])
  · rw [La.get_no n l.length 0 fun j _ h2 h3 => hj ⟨j, by omega, h3⟩, decide_eq_false fun e => hv e.symm]
    exact (hasN_no fun i hi e2 => hj ⟨i, hi, by rw [e2]⟩).symm
theorem all_two (m : Nat → Mat) (f : Nat → Lab) (n : Nat) : Ma.all m 2 f n = (Ma.fits (m 0) f n && Ma.fits (m 1) f n) := by
  unfold Ma.all Ma.sel
  rcases h0 : Ma.fits (m 0) f n with _ | _ <;> rcases h1 : Ma.fits (m 1) f n with _ | _ <;> simp [List.range_succ, h0, h1]
/-- what two rows of places both have -/
def bothL (a b : List Nat) : List Nat := a.flatMap fun x => b.filter fun y => decide (x = y)
theorem filter_one : ∀ {b : List Nat}, b.Nodup → ∀ x, b.filter (fun y => decide (x = y)) = if x ∈ b then [x] else []
  | [], _, x => rfl
  | y :: b, h, x => by
    obtain ⟨h1, h2⟩ := List.nodup_cons.1 h
    have ih := filter_one h2 x
    rw [List.filter_cons]
    by_cases e : x = y
    · subst e
      rw [if_pos (by simp), ih, if_neg h1, if_pos (List.mem_cons_self ..)]
    · rw [if_neg (by simpa using e), ih]
      by_cases hm : x ∈ b
      · rw [if_pos hm, if_pos (List.mem_cons_of_mem _ hm)]
      · rw [if_neg hm, if_neg (fun h => by rcases List.mem_cons.1 h with h | h; exact e h; exact hm h)]
theorem bothL_sel (p q : Nat → Bool) (n : Nat) : bothL (Ma.sel p n) (Ma.sel q n) = Ma.sel (fun i => p i && q i) n := by
  have hn : (Ma.sel q n).Nodup := List.Pairwise.filter _ List.nodup_range
  have h1 : ∀ L : List Nat, (∀ x ∈ L, x < n) → (L.filter p).flatMap (fun x => (Ma.sel q n).filter fun y => decide (x = y)) = L.filter fun i => p i && q i := by
    intro L
    induction L with
    | nil => intro _; rfl
    | cons x L ih =>
      intro hL
      have hx := hL x (List.mem_cons_self ..)
      have ih := ih fun y hy => hL y (List.mem_cons_of_mem _ hy)
      rw [List.filter_cons, List.filter_cons]
      rcases hp : p x with _ | _
      · rw [Bool.false_and, if_neg (by decide), if_neg (by decide)]; exact ih
      · rw [if_pos rfl, List.flatMap_cons, ih, filter_one hn, Bool.true_and]
        rcases hq : q x with _ | _
        · have hm : ¬ x ∈ Ma.sel q n := fun h => by have := (List.mem_filter.1 h).2; rw [hq] at this; cases this
          rw [if_neg hm, if_neg (by decide), List.nil_append]
        · have hm : x ∈ Ma.sel q n := List.mem_filter.2 ⟨List.mem_range.2 hx, hq⟩
          rw [if_pos hm, if_pos rfl]; rfl
  exact h1 (List.range n) fun x hx => List.mem_range.1 hx
end Ix
/-- places as cells -/
def pcx (L : List Nat) (i _j : Nat) : Value := .int .i64 ((L.getD i 0 : Nat) : Int)
theorem pcx_cells (L : List Nat) : rcells 1 (pcx L) L.length = L.flatMap fun i : Nat => [.int .i64 (i : Int)] := by
  have h1 : ∀ (x : Nat → Nat → Value) (n : Nat), rcells 1 x n = (List.range n).map fun i => x i 0 := by
    intro x n
    induction n with
    | zero => rfl
    | succ n ih => rw [rcells_succ, ih, show List.range (n + 1) = List.range n ++ [n] from List.range_succ, List.map_append]; rfl
  have h2 : ∀ (M : List Nat), (M.flatMap fun i : Nat => [Value.int .i64 (i : Int)]) = M.map fun i : Nat => Value.int .i64 (i : Int) := by
    intro M
    induction M with
    | nil => rfl
    | cons x M ih => rw [List.flatMap_cons, ih]; rfl
  rw [h1, h2]
  apply List.ext_getElem
  · simp
  · intro i h3 h4
    have h5 : i < L.length := by simpa using h3
    simp [pcx, List.getD, h5]
theorem nat_row {w : World} {base : Nat} {v : Value} {L : List Nat} (h : w.ownsRow base 3 1 v L.length (L.flatMap fun i : Nat => [.int .i64 (i : Int)])) : ∃ A c, v = .slice A L.length c ∧ Row 1 (pcx L) w A L.length := by
  rw [← pcx_cells] at h
  obtain ⟨A, c, e, -, -, -, hr⟩ := own_row h
  exact ⟨A, c, e, hr⟩
end Go.Proofs.YtliobahnekohmaaGreat
/-
  Row of the document's answer, on rows that are alike.
-/
namespace Go.Proofs.YtliobahnekohmaaGreat
open Go.RowKit
set_option maxRecDepth 100000 in
set_option maxHeartbeats 1000000 in
theorem rRow_any (A B : Option Addr) (n c d : Nat) (hn : n ≤ 1000000) (s : Nat → Int) (w : World) (hA : Row 1 (fun j _ => .int .i64 (s j)) w A n) (hB : Row 1 (fun j _ => .int .i64 (s j)) w B n) :
    Calls Tryz.prog 24 #[.slice A n c, .slice B n d] w fun e w' => e = .returned (.bool true) ∧ Below w.heap.size w w' := by
  have HA := Lib.hid hA; have HB := Lib.hid hB; clear hA hB
  go_enter Tryz.func24, Tryz.ntmps24
  go_wp2_with fail
  go_loopw [5] (fun i wr => ∃ k : Nat, k ≤ n ∧ i = .int .i64 k ∧ Below w.heap.size w wr) (fun i _ => n - (intOf i).toNat)
  case atStart => exact ⟨0, by omega, rfl, Below.refl _ _⟩
  case round =>
    obtain ⟨k, hk, rfl, hb⟩ := hrel
    have HBL := Lib.hid hb; clear hb
    by_cases hlt : k < n
    · obtain ⟨ad, rfl, c0, -⟩ := HA.out.at_ HBL.out hlt
      obtain ⟨bd, rfl, e0, -⟩ := HB.out.at_ HBL.out hlt
      have x0 : wr.cell? (ad.add k) = some (.int .i64 (s k)) := by have := c0 (by omega); rw [Nat.mul_one] at this; exact this
      have y0 : wr.cell? (bd.add k) = some (.int .i64 (s k)) := by have := e0 (by omega); rw [Nat.mul_one] at this; exact this
      have i1 : (k : Int) < (n : Int) := by omega
      have i0 : (0 : Int) ≤ (k : Int) := by omega
      have i2 : (s k != s k) = false := by simp
      clear c0 e0
      go_wp2_with fail
      go_quiet (fail)
      go_wp2_with fail
      go_roundw
      case rel => exact ⟨k + 1, by omega, by go_num, below_drewN HBL.out _⟩
      case measure => simp [intOf]; omega
    · obtain rfl : k = n := by omega
      have i1 : ¬ (k : Int) < (k : Int) := by omega
      go_wp2_with fail
      go_ret
      exact ⟨rfl, HBL.out⟩
end Go.Proofs.YtliobahnekohmaaGreat
/-
  IndexFits: the walk.
-/
namespace Go.Proofs.YtliobahnekohmaaGreat
open Go.RowKit
open Go.ChangeShapes Go.WideShapes Go.Deep
section
variable {H : Type} {enc : TypeId × Value → H} {w : World} {spare : Nat → Bool} {held : Bool}
set_option maxRecDepth 100000 in
theorem open_lab {r : Reach} {b0 : Nat} {v : Value} {d : DataW H} {p : List MemPlace} (hv : Value.okWide Tryz.prog w r b0 37 v) (h : DataW.Trod enc Tryz.prog w 0 spare held 37 v d p) :
    ∃ x : Lab, v = .agg #[.string x.1, .string x.2] ∧ x.1.size ≤ maxLen ∧ x.2.size ≤ maxLen := by
  obtain ⟨cs, rfl, hcs⟩ := okWide_struct Tryz.underlying37 hv
  obtain ⟨fuel, hfu⟩ := h
  obtain ⟨xs, k, hk, hxy, hlen, hxl, hf⟩ := DataW.trod_struct Tryz.underlying37 hfu
  have hc : Tryz.prog.cellsOf 37 = 2 := by kernel_rfl
  rw [hc] at hlen
  have c0 : (Value.agg cs).cells.toList = cs.toList := rfl
  rw [c0] at hlen hf
  obtain ⟨v0, v1, hcs2⟩ : ∃ v0 v1, cs = #[v0, v1] := by
    obtain ⟨l⟩ := cs
    match l, hlen with
    | [v0, v1], _ => exact ⟨v0, v1, rfl⟩
  subst hcs2
  match xs, hxl with
  | [y0, y1], _ =>
    have g0 := hf 0 _ rfl
    have g1 := hf 1 _ rfl
    have e1 : Tryz.prog.cellsOf 9 = 1 := by kernel_rfl
    simp [e1] at g0 g1
    obtain ⟨b, hb, hbs⟩ := text_of_trod Tryz.underlying9 g0
    obtain ⟨c, hcc, hcs⟩ := text_of_trod Tryz.underlying9 g1
    exact ⟨(b, c), by rw [hb, hcc], hbs, hcs⟩
end
theorem txt_empty {x : ByteArray} : x.toList.isEmpty = true ↔ x = ByteArray.empty := by
  rw [List.isEmpty_iff]
  have e : (ByteArray.empty).toList = [] := by decide +kernel
  rw [← e, ← beq_iff_eq, str_beq, decide_eq_true_eq]
theorem txt_full {x : ByteArray} (h : x ≠ ByteArray.empty) : x.toList.isEmpty = false := by
  rcases hb : x.toList.isEmpty with _ | _
  · rfl
  · exact absurd (txt_empty.1 hb) h
theorem take_flat {a : List Nat} (f : Nat → List Nat) {i : Nat} (hi : i < a.length) : (a.take (i + 1)).flatMap f = (a.take i).flatMap f ++ f (a.getD i 0) := by
  rw [List.take_add_one, List.getElem?_eq_getElem hi, List.flatMap_append, List.getD_eq_getElem?_getD, List.getElem?_eq_getElem hi]
  simp
theorem take_filter {b : List Nat} (f : Nat → Bool) {k : Nat} (hk : k < b.length) : (b.take (k + 1)).filter f = (b.take k).filter f ++ (if f (b.getD k 0) = true then [b.getD k 0] else []) := by
  rw [List.take_add_one, List.getElem?_eq_getElem hk, List.filter_append, List.getD_eq_getElem?_getD, List.getElem?_eq_getElem hk]
  congr 1
  show [b[k]].filter f = _
  rw [List.filter_cons]
  rfl
def plc (L : List Nat) : List Value := L.flatMap fun i : Nat => [.int .i64 (i : Int)]
theorem plc_snoc (L : List Nat) (x : Nat) : plc (L ++ [x]) = plc L ++ [.int .i64 (x : Int)] := by unfold plc; rw [List.flatMap_append]; rfl
def one1 (x : Nat) (_ _ : Nat) : Value := .int .i64 (x : Int)
theorem one1_row (w : World) (x : Nat) (T : TypeId) : Row 1 (one1 x) (w.alloc (.cells #[.int .i64 (x : Int)] T)) (some ⟨w.heap.size, 0, none⟩) 1 := row_built 1 _ w _ _ (fun j hj => by
  obtain rfl : j = 0 := by omega
  rfl)
theorem infoI : (Tryz.prog.info? 3).map (fun i => (i.zero, i.size, i.bytes)) = some (some (.int .i64 0), 1, 8) := by kernel_rfl
theorem keep_cell {w U : World} {b i : Nat} {v : Value} (h : w.cell? ⟨b, i, none⟩ = some v) (hb : Below w.heap.size w U) : U.cell? ⟨b, i, none⟩ = some v := by
  have hlt := block_lt_of_cell h
  unfold World.cell? at h ⊢
  rw [hb.block b hlt]
  exact h
def fm (x y : Lab) (i : Nat) : Mat := if i = 0 then ⟨0, x.1, x.2⟩ else ⟨0, y.1, y.2⟩
theorem asked_is {q : Nat → EAt} {n : Nat} (x y : Lab) (hx : x.2 ≠ ByteArray.empty) (hy : y.2 ≠ ByteArray.empty) (hr : ∀ i, i < n → La.rightL (q i).e.l = true) :
    Ma.sel (fun i => Ma.all (fm x y) 2 (La.at_ (q i).e.l) (q i).e.l.length) n = Ix.bothL (Ma.sel (hasE q x) n) (Ma.sel (hasE q y) n) := by
  rw [Ix.bothL_sel]
  unfold Ma.sel
  refine List.filter_congr fun i hi => ?_
  have h := hr i (List.mem_range.1 hi)
  rw [Ix.all_two]
  show (Ma.fits ⟨0, x.1, x.2⟩ _ _ && Ma.fits ⟨0, y.1, y.2⟩ _ _) = _
  rw [Ix.fits_has h _ _ hx, Ix.fits_has h _ _ hy]
  rfl
theorem valid_right {q : Nat → EAt} {n : Nat} {g : Int} (h : Ix.valid (entL q n) g = 0) : ∀ i, i < n → La.rightL (q i).e.l = true := fun i hi =>
  (Ix.good h).right _ (List.mem_map.2 ⟨i, List.mem_range.2 hi, rfl⟩)
theorem valid_few {q : Nat → EAt} {n : Nat} {g : Int} (h : Ix.valid (entL q n) g = 0) : n ≤ 20 := by
  have := (Ix.good h).few
  rwa [entL_length] at this
set_option maxRecDepth 100000 in
set_option maxHeartbeats 8000000 in
theorem indexFits_walk {H : Type} {enc : TypeId × Value → H} {r0 : Reach} {b0 : Nat} {v0 : Value} {d0 : DataW H} {p0 : List MemPlace} {r1 : Reach} {b1 : Nat} {v1 : Value} {d1 : DataW H} {p1 : List MemPlace} {r2 : Reach} {b2 : Nat} {v2 : Value} {d2 : DataW H} {p2 : List MemPlace} (w : World)
    (o0 : Value.okWide Tryz.prog w r0 b0 22 v0) (k0 : DataW.Trod enc Tryz.prog w 0 (fun _ => true) true 22 v0 d0 p0)
    (o1 : Value.okWide Tryz.prog w r1 b1 37 v1) (k1 : DataW.Trod enc Tryz.prog w 0 (fun _ => true) true 37 v1 d1 p1)
    (o2 : Value.okWide Tryz.prog w r2 b2 37 v2) (k2 : DataW.Trod enc Tryz.prog w 0 (fun _ => true) true 37 v2 d2 p2) :
    Calls Tryz.prog 6 #[v0, v1, v2] w fun e w' => e = .returned (.bool true) ∧ Below w.heap.size w w' := by
  obtain ⟨A, n, c, q, rfl, hn, -, hA⟩ := open_ents o0 k0
  obtain ⟨x, rfl, -, -⟩ := open_lab o1 k1
  obtain ⟨y, rfl, -, -⟩ := open_lab o2 k2
  obtain ⟨x1, x2⟩ := x
  obtain ⟨y1, y2⟩ := y
  simp only
  clear o0 k0 o1 k1 o2 k2
  obtain ⟨wa, hwa⟩ : ∃ wa, wa = (w.alloc (.cells #[.string x1, .string x2] 37)).alloc (.cells #[.string y1, .string y2] 37) := ⟨_, rfl⟩
  have hba : Below w.heap.size w wa := by rw [hwa]; exact ((Below.refl _ _).alloc (Nat.le_refl _) _).alloc (by simp) _
  have hx : wa.heap[w.heap.size]? = some (.cells #[.string x1, .string x2] 37 (0, 0)) := by rw [hwa]; exact heap_keep (heap_alloc_new w _) ((Below.refl _ _).alloc (Nat.le_refl _) _)
  have hy : wa.heap[w.heap.size + 1]? = some (.cells #[.string y1, .string y2] 37 (0, 0)) := by
    rw [hwa]
    have h := heap_alloc_new (w.alloc (.cells #[.string x1, .string x2] 37)) (.cells #[.string y1, .string y2] 37)
    rw [World.size_alloc] at h
    exact h
  have HA := Lib.hid hA; have HX := Lib.hid hx; have HY := Lib.hid hy
  have HBA := Lib.hid hba
  have HF := Lib.hid (fun U (hU : Below wa.heap.size wa U) => few_any A n c hn q U ((HA.out.later HBA.out).later hU))
  clear hA hx hy hba
  go_enter Tryz.func6, Tryz.ntmps6
  go_upto_region 1 with fail
  rw [← hwa]
  clear hwa
  go_wp2_with fail
  refine (works_any _).mono ?_; rintro e w1 ⟨rfl, hb1⟩
  have HB1 := Lib.hid hb1
  clear hb1
  go_wp2_with fail
  refine (HF.out _ HB1.out).mono ?_; rintro e w2 ⟨rfl, hb2⟩
  have HB2 := Lib.hid (below_step HB1.out hb2)
  clear hb2 HB1 HF
  obtain ⟨f1, hf1⟩ : ∃ f1, f1 = fewR q n := ⟨_, rfl⟩
  rw [← hf1]
  have HFW := Lib.hid hf1
  clear hf1
  cases f1 with
  | false =>
    go_wp2_with fail
    go_ret
    exact ⟨rfl, HBA.out.trans (HB2.out.mono HBA.out.size)⟩
  | true =>
    have hin := ((HA.out.in_ HFW.out.symm).later HBA.out).later HB2.out
    have HIN := Lib.hid hin
    have HV := Lib.hid (Valid_any A n c q 3 w2 hin)
    have HVR := Lib.hid (fun h => And.intro (valid_right (q := q) (n := n) (g := 3) h) (valid_few (q := q) (n := n) (g := 3) h))
    have HX2 := Lib.hid (heap_keep HX.out HB2.out); have HY2 := Lib.hid (heap_keep HY.out HB2.out)
    clear hin HFW HX HY
    generalize Ix.valid (entL q n) 3 = er at *
    go_wp2_with fail
    refine HV.out.mono ?_; rintro e w3 ⟨rfl, hb3⟩
    have HB3 := Lib.hid (below_step HB2.out hb3); have HI3 := Lib.hid (HIN.out.later hb3)
    have HX3 := Lib.hid (heap_keep HX2.out hb3); have HY3 := Lib.hid (heap_keep HY2.out hb3)
    clear hb3 HB2 HIN HX2 HY2 HV
    have u0 := cell_of_row _ _ 0 _ _ _ HX3.out; have u1 := cell_of_row _ _ 1 _ _ _ HX3.out
    have z0 := cell_of_row _ _ 0 _ _ _ HY3.out; have z1 := cell_of_row _ _ 1 _ _ _ HY3.out
    simp only [List.getElem?_toArray, List.getElem?_cons_zero, List.getElem?_cons_succ] at u0 u1 z0 z1
    have HDONE : Hid (∀ U, Below wa.heap.size wa U → Below w.heap.size w U) := Lib.hid (fun U hU => HBA.out.trans (hU.mono HBA.out.size))
    by_cases her : er = 0
    · by_cases hx0 : x2 = ByteArray.empty
      · have ex : x2.toList.isEmpty = true := txt_empty.2 hx0
        subst her
        clear hx0
        go_wp2_with fail
        go_ret
        exact ⟨rfl, HDONE.out _ HB3.out⟩
      · by_cases hy0 : y2 = ByteArray.empty
        · have ex : x2.toList.isEmpty = false := txt_full hx0
          have ey : y2.toList.isEmpty = true := txt_empty.2 hy0
          subst her
          clear hx0 hy0
          go_wp2_with fail
          go_ret
          exact ⟨rfl, HDONE.out _ HB3.out⟩
        · have ex : x2.toList.isEmpty = false := txt_full hx0
          have ey : y2.toList.isEmpty = false := txt_full hy0
          obtain ⟨hright, hn20⟩ := HVR.out her
          have HAS := Lib.hid (asked_is (q := q) (n := n) (x1, x2) (y1, y2) hx0 hy0 hright)
          subst her
          clear hx0 hy0 hright HVR
          have HPX := Lib.hid (fun U (hU : Below w3.heap.size w3 U) => Postings_any A n c q (x1, x2) U (HI3.out.later hU))
          have HPY := Lib.hid (fun U (hU : Below w3.heap.size w3 U) => Postings_any A n c q (y1, y2) U (HI3.out.later hU))
          have hla := Ma.sel_length (hasE q (x1, x2)) n
          have hlb := Ma.sel_length (hasE q (y1, y2)) n
          go_wp2_with fail
          refine (HPX.out w3 (Below.refl _ _)).mono ?_; rintro e w4 ⟨va, rfl, hoa, hb4⟩
          have HB4 := Lib.hid (below_step HB3.out hb4); have HB34 := Lib.hid hb4
          have z0' := keep_cell z0 hb4; have z1' := keep_cell z1 hb4; have u0' := keep_cell u0 hb4; have u1' := keep_cell u1 hb4
          generalize hLa : Ma.sel (hasE q (x1, x2)) n = a at *
          obtain ⟨PA, ca, rfl, hra⟩ := nat_row hoa
          have HRA := Lib.hid hra
          clear hoa hra hb4 HPX u0 u1 z0 z1 hLa
          go_wp2_with fail
          refine (HPY.out w4 HB34.out).mono ?_; rintro e w5 ⟨vb, rfl, hob, hb5⟩
          have HB5 := Lib.hid (below_step HB4.out hb5); have HB35 := Lib.hid (below_step HB34.out hb5)
          have z0 := keep_cell z0' hb5; have z1 := keep_cell z1' hb5; have u0 := keep_cell u0' hb5; have u1 := keep_cell u1' hb5
          have HRA5 := Lib.hid (HRA.out.later hb5)
          generalize hLb : Ma.sel (hasE q (y1, y2)) n = b at *
          obtain ⟨PB, cb, rfl, hrb⟩ := nat_row hob
          have HRB := Lib.hid hrb
          clear hob hrb hb5 HPY u0' u1' z0' z1' hLb HRA HB4 HB34
          have HU0 := Lib.hid u0; have HU1 := Lib.hid u1; have HZ0 := Lib.hid z0; have HZ1 := Lib.hid z1
          clear u0 u1 z0 z1
          have ha20 : a.length ≤ 20 := by omega
          have hb20 : b.length ≤ 20 := by omega
          clear hla hlb
          go_wp2_with fail
          go_loopw [11, 12, 13] (fun v i _ wr => ∃ k : Nat, k ≤ a.length ∧ i = .int .i64 k ∧ ((a.take k).flatMap fun x => b.filter fun y => decide (x = y)).length ≤ 20 * k ∧ wr.ownsRow w5.heap.size 3 1 v ((a.take k).flatMap fun x => b.filter fun y => decide (x = y)).length (plc ((a.take k).flatMap fun x => b.filter fun y => decide (x = y))) ∧ Below w5.heap.size w5 wr) (fun _ i _ _ => a.length - (intOf i).toNat)
          case atStart => exact ⟨0, Nat.zero_le _, rfl, by simp, World.ownsRow_nil _ _ _ _, Below.refl _ _⟩
          case round =>
            obtain ⟨k, hk, rfl, hlen, hown, hbl⟩ := hrel
            have HO := Lib.hid hown; have HBL := Lib.hid hbl; have HLEN := Lib.hid hlen
            clear hown hbl hlen
            by_cases hka : k < a.length
            · have d1 : decide ((k : Int) < (a.length : Int)) = true := decide_eq_true (Int.ofNat_lt.2 hka)
              obtain ⟨wo, hwo⟩ : ∃ wo, wo = wr := ⟨_, rfl⟩
              subst hwo
              have HTF := Lib.hid (take_flat (fun x => b.filter fun y => decide (x = y)) hka)
              obtain ⟨ad, rfl, hca, -⟩ := HRA5.out.at_ (Below.refl _ _) hka
              have HCA := Lib.hid (fun (U : World) (hU : Below w5.heap.size w5 U) => (HRA5.out.at_ hU hka))
              clear hca
              generalize (a.take k).flatMap (fun x => b.filter fun y => decide (x = y)) = L at *
              go_wp2_with fail
              go_loopw [11, 13] (fun v i wr => ∃ m : Nat, m ≤ b.length ∧ i = .int .i64 m ∧ (L ++ (b.take m).filter fun y => decide (a.getD k 0 = y)).length ≤ 20 * k + m ∧ wr.ownsRow w5.heap.size 3 1 v (L ++ (b.take m).filter fun y => decide (a.getD k 0 = y)).length (plc (L ++ (b.take m).filter fun y => decide (a.getD k 0 = y))) ∧ Below w5.heap.size w5 wr) (fun _ i _ => b.length - (intOf i).toNat)
              case atStart => exact ⟨0, Nat.zero_le _, rfl, by simpa using HLEN.out, by simpa using HO.out, HBL.out⟩
              case round =>
                obtain ⟨m, hm, rfl, hlen, hown, hbl⟩ := hrel
                have HOI := Lib.hid hown; have HBI := Lib.hid hbl; have HLI := Lib.hid hlen
                clear hown hbl hlen
                by_cases hmb : m < b.length
                · have d2 : decide ((m : Int) < (b.length : Int)) = true := decide_eq_true (Int.ofNat_lt.2 hmb)
                  have HTM := Lib.hid (take_filter (fun y => decide (a.getD k 0 = y)) hmb)
                  obtain ⟨ad', e', hca, -⟩ := HCA.out wr HBI.out
                  cases e'
                  obtain ⟨bd, rfl, hcb, -⟩ := HRB.out.at_ HBI.out hmb
                  have x0 : wr.cell? (ad.add k) = some (.int .i64 ((a.getD k 0 : Nat) : Int)) := by have := hca (by decide); rw [Nat.mul_one] at this; exact this
                  have y0 : wr.cell? (bd.add m) = some (.int .i64 ((b.getD m 0 : Nat) : Int)) := by have := hcb (by decide); rw [Nat.mul_one] at this; exact this
                  have i0 : (0 : Int) ≤ (k : Int) := Int.natCast_nonneg _
                  have i1 : (k : Int) < (a.length : Int) := Int.ofNat_lt.2 hka
                  have j0 : (0 : Int) ≤ (m : Int) := Int.natCast_nonneg _
                  have j1 : (m : Int) < (b.length : Int) := Int.ofNat_lt.2 hmb
                  clear hca hcb
                  generalize a.getD k 0 = ax at *
                  generalize b.getD m 0 = bx at *
                  generalize (b.take m).filter (fun y => decide (ax = y)) = M at *
                  obtain ⟨M2, hM2⟩ : ∃ M2, (b.take (m + 1)).filter (fun y => decide (ax = y)) = M2 := ⟨_, rfl⟩
                  rw [hM2] at HTM
                  have HM2 := Lib.hid hM2
                  clear hM2
                  by_cases hxy : ax = bx
                  · have e2 : ((ax : Int) == (bx : Int)) = true := by rw [hxy]; exact beq_self_eq_true _
                    have hM : M2 = M ++ [bx] := by rw [HTM.out, if_pos (by simpa using hxy)]
                    have HMX := Lib.hid hM
                    have HBX := Lib.hid hxy
                    have hsz : w5.heap.size ≤ wr.heap.size := HBI.out.size
                    have hll : (L ++ M).length + 1 ≤ 1000000 := by have := HLI.out; omega
                    clear hxy hM HTM
                    go_wp2_with fail
                    go_quiet (fail)
                    go_wp2_with (at_builtin; go_must (refine wpList_append_row _ rfl _ _ 43 3 rfl 1 8 (.int .i64 0) Tryz.underlying43 infoI rfl (by decide) (by decide) w5.heap.size _ (L ++ M).length (plc (L ++ M)) rfl (row_far HOI.out ((below_drewN (Below.refl _ _) nq).alloc (Nat.le_refl _) _)) ⟨wr.heap.size, 0, none⟩ 1 1 (one1 ax) (fun _ _ => rfl) rfl (one1_row (wr.drewN nq) ax 3) hll (by simp; omega) ?_); intro v8 w8 hown8 hg8; have HO8 := Lib.hid hown8; have HG8 := Lib.hid hg8; clear hown8 hg8)
                    go_roundw
                    case rel =>
                      refine ⟨m + 1, hmb, rfl, ?_, ?_, ((below_drewN HBI.out nq).alloc hsz _).grown HG8.out (by simp; omega) (fun r e => (HOI.out.lt r e).1)⟩
                      · rw [HM2.out, HMX.out, ← List.append_assoc, List.length_append]
                        exact Nat.succ_le_succ HLI.out
                      · have ho8 := HO8.out
                        rw [HM2.out, HMX.out, ← List.append_assoc, plc_snoc, List.length_append, ← HBX.out]
                        exact ho8
                    case measure => exact meas_lt0 hmb
                  · have e2 : ((ax : Int) == (bx : Int)) = false := beq_eq_false_iff_ne.2 (fun h => hxy (Int.ofNat.inj h))
                    have hM : M2 = M := by rw [HTM.out, if_neg (by simpa using hxy), List.append_nil]
                    have HMX := Lib.hid hM
                    clear hxy HTM hM
                    go_wp2_with fail
                    go_quiet (fail)
                    go_wp2_with fail
                    go_roundw
                    case rel => exact ⟨m + 1, hmb, rfl, by rw [HM2.out, HMX.out]; exact Nat.le_succ_of_le HLI.out, by rw [HM2.out, HMX.out]; exact HOI.out, below_drewN HBI.out _⟩
                    case measure => exact meas_lt0 hmb
                · obtain rfl : m = b.length := Nat.le_antisymm hm (Nat.le_of_not_lt hmb)
                  have d2 : decide ((b.length : Int) < (b.length : Int)) = false := decide_eq_false (Int.lt_irrefl _)
                  go_wp2_with fail
                  go_roundw
                  case rel =>
                    have hli := HLI.out
                    rw [List.take_length] at hli
                    refine ⟨k + 1, hka, rfl, ?_, ?_, HBI.out⟩
                    · rw [HTF.out]; omega
                    · rw [HTF.out]
                      have hoi := HOI.out
                      rw [List.take_length] at hoi
                      exact hoi
                  case measure => exact meas_lt0 hka
            · obtain rfl : k = a.length := Nat.le_antisymm hk (Nat.le_of_not_lt hka)
              have d1 : decide ((a.length : Int) < (a.length : Int)) = false := decide_eq_false (Int.lt_irrefl _)
              have hfull : (a.take a.length).flatMap (fun x => b.filter fun y => decide (x = y)) = Ix.bothL a b := by rw [List.take_length]; rfl
              have ho := HO.out
              have hle := HLEN.out
              rw [hfull] at ho hle
              obtain ⟨PV, cv, rfl, hrv⟩ := nat_row ho
              have HRV := Lib.hid hrv
              generalize Ix.bothL a b = Z at *
              have u0 := keep_cell HU0.out HBL.out; have u1 := keep_cell HU1.out HBL.out; have z0 := keep_cell HZ0.out HBL.out; have z1 := keep_cell HZ1.out HBL.out
              have HIE := Lib.hid ((HI3.out.later HB35.out).later HBL.out)
              have HBE := Lib.hid (below_step HB5.out HBL.out)
              have hZ : Z.length ≤ 1000000 := by omega
              clear hfull ho hle hrv HO HLEN HRA5 HRB HU0 HU1 HZ0 HZ1 HB5 HB35 HI3 HX3 HY3 HB3 HA
              obtain ⟨wm, hwm⟩ : ∃ wm, wm = wr.alloc (.cells #[.int .i64 0, .string x1, .string x2, .int .i64 0, .string y1, .string y2] 55) := ⟨_, rfl⟩
              have hbm : Below wr.heap.size wr wm := by rw [hwm]; exact (Below.refl _ _).alloc (Nat.le_refl _) _
              have hmm : Row 3 (mx (fm (x1, x2) (y1, y2))) wm (some ⟨wr.heap.size, 0, none⟩) 2 := fun _ => ⟨_, rfl, by rw [hwm]; simp, fun i hi j hj => by
                rw [Addr.add_lit, Nat.zero_add, hwm, cell_of_row _ _ _ _ _ _ (heap_alloc_new wr _)]
                rcases (show i = 0 ∨ i = 1 by omega) with rfl | rfl <;> rcases (show j = 0 ∨ j = 1 ∨ j = 2 by omega) with rfl | rfl | rfl <;> rfl⟩
              have HMM := Lib.hid hmm
              have HIM := Lib.hid (HIE.out.later hbm); have HBM := Lib.hid (below_step HBE.out hbm); have HVM := Lib.hid (HRV.out.later hbm)
              clear hmm hbm HIE HBE HRV HBL
              go_upto_region 19 with fail
              rw [← hwm]
              clear hwm u0 u1 z0 z1
              obtain ⟨mb, hmb⟩ : ∃ mb, mb = wr.heap.size := ⟨_, rfl⟩
              rw [← hmb] at HMM ⊢
              clear hmb
              go_wp2_with fail
              go_loopw [15, 16] (fun v i wr => ∃ j : Nat, j ≤ n ∧ i = .int .i64 j ∧ wr.ownsRow wm.heap.size 57 1 v j (rcells 1 (ax q) j) ∧ Below wm.heap.size wm wr) (fun _ i _ => n - (intOf i).toNat)
              case atStart => exact ⟨0, Nat.zero_le _, rfl, World.ownsRow_nil _ _ _ _, Below.refl _ _⟩
              case round =>
                obtain ⟨j, hj, rfl, hown, hbl⟩ := hrel
                have HO := Lib.hid hown; have HBL := Lib.hid hbl
                clear hown hbl
                by_cases hjn : j < n
                · have d2 : decide ((j : Int) < (n : Int)) = true := decide_eq_true (Int.ofNat_lt.2 hjn)
                  obtain ⟨ad, rfl, c0, -, -, -⟩ := HIM.out.cells HBL.out hjn
                  have i0 : (0 : Int) ≤ (j : Int) := Int.natCast_nonneg _
                  have i1 : (j : Int) < (n : Int) := Int.ofNat_lt.2 hjn
                  have hsz : wm.heap.size ≤ wr.heap.size := HBL.out.size
                  have hll : j + 1 ≤ 1000000 := by omega
                  go_wp2_with (at_builtin; go_must (refine wpList_append_row _ rfl _ _ 56 57 rfl 1 24 (.slice none 0 0) Tryz.underlying56 infoLs rfl (by decide) (by decide) wm.heap.size _ j (rcells 1 (ax q) j) rfl (row_far HO.out ((Below.refl _ _).alloc (Nat.le_refl _) _)) ⟨wr.heap.size, 0, none⟩ 1 1 (ax1 q j) (fun _ _ => rfl) rfl (ax1_row q j wr 57) hll (by simp; omega) ?_); intro v8 w8 hown8 hg8; have HO8 := Lib.hid hown8; have HG8 := Lib.hid hg8; clear hown8 hg8)
                  go_roundw
                  case rel => exact ⟨j + 1, hjn, rfl, by rw [rcells_succ 1 (ax q) j]; exact HO8.out, (HBL.out.alloc hsz _).grown HG8.out (by simp; omega) (fun r e => (HO.out.lt r e).1)⟩
                  case measure => exact meas_lt0 hjn
                · obtain rfl : j = n := Nat.le_antisymm hj (Nat.le_of_not_lt hjn)
                  have d2 : decide ((j : Int) < (j : Int)) = false := decide_eq_false (Int.lt_irrefl _)
                  obtain ⟨PC, cc, rfl, -, -, -, hrc⟩ := own_row HO.out
                  have HRC := Lib.hid hrc
                  have HAK := Lib.hid (Ask_any A j c q (some ⟨mb, 0, none⟩) 2 2 (by decide) (fm (x1, x2) (y1, y2)) wr (HIM.out.later HBL.out) (HMM.out.later HBL.out))
                  have HSE := Lib.hid (fun (U : World) (hU : Below wr.heap.size wr U) => Select_any (some ⟨mb, 0, none⟩) 2 2 (by decide) (fm (x1, x2) (y1, y2)) PC j cc (by omega) (fun i => (q i).A) (fun i => (q i).e.l.length) (fun i => (q i).c) (fun i => La.at_ (q i).e.l) (fun i hi => by have := (HIM.out.each i hi).len; omega) U ((HMM.out.later HBL.out).later hU) (HRC.out.later hU) (fun i hi => ((HIM.out.each i hi).row.later HBL.out).later hU))
                  have HVR2 := Lib.hid (HVM.out.later HBL.out)
                  rw [HAS.out] at HAK HSE
                  clear hrc HO HIM HMM HAS HVM
                  go_wp2_with fail
                  refine HAK.out.mono ?_; rintro e w11 ⟨v11, rfl, ho11, hb11⟩
                  obtain ⟨P1, c1, rfl, hr1⟩ := nat_row ho11
                  have HC1 := Lib.hid (rRow_any P1 PV Z.length c1 cv hZ (fun j => ((Z.getD j 0 : Nat) : Int)) w11 hr1 (HVR2.out.later hb11))
                  have HB11 := Lib.hid hb11
                  clear ho11 hr1 hb11 HAK
                  go_wp2_with fail
                  refine HC1.out.mono ?_; rintro e w12 ⟨rfl, hb12⟩
                  have HB12 := Lib.hid (below_step HB11.out hb12)
                  have HC2 := Lib.hid (HSE.out w12 (below_step HB11.out hb12))
                  clear hb12 HB11 HC1 HSE
                  go_wp2_with fail
                  refine HC2.out.mono ?_; rintro e w13 ⟨v13, rfl, ho13, hb13⟩
                  obtain ⟨P3, c3, rfl, hr3⟩ := nat_row ho13
                  have HC3 := Lib.hid (rRow_any P3 PV Z.length c3 cv hZ (fun j => ((Z.getD j 0 : Nat) : Int)) w13 hr3 ((HVR2.out.later HB12.out).later hb13))
                  have HB13 := Lib.hid (below_step HB12.out hb13)
                  clear ho13 hr3 hb13 HC2 HB12
                  go_wp2_with fail
                  refine HC3.out.mono ?_; rintro e w14 ⟨rfl, hb14⟩
                  have HFIN := Lib.hid (HDONE.out w14 (below_step HBM.out (below_step HBL.out (below_step HB13.out hb14))))
                  clear hb14 HC3 HB13
                  go_wp2_with fail
                  go_ret
                  exact ⟨rfl, HFIN.out⟩
    · have d1 : (er != 0) = true := bne_iff_ne.2 her
      clear her
      go_wp2_with fail
      go_ret
      exact ⟨rfl, HDONE.out _ HB3.out⟩
end Go.Proofs.YtliobahnekohmaaGreat
/-
  Labels: what the references come to: Same, Ahead, Key.
-/
namespace Go.Proofs.YtliobahnekohmaaGreat
open Go.RowKit
set_option maxRecDepth 100000 in
set_option maxHeartbeats 1000000 in
theorem rSame_any (A B : Option Addr) (n m c d : Nat) (hn : n ≤ maxLen) (f g : Nat → Lab) (w : World) (hA : LabRow w A n f) (hB : LabRow w B m g) :
    Calls Tryz.prog 43 #[.slice A n c, .slice B m d] w fun e w' => e = .returned (.bool (decide (n = m) && La.same f g n)) ∧ Below w.heap.size w w' := by
  unfold maxLen at hn
  have HA := Lib.hid hA; have HB := Lib.hid hB; clear hA hB
  by_cases hnm : n = m
  · subst hnm
    rw [decide_eq_true rfl, Bool.true_and]
    generalize hr : La.same f g n = r
    have HR := Lib.hid hr; clear hr
    go_enter Tryz.func43, Tryz.ntmps43
    go_wp2_with fail
    go_loopw [5] (fun i wr => ∃ k : Nat, k ≤ n ∧ i = .int .i64 k ∧ La.same f g k = true ∧ Below w.heap.size w wr) (fun i _ => n - (intOf i).toNat)
    case atStart => exact ⟨0, by omega, rfl, rfl, Below.refl _ _⟩
    case round =>
      obtain ⟨k, hk, rfl, hs, hb⟩ := hrel
      have HBL := Lib.hid hb; have HS := Lib.hid hs; clear hb hs
      by_cases hlt : k < n
      · obtain ⟨ad, rfl, c0, c1⟩ := HA.out.at_ HBL.out hlt
        obtain ⟨bd, rfl, e0, e1⟩ := HB.out.at_ HBL.out hlt
        have i1 : (k : Int) < (n : Int) := by omega
        have i0 : (0 : Int) ≤ (k : Int) := by omega
        generalize hfk : f k = fk at *
        generalize hgk : g k = gk at *
        obtain ⟨x, y⟩ := fk
        obtain ⟨z, u⟩ := gk
        have HF := Lib.hid hfk; have HGk := Lib.hid hgk; clear hfk hgk
        have hel := fun W => run_equal_lab W x y z u
        have heg : Tryz.prog.eqGuardType Tryz.prog.depth 37 = false := by kernel_rfl
        have hb1 := str_beq x z
        have hb2 := str_beq y u
        by_cases q1 : x = z
        · have r1 : (x.toList == z.toList) = true := by rw [hb1]; simpa using q1
          by_cases q2 : y = u
          · have r2 : (y.toList == u.toList) = true := by rw [hb2]; simpa using q2
            clear hb1 hb2
            have Q1 := Lib.hid q1; have Q2 := Lib.hid q2; clear q1 q2
            go_wp2_with fail
            go_quiet (fail)
            go_wp2_with fail
            go_roundw
            case rel =>
              refine ⟨k + 1, by omega, by go_num, ?_, below_drewN HBL.out _⟩
              unfold La.same
              rw [La.range_all_succ]
              have hs := HS.out
              unfold La.same at hs
              rw [hs, HF.out, HGk.out, Q1.out, Q2.out]
              simp
            case measure => simp [intOf]; omega
          · have r2 : (y.toList == u.toList) = false := by rw [hb2]; simpa using q2
            clear hb1 hb2
            have Q1 := Lib.hid q1; have Q2 := Lib.hid q2; clear q1 q2
            go_wp2_with fail
            go_quiet (fail)
            go_wp2_with fail
            go_ret
            refine ⟨?_, below_drewN HBL.out _⟩
            have hno : La.same f g n = false := by
              unfold La.same
              rw [List.all_eq_false]
              exact ⟨k, List.mem_range.2 hlt, by rw [HF.out, HGk.out]; have q := Q2.out; simp [q]⟩
            rw [← HR.out, hno]; rfl
        · have r1 : (x.toList == z.toList) = false := by rw [hb1]; simpa using q1
          clear hb1 hb2
          have Q1 := Lib.hid q1; clear q1
          go_wp2_with fail
          go_quiet (fail)
          go_wp2_with fail
          go_ret
          refine ⟨?_, below_drewN HBL.out _⟩
          have hno : La.same f g n = false := by
            unfold La.same
            rw [List.all_eq_false]
            exact ⟨k, List.mem_range.2 hlt, by rw [HF.out, HGk.out]; have q := Q1.out; simp [q]⟩
          rw [← HR.out, hno]; rfl
      · obtain rfl : k = n := by omega
        go_wp2_with fail
        go_ret
        refine ⟨?_, HBL.out⟩
        rw [← HR.out, HS.out]; rfl
  · rw [decide_eq_false hnm, Bool.false_and]
    have hd : ((n : Int) != (m : Int)) = true := by rw [bne_iff_ne]; omega
    clear hnm
    go_enter Tryz.func43, Tryz.ntmps43
    go_wp2_with fail
    go_ret
    exact ⟨rfl, Below.refl _ _⟩

namespace La
theorem bl_same (x : UInt8) (a b : List UInt8) : Op.bytesLess (x :: a) (x :: b) = Op.bytesLess a b := by
  have e : Op.bytesLess (x :: a) (x :: b) = (decide (x < x) || (x == x && Op.bytesLess a b)) := rfl
  rw [e]; simp
theorem bl_other {x y : UInt8} (h : x ≠ y) (a b : List UInt8) : Op.bytesLess (x :: a) (y :: b) = decide (x.toNat < y.toNat) := by
  have e : Op.bytesLess (x :: a) (y :: b) = (decide (x < y) || (x == y && Op.bytesLess a b)) := rfl
  rw [e]
  have h1 : (x == y) = false := by simpa using h
  rw [h1, Bool.false_and, Bool.or_false]
  exact decide_eq_decide.2 UInt8.lt_iff_toNat_lt
theorem data_drop (s : ByteArray) (k : Nat) (h : k < s.size) : s.data.toList.drop k = s[k] :: s.data.toList.drop (k + 1) := by
  rw [List.drop_eq_getElem_cons (by rw [← Lib.size_eq]; exact h)]; rfl
end La

set_option maxRecDepth 100000 in
set_option maxHeartbeats 1000000 in
theorem rAhead_any (a b : ByteArray) (ha : a.size ≤ maxLen) (hb : b.size ≤ maxLen) (w : World) :
    Calls Tryz.prog 39 #[.string a, .string b] w fun e w' => e = .returned (.bool (La.less a b)) ∧ Below w.heap.size w w' := by
  unfold maxLen at ha hb
  have hr : La.less a b = Op.bytesLess (a.data.toList.drop 0) (b.data.toList.drop 0) := by
    unfold La.less; rw [Lib.toList_data, Lib.toList_data]; rfl
  generalize La.less a b = r at *
  have HR := Lib.hid hr; clear hr
  go_enter Tryz.func39, Tryz.ntmps39
  go_wp2_with fail
  go_loopw [5] (fun i wr => ∃ k : Nat, k ≤ a.size ∧ k ≤ b.size ∧ i = .int .i64 k ∧ r = Op.bytesLess (a.data.toList.drop k) (b.data.toList.drop k) ∧ Below w.heap.size w wr) (fun i _ => a.size - (intOf i).toNat)
  case atStart => exact ⟨0, by omega, by omega, rfl, HR.out, Below.refl _ _⟩
  case round =>
    obtain ⟨k, hk1, hk2, rfl, hs, hbl⟩ := hrel
    have HBL := Lib.hid hbl; clear hbl
    by_cases hgo : k < a.size ∧ k < b.size
    · obtain ⟨h1, h2⟩ := hgo
      rw [La.data_drop a k h1, La.data_drop b k h2] at hs
      have i1 : (k : Int) < (a.size : Int) := by omega
      have i2 : (k : Int) < (b.size : Int) := by omega
      have i0 : (0 : Int) ≤ (k : Int) := by omega
      have d1 : decide ((k : Int) < (a.size : Int)) = true := by simpa using h1
      have d2 : decide ((k : Int) < (b.size : Int)) = true := by simpa using h2
      generalize hx : a[k] = x at *
      generalize hy : b[k] = y at *
      by_cases hxy : x = y
      · subst hxy
        rw [La.bl_same] at hs
        have HS := Lib.hid hs; clear hs
        have q1 : (((x.toNat : Nat) : Int) != ((x.toNat : Nat) : Int)) = false := by simp
        go_wp2_with fail
        go_quiet (fail)
        go_wp2_with fail
        go_roundw
        case rel => exact ⟨k + 1, by omega, by omega, by go_num, HS.out, below_drewN HBL.out _⟩
        case measure => simp [intOf]; omega
      · rw [La.bl_other hxy] at hs
        have q1 : (((x.toNat : Nat) : Int) != ((y.toNat : Nat) : Int)) = true := by
          rw [bne_iff_ne]; intro e; exact hxy (UInt8.toNat_inj.1 (by omega))
        have HS := Lib.hid hs; clear hs hxy
        go_wp2_with fail
        go_quiet (fail)
        go_wp2_with fail
        go_quiet (fail)
        go_wp2_with fail
        go_ret
        refine ⟨?_, below_drewN (below_drewN HBL.out _) _⟩
        rw [HS.out]; rfl
    · have HS := Lib.hid hs; clear hs
      by_cases h1 : k < a.size
      · obtain rfl : k = b.size := by omega
        have d1 : decide (((b.size : Nat) : Int) < (a.size : Int)) = true := by simpa using h1
        have d2 : decide (((b.size : Nat) : Int) < (b.size : Int)) = false := by simp
        have d3 : decide (((a.size : Nat) : Int) < (b.size : Int)) = false := by simp; omega
        go_wp2_with fail
        go_ret
        refine ⟨?_, HBL.out⟩
        have d4 : decide (a.size < b.size) = false := by simp; omega
        rw [HS.out, (List.drop_eq_nil_of_le (by rw [← Lib.size_eq]; exact Nat.le_refl _) : b.data.toList.drop b.size = []), La.bl_nil, ← d4]; rfl
      · obtain rfl : k = a.size := by omega
        have d1 : decide (((a.size : Nat) : Int) < (a.size : Int)) = false := by simp
        by_cases h2 : a.size < b.size
        · have d3 : decide (((a.size : Nat) : Int) < (b.size : Int)) = true := by simp; omega
          go_wp2_with fail
          go_ret
          refine ⟨?_, HBL.out⟩
          rw [HS.out, (List.drop_eq_nil_of_le (by rw [← Lib.size_eq]; exact Nat.le_refl _) : a.data.toList.drop a.size = []), La.data_drop b _ h2]; rfl
        · have d3 : decide (((a.size : Nat) : Int) < (b.size : Int)) = false := by simp; omega
          go_wp2_with fail
          go_ret
          refine ⟨?_, HBL.out⟩
          rw [HS.out, (List.drop_eq_nil_of_le (by rw [← Lib.size_eq]; omega) : b.data.toList.drop a.size = []), La.bl_nil]; rfl

theorem Only.mk_ {K : Act → World → Prop} {a : Act} {w : World} (h : K a w) : Only K .normal a w := h
theorem sizes_sum (f : Nat → Lab) (k : Nat) : La.keyB f (k + 1) = La.keyB f k ++ (Num.smallB (f k).1.size ++ (f k).1) ++ (Num.smallB (f k).2.size ++ (f k).2) := by
  apply ByteArray.ext; apply Array.toList_inj.1
  rw [Num.app_list, Num.app_list]
  simp [La.keyB, La.key, La.txt]

set_option maxRecDepth 100000 in
set_option maxHeartbeats 1000000 in
theorem rKey_any (A : Option Addr) (n c : Nat) (hn : n ≤ 10) (f : Nat → Lab) (hs : ∀ i, i < n → (f i).1.size ≤ 300 ∧ (f i).2.size ≤ 300) (w : World) (hA : LabRow w A n f) :
    Calls Tryz.prog 40 #[.slice A n c] w fun e w' => e = .returned (.string (La.keyB f n)) ∧ Below w.heap.size w w' := by
  have HA := Lib.hid hA; have HSZ := Lib.hid hs; clear hA hs
  go_enter Tryz.func40, Tryz.ntmps40
  go_wp2_with fail
  go_loopw [3, 4] (fun t i wr => ∃ k : Nat, k ≤ n ∧ i = .int .i64 k ∧ t = .string (La.keyB f k) ∧ Below w.heap.size w wr) (fun _ i _ => n - (intOf i).toNat)
  case atStart => exact ⟨0, by omega, rfl, rfl, Below.refl _ _⟩
  case round =>
    obtain ⟨k, hk, rfl, rfl, hb⟩ := hrel
    have HB := Lib.hid hb; clear hb
    by_cases hlt : k < n
    · obtain ⟨ad, rfl, c0, c1⟩ := HA.out.at_ HB.out hlt
      have hsz := HSZ.out k hlt
      have hkl := La.key_length f k (fun i hi => HSZ.out i (by omega))
      have hks : (La.keyB f k).size ≤ 6200 := by unfold La.keyB; rw [La.size_mk]; omega
      have hst := sizes_sum f k
      have ht1 := Num.small_size (f k).1.size
      have ht2 := Num.small_size (f k).2.size
      have hT1 := rText_any (f k).1 hsz.1
      have hT2 := rText_any (f k).2 hsz.2
      have hz1 : (Num.smallB (f k).1.size ++ (f k).1).size ≤ 310 := by rw [ByteArray.size_append]; omega
      have hz2 : (Num.smallB (f k).2.size ++ (f k).2).size ≤ 310 := by rw [ByteArray.size_append]; omega
      have i1 : (k : Int) < (n : Int) := by omega
      have i0 : (0 : Int) ≤ (k : Int) := by omega
      generalize Num.smallB (f k).1.size ++ (f k).1 = t1 at *
      generalize Num.smallB (f k).2.size ++ (f k).2 = t2 at *
      generalize (f k).1 = x at *
      generalize (f k).2 = y at *
      generalize hkb : La.keyB f k = kb at *
      have z1 : ¬ 9223372036854775807 < kb.size + t1.size := by omega
      have z2 : ¬ 9223372036854775807 < kb.size + t1.size + t2.size := by omega
      have z3 : ¬ 9223372036854775807 < (kb ++ t1).size + t2.size := by rw [ByteArray.size_append]; omega
      have HST := Lib.hid hst; have HT1 := Lib.hid hT1; have HT2 := Lib.hid hT2; clear hst hT1 hT2 hkb hkl
      have hc0 : ∀ U, Below wr.heap.size wr U → U.cell? (ad.add (k * 2)) = some (.string x) := fun U hU => (hU.cell (block_lt_of_cell c0)).trans c0
      have hc1 : ∀ U, Below wr.heap.size wr U → U.cell? ⟨(ad.add (k * 2)).block, (ad.add (k * 2)).off + 1, none⟩ = some (.string y) := fun U hU => (hU.cell (p := ⟨(ad.add (k * 2)).block, (ad.add (k * 2)).off + 1, none⟩) (block_lt_of_cell c1)).trans c1
      have HC0 := Lib.hid hc0; have HC1 := Lib.hid hc1; clear hc0 hc1 c0 c1
      go_wp2_with fail
      refine plain_held (fun U => Below wr.heap.size wr U) (by kernel_rfl) ?_
      have hbd : Below wr.heap.size wr wr.drew := Below.drew (Below.refl _ _)
      generalize wr.drew = wd at *
      have HBD := Lib.hid hbd; clear hbd
      refine wpAnyH_pickQ (by kernel_rfl) Only.panic Only.keepsIn (w := wd) HBD.out [0, 1, 2, 3, 4, 5, 8, 9, 10, 11, 12] 5 _ _ (by kernel_rfl) ?_
      refine PickQ.value (d := some 11) (.string kb) rfl rfl (by kernel_rfl) (fun U hU => (by go_simp)) ?_
      refine PickQ.value (d := some 12) (.slice (some ad) n c) rfl rfl (by kernel_rfl) (fun U hU => (by go_simp)) ?_
      refine PickQ.value (d := some 13) (.int .i64 k) rfl rfl (by kernel_rfl) (fun U hU => (by go_simp)) ?_
      refine PickQ.value (d := some 14) (.pointer (some (ad.add (k * 2)))) rfl rfl (by kernel_rfl) (fun U hU => (by go_simp)) ?_
      refine PickQ.value (d := some 15) (.pointer (some (ad.add (k * 2)))) rfl rfl (by kernel_rfl) (fun U hU => (by go_simp)) ?_
      refine PickQ.value (d := some 16) (.string x) rfl rfl (by kernel_rfl) (fun U hU => (by have := HC0.out U hU; go_simp)) ?_
      refine PickQ.value (d := some 19) (.slice (some ad) n c) rfl rfl (by kernel_rfl) (fun U hU => (by go_simp)) ?_
      refine PickQ.value (d := some 20) (.int .i64 k) rfl rfl (by kernel_rfl) (fun U hU => (by go_simp)) ?_
      refine PickQ.value (d := some 21) (.pointer (some (ad.add (k * 2)))) rfl rfl (by kernel_rfl) (fun U hU => (by go_simp)) ?_
      refine PickQ.value (d := some 22) (.pointer (some ⟨(ad.add (k * 2)).block, (ad.add (k * 2)).off + 1, none⟩)) rfl rfl (by kernel_rfl) (fun U hU => (by go_simp)) ?_
      refine PickQ.value (d := some 23) (.string y) rfl rfl (by kernel_rfl) (fun U hU => (by have := HC1.out U hU; go_simp)) ?_
      simp only [PickQ, Act.put, List.setIfInBounds_toArray]
      refine wpAnyH_one (i := 6) (by kernel_rfl) rfl (by kernel_rfl) ?_
      intro K hK
      unfold Oper.wp
      go_simp
      refine (HT1.out _).mono ?_; rintro e w4 ⟨rfl, hb4⟩
      have HB4 := Lib.hid (below_step HBD.out hb4); clear hb4 HBD
      refine hK _ _ HB4.out (fun _ => ?_)
      clear hK K
      refine wpAnyH_pickQ (by kernel_rfl) Only.panic Only.keepsIn (w := w4) HB4.out [7] 3 _ _ (by kernel_rfl) ?_
      refine PickQ.value (d := some 18) (.string (kb ++ t1)) rfl rfl (by kernel_rfl) (fun U hU => (by go_simp)) ?_
      simp only [PickQ, Act.put, List.setIfInBounds_toArray, List.set_cons_zero, List.set_cons_succ]
      refine wpAnyH_one (i := 13) (by kernel_rfl) rfl (by kernel_rfl) ?_
      intro K hK
      unfold Oper.wp
      go_simp
      refine (HT2.out _).mono ?_; rintro e w5 ⟨rfl, hb5⟩
      have HB5 := Lib.hid (below_step HB4.out hb5); clear hb5 HB4
      refine hK _ _ HB5.out (fun _ => ?_)
      clear hK K
      refine wpAnyH_one (i := 14) (by kernel_rfl) rfl (by kernel_rfl) ?_
      intro K hK
      unfold Oper.wp
      go_simp
      refine hK _ _ HB5.out (fun _ => ?_)
      clear hK K
      refine wpAnyH_one (i := 15) (by kernel_rfl) rfl (by kernel_rfl) ?_
      intro K hK
      unfold Oper.wp
      go_simp
      refine hK _ _ HB5.out (fun _ => ?_)
      clear hK K
      refine wpAnyH_done (by kernel_rfl) ?_ _
      refine Only.mk_ ?_
      go_wp2_with fail
      go_roundw
      case rel => exact ⟨k + 1, by omega, by go_num, by rw [HST.out], below_step HB.out HB5.out⟩
      case measure => simp [intOf]; omega
    · obtain rfl : k = n := by omega
      go_wp2_with fail
      go_ret
      exact ⟨rfl, HB.out⟩
end Go.Proofs.YtliobahnekohmaaGreat
/-
  IndexSymbols: the walk.
-/
namespace Go.Proofs.YtliobahnekohmaaGreat
open Go.RowKit
theorem infoB : (Tryz.prog.info? 4).map (fun i => (i.zero, i.size, i.bytes)) = some (some (.bool false), 1, 1) := by kernel_rfl
def bf (_ _ : Nat) : Value := .bool false
theorem bf_row (w : World) (T : TypeId) : Row 1 bf (w.alloc (.cells #[.bool false] T)) (some ⟨w.heap.size, 0, none⟩) 1 := row_built 1 _ w _ _ (fun j hj => by
  obtain rfl : j = 0 := by omega
  rfl)
/-- a row of bools -/
structure BAt (w : World) (P : Option Addr) (n : Nat) (base : Nat) (u : Nat → Bool) : Prop where
  is_ : 0 < n → ∃ g cs, P = some ⟨g, 0, none⟩ ∧ base ≤ g ∧ w.heap[g]? = some (.cells cs 4 (0, 0)) ∧ ∀ i, i < n → cs[i]? = some (.bool (u i))
theorem BAt.later {w V : World} {P : Option Addr} {n base : Nat} {u : Nat → Bool} (h : BAt w P n base u) (hb : Below w.heap.size w V) : BAt V P n base u :=
  ⟨fun h0 => by obtain ⟨g, cs, e, hg, hc, hi⟩ := h.is_ h0; exact ⟨g, cs, e, hg, heap_keep hc hb, hi⟩⟩
theorem BAt.drew {w : World} {P : Option Addr} {n base : Nat} {u : Nat → Bool} (h : BAt w P n base u) (k : Nat) : BAt (w.drewN k) P n base u := ⟨h.is_⟩
theorem BAt.put {w : World} {P : Option Addr} {n base j : Nat} {u v : Nat → Bool} (h : BAt w P n base u) (hj : j < n) (hv : ∀ i, i < n → v i = if i = j then v j else u i) :
    ∃ g, P = some ⟨g, 0, none⟩ ∧ base ≤ g ∧ w.cell? ⟨g, j, none⟩ = some (.bool (u j)) ∧ w.frozen? ⟨g, j, none⟩ = false ∧ BAt (w.setCell ⟨g, j, none⟩ (.bool (v j))) P n base v := by
  obtain ⟨g, cs, e, hg, hc, hi⟩ := h.is_ (by omega)
  refine ⟨g, e, hg, (cell_of_row _ _ _ _ _ _ hc).trans (hi j hj), frozen_of_row _ _ _ _ _ hc, ⟨fun _ => ⟨g, _, e, hg, heap_setCell_same w g j cs _ (.bool (v j)) hc, fun i hin => ?_⟩⟩⟩
  have hjz : j < cs.size := (Array.getElem?_eq_some_iff.1 (hi j hj)).1
  rw [Array.getElem?_setIfInBounds]
  by_cases hij : j = i
  · subst hij; rw [if_pos rfl, if_pos hjz]
  · rw [if_neg hij, hi i hin, hv i hin, if_neg (fun e => hij e.symm)]
theorem bat_of {w : World} {base n : Nat} {v : Value} (h : w.ownsRow base 4 1 v n (rcells 1 bf n)) : ∃ P c, v = .slice P n c ∧ BAt w P n base fun _ => false := by
  obtain ⟨A, c, e, -, -, -, hr⟩ := own_row h
  refine ⟨A, c, e, ⟨fun h0 => ?_⟩⟩
  rcases h.2 with ⟨e2, h2⟩ | ⟨g, cap, cur, e2, -, hg, -⟩
  · omega
  · rw [e] at e2
    cases e2
    refine ⟨g, cur, rfl, (h.lt g (by rw [e]; rfl)).1, hg, fun i hi => ?_⟩
    obtain ⟨ad, e3, -, hc⟩ := hr h0
    cases e3
    have h5 := hc i hi 0 (by decide)
    rw [Addr.add_lit, cell_of_row _ _ _ _ _ _ hg] at h5
    have h6 : cur[i]? = some (bf i 0) := by simpa using h5
    exact h6
theorem BAt.heap {w W : World} {P : Option Addr} {n base : Nat} {u : Nat → Bool} (h : BAt w P n base u) (e : W.heap = w.heap) : BAt W P n base u := ⟨fun h0 => by rw [e]; exact h.is_ h0⟩
theorem BAt.congr {w : World} {P : Option Addr} {n base : Nat} {u v : Nat → Bool} (h : BAt w P n base u) (hv : ∀ i, i < n → u i = v i) : BAt w P n base v :=
  ⟨fun h0 => by obtain ⟨g, cs, e, hg, hc, hi⟩ := h.is_ h0; exact ⟨g, cs, e, hg, hc, fun i hin => by rw [← hv i hin]; exact hi i hin⟩⟩
/-- is it a name, or a value, of these labels? -/
def hit (S : List ByteArray) (P : List Lab) (j : Nat) : Bool := P.any fun x => decide (S.getD j ByteArray.empty = x.1) || decide (S.getD j ByteArray.empty = x.2)
theorem hit_snoc (S : List ByteArray) (P : List Lab) (x : Lab) (j : Nat) : hit S (P ++ [x]) j = (hit S P j || decide (S.getD j ByteArray.empty = x.1) || decide (S.getD j ByteArray.empty = x.2)) := by
  unfold hit
  rw [List.any_append]
  simp [Bool.or_assoc]
def among (S : List ByteArray) (t : ByteArray) (j : Nat) : Bool := (S.take j).any fun s => decide (s = t)
theorem among_succ (S : List ByteArray) (t : ByteArray) {j : Nat} (hj : j < S.length) : among S t (j + 1) = (among S t j || decide (S.getD j ByteArray.empty = t)) := by
  unfold among
  rw [List.take_add_one, List.getElem?_eq_getElem hj, List.any_append, List.getD_eq_getElem?_getD, List.getElem?_eq_getElem hj]
  simp
theorem among_all (S : List ByteArray) (t : ByteArray) (h : t ∈ S) : among S t S.length = true := by
  unfold among
  rw [List.take_length]
  exact List.any_eq_true.2 ⟨t, h, decide_eq_true rfl⟩
def labsTo (q : Nat → EAt) (i : Nat) : List Lab := (entL q i).flatMap (·.l)
theorem labsTo_succ (q : Nat → EAt) (i : Nat) : labsTo q (i + 1) = labsTo q i ++ (q i).e.l := by unfold labsTo; rw [entL_succ, List.flatMap_append]; simp
theorem take_labs (l : List Lab) {k : Nat} (hk : k < l.length) : l.take (k + 1) = l.take k ++ [La.at_ l k] := by
  rw [List.take_add_one, List.getElem?_eq_getElem hk]
  have e : La.at_ l k = l[k] := by unfold La.at_; simp [List.getD, hk]
  rw [e]; rfl
theorem sym_has {q : Nat → EAt} {n i k : Nat} (hi : i < n) (hk : k < (q i).e.l.length) : (La.at_ (q i).e.l k).1 ∈ Ix.syms (entL q n) ∧ (La.at_ (q i).e.l k).2 ∈ Ix.syms (entL q n) := by
  have hm : (q i).e ∈ entL q n := List.mem_map.2 ⟨i, List.mem_range.2 hi, rfl⟩
  have e : La.at_ (q i).e.l k = (q i).e.l[k] := by unfold La.at_; simp [List.getD, hk]
  have hx : La.at_ (q i).e.l k ∈ (q i).e.l := by rw [e]; exact List.getElem_mem hk
  exact ⟨Ix.syms_mem.2 ⟨_, hm, _, hx, Or.inl rfl⟩, Ix.syms_mem.2 ⟨_, hm, _, hx, Or.inr rfl⟩⟩
theorem all_hit {q : Nat → EAt} {n j : Nat} (hj : j < (Ix.syms (entL q n)).length) : hit (Ix.syms (entL q n)) (labsTo q n) j = true := by
  have hm : (Ix.syms (entL q n)).getD j ByteArray.empty ∈ Ix.syms (entL q n) := by
    rw [List.getD_eq_getElem?_getD, List.getElem?_eq_getElem hj]; exact List.getElem_mem hj
  obtain ⟨e, he, x, hx, h⟩ := Ix.syms_mem.1 hm
  unfold hit
  refine List.any_eq_true.2 ⟨x, List.mem_flatMap.2 ⟨e, he, hx⟩, ?_⟩
  rcases h with h | h
  · rw [decide_eq_true h]; rfl
  · rw [decide_eq_true h, Bool.or_true]
theorem rise_at {S : List ByteArray} (h : Ix.Rising S) {k : Nat} (hk : 0 < k) (hl : k < S.length) : La.less (S.getD (k - 1) ByteArray.empty) (S.getD k ByteArray.empty) = true := by
  have := List.pairwise_iff_getElem.1 h (k - 1) k (by omega) hl (by omega)
  rw [List.getD_eq_getElem?_getD, List.getElem?_eq_getElem (by omega), List.getD_eq_getElem?_getD, List.getElem?_eq_getElem hl]
  exact this
theorem words_le : ∀ (L : List Ix.Ent), (∀ e ∈ L, e.l.length ≤ 300) → (Ix.words L).length ≤ 600 * L.length
  | [], _ => Nat.le_refl _
  | e :: L, h => by
    have ih := words_le L fun x hx => h x (List.mem_cons_of_mem _ hx)
    have h1 := h e (List.mem_cons_self ..)
    have h2 : ∀ l : List Lab, (l.flatMap fun x => [x.1, x.2]).length = 2 * l.length := by
      intro l
      induction l with
      | nil => rfl
      | cons x l ih => rw [List.flatMap_cons, List.length_append, ih, List.length_cons]; simp; omega
    have e1 : Ix.words (e :: L) = (e.l.flatMap fun x => [x.1, x.2]) ++ Ix.words L := by unfold Ix.words; rw [List.flatMap_cons]
    rw [e1, List.length_append, h2, List.length_cons]
    omega
theorem syms_le {w : World} {A : Option Addr} {n : Nat} {q : Nat → EAt} (h : EntsIn w A n q) (hn : n ≤ 30) : (Ix.syms (entL q n)).length ≤ 100000 := by
  have h1 := Ix.insAll_length (Ix.words (entL q n))
  have h2 := words_le (entL q n) (fun e he => by
    obtain ⟨i, hi, rfl⟩ := List.mem_map.1 he
    exact (h.each i (List.mem_range.1 hi)).len)
  rw [entL_length] at h2
  unfold Ix.syms
  omega
theorem keep_at {w U : World} {p : Addr} {v : Value} (h : w.cell? p = some v) (hb : Below w.heap.size w U) : U.cell? p = some v := by
  have hlt := Go.block_lt_of_cell h
  unfold World.cell? at h ⊢
  rw [hb.block p.block hlt]
  exact h
set_option maxRecDepth 100000 in
set_option maxHeartbeats 8000000 in
theorem indexSymbols_walk {H : Type} {enc : TypeId × Value → H} {r0 : Reach} {b0 : Nat} {v0 : Value} {d0 : DataW H} {p0 : List MemPlace} (w : World)
    (o0 : Value.okWide Tryz.prog w r0 b0 22 v0) (k0 : DataW.Trod enc Tryz.prog w 0 (fun _ => true) true 22 v0 d0 p0) :
    Calls Tryz.prog 7 #[v0] w fun e w' => e = .returned (.bool true) ∧ Below w.heap.size w w' := by
  obtain ⟨A, n, c, q, rfl, hn, -, hA⟩ := open_ents o0 k0
  clear o0 k0
  have HA := Lib.hid hA
  have HF := Lib.hid (fun U (hU : Below w.heap.size w U) => few_any A n c hn q U (HA.out.later hU))
  clear hA
  go_enter Tryz.func7, Tryz.ntmps7
  go_wp2_with fail
  refine (works_any _).mono ?_; rintro e w1 ⟨rfl, hb1⟩
  have HB1 := Lib.hid hb1
  clear hb1
  go_wp2_with fail
  refine (HF.out _ HB1.out).mono ?_; rintro e w2 ⟨rfl, hb2⟩
  have HB2 := Lib.hid (below_step HB1.out hb2)
  clear hb2 HB1 HF
  obtain ⟨f1, hf1⟩ : ∃ f1, f1 = fewR q n := ⟨_, rfl⟩
  rw [← hf1]
  have HFW := Lib.hid hf1
  clear hf1
  cases f1 with
  | false =>
    go_wp2_with fail
    go_ret
    exact ⟨rfl, HB2.out⟩
  | true =>
    have hin := (HA.out.in_ HFW.out.symm).later HB2.out
    have hn30 := (fewR_yes HFW.out.symm).1
    have HIN := Lib.hid hin
    have HSY := Lib.hid (Symbols_any A n c q w2 hin)
    have HRI := Lib.hid (show Ix.Rising (Ix.syms (entL q n)) from Ix.insAll_rising _)
    have HHS := Lib.hid (fun i k hi hk => sym_has (q := q) (n := n) (i := i) (k := k) hi hk)
    have HAL := Lib.hid (fun j hj => all_hit (q := q) (n := n) (j := j) hj)
    have hsl : (Ix.syms (entL q n)).length ≤ 100000 := syms_le hin hn30
    clear hin HFW HA
    generalize Ix.syms (entL q n) = S at *
    go_wp2_with fail
    refine HSY.out.mono ?_; rintro e w3 ⟨B, d, rfl, hs3, hb3⟩
    have HB3 := Lib.hid (below_step HB2.out hb3); have HI3 := Lib.hid (HIN.out.later hb3); have HS3 := Lib.hid hs3.row
    clear hb3 hs3 HB2 HIN HSY
    go_wp2_with fail
    go_loopw [6, 7] (fun v i wr => ∃ k : Nat, k ≤ S.length ∧ i = .int .i64 k ∧ wr.ownsRow w3.heap.size 4 1 v k (rcells 1 bf k) ∧ Below w3.heap.size w3 wr) (fun _ i _ => S.length - (intOf i).toNat)
    case atStart => exact ⟨0, Nat.zero_le _, rfl, World.ownsRow_nil _ _ _ _, Below.refl _ _⟩
    case round =>
      obtain ⟨k, hk, rfl, hown, hbl⟩ := hrel
      have HO := Lib.hid hown; have HBL := Lib.hid hbl
      clear hown hbl
      by_cases hks : k < S.length
      · have d1 : decide ((k : Int) < (S.length : Int)) = true := decide_eq_true (Int.ofNat_lt.2 hks)
        have hsz : w3.heap.size ≤ wr.heap.size := HBL.out.size
        have hll : k + 1 ≤ 1000000 := by omega
        go_upto_region 13 with (at_builtin; go_must (refine wpList_append_row _ rfl _ _ 62 4 rfl 1 1 (.bool false) Tryz.underlying62 infoB rfl (by decide) (by decide) w3.heap.size _ k (rcells 1 bf k) rfl (row_far HO.out ((Below.refl _ _).alloc (Nat.le_refl _) _)) ⟨wr.heap.size, 0, none⟩ 1 1 bf (fun _ _ => rfl) rfl (bf_row wr 4) hll (by simp; omega) ?_); intro v8 w8 hown8 hg8; have HO8 := Lib.hid (show w8.ownsRow w3.heap.size 4 1 v8 (k + 1) (rcells 1 bf (k + 1)) by rw [rcells_succ 1 bf k]; exact hown8); have HB8 := Lib.hid ((HBL.out.alloc hsz _).grown hg8 (by simp; omega) (fun r e => (HO.out.lt r e).1)); clear hown8 hg8)
        by_cases hk0 : 0 < k
        · have d2 : decide ((0 : Int) < (k : Int)) = true := decide_eq_true (by omega)
          have s1 : wrap64 ((k : Int) - 1) = ((k - 1 : Nat) : Int) := by rw [IntWalk.wrap64_in _ ⟨by omega, by omega⟩]; omega
          have hr := rise_at HRI.out hk0 hks
          obtain ⟨ad, rfl, c1, -⟩ := HS3.out.at_ HB8.out hks
          obtain ⟨ad', e', c0, -⟩ := HS3.out.at_ HB8.out (show k - 1 < S.length by omega)
          cases e'
          have x1 : w8.cell? (ad.add k) = some (.string (S.getD k ByteArray.empty)) := by have := c1 (by decide); rw [Nat.mul_one] at this; exact this
          have x0 : w8.cell? (ad.add (k - 1)) = some (.string (S.getD (k - 1) ByteArray.empty)) := by have := c0 (by decide); rw [Nat.mul_one] at this; exact this
          have i0 : (0 : Int) ≤ ((k - 1 : Nat) : Int) := Int.natCast_nonneg _
          have i1 : ((k - 1 : Nat) : Int) < (S.length : Int) := Int.ofNat_lt.2 (by omega)
          have j0 : (0 : Int) ≤ (k : Int) := Int.natCast_nonneg _
          have j1 : (k : Int) < (S.length : Int) := Int.ofNat_lt.2 hks
          unfold La.less at hr
          clear c0 c1
          generalize S.getD (k - 1) ByteArray.empty = sp at *
          generalize S.getD k ByteArray.empty = sk at *
          generalize hkm : k - 1 = km at *
          go_quiet (fail)
          go_wp2_with fail
          go_roundw
          case rel => exact ⟨k + 1, hks, rfl, HO8.out, below_drewN HB8.out _⟩
          case measure => exact meas_lt0 hks
        · have d2 : decide ((0 : Int) < (k : Int)) = false := decide_eq_false (by omega)
          go_quiet (fail)
          go_wp2_with fail
          go_roundw
          case rel => exact ⟨k + 1, hks, rfl, HO8.out, below_drewN HB8.out _⟩
          case measure => exact meas_lt0 hks
      · obtain rfl : k = S.length := Nat.le_antisymm hk (Nat.le_of_not_lt hks)
        have d1 : decide ((S.length : Int) < (S.length : Int)) = false := decide_eq_false (Int.lt_irrefl _)
        obtain ⟨PU, cu, rfl, hbu⟩ := bat_of HO.out
        have HU0 : Hid (BAt wr PU S.length w3.heap.size (hit S (labsTo q 0))) := Lib.hid hbu
        have HBL0 := Lib.hid HBL.out
        clear hbu HO HRI
        obtain ⟨wa, hwa⟩ : ∃ wa, wa = wr := ⟨_, rfl⟩
        subst hwa
        go_wp2_with fail
        go_loopw [8, 9, 10, 11, 12] (fun i _ _ _ _ wr => ∃ k : Nat, k ≤ n ∧ i = .int .i64 k ∧ BAt wr PU S.length w3.heap.size (hit S (labsTo q k)) ∧ Below w3.heap.size w3 wr) (fun i _ _ _ _ _ => n - (intOf i).toNat)
        case atStart => exact ⟨0, Nat.zero_le _, rfl, HU0.out, HBL0.out⟩
        case round =>
          obtain ⟨k, hk, rfl, hbu, hbl⟩ := hrel
          have HU := Lib.hid hbu; have HB := Lib.hid hbl
          clear hbu hbl HU0 HBL0 HBL
          by_cases hkn : k < n
          · have d2 : decide ((k : Int) < (n : Int)) = true := decide_eq_true (Int.ofNat_lt.2 hkn)
            have i0 : (0 : Int) ≤ (k : Int) := Int.natCast_nonneg _
            have i1 : (k : Int) < (n : Int) := Int.ofNat_lt.2 hkn
            obtain ⟨wb, hwb⟩ : ∃ wb, wb = wr := ⟨_, rfl⟩
            subst hwb
            have HLS := Lib.hid (labsTo_succ q k)
            have HCE := Lib.hid (fun (U : World) (hU : Below w3.heap.size w3 U) => HI3.out.cells hU hkn)
            have HRO := Lib.hid (HI3.out.each k hkn).row
            have hlm := (HI3.out.each k hkn).len
            have HSH := Lib.hid (fun j hj => HHS.out k j hkn hj)
            generalize labsTo q k = P at *
            generalize (q k).e.l = l at *
            go_wp2_with fail
            go_loopw [9, 10, 11, 12] (fun i _ _ _ wr => ∃ m : Nat, m ≤ l.length ∧ i = .int .i64 m ∧ BAt wr PU S.length w3.heap.size (hit S (P ++ l.take m)) ∧ Below w3.heap.size w3 wr) (fun i _ _ _ _ => l.length - (intOf i).toNat)
            case atStart => exact ⟨0, Nat.zero_le _, rfl, by simpa using HU.out, HB.out⟩
            case round =>
              obtain ⟨m, hm, rfl, hbu, hbl⟩ := hrel
              have HU2 := Lib.hid hbu; have HB2 := Lib.hid hbl
              clear hbu hbl HU
              obtain ⟨ad, rfl, c0, -, -, -⟩ := HCE.out wr HB2.out
              by_cases hml : m < l.length
              · have d3 : decide ((m : Int) < (l.length : Int)) = true := decide_eq_true (Int.ofNat_lt.2 hml)
                obtain ⟨wc, hwc⟩ : ∃ wc, wc = wr := ⟨_, rfl⟩
                subst hwc
                have HTL := Lib.hid (take_labs l hml)
                have hsy := HSH.out m hml
                generalize hQ : P ++ l.take m = Q at *
                have HQ := Lib.hid hQ
                clear hQ
                have HQX : Hid (P ++ l.take (m + 1) = Q ++ [La.at_ l m]) := Lib.hid (by rw [HTL.out, ← List.append_assoc, HQ.out])
                have HLB := Lib.hid (fun (U : World) (hU : Below w3.heap.size w3 U) => HRO.out.at_ hU hml)
                have HHIT := Lib.hid (fun j => hit_snoc S Q (La.at_ l m) j)
                have HA1 := Lib.hid (fun j (hj : j < S.length) => among_succ S (La.at_ l m).1 hj)
                have HA2 := Lib.hid (fun j (hj : j < S.length) => among_succ S (La.at_ l m).2 hj)
                have HE1 := Lib.hid (among_all S _ hsy.1); have HE2 := Lib.hid (among_all S _ hsy.2)
                have k0 : (0 : Int) ≤ (m : Int) := Int.natCast_nonneg _
                have k1 : (m : Int) < (l.length : Int) := Int.ofNat_lt.2 hml
                clear hsy HTL
                generalize La.at_ l m = x at *
                obtain ⟨x1, x2⟩ := x
                simp only at HLB HHIT HA1 HA2 HE1 HE2
                go_wp2_with fail
                go_loopw [10, 11, 12] (fun v1 v2 i wr => ∃ j : Nat, j ≤ S.length ∧ i = .int .i64 j ∧ v1 = .bool (among S x1 j) ∧ v2 = .bool (among S x2 j) ∧ BAt wr PU S.length w3.heap.size (fun t => if t < j then hit S (Q ++ [(x1, x2)]) t else hit S Q t) ∧ Below w3.heap.size w3 wr) (fun _ _ i _ => S.length - (intOf i).toNat)
                case atStart => exact ⟨0, Nat.zero_le _, rfl, rfl, rfl, by simpa using HU2.out, HB2.out⟩
                case round =>
                  obtain ⟨j, hj, rfl, rfl, rfl, hbu, hbl⟩ := hrel
                  have HU3 := Lib.hid hbu; have HB3' := Lib.hid hbl
                  clear hbu hbl HU2
                  by_cases hjs : j < S.length
                  · have d4 : decide ((j : Int) < (S.length : Int)) = true := decide_eq_true (Int.ofNat_lt.2 hjs)
                    have a1 := HA1.out j hjs; have a2 := HA2.out j hjs
                    have hh := HHIT.out j
                    obtain ⟨bd, rfl, cs, -⟩ := HS3.out.at_ HB3'.out hjs
                    have s0 : wr.cell? (bd.add j) = some (.string (S.getD j ByteArray.empty)) := by have := cs (by decide); rw [Nat.mul_one] at this; exact this
                    clear cs
                    obtain ⟨ad2, e2, g0, g1⟩ := HLB.out wr HB3'.out
                    obtain ⟨ad', e', c0, -, -, -⟩ := HCE.out wr HB3'.out
                    cases e'
                    rw [e2] at c0
                    have HS0 := Lib.hid s0; have HC0 := Lib.hid c0; have HG0 := Lib.hid g0; have HG1 := Lib.hid g1
                    have l0 : (0 : Int) ≤ (j : Int) := Int.natCast_nonneg _
                    have l1 : (j : Int) < (S.length : Int) := Int.ofNat_lt.2 hjs
                    have q1 := str_beq (S.getD j ByteArray.empty) x1; have q2 := str_beq (S.getD j ByteArray.empty) x2
                    rw [← q1] at a1 hh
                    rw [← q2] at a2 hh
                    have HBS := Lib.hid (fun (W : World) (hW : W.heap = wr.heap) (v : Nat → Bool) hv => (HU3.out.heap hW).put (v := v) hjs hv)
                    have HHH := Lib.hid hh
                    have HA1' := Lib.hid a1; have HA2' := Lib.hid a2
                    clear s0 c0 g0 g1 q1 q2 hh a1 a2 e2
                    generalize S.getD j ByteArray.empty = sj at *
                    obtain ⟨f1, hf1⟩ : ∃ f1, (sj.toList == x1.toList) = f1 := ⟨_, rfl⟩
                    obtain ⟨f2, hf2⟩ : ∃ f2, (sj.toList == x2.toList) = f2 := ⟨_, rfl⟩
                    rw [hf1] at HA1' HHH
                    rw [hf2] at HA2' HHH
                    obtain ⟨bn, hbn⟩ : ∃ bn, among S x1 j = bn := ⟨_, rfl⟩
                    obtain ⟨bv, hbv⟩ : ∃ bv, among S x2 j = bv := ⟨_, rfl⟩
                    rw [hbn] at HA1' ⊢
                    rw [hbv] at HA2' ⊢
                    have HF1 := Lib.hid hf1; have HF2 := Lib.hid hf2
                    clear hbn hbv hf1 hf2
                    go_upto_block 7 with fail
                    go_cut [10, 11] (fun v1 v2 wx => v1 = .bool (bn || f1) ∧ v2 = .bool (bv || f2) ∧ BAt wx PU S.length w3.heap.size (fun t => if t < j + 1 then hit S (Q ++ [(x1, x2)]) t else hit S Q t) ∧ Below w3.heap.size w3 wx)
                    case first =>
                      go_upto_region 26 with fail
                      go_cut [10] (fun v wx => v = .bool (bn || f1) ∧ ∃ nq, wr.drewN nq = wx)
                      case first =>
                        have s0 := HS0.out; have c0 := HC0.out; have g0 := HG0.out; have g1 := HG1.out; have r1 := HF1.out
                        cases bn with
                        | true =>
                          go_quiet (fail)
                          go_wp2_with fail
                          go_meet
                          exact ⟨rfl, _, rfl⟩
                        | false =>
                          go_quiet (fail)
                          go_wp2_with fail
                          go_meet
                          exact ⟨rfl, _, rfl⟩
                      case rest =>
                        obtain ⟨rfl, nq, rfl⟩ := hcut
                        go_upto_region 27 with fail
                        go_cut [11] (fun v wx => v = .bool (bv || f2) ∧ ∃ nq2, (wr.drewN nq).drewN nq2 = wx)
                        case first =>
                          have s0 := HS0.out; have c0 := HC0.out; have g0 := HG0.out; have g1 := HG1.out
                          have r2 := HF2.out
                          cases bv with
                          | true =>
                            go_quiet (fail)
                            go_wp2_with fail
                            go_meet
                            exact ⟨rfl, _, rfl⟩
                          | false =>
                            go_quiet (fail)
                            go_wp2_with fail
                            go_meet
                            exact ⟨rfl, _, rfl⟩
                        case rest =>
                          obtain ⟨rfl, nq2, rfl⟩ := hcut
                          go_upto_region 28 with fail
                          obtain ⟨W, hW⟩ : ∃ W, W = (wr.drewN nq).drewN nq2 := ⟨_, rfl⟩
                          rw [← hW]
                          obtain ⟨gu, rfl, hgu, w0, f0, hnew⟩ := HBS.out W.drew (by rw [hW]; rfl) (fun t => if t < j + 1 then hit S (Q ++ [(x1, x2)]) t else hit S Q t) (fun i hi => by
                            by_cases hij : i = j
                            · rw [if_pos hij]; rw [hij]
                            · rw [if_neg hij]
                              by_cases h2 : i < j
                              · rw [if_pos (by omega), if_pos h2]
                              · rw [if_neg (by omega), if_neg h2])
                          have hbW : Below w3.heap.size w3 W := by rw [hW]; exact below_drewN (below_drewN HB3'.out nq) nq2
                          have HBW := Lib.hid hbW
                          have s0 : W.cell? (bd.add j) = some (.string sj) := by rw [hW]; exact HS0.out
                          have c0 : W.cell? (ad.add (k * 4)) = some (.slice (some ad2) l.length (q k).c) := by rw [hW]; exact HC0.out
                          have g0 : W.cell? (ad2.add (m * 2)) = some (.string x1) := by rw [hW]; exact HG0.out
                          have g1 : W.cell? ⟨(ad2.add (m * 2)).block, (ad2.add (m * 2)).off + 1, none⟩ = some (.string x2) := by rw [hW]; exact HG1.out
                          have e0 : (if j < j then hit S (Q ++ [(x1, x2)]) j else hit S Q j) = hit S Q j := if_neg (Nat.lt_irrefl j)
                          have e1 : (if j < j + 1 then hit S (Q ++ [(x1, x2)]) j else hit S Q j) = (hit S Q j || f1 || f2) := by rw [if_pos (Nat.lt_succ_self j)]; exact HHH.out
                          rw [e0] at w0
                          rw [e1] at hnew
                          have HNEW := Lib.hid hnew
                          obtain ⟨bu, hbu⟩ : ∃ bu, hit S Q j = bu := ⟨_, rfl⟩
                          rw [hbu] at w0 HNEW
                          have w0' : W.cell? (Addr.add ⟨gu, 0, none⟩ j) = some (.bool bu) := by rw [Addr.add_lit, Nat.zero_add]; exact w0
                          have w1 : W.cell? ⟨gu, j, none⟩ = some (.bool bu) := w0
                          have f1' : W.frozen? ⟨gu, j, none⟩ = false := f0
                          clear w0 f0
                          have r1 := HF1.out; have r2 := HF2.out
                          clear e0 e1 hnew hbu hW hbW
                          have HS0' := Lib.hid s0; have HC0' := Lib.hid c0; have HG0' := Lib.hid g0; have HG1' := Lib.hid g1; have HW1 := Lib.hid w1; have HFZ := Lib.hid f1'
                          clear s0 c0 g0 g1 w0' w1 f1' HS0 HC0 HG0 HG1 HBS
                          refine plain_T (fun U => Below W.heap.size W U) [39] (by kernel_rfl) ?_
                          cases bu with
                          | true =>
                            refine wpAnyT_pick (S := (fun U => Below W.heap.size W U)) (by kernel_rfl) Only.panic Only.keepsIn (w := W.drew) (Below.refl _ _).drew [0, 1, 2, 3, 4, 5, 6, 7, 8, 9, 10, 11, 12, 13, 14, 15, 16, 17, 18, 19, 20, 21, 22, 23, 24, 25, 26, 27, 28, 29, 30, 31, 32, 33, 34, 35, 36, 37, 38] 1 _ _ (by kernel_rfl) ?_
                            refine PickT.value (d := some 103) (.slice (some ⟨gu, 0, none⟩) S.length cu) rfl rfl (by kernel_rfl) (fun U hU => (by go_simp)) ?_
                            refine PickT.value (d := some 104) (.int .i64 (j : Int)) rfl rfl (by kernel_rfl) (fun U hU => (by go_simp)) ?_
                            refine PickT.value (d := some 105) (.slice (some ⟨gu, 0, none⟩) S.length cu) rfl rfl (by kernel_rfl) (fun U hU => (by go_simp)) ?_
                            refine PickT.value (d := some 106) (.int .i64 (j : Int)) rfl rfl (by kernel_rfl) (fun U hU => (by go_simp)) ?_
                            refine PickT.value (d := some 107) (.pointer (some ⟨gu, j, none⟩)) rfl rfl (by kernel_rfl) (fun U hU => (by go_simp)) ?_
                            refine PickT.value (d := some 108) (.bool true) rfl rfl (by kernel_rfl) (fun U hU => (by have h0 := keep_at HW1.out hU; go_simp)) ?_
                            refine PickT.value (d := some 109) (.bool true) rfl rfl (by kernel_rfl) (fun U hU => (by go_simp)) ?_
                            refine PickT.skip (d := some 110) rfl rfl (by kernel_rfl) ?_
                            refine PickT.skip (d := some 111) rfl rfl (by kernel_rfl) ?_
                            refine PickT.skip (d := some 112) rfl rfl (by kernel_rfl) ?_
                            refine PickT.skip (d := some 113) rfl rfl (by kernel_rfl) ?_
                            refine PickT.skip (d := some 114) rfl rfl (by kernel_rfl) ?_
                            refine PickT.skip (d := some 115) rfl rfl (by kernel_rfl) ?_
                            refine PickT.skip (d := some 116) rfl rfl (by kernel_rfl) ?_
                            refine PickT.skip (d := some 117) rfl rfl (by kernel_rfl) ?_
                            refine PickT.skip (d := some 118) rfl rfl (by kernel_rfl) ?_
                            refine PickT.skip (d := some 119) rfl rfl (by kernel_rfl) ?_
                            refine PickT.skip (d := some 120) rfl rfl (by kernel_rfl) ?_
                            refine PickT.skip (d := some 121) rfl rfl (by kernel_rfl) ?_
                            refine PickT.skip (d := some 122) rfl rfl (by kernel_rfl) ?_
                            refine PickT.skip (d := some 123) rfl rfl (by kernel_rfl) ?_
                            refine PickT.value (d := some 124) (.bool true) rfl rfl (by kernel_rfl) (fun U hU => (by go_simp)) ?_
                            refine PickT.value (d := some 125) (.bool true) rfl rfl (by kernel_rfl) (fun U hU => (by go_simp)) ?_
                            refine PickT.skip (d := some 126) rfl rfl (by kernel_rfl) ?_
                            refine PickT.skip (d := some 127) rfl rfl (by kernel_rfl) ?_
                            refine PickT.skip (d := some 128) rfl rfl (by kernel_rfl) ?_
                            refine PickT.skip (d := some 129) rfl rfl (by kernel_rfl) ?_
                            refine PickT.skip (d := some 130) rfl rfl (by kernel_rfl) ?_
                            refine PickT.skip (d := some 131) rfl rfl (by kernel_rfl) ?_
                            refine PickT.skip (d := some 132) rfl rfl (by kernel_rfl) ?_
                            refine PickT.skip (d := some 133) rfl rfl (by kernel_rfl) ?_
                            refine PickT.skip (d := some 134) rfl rfl (by kernel_rfl) ?_
                            refine PickT.skip (d := some 135) rfl rfl (by kernel_rfl) ?_
                            refine PickT.skip (d := some 136) rfl rfl (by kernel_rfl) ?_
                            refine PickT.skip (d := some 137) rfl rfl (by kernel_rfl) ?_
                            refine PickT.skip (d := some 138) rfl rfl (by kernel_rfl) ?_
                            refine PickT.skip (d := some 139) rfl rfl (by kernel_rfl) ?_
                            refine PickT.value (d := some 140) (.bool true) rfl rfl (by kernel_rfl) (fun U hU => (by go_simp)) ?_
                            refine PickT.value (d := some 141) (.pointer (some ⟨gu, j, none⟩)) rfl rfl (by kernel_rfl) (fun U hU => (by go_simp)) ?_
                            simp only [PickT, Act.put, List.setIfInBounds_toArray, List.set_cons_zero, List.set_cons_succ]
                            have w1 := HW1.out; have f1' := HFZ.out
                            refine wpAnyT_one (i := 39) (by kernel_rfl) rfl (by kernel_rfl) ?_
                            intro K0 hK
                            unfold Oper.wp
                            go_simp
                            have hn0 : BAt (W.drew.setCell ⟨gu, j, none⟩ (.bool true)) (some ⟨gu, 0, none⟩) S.length w3.heap.size (fun t => if t < j + 1 then hit S (Q ++ [(x1, x2)]) t else hit S Q t) := HNEW.out
                            have hn : BAt (W.setCell ⟨gu, j, none⟩ (.bool true)).drew (some ⟨gu, 0, none⟩) S.length w3.heap.size (fun t => if t < j + 1 then hit S (Q ++ [(x1, x2)]) t else hit S Q t) := hn0.heap rfl
                            obtain ⟨wz, hwz⟩ : ∃ wz, wz = (W.setCell ⟨gu, j, none⟩ (.bool true)).drew := ⟨_, rfl⟩
                            have hbz : Below w3.heap.size w3 wz := by rw [hwz]; exact ((HBW.out).setCell (p := ⟨gu, j, none⟩) hgu _).drew
                            clear hn0
                            rw [← hwz] at hn ⊢
                            have HN := Lib.hid hn; have HBZ := Lib.hid hbz
                            clear hn hwz hbz HNEW w1 f1'
                            refine hK _ _ (fun h => absurd h (by decide)) ?_
                            clear hK K0
                            refine wpAnyT_done (by kernel_rfl) ?_ _
                            refine only_mk ?_
                            clear HW1 HFZ HS0' HC0' HG0' HG1'
                            go_wp2_with fail
                            go_meet
                            exact ⟨by simp, by simp, HN.out, HBZ.out⟩
                          | false =>
                            cases f1 with
                            | true =>
                              refine wpAnyT_pick (S := (fun U => Below W.heap.size W U)) (by kernel_rfl) Only.panic Only.keepsIn (w := W.drew) (Below.refl _ _).drew [0, 1, 2, 3, 4, 5, 6, 7, 8, 9, 10, 11, 12, 13, 14, 15, 16, 17, 18, 19, 20, 21, 22, 23, 24, 25, 26, 27, 28, 29, 30, 31, 32, 33, 34, 35, 36, 37, 38] 1 _ _ (by kernel_rfl) ?_
                              refine PickT.value (d := some 103) (.slice (some ⟨gu, 0, none⟩) S.length cu) rfl rfl (by kernel_rfl) (fun U hU => (by go_simp)) ?_
                              refine PickT.value (d := some 104) (.int .i64 (j : Int)) rfl rfl (by kernel_rfl) (fun U hU => (by go_simp)) ?_
                              refine PickT.value (d := some 105) (.slice (some ⟨gu, 0, none⟩) S.length cu) rfl rfl (by kernel_rfl) (fun U hU => (by go_simp)) ?_
                              refine PickT.value (d := some 106) (.int .i64 (j : Int)) rfl rfl (by kernel_rfl) (fun U hU => (by go_simp)) ?_
                              refine PickT.value (d := some 107) (.pointer (some ⟨gu, j, none⟩)) rfl rfl (by kernel_rfl) (fun U hU => (by go_simp)) ?_
                              refine PickT.value (d := some 108) (.bool false) rfl rfl (by kernel_rfl) (fun U hU => (by have h0 := keep_at HW1.out hU; go_simp)) ?_
                              refine PickT.value (d := some 109) (.bool false) rfl rfl (by kernel_rfl) (fun U hU => (by go_simp)) ?_
                              refine PickT.value (d := some 110) (.slice (some bd) S.length d) rfl rfl (by kernel_rfl) (fun U hU => (by go_simp)) ?_
                              refine PickT.value (d := some 111) (.int .i64 (j : Int)) rfl rfl (by kernel_rfl) (fun U hU => (by go_simp)) ?_
                              refine PickT.value (d := some 112) (.pointer (some (bd.add j))) rfl rfl (by kernel_rfl) (fun U hU => (by go_simp)) ?_
                              refine PickT.value (d := some 113) (.string sj) rfl rfl (by kernel_rfl) (fun U hU => (by have h0 := keep_at HS0'.out hU; go_simp)) ?_
                              refine PickT.value (d := some 114) (.slice (some ad) n c) rfl rfl (by kernel_rfl) (fun U hU => (by go_simp)) ?_
                              refine PickT.value (d := some 115) (.int .i64 (k : Int)) rfl rfl (by kernel_rfl) (fun U hU => (by go_simp)) ?_
                              refine PickT.value (d := some 116) (.pointer (some (ad.add (k * 4)))) rfl rfl (by kernel_rfl) (fun U hU => (by go_simp)) ?_
                              refine PickT.value (d := some 117) (.pointer (some (ad.add (k * 4)))) rfl rfl (by kernel_rfl) (fun U hU => (by go_simp)) ?_
                              refine PickT.value (d := some 118) (.slice (some ad2) l.length (q k).c) rfl rfl (by kernel_rfl) (fun U hU => (by have h0 := keep_at HC0'.out hU; go_simp)) ?_
                              refine PickT.value (d := some 119) (.int .i64 (m : Int)) rfl rfl (by kernel_rfl) (fun U hU => (by go_simp)) ?_
                              refine PickT.value (d := some 120) (.pointer (some (ad2.add (m * 2)))) rfl rfl (by kernel_rfl) (fun U hU => (by go_simp)) ?_
                              refine PickT.value (d := some 121) (.pointer (some (ad2.add (m * 2)))) rfl rfl (by kernel_rfl) (fun U hU => (by go_simp)) ?_
                              refine PickT.value (d := some 122) (.string x1) rfl rfl (by kernel_rfl) (fun U hU => (by have h0 := keep_at HG0'.out hU; go_simp)) ?_
                              refine PickT.value (d := some 123) (.bool true) rfl rfl (by kernel_rfl) (fun U hU => (by have r1' := r1; go_simp)) ?_
                              refine PickT.value (d := some 124) (.bool true) rfl rfl (by kernel_rfl) (fun U hU => (by go_simp)) ?_
                              refine PickT.value (d := some 125) (.bool true) rfl rfl (by kernel_rfl) (fun U hU => (by go_simp)) ?_
                              refine PickT.skip (d := some 126) rfl rfl (by kernel_rfl) ?_
                              refine PickT.skip (d := some 127) rfl rfl (by kernel_rfl) ?_
                              refine PickT.skip (d := some 128) rfl rfl (by kernel_rfl) ?_
                              refine PickT.skip (d := some 129) rfl rfl (by kernel_rfl) ?_
                              refine PickT.skip (d := some 130) rfl rfl (by kernel_rfl) ?_
                              refine PickT.skip (d := some 131) rfl rfl (by kernel_rfl) ?_
                              refine PickT.skip (d := some 132) rfl rfl (by kernel_rfl) ?_
                              refine PickT.skip (d := some 133) rfl rfl (by kernel_rfl) ?_
                              refine PickT.skip (d := some 134) rfl rfl (by kernel_rfl) ?_
                              refine PickT.skip (d := some 135) rfl rfl (by kernel_rfl) ?_
                              refine PickT.skip (d := some 136) rfl rfl (by kernel_rfl) ?_
                              refine PickT.skip (d := some 137) rfl rfl (by kernel_rfl) ?_
                              refine PickT.skip (d := some 138) rfl rfl (by kernel_rfl) ?_
                              refine PickT.skip (d := some 139) rfl rfl (by kernel_rfl) ?_
                              refine PickT.value (d := some 140) (.bool true) rfl rfl (by kernel_rfl) (fun U hU => (by go_simp)) ?_
                              refine PickT.value (d := some 141) (.pointer (some ⟨gu, j, none⟩)) rfl rfl (by kernel_rfl) (fun U hU => (by go_simp)) ?_
                              simp only [PickT, Act.put, List.setIfInBounds_toArray, List.set_cons_zero, List.set_cons_succ]
                              have w1 := HW1.out; have f1' := HFZ.out
                              refine wpAnyT_one (i := 39) (by kernel_rfl) rfl (by kernel_rfl) ?_
                              intro K0 hK
                              unfold Oper.wp
                              go_simp
                              have hn0 : BAt (W.drew.setCell ⟨gu, j, none⟩ (.bool true)) (some ⟨gu, 0, none⟩) S.length w3.heap.size (fun t => if t < j + 1 then hit S (Q ++ [(x1, x2)]) t else hit S Q t) := HNEW.out
                              have hn : BAt (W.setCell ⟨gu, j, none⟩ (.bool true)).drew (some ⟨gu, 0, none⟩) S.length w3.heap.size (fun t => if t < j + 1 then hit S (Q ++ [(x1, x2)]) t else hit S Q t) := hn0.heap rfl
                              obtain ⟨wz, hwz⟩ : ∃ wz, wz = (W.setCell ⟨gu, j, none⟩ (.bool true)).drew := ⟨_, rfl⟩
                              have hbz : Below w3.heap.size w3 wz := by rw [hwz]; exact ((HBW.out).setCell (p := ⟨gu, j, none⟩) hgu _).drew
                              clear hn0
                              rw [← hwz] at hn ⊢
                              have HN := Lib.hid hn; have HBZ := Lib.hid hbz
                              clear hn hwz hbz HNEW w1 f1'
                              refine hK _ _ (fun h => absurd h (by decide)) ?_
                              clear hK K0
                              refine wpAnyT_done (by kernel_rfl) ?_ _
                              refine only_mk ?_
                              clear HW1 HFZ HS0' HC0' HG0' HG1'
                              go_wp2_with fail
                              go_meet
                              exact ⟨by simp, by simp, HN.out, HBZ.out⟩
                            | false =>
                              refine wpAnyT_pick (S := (fun U => Below W.heap.size W U)) (by kernel_rfl) Only.panic Only.keepsIn (w := W.drew) (Below.refl _ _).drew [0, 1, 2, 3, 4, 5, 6, 7, 8, 9, 10, 11, 12, 13, 14, 15, 16, 17, 18, 19, 20, 21, 22, 23, 24, 25, 26, 27, 28, 29, 30, 31, 32, 33, 34, 35, 36, 37, 38] 1 _ _ (by kernel_rfl) ?_
                              refine PickT.value (d := some 103) (.slice (some ⟨gu, 0, none⟩) S.length cu) rfl rfl (by kernel_rfl) (fun U hU => (by go_simp)) ?_
                              refine PickT.value (d := some 104) (.int .i64 (j : Int)) rfl rfl (by kernel_rfl) (fun U hU => (by go_simp)) ?_
                              refine PickT.value (d := some 105) (.slice (some ⟨gu, 0, none⟩) S.length cu) rfl rfl (by kernel_rfl) (fun U hU => (by go_simp)) ?_
                              refine PickT.value (d := some 106) (.int .i64 (j : Int)) rfl rfl (by kernel_rfl) (fun U hU => (by go_simp)) ?_
                              refine PickT.value (d := some 107) (.pointer (some ⟨gu, j, none⟩)) rfl rfl (by kernel_rfl) (fun U hU => (by go_simp)) ?_
                              refine PickT.value (d := some 108) (.bool false) rfl rfl (by kernel_rfl) (fun U hU => (by have h0 := keep_at HW1.out hU; go_simp)) ?_
                              refine PickT.value (d := some 109) (.bool false) rfl rfl (by kernel_rfl) (fun U hU => (by go_simp)) ?_
                              refine PickT.value (d := some 110) (.slice (some bd) S.length d) rfl rfl (by kernel_rfl) (fun U hU => (by go_simp)) ?_
                              refine PickT.value (d := some 111) (.int .i64 (j : Int)) rfl rfl (by kernel_rfl) (fun U hU => (by go_simp)) ?_
                              refine PickT.value (d := some 112) (.pointer (some (bd.add j))) rfl rfl (by kernel_rfl) (fun U hU => (by go_simp)) ?_
                              refine PickT.value (d := some 113) (.string sj) rfl rfl (by kernel_rfl) (fun U hU => (by have h0 := keep_at HS0'.out hU; go_simp)) ?_
                              refine PickT.value (d := some 114) (.slice (some ad) n c) rfl rfl (by kernel_rfl) (fun U hU => (by go_simp)) ?_
                              refine PickT.value (d := some 115) (.int .i64 (k : Int)) rfl rfl (by kernel_rfl) (fun U hU => (by go_simp)) ?_
                              refine PickT.value (d := some 116) (.pointer (some (ad.add (k * 4)))) rfl rfl (by kernel_rfl) (fun U hU => (by go_simp)) ?_
                              refine PickT.value (d := some 117) (.pointer (some (ad.add (k * 4)))) rfl rfl (by kernel_rfl) (fun U hU => (by go_simp)) ?_
                              refine PickT.value (d := some 118) (.slice (some ad2) l.length (q k).c) rfl rfl (by kernel_rfl) (fun U hU => (by have h0 := keep_at HC0'.out hU; go_simp)) ?_
                              refine PickT.value (d := some 119) (.int .i64 (m : Int)) rfl rfl (by kernel_rfl) (fun U hU => (by go_simp)) ?_
                              refine PickT.value (d := some 120) (.pointer (some (ad2.add (m * 2)))) rfl rfl (by kernel_rfl) (fun U hU => (by go_simp)) ?_
                              refine PickT.value (d := some 121) (.pointer (some (ad2.add (m * 2)))) rfl rfl (by kernel_rfl) (fun U hU => (by go_simp)) ?_
                              refine PickT.value (d := some 122) (.string x1) rfl rfl (by kernel_rfl) (fun U hU => (by have h0 := keep_at HG0'.out hU; go_simp)) ?_
                              refine PickT.value (d := some 123) (.bool false) rfl rfl (by kernel_rfl) (fun U hU => (by have r1' := r1; go_simp)) ?_
                              refine PickT.value (d := some 124) (.bool false) rfl rfl (by kernel_rfl) (fun U hU => (by go_simp)) ?_
                              refine PickT.value (d := some 125) (.bool false) rfl rfl (by kernel_rfl) (fun U hU => (by go_simp)) ?_
                              refine PickT.value (d := some 126) (.slice (some bd) S.length d) rfl rfl (by kernel_rfl) (fun U hU => (by go_simp)) ?_
                              refine PickT.value (d := some 127) (.int .i64 (j : Int)) rfl rfl (by kernel_rfl) (fun U hU => (by go_simp)) ?_
                              refine PickT.value (d := some 128) (.pointer (some (bd.add j))) rfl rfl (by kernel_rfl) (fun U hU => (by go_simp)) ?_
                              refine PickT.value (d := some 129) (.string sj) rfl rfl (by kernel_rfl) (fun U hU => (by have h0 := keep_at HS0'.out hU; go_simp)) ?_
                              refine PickT.value (d := some 130) (.slice (some ad) n c) rfl rfl (by kernel_rfl) (fun U hU => (by go_simp)) ?_
                              refine PickT.value (d := some 131) (.int .i64 (k : Int)) rfl rfl (by kernel_rfl) (fun U hU => (by go_simp)) ?_
                              refine PickT.value (d := some 132) (.pointer (some (ad.add (k * 4)))) rfl rfl (by kernel_rfl) (fun U hU => (by go_simp)) ?_
                              refine PickT.value (d := some 133) (.pointer (some (ad.add (k * 4)))) rfl rfl (by kernel_rfl) (fun U hU => (by go_simp)) ?_
                              refine PickT.value (d := some 134) (.slice (some ad2) l.length (q k).c) rfl rfl (by kernel_rfl) (fun U hU => (by have h0 := keep_at HC0'.out hU; go_simp)) ?_
                              refine PickT.value (d := some 135) (.int .i64 (m : Int)) rfl rfl (by kernel_rfl) (fun U hU => (by go_simp)) ?_
                              refine PickT.value (d := some 136) (.pointer (some (ad2.add (m * 2)))) rfl rfl (by kernel_rfl) (fun U hU => (by go_simp)) ?_
                              refine PickT.value (d := some 137) (.pointer (some ⟨(ad2.add (m * 2)).block, (ad2.add (m * 2)).off + 1, none⟩)) rfl rfl (by kernel_rfl) (fun U hU => (by go_simp)) ?_
                              refine PickT.value (d := some 138) (.string x2) rfl rfl (by kernel_rfl) (fun U hU => (by have h0 := keep_at HG1'.out hU; go_simp)) ?_
                              refine PickT.value (d := some 139) (.bool f2) rfl rfl (by kernel_rfl) (fun U hU => (by have r2' := r2; go_simp)) ?_
                              refine PickT.value (d := some 140) (.bool f2) rfl rfl (by kernel_rfl) (fun U hU => (by go_simp)) ?_
                              refine PickT.value (d := some 141) (.pointer (some ⟨gu, j, none⟩)) rfl rfl (by kernel_rfl) (fun U hU => (by go_simp)) ?_
                              simp only [PickT, Act.put, List.setIfInBounds_toArray, List.set_cons_zero, List.set_cons_succ]
                              have w1 := HW1.out; have f1' := HFZ.out
                              refine wpAnyT_one (i := 39) (by kernel_rfl) rfl (by kernel_rfl) ?_
                              intro K0 hK
                              unfold Oper.wp
                              go_simp
                              have hn0 : BAt (W.drew.setCell ⟨gu, j, none⟩ (.bool f2)) (some ⟨gu, 0, none⟩) S.length w3.heap.size (fun t => if t < j + 1 then hit S (Q ++ [(x1, x2)]) t else hit S Q t) := HNEW.out
                              have hn : BAt (W.setCell ⟨gu, j, none⟩ (.bool f2)).drew (some ⟨gu, 0, none⟩) S.length w3.heap.size (fun t => if t < j + 1 then hit S (Q ++ [(x1, x2)]) t else hit S Q t) := hn0.heap rfl
                              obtain ⟨wz, hwz⟩ : ∃ wz, wz = (W.setCell ⟨gu, j, none⟩ (.bool f2)).drew := ⟨_, rfl⟩
                              have hbz : Below w3.heap.size w3 wz := by rw [hwz]; exact ((HBW.out).setCell (p := ⟨gu, j, none⟩) hgu _).drew
                              clear hn0
                              rw [← hwz] at hn ⊢
                              have HN := Lib.hid hn; have HBZ := Lib.hid hbz
                              clear hn hwz hbz HNEW w1 f1'
                              refine hK _ _ (fun h => absurd h (by decide)) ?_
                              clear hK K0
                              refine wpAnyT_done (by kernel_rfl) ?_ _
                              refine only_mk ?_
                              clear HW1 HFZ HS0' HC0' HG0' HG1'
                              go_wp2_with fail
                              go_meet
                              exact ⟨by simp, by simp, HN.out, HBZ.out⟩

                    case rest =>
                      obtain ⟨rfl, rfl, hn, hbz⟩ := hcut
                      have HN := Lib.hid hn; have HBZ := Lib.hid hbz
                      have HA1F := HA1'.out; have HA2F := HA2'.out
                      clear hn hbz HA1' HA2'
                      go_wp2_with fail
                      go_roundw
                      case rel => exact ⟨j + 1, hjs, rfl, by rw [HA1F], by rw [HA2F], HN.out, HBZ.out⟩
                      case measure => exact meas_lt0 hjs
                  · obtain rfl : j = S.length := Nat.le_antisymm hj (Nat.le_of_not_lt hjs)
                    have d4 : decide ((S.length : Int) < (S.length : Int)) = false := decide_eq_false (Int.lt_irrefl _)
                    have e1 := HE1.out; have e2 := HE2.out
                    go_wp2_with fail
                    go_roundw
                    case rel => exact ⟨m + 1, hml, rfl, by rw [HQX.out]; exact HU3.out.congr (fun t ht => if_pos ht), HB3'.out⟩
                    case measure => exact meas_lt0 hml
              · obtain rfl : m = l.length := Nat.le_antisymm hm (Nat.le_of_not_lt hml)
                have d3 : decide ((l.length : Int) < (l.length : Int)) = false := decide_eq_false (Int.lt_irrefl _)
                go_wp2_with fail
                go_roundw
                case rel => exact ⟨k + 1, hkn, rfl, by rw [HLS.out]; have h := HU2.out; rw [List.take_length] at h; exact h, HB2.out⟩
                case measure => exact meas_lt0 hkn
          · obtain rfl : k = n := Nat.le_antisymm hk (Nat.le_of_not_lt hkn)
            have d2 : decide ((k : Int) < (k : Int)) = false := decide_eq_false (Int.lt_irrefl _)
            obtain ⟨wb, hwb⟩ : ∃ wb, wb = wr := ⟨_, rfl⟩
            subst hwb
            go_wp2_with fail
            go_loopw [13] (fun i wr => ∃ j : Nat, j ≤ S.length ∧ i = .int .i64 j ∧ wb = wr) (fun i _ => S.length - (intOf i).toNat)
            case atStart => exact ⟨0, Nat.zero_le _, rfl, rfl⟩
            case round =>
              obtain ⟨j, hj, rfl, rfl⟩ := hrel
              by_cases hjs : j < S.length
              · have d4 : decide ((j : Int) < (S.length : Int)) = true := decide_eq_true (Int.ofNat_lt.2 hjs)
                obtain ⟨g, cs, rfl, -, hc, hi⟩ := HU.out.is_ (by omega)
                have hcell := (cell_of_row _ _ _ _ _ _ hc).trans (hi j hjs)
                rw [HAL.out j hjs] at hcell
                have i0 : (0 : Int) ≤ (j : Int) := Int.natCast_nonneg _
                have i1 : (j : Int) < (S.length : Int) := Int.ofNat_lt.2 hjs
                have y0 : wb.cell? (Addr.add ⟨g, 0, none⟩ j) = some (.bool true) := by rw [Addr.add_lit, Nat.zero_add]; exact hcell
                clear hc hi
                go_wp2_with fail
                go_roundw
                case rel => exact ⟨j + 1, hjs, rfl, trivial⟩
                case measure => exact meas_lt0 hjs
              · obtain rfl : j = S.length := Nat.le_antisymm hj (Nat.le_of_not_lt hjs)
                have d4 : decide ((S.length : Int) < (S.length : Int)) = false := decide_eq_false (Int.lt_irrefl _)
                have HFIN := Lib.hid (HB3.out.trans (HB.out.mono HB3.out.size))
                go_wp2_with fail
                go_ret
                exact ⟨rfl, HFIN.out⟩
end Go.Proofs.YtliobahnekohmaaGreat
/-
  The document's entries out of the program's: Of; rows of texts alike.
-/
namespace Go.Proofs.YtliobahnekohmaaGreat
open Go.RowKit
theorem infoRE : (Tryz.prog.info? 77).map (fun i => (i.zero, i.size, i.bytes)) = some (some (.agg #[.slice none 0 0, .int .i64 0, .int .i64 0, .int .i64 0]), 4, 48) := by kernel_rfl
theorem keep_at2 {w U : World} {p : Addr} {v : Value} (h : w.cell? p = some v) (hb : Below w.heap.size w U) : U.cell? p = some v := by
  have hlt := Go.block_lt_of_cell h
  unfold World.cell? at h ⊢
  rw [hb.block p.block hlt]
  exact h
set_option maxRecDepth 100000 in
set_option maxHeartbeats 8000000 in
theorem Of_any12 (A : Option Addr) (n c : Nat) (q : Nat → EAt) (w : World) (hA : EntsIn w A n q) :
    Calls Tryz.prog 13 #[.slice A n c] w fun e w' => ∃ B d, e = .returned (.slice B n d) ∧ EntsIn w' B n q ∧ Below w.heap.size w w' := by
  have hn := hA.len
  have HA := Lib.hid hA
  clear hA
  go_enter Tryz.func13, Tryz.ntmps13
  go_wp2_with fail
  go_loopw [3, 4] (fun v i wr => ∃ j : Nat, j ≤ n ∧ i = .int .i64 j ∧ wr.ownsRow w.heap.size 77 4 v j (rcells 4 (ex q) j) ∧ Below w.heap.size w wr) (fun _ i _ => n - (intOf i).toNat)
  case atStart => exact ⟨0, Nat.zero_le _, rfl, World.ownsRow_nil _ _ _ _, Below.refl _ _⟩
  case round =>
    obtain ⟨j, hj, rfl, hown, hbl⟩ := hrel
    have HO := Lib.hid hown; have HBL := Lib.hid hbl
    clear hown hbl
    by_cases hjn : j < n
    · have d1 : decide ((j : Int) < (n : Int)) = true := decide_eq_true (Int.ofNat_lt.2 hjn)
      have i0 : (0 : Int) ≤ (j : Int) := Int.natCast_nonneg _
      have i1 : (j : Int) < (n : Int) := Int.ofNat_lt.2 hjn
      obtain ⟨ad, rfl, x0, x1, x2, x3⟩ := HA.out.cells HBL.out hjn
      have HX0 := Lib.hid x0; have HX1 := Lib.hid x1; have HX2 := Lib.hid x2; have HX3 := Lib.hid x3
      clear x0 x1 x2 x3
      obtain ⟨v0, hv0⟩ : ∃ v0, v0 = u3 := ⟨_, rfl⟩
      subst hv0
      go_upto_region 5 with fail
      refine plain_robJ [(0, some 11), (1, some 12), (2, some 13), (3, some 14), (4, some 15), (5, some 16), (6, some 17), (7, some 18), (8, some 19), (9, some 20), (10, some 21), (11, some 22), (12, some 23), (13, some 24), (14, some 25), (15, some 26), (16, some 27), (17, some 28), (18, some 29), (19, some 30), (20, some 31), (21, some 32), (22, some 33)] [23, 24] (fun U V => Below U.heap.size U V) (fun U => Below wr.heap.size wr U) [(0, v0), (1, .slice (some ad) n c), (2, .int .i64 (j : Int)), (3, .pointer (some (ad.add (j * 4)))), (4, .pointer (some (ad.add (j * 4)))), (5, .slice (q j).A (q j).e.l.length (q j).c), (6, .slice (some ad) n c), (7, .int .i64 (j : Int)), (8, .pointer (some (ad.add (j * 4)))), (9, .pointer (some ⟨(ad.add (j * 4)).block, (ad.add (j * 4)).off + 1, none⟩)), (10, .int .i64 (q j).e.last), (11, .slice (some ad) n c), (12, .int .i64 (j : Int)), (13, .pointer (some (ad.add (j * 4)))), (14, .pointer (some ⟨(ad.add (j * 4)).block, (ad.add (j * 4)).off + 2, none⟩)), (15, .int .i64 (q j).e.off), (16, .slice (some ad) n c), (17, .int .i64 (j : Int)), (18, .pointer (some (ad.add (j * 4)))), (19, .pointer (some ⟨(ad.add (j * 4)).block, (ad.add (j * 4)).off + 3, none⟩)), (20, .int .i64 (q j).e.len), (21, .agg #[.slice (q j).A (q j).e.l.length (q j).c, .int .i64 (q j).e.last, .int .i64 (q j).e.off, .int .i64 (q j).e.len])] [(22, (fun v W => ∃ bb, v = .slice (some ⟨bb, 0, none⟩) 1 1 ∧ Row 4 (exE (q j)) W (some ⟨bb, 0, none⟩) 1 : Value → World → Prop))] 2 (by kernel_rfl) (by kernel_rfl) (by kernel_rfl) ((Below.refl _ _).drew) (fun U V h hb => h.trans (hb.mono h.size)) ?_ ?_ ?_
      · intro p hp
        simp only [List.mem_cons, List.not_mem_nil, or_false] at hp
        subst hp
        exact fun v U V h hb => by obtain ⟨bb, e, hr⟩ := h; exact ⟨bb, e, hr.later hb⟩
      · refine ⟨⟨_, rfl, fun ν U hU hp => ?_⟩, ?_⟩
        · simp only [putsν, Act.put, List.setIfInBounds_toArray, List.set_cons_zero, List.set_cons_succ]
          exact Yld.value (v0) U (by kernel_rfl) (by go_simp) ⟨Below.refl _ _, Fx.fixed rfl rfl⟩
        refine ⟨⟨_, rfl, fun ν U hU hp => ?_⟩, ?_⟩
        · simp only [putsν, Act.put, List.setIfInBounds_toArray, List.set_cons_zero, List.set_cons_succ]
          exact Yld.value (.slice (some ad) n c) U (by kernel_rfl) (by go_simp) ⟨Below.refl _ _, Fx.fixed rfl rfl⟩
        refine ⟨⟨_, rfl, fun ν U hU hp => ?_⟩, ?_⟩
        · simp only [putsν, Act.put, List.setIfInBounds_toArray, List.set_cons_zero, List.set_cons_succ]
          exact Yld.value (.int .i64 (j : Int)) U (by kernel_rfl) (by go_simp) ⟨Below.refl _ _, Fx.fixed rfl rfl⟩
        refine ⟨⟨_, rfl, fun ν U hU hp => ?_⟩, ?_⟩
        · simp only [putsν, Act.put, List.setIfInBounds_toArray, List.set_cons_zero, List.set_cons_succ]
          have e1 := (hp 1 (by kernel_rfl) (by kernel_rfl)).val _ rfl
          have e2 := (hp 2 (by kernel_rfl) (by kernel_rfl)).val _ rfl
          simp only [e1, e2]
          exact Yld.value (.pointer (some (ad.add (j * 4)))) U (by kernel_rfl) (by go_simp) ⟨Below.refl _ _, Fx.fixed rfl rfl⟩
        refine ⟨⟨_, rfl, fun ν U hU hp => ?_⟩, ?_⟩
        · simp only [putsν, Act.put, List.setIfInBounds_toArray, List.set_cons_zero, List.set_cons_succ]
          have e3 := (hp 3 (by kernel_rfl) (by kernel_rfl)).val _ rfl
          simp only [e3]
          exact Yld.value (.pointer (some (ad.add (j * 4)))) U (by kernel_rfl) (by go_simp) ⟨Below.refl _ _, Fx.fixed rfl rfl⟩
        refine ⟨⟨_, rfl, fun ν U hU hp => ?_⟩, ?_⟩
        · simp only [putsν, Act.put, List.setIfInBounds_toArray, List.set_cons_zero, List.set_cons_succ]
          have e4 := (hp 4 (by kernel_rfl) (by kernel_rfl)).val _ rfl
          simp only [e4]
          exact Yld.value (.slice (q j).A (q j).e.l.length (q j).c) U (by kernel_rfl) (by have h0 := keep_at2 HX0.out hU; go_simp) ⟨Below.refl _ _, Fx.fixed rfl rfl⟩
        refine ⟨⟨_, rfl, fun ν U hU hp => ?_⟩, ?_⟩
        · simp only [putsν, Act.put, List.setIfInBounds_toArray, List.set_cons_zero, List.set_cons_succ]
          exact Yld.value (.slice (some ad) n c) U (by kernel_rfl) (by go_simp) ⟨Below.refl _ _, Fx.fixed rfl rfl⟩
        refine ⟨⟨_, rfl, fun ν U hU hp => ?_⟩, ?_⟩
        · simp only [putsν, Act.put, List.setIfInBounds_toArray, List.set_cons_zero, List.set_cons_succ]
          exact Yld.value (.int .i64 (j : Int)) U (by kernel_rfl) (by go_simp) ⟨Below.refl _ _, Fx.fixed rfl rfl⟩
        refine ⟨⟨_, rfl, fun ν U hU hp => ?_⟩, ?_⟩
        · simp only [putsν, Act.put, List.setIfInBounds_toArray, List.set_cons_zero, List.set_cons_succ]
          have e6 := (hp 6 (by kernel_rfl) (by kernel_rfl)).val _ rfl
          have e7 := (hp 7 (by kernel_rfl) (by kernel_rfl)).val _ rfl
          simp only [e6, e7]
          exact Yld.value (.pointer (some (ad.add (j * 4)))) U (by kernel_rfl) (by go_simp) ⟨Below.refl _ _, Fx.fixed rfl rfl⟩
        refine ⟨⟨_, rfl, fun ν U hU hp => ?_⟩, ?_⟩
        · simp only [putsν, Act.put, List.setIfInBounds_toArray, List.set_cons_zero, List.set_cons_succ]
          have e8 := (hp 8 (by kernel_rfl) (by kernel_rfl)).val _ rfl
          simp only [e8]
          exact Yld.value (.pointer (some ⟨(ad.add (j * 4)).block, (ad.add (j * 4)).off + 1, none⟩)) U (by kernel_rfl) (by go_simp) ⟨Below.refl _ _, Fx.fixed rfl rfl⟩
        refine ⟨⟨_, rfl, fun ν U hU hp => ?_⟩, ?_⟩
        · simp only [putsν, Act.put, List.setIfInBounds_toArray, List.set_cons_zero, List.set_cons_succ]
          have e9 := (hp 9 (by kernel_rfl) (by kernel_rfl)).val _ rfl
          simp only [e9]
          exact Yld.value (.int .i64 (q j).e.last) U (by kernel_rfl) (by have h0 := keep_at2 HX1.out hU; go_simp) ⟨Below.refl _ _, Fx.fixed rfl rfl⟩
        refine ⟨⟨_, rfl, fun ν U hU hp => ?_⟩, ?_⟩
        · simp only [putsν, Act.put, List.setIfInBounds_toArray, List.set_cons_zero, List.set_cons_succ]
          exact Yld.value (.slice (some ad) n c) U (by kernel_rfl) (by go_simp) ⟨Below.refl _ _, Fx.fixed rfl rfl⟩
        refine ⟨⟨_, rfl, fun ν U hU hp => ?_⟩, ?_⟩
        · simp only [putsν, Act.put, List.setIfInBounds_toArray, List.set_cons_zero, List.set_cons_succ]
          exact Yld.value (.int .i64 (j : Int)) U (by kernel_rfl) (by go_simp) ⟨Below.refl _ _, Fx.fixed rfl rfl⟩
        refine ⟨⟨_, rfl, fun ν U hU hp => ?_⟩, ?_⟩
        · simp only [putsν, Act.put, List.setIfInBounds_toArray, List.set_cons_zero, List.set_cons_succ]
          have e11 := (hp 11 (by kernel_rfl) (by kernel_rfl)).val _ rfl
          have e12 := (hp 12 (by kernel_rfl) (by kernel_rfl)).val _ rfl
          simp only [e11, e12]
          exact Yld.value (.pointer (some (ad.add (j * 4)))) U (by kernel_rfl) (by go_simp) ⟨Below.refl _ _, Fx.fixed rfl rfl⟩
        refine ⟨⟨_, rfl, fun ν U hU hp => ?_⟩, ?_⟩
        · simp only [putsν, Act.put, List.setIfInBounds_toArray, List.set_cons_zero, List.set_cons_succ]
          have e13 := (hp 13 (by kernel_rfl) (by kernel_rfl)).val _ rfl
          simp only [e13]
          exact Yld.value (.pointer (some ⟨(ad.add (j * 4)).block, (ad.add (j * 4)).off + 2, none⟩)) U (by kernel_rfl) (by go_simp) ⟨Below.refl _ _, Fx.fixed rfl rfl⟩
        refine ⟨⟨_, rfl, fun ν U hU hp => ?_⟩, ?_⟩
        · simp only [putsν, Act.put, List.setIfInBounds_toArray, List.set_cons_zero, List.set_cons_succ]
          have e14 := (hp 14 (by kernel_rfl) (by kernel_rfl)).val _ rfl
          simp only [e14]
          exact Yld.value (.int .i64 (q j).e.off) U (by kernel_rfl) (by have h0 := keep_at2 HX2.out hU; go_simp) ⟨Below.refl _ _, Fx.fixed rfl rfl⟩
        refine ⟨⟨_, rfl, fun ν U hU hp => ?_⟩, ?_⟩
        · simp only [putsν, Act.put, List.setIfInBounds_toArray, List.set_cons_zero, List.set_cons_succ]
          exact Yld.value (.slice (some ad) n c) U (by kernel_rfl) (by go_simp) ⟨Below.refl _ _, Fx.fixed rfl rfl⟩
        refine ⟨⟨_, rfl, fun ν U hU hp => ?_⟩, ?_⟩
        · simp only [putsν, Act.put, List.setIfInBounds_toArray, List.set_cons_zero, List.set_cons_succ]
          exact Yld.value (.int .i64 (j : Int)) U (by kernel_rfl) (by go_simp) ⟨Below.refl _ _, Fx.fixed rfl rfl⟩
        refine ⟨⟨_, rfl, fun ν U hU hp => ?_⟩, ?_⟩
        · simp only [putsν, Act.put, List.setIfInBounds_toArray, List.set_cons_zero, List.set_cons_succ]
          have e16 := (hp 16 (by kernel_rfl) (by kernel_rfl)).val _ rfl
          have e17 := (hp 17 (by kernel_rfl) (by kernel_rfl)).val _ rfl
          simp only [e16, e17]
          exact Yld.value (.pointer (some (ad.add (j * 4)))) U (by kernel_rfl) (by go_simp) ⟨Below.refl _ _, Fx.fixed rfl rfl⟩
        refine ⟨⟨_, rfl, fun ν U hU hp => ?_⟩, ?_⟩
        · simp only [putsν, Act.put, List.setIfInBounds_toArray, List.set_cons_zero, List.set_cons_succ]
          have e18 := (hp 18 (by kernel_rfl) (by kernel_rfl)).val _ rfl
          simp only [e18]
          exact Yld.value (.pointer (some ⟨(ad.add (j * 4)).block, (ad.add (j * 4)).off + 3, none⟩)) U (by kernel_rfl) (by go_simp) ⟨Below.refl _ _, Fx.fixed rfl rfl⟩
        refine ⟨⟨_, rfl, fun ν U hU hp => ?_⟩, ?_⟩
        · simp only [putsν, Act.put, List.setIfInBounds_toArray, List.set_cons_zero, List.set_cons_succ]
          have e19 := (hp 19 (by kernel_rfl) (by kernel_rfl)).val _ rfl
          simp only [e19]
          exact Yld.value (.int .i64 (q j).e.len) U (by kernel_rfl) (by have h0 := keep_at2 HX3.out hU; go_simp) ⟨Below.refl _ _, Fx.fixed rfl rfl⟩
        refine ⟨⟨_, rfl, fun ν U hU hp => ?_⟩, ?_⟩
        · simp only [putsν, Act.put, List.setIfInBounds_toArray, List.set_cons_zero, List.set_cons_succ]
          have e5 := (hp 5 (by kernel_rfl) (by kernel_rfl)).val _ rfl
          have e10 := (hp 10 (by kernel_rfl) (by kernel_rfl)).val _ rfl
          have e15 := (hp 15 (by kernel_rfl) (by kernel_rfl)).val _ rfl
          have e20 := (hp 20 (by kernel_rfl) (by kernel_rfl)).val _ rfl
          simp only [e5, e10, e15, e20]
          exact Yld.value (.agg #[.slice (q j).A (q j).e.l.length (q j).c, .int .i64 (q j).e.last, .int .i64 (q j).e.off, .int .i64 (q j).e.len]) U (by kernel_rfl) (by go_simp) ⟨Below.refl _ _, Fx.fixed rfl rfl⟩
        refine ⟨⟨_, rfl, fun ν U hU hp => ?_⟩, ?_⟩
        · simp only [putsν, Act.put, List.setIfInBounds_toArray, List.set_cons_zero, List.set_cons_succ]
          have e21 := (hp 21 (by kernel_rfl) (by kernel_rfl)).val _ rfl
          simp only [e21]
          exact Yld.value (.slice (some ⟨U.heap.size, 0, none⟩) 1 1) (U.alloc (.cells (entC (q j)) 77)) (by kernel_rfl) (by unfold entC; go_simp) ⟨(Below.refl _ _).alloc (Nat.le_refl _) _, Fx.some_ rfl rfl ⟨_, rfl, exE_row U (q j) 77⟩⟩
        trivial
      intro ν w5 hS5 hf
      have e0 := (hf 0 (by kernel_rfl)).val _ rfl
      have e1 := (hf 1 (by kernel_rfl)).val _ rfl
      have e2 := (hf 2 (by kernel_rfl)).val _ rfl
      have e3 := (hf 3 (by kernel_rfl)).val _ rfl
      have e4 := (hf 4 (by kernel_rfl)).val _ rfl
      have e5 := (hf 5 (by kernel_rfl)).val _ rfl
      have e6 := (hf 6 (by kernel_rfl)).val _ rfl
      have e7 := (hf 7 (by kernel_rfl)).val _ rfl
      have e8 := (hf 8 (by kernel_rfl)).val _ rfl
      have e9 := (hf 9 (by kernel_rfl)).val _ rfl
      have e10 := (hf 10 (by kernel_rfl)).val _ rfl
      have e11 := (hf 11 (by kernel_rfl)).val _ rfl
      have e12 := (hf 12 (by kernel_rfl)).val _ rfl
      have e13 := (hf 13 (by kernel_rfl)).val _ rfl
      have e14 := (hf 14 (by kernel_rfl)).val _ rfl
      have e15 := (hf 15 (by kernel_rfl)).val _ rfl
      have e16 := (hf 16 (by kernel_rfl)).val _ rfl
      have e17 := (hf 17 (by kernel_rfl)).val _ rfl
      have e18 := (hf 18 (by kernel_rfl)).val _ rfl
      have e19 := (hf 19 (by kernel_rfl)).val _ rfl
      have e20 := (hf 20 (by kernel_rfl)).val _ rfl
      have e21 := (hf 21 (by kernel_rfl)).val _ rfl
      have c22 := (hf 22 (by kernel_rfl)).is _ rfl
      simp only [putsν, Act.put, List.setIfInBounds_toArray, List.set_cons_zero, List.set_cons_succ, e0, e1, e2, e3, e4, e5, e6, e7, e8, e9, e10, e11, e12, e13, e14, e15, e16, e17, e18, e19, e20, e21]
      clear hf e0 e1 e2 e3 e4 e5 e6 e7 e8 e9 e10 e11 e12 e13 e14 e15 e16 e17 e18 e19 e20 e21
      obtain ⟨bb, hv, hR5⟩ := c22
      simp only [hv]
      clear hv
      refine wpAnyT_one (i := 23) (by kernel_rfl) rfl (by kernel_rfl) ?_
      intro K0 hK
      have hsz : w.heap.size ≤ w5.heap.size := Nat.le_trans HBL.out.size hS5.size
      refine wp_append_row _ _ _ 29 77 rfl 4 48 (.agg #[.slice none 0 0, .int .i64 0, .int .i64 0, .int .i64 0]) Tryz.underlying29 infoRE rfl (by decide) (by decide) w.heap.size v0 j (rcells 4 (ex q) j) rfl (row_far HO.out hS5) ⟨bb, 0, none⟩ 1 1 (exE (q j)) (exE_one _) rfl hR5 (by omega) hsz ?_
      intro v8 w8 hown8 hg8 _
      have HO8 := Lib.hid (show w8.ownsRow w.heap.size 77 4 v8 (j + 1) (rcells 4 (ex q) (j + 1)) by rw [rcells_succ 4 (ex q) j]; exact hown8)
      have HB8 := Lib.hid ((below_step HBL.out hS5).grown hg8 hsz (fun r e => (HO.out.lt r e).1))
      clear hown8 hg8 hR5 hS5
      refine hK _ _ (fun _ => trivial) ?_
      clear hK K0
      refine wpAnyT_one (i := 24) (by kernel_rfl) rfl (by kernel_rfl) ?_
      intro K0 hK
      unfold Oper.wp
      go_simp
      refine hK _ _ (fun _ => trivial) ?_
      clear hK K0
      refine wpAnyT_done (by kernel_rfl) ?_ _
      refine only_mk ?_
      go_wp2_with fail
      go_roundw
      case rel => exact ⟨j + 1, hjn, rfl, HO8.out, HB8.out⟩
      case measure => exact meas_lt0 hjn
    · obtain rfl : j = n := Nat.le_antisymm hj (Nat.le_of_not_lt hjn)
      have d1 : decide ((j : Int) < (j : Int)) = false := decide_eq_false (Int.lt_irrefl _)
      obtain ⟨B, d, rfl, -, -, -, hr⟩ := own_row HO.out
      have HR := Lib.hid hr
      clear hr
      go_wp2_with fail
      go_ret
      exact ⟨B, d, rfl, ⟨HR.out, fun i hi => (HA.out.each i hi).later HBL.out, hn⟩, HBL.out⟩
theorem text_ne {a b : ByteArray} (h : a ≠ b) : (a.toList == b.toList) = false := by rw [str_beq]; exact decide_eq_false h
set_option maxRecDepth 100000 in
set_option maxHeartbeats 4000000 in
theorem rTexts_any (A B : Option Addr) (c d : Nat) (S : List ByteArray) (hS : S.length ≤ 1000000) (w : World) (hA : Row 1 (kx S) w A S.length) (hB : Row 1 (kx S) w B S.length) :
    Calls Tryz.prog 23 #[.slice A S.length c, .slice B S.length d] w fun e w' => e = .returned (.bool true) ∧ Below w.heap.size w w' := by
  have HA := Lib.hid hA; have HB := Lib.hid hB; clear hA hB
  have e0 : ((S.length : Int) != (S.length : Int)) = false := bne_self_eq_false _
  go_enter Tryz.func23, Tryz.ntmps23
  go_wp2_with fail
  go_loopw [5] (fun i wr => ∃ k : Nat, k ≤ S.length ∧ i = .int .i64 k ∧ Below w.heap.size w wr) (fun i _ => S.length - (intOf i).toNat)
  case atStart => exact ⟨0, by omega, rfl, Below.refl _ _⟩
  case round =>
    obtain ⟨k, hk, rfl, hb⟩ := hrel
    have HBL := Lib.hid hb; clear hb
    by_cases hlt : k < S.length
    · obtain ⟨ad, rfl, c0, -⟩ := HA.out.at_ HBL.out hlt
      obtain ⟨bd, rfl, e0, -⟩ := HB.out.at_ HBL.out hlt
      have x0 : wr.cell? (ad.add k) = some (.string (S.getD k ByteArray.empty)) := by have := c0 (by omega); rw [Nat.mul_one] at this; exact this
      have y0 : wr.cell? (bd.add k) = some (.string (S.getD k ByteArray.empty)) := by have := e0 (by omega); rw [Nat.mul_one] at this; exact this
      have i1 : (k : Int) < (S.length : Int) := by omega
      have i0 : (0 : Int) ≤ (k : Int) := by omega
      have d1 : decide ((k : Int) < (S.length : Int)) = true := decide_eq_true i1
      clear c0 e0
      generalize S.getD k ByteArray.empty = sx at *
      go_wp2_with fail
      go_quiet (fail)
      go_wp2_with fail
      go_roundw
      case rel => exact ⟨k + 1, hlt, rfl, below_drewN HBL.out _⟩
      case measure => exact meas_lt0 hlt
    · obtain rfl : k = S.length := by omega
      have d1 : decide ((S.length : Int) < (S.length : Int)) = false := decide_eq_false (Int.lt_irrefl _)
      go_wp2_with fail
      go_ret
      exact ⟨rfl, HBL.out⟩
end Go.Proofs.YtliobahnekohmaaGreat
/-
  The document's symbols: one text more, in order.
-/
namespace Go.Proofs.YtliobahnekohmaaGreat
open Go.RowKit
namespace Ix
theorem ins_at (s : ByteArray) : ∀ (K : List ByteArray) (k : Nat), k ≤ K.length → (∀ i, i < k → La.less (K.getD i ByteArray.empty) s = true) → (k = K.length ∨ La.less (K.getD k ByteArray.empty) s = false) →
    ins s K = if k < K.length ∧ K.getD k ByteArray.empty = s then K else K.take k ++ s :: K.drop k
  | [], k, hk, _, _ => by
    obtain rfl : k = 0 := by simpa using hk
    rfl
  | y :: K, 0, _, _, h => by
    have hl : La.less y s = false := by
      rcases h with h | h
      · simp at h
      · exact h
    unfold ins
    rw [if_neg (by rw [hl]; decide)]
    by_cases e : y = s
    · rw [if_pos e, if_pos ⟨by simp, e⟩]
    · rw [if_neg e, if_neg (fun h => e h.2)]; rfl
  | y :: K, k + 1, hk, h1, h2 => by
    have hy : La.less y s = true := h1 0 (by omega)
    have ih := ins_at s K k (by simpa using hk) (fun i hi => h1 (i + 1) (by omega)) (by
      rcases h2 with h | h
      · left; simpa using h
      · right; exact h)
    unfold ins
    rw [if_pos hy, ih]
    by_cases e : k < K.length ∧ K.getD k ByteArray.empty = s
    · rw [if_pos e, if_pos ⟨by simpa using e.1, e.2⟩]
    · rw [if_neg e, if_neg (fun h => e ⟨by simpa using h.1, h.2⟩)]; rfl
end Ix
/-- a slice of texts with its room -/
structure TSl (w : World) (A : Option Addr) (c : Nat) (K : List ByteArray) : Prop where
  le : K.length ≤ c
  max : c ≤ maxLen
  nil : A = none → K.length = 0 ∧ c = 0
  row : Row 1 (kx K) w A K.length
theorem TSl.later {w U : World} {A : Option Addr} {c : Nat} {K : List ByteArray} (h : TSl w A c K) (hb : Below w.heap.size w U) : TSl U A c K := ⟨h.le, h.max, h.nil, h.row.later hb⟩
theorem kx_cells1 (K : List ByteArray) : rcells 1 (kx K) K.length = K.map .string := by
  have h1 : ∀ (x : Nat → Nat → Value) (n : Nat), rcells 1 x n = (List.range n).map fun i => x i 0 := by
    intro x n
    induction n with
    | zero => rfl
    | succ n ih => rw [rcells_succ, ih, show List.range (n + 1) = List.range n ++ [n] from List.range_succ, List.map_append]; rfl
  rw [h1]
  apply List.ext_getElem
  · simp
  · intro i h3 h4
    have h5 : i < K.length := by simpa using h3
    simp [kx, List.getD, h5]
theorem tsl_own {w : World} {base : Nat} {v : Value} {K : List ByteArray} (h : w.ownsRow base 9 1 v K.length (K.map .string)) : ∃ A c, v = .slice A K.length c ∧ TSl w A c K := by
  rw [← kx_cells1] at h
  obtain ⟨A, c, e, h1, h2, h3, h4⟩ := own_row h
  exact ⟨A, c, e, h1, h2, h3, h4⟩
theorem row_take {w : World} {ad : Addr} {K : List ByteArray} (h : Row 1 (kx K) w (some ad) K.length) {k : Nat} (hk : k ≤ K.length) : Row 1 (kx (K.take k)) w (some ad) (K.take k).length := fun h0 => by
  rw [List.length_take] at h0
  obtain ⟨ad2, e, hl, hc⟩ := h (by omega)
  cases e
  refine ⟨ad, rfl, hl, fun i hi j hj => ?_⟩
  rw [List.length_take] at hi
  have e2 : kx (K.take k) i j = kx K i j := by unfold kx; rw [List.getD_eq_getElem?_getD, List.getD_eq_getElem?_getD, List.getElem?_take_of_lt (by omega)]
  rw [e2]
  exact hc i (by omega) j hj
theorem row_take2 {w : World} {ad : Addr} {K : List ByteArray} (h : Row 1 (kx K) w (some ad) K.length) {k : Nat} (hk : k ≤ K.length) : Row 1 (kx (K.take k)) w (some ad) k := by
  have h1 := row_take h hk
  rw [List.length_take, Nat.min_eq_left hk] at h1
  exact h1
theorem cells_take {K : List ByteArray} {k : Nat} (hk : k ≤ K.length) : [] ++ rcells 1 (kx (K.take k)) k = (K.take k).map .string := by
  have h1 := kx_cells1 (K.take k)
  rw [List.length_take, Nat.min_eq_left hk] at h1
  rw [List.nil_append]; exact h1
theorem row_drop {w : World} {ad : Addr} {K : List ByteArray} (h : Row 1 (kx K) w (some ad) K.length) {k : Nat} : Row 1 (kx (K.drop k)) w (some (ad.add k)) (K.drop k).length := fun h0 => by
  rw [List.length_drop] at h0
  obtain ⟨ad2, e, hl, hc⟩ := h (by omega)
  cases e
  refine ⟨ad.add k, rfl, by rw [addr_block]; exact hl, fun i hi j hj => ?_⟩
  rw [List.length_drop] at hi
  have e2 : kx (K.drop k) i j = kx K (k + i) j := by unfold kx; rw [List.getD_eq_getElem?_getD, List.getD_eq_getElem?_getD, List.getElem?_drop]
  rw [e2, Go.Deep.add_add]
  have := hc (k + i) (by omega) j hj
  rw [show k + (i * 1 + j) = (k + i) * 1 + j by omega]
  exact this
theorem ins_own {w : World} {base k : Nat} {v : Value} {K : List ByteArray} {s : ByteArray} (hk : k ≤ K.length) (h : w.ownsRow base 9 1 v (k + 1 + (K.length - k)) (((K.take k).map .string ++ rcells 1 (tx1 s) 1) ++ rcells 1 (kx (K.drop k)) (K.length - k))) : w.ownsRow base 9 1 v (K.take k ++ s :: K.drop k).length ((K.take k ++ s :: K.drop k).map .string) := by
  have e1 := kx_cells1 (K.drop k)
  rw [List.length_drop] at e1
  rw [e1] at h
  have e2 : (K.take k ++ s :: K.drop k).length = k + 1 + (K.length - k) := by
    rw [List.length_append, List.length_take, List.length_cons, List.length_drop, Nat.min_eq_left hk]; omega
  have e3 : (K.take k ++ s :: K.drop k).map Value.string = ((K.take k).map .string ++ rcells 1 (tx1 s) 1) ++ (K.drop k).map .string := by
    rw [List.map_append, List.map_cons, List.append_assoc]; rfl
  rw [e2, e3]; exact h
set_option maxRecDepth 100000 in
set_option maxHeartbeats 8000000 in
theorem rwith_any (A : Option Addr) (c : Nat) (K : List ByteArray) (s : ByteArray) (w : World) (hA : TSl w A c K) (hK : K.length ≤ 100000) (hz : ∀ i, i < K.length → (K.getD i ByteArray.empty).size ≤ maxLen) (hs : s.size ≤ maxLen) :
    Calls Tryz.prog 53 #[.slice A K.length c, .string s] w fun e w' => ∃ B d, e = .returned (.slice B (Ix.ins s K).length d) ∧ TSl w' B d (Ix.ins s K) ∧ Below w.heap.size w w' := by
  have HA := Lib.hid hA
  have HIN := Lib.hid (Ix.ins_at s K)
  have HZ := Lib.hid hz
  clear hA hz
  go_enter Tryz.func53, Tryz.ntmps53
  go_wp2_with fail
  go_loopw [5] (fun i wr => ∃ k : Nat, k ≤ K.length ∧ i = .int .i64 k ∧ (∀ j, j < k → La.less (K.getD j ByteArray.empty) s = true) ∧ Below w.heap.size w wr) (fun i _ => K.length - (intOf i).toNat)
  case atStart => exact ⟨0, Nat.zero_le _, rfl, (fun j hj => absurd hj (Nat.not_lt_zero j)), Below.refl _ _⟩
  case round =>
    obtain ⟨k, hk, rfl, hall, hbl⟩ := hrel
    have HALL := Lib.hid hall; have HBL := Lib.hid hbl
    clear hall hbl
    have i0 : (0 : Int) ≤ (k : Int) := Int.natCast_nonneg _
    by_cases hkl : k < K.length
    · have d1 : decide ((k : Int) < (K.length : Int)) = true := decide_eq_true (Int.ofNat_lt.2 hkl)
      have i1 : (k : Int) < (K.length : Int) := Int.ofNat_lt.2 hkl
      obtain ⟨ad, rfl, c0, -⟩ := HA.out.row.at_ HBL.out hkl
      have x0 : wr.cell? (ad.add k) = some (.string (K.getD k ByteArray.empty)) := by have := c0 (by decide); rw [Nat.mul_one] at this; exact this
      clear c0
      have HAH := Lib.hid (rAhead_any (K.getD k ByteArray.empty) s (HZ.out k hkl) hs wr)
      have HI3 := Lib.hid (fun h1 h2 => HIN.out k hk h1 h2)
      have HN3 := Lib.hid (fun (j : Nat) (hj : j < k + 1) (h : ¬ j < k) => show K.getD j ByteArray.empty = K.getD k ByteArray.empty by rw [show j = k by omega])
      generalize K.getD k ByteArray.empty = sk at *
      go_wp2_with fail
      refine HAH.out.mono ?_; rintro e w1 ⟨rfl, hb1⟩
      have HB1 := Lib.hid (below_step HBL.out hb1)
      have y0 := keep_at2 x0 hb1
      clear hb1 HAH x0
      rcases hl : La.less sk s with _ | _
      · have HI := HI3.out HALL.out (Or.inr hl)
        by_cases he : sk = s
        · rw [if_pos ⟨hkl, he⟩] at HI
          have HI2 := Lib.hid HI
          have b0 : (sk.toList == s.toList) = true := by rw [he]; exact beq_self_eq_true _
          clear HI he hl HI3 HN3
          go_wp2_with fail
          go_ret
          rw [HI2.out]
          exact ⟨_, _, rfl, HA.out.later HB1.out, HB1.out⟩
        · rw [if_neg (fun h => he h.2)] at HI
          have HI2 := Lib.hid HI
          have b0 := text_ne he
          clear HI he hl HI3 HN3
          go_upto_region 7 with fail
          have hkc : k ≤ c := Nat.le_trans hk HA.out.le
          have s0 : (k : Int) ≤ (c : Int) := Int.ofNat_le.2 hkc
          have HR1 := Lib.hid (row_take2 (HA.out.later HB1.out).row hk)
          have hsz : w.heap.size ≤ (w1).heap.size := HB1.out.size
          have hk1 : 0 + k ≤ 1000000 := by omega
          go_upto_region 8 with (at_builtin; go_must (refine wpList_append_row _ rfl _ _ 40 9 rfl 1 16 (.string ByteArray.empty) Tryz.underlying40 infoT rfl (by decide) (by decide) w.heap.size _ 0 [] rfl (World.ownsRow_nil _ _ _ _) ad k c (kx (K.take k)) (fun _ _ => rfl) rfl HR1.out hk1 hsz ?_); intro v7 w7 hown7 hg7; have HO7 := Lib.hid (show w7.ownsRow w.heap.size 9 1 v7 k ((K.take k).map .string) by rw [cells_take hk] at hown7; rw [Nat.zero_add] at hown7; exact hown7); have HB7 := Lib.hid (HB1.out.grown hg7 hsz (fun r e => by cases e)); clear hown7 hg7)
          clear HR1 hsz hk1
          have hsz7 : w.heap.size ≤ w7.heap.size := HB7.out.size
          have hk2 : k + 1 ≤ 1000000 := by omega
          go_upto_region 9 with (at_builtin; go_must (refine wpList_append_row _ rfl _ _ 40 9 rfl 1 16 (.string ByteArray.empty) Tryz.underlying40 infoT rfl (by decide) (by decide) w.heap.size _ k ((K.take k).map .string) rfl (row_far HO7.out ((Below.refl _ _).alloc (Nat.le_refl _) _)) ⟨w7.heap.size, 0, none⟩ 1 1 (tx1 s) (tx1_one s) rfl (tx1_row w7 s 9) hk2 (by simp; omega) ?_); intro v8 w8 hown8 hg8; have HO8 := Lib.hid hown8; have HB8 := Lib.hid ((HB7.out.alloc hsz7 _).grown hg8 (by simp; omega) (fun r e => (HO7.out.lt r e).1)); clear hown8 hg8)
          clear HO7 HB7 hsz7 hk2
          obtain ⟨A8, c8, hv8⟩ := own_formk HO8.out
          subst hv8
          have hd0 : (k : Int) ≤ (K.length : Int) := Int.ofNat_le.2 hk
          have hsz8 : w.heap.size ≤ w8.heap.size := HB8.out.size
          have hk3 : k + 1 + (K.length - k) ≤ 1000000 := by omega
          by_cases hck : c = k
          · have hlk : K.length - k = 0 := by have := HA.out.le; omega
            have HRD : Hid (Row 1 (kx (K.drop k)) w8 (some ad) (K.length - k)) := Lib.hid (fun h0 => absurd h0 (by omega))
            have HCK := Lib.hid hck
            clear hlk
            go_wp2_with (at_builtin; go_must (refine wpList_append_row _ rfl _ _ 40 9 rfl 1 16 (.string ByteArray.empty) Tryz.underlying40 infoT rfl (by decide) (by decide) w.heap.size _ (k + 1) ((K.take k).map Value.string ++ rcells 1 (tx1 s) 1) rfl HO8.out ad (K.length - k) 0 (kx (K.drop k)) (fun _ _ => rfl) rfl HRD.out hk3 hsz8 ?_); intro v9 w9 hown9 hg9; have HO9 := Lib.hid (ins_own hk hown9); have HB9 := Lib.hid (HB8.out.grown hg9 hsz8 (fun r e => (HO8.out.lt r e).1)); clear hown9 hg9)
            go_ret
            obtain ⟨B9, d9, e9, ht9⟩ := tsl_own HO9.out
            rw [HI2.out]
            exact ⟨B9, d9, by rw [← e9]; rfl, ht9, HB9.out⟩
          · have HRD : Hid (Row 1 (kx (K.drop k)) w8 (some (ad.add k)) (K.length - k)) := Lib.hid (by have h := row_drop (k := k) (HA.out.later HB8.out).row; rw [List.length_drop] at h; exact h)
            go_wp2_with (at_builtin; go_must (refine wpList_append_row _ rfl _ _ 40 9 rfl 1 16 (.string ByteArray.empty) Tryz.underlying40 infoT rfl (by decide) (by decide) w.heap.size _ (k + 1) ((K.take k).map Value.string ++ rcells 1 (tx1 s) 1) rfl HO8.out (ad.add k) (K.length - k) (c - k) (kx (K.drop k)) (fun _ _ => rfl) rfl HRD.out hk3 hsz8 ?_); intro v9 w9 hown9 hg9; have HO9 := Lib.hid (ins_own hk hown9); have HB9 := Lib.hid (HB8.out.grown hg9 hsz8 (fun r e => (HO8.out.lt r e).1)); clear hown9 hg9)
            go_ret
            obtain ⟨B9, d9, e9, ht9⟩ := tsl_own HO9.out
            rw [HI2.out]
            exact ⟨B9, d9, by rw [← e9]; rfl, ht9, HB9.out⟩
      · have HNX : Hid (∀ j, j < k + 1 → La.less (K.getD j ByteArray.empty) s = true) := Lib.hid (fun j hj => by
          rcases Nat.lt_or_ge j k with h | h
          · exact HALL.out j h
          · rw [HN3.out j hj (by omega)]; exact hl)
        clear hl HI3 HN3
        go_wp2_with fail
        go_roundw
        case rel => exact ⟨k + 1, hkl, rfl, HNX.out, HB1.out⟩
        case measure => exact meas_lt0 hkl
    · have hke : k = K.length := Nat.le_antisymm hk (Nat.le_of_not_lt hkl)
      have d1 : decide ((k : Int) < (K.length : Int)) = false := decide_eq_false (fun h => hkl (Int.ofNat_lt.1 h))
      have d1n : decide (k < K.length) = false := decide_eq_false hkl
      have HI := HIN.out k hk HALL.out (Or.inl hke)
      rw [if_neg (fun h => hkl h.1)] at HI
      have HI2 := Lib.hid HI
      have HKE := Lib.hid hke
      clear HI hke hkl
      cases A with
      | some ad =>
        go_upto_region 7 with fail
        have hkc : k ≤ c := Nat.le_trans hk HA.out.le
        have s0 : (k : Int) ≤ (c : Int) := Int.ofNat_le.2 hkc
        have HR1 := Lib.hid (row_take2 (HA.out.later HBL.out).row hk)
        have hsz : w.heap.size ≤ (wr).heap.size := HBL.out.size
        have hk1 : 0 + k ≤ 1000000 := by omega
        go_upto_region 8 with (at_builtin; go_must (refine wpList_append_row _ rfl _ _ 40 9 rfl 1 16 (.string ByteArray.empty) Tryz.underlying40 infoT rfl (by decide) (by decide) w.heap.size _ 0 [] rfl (World.ownsRow_nil _ _ _ _) ad k c (kx (K.take k)) (fun _ _ => rfl) rfl HR1.out hk1 hsz ?_); intro v7 w7 hown7 hg7; have HO7 := Lib.hid (show w7.ownsRow w.heap.size 9 1 v7 k ((K.take k).map .string) by rw [cells_take hk] at hown7; rw [Nat.zero_add] at hown7; exact hown7); have HB7 := Lib.hid (HBL.out.grown hg7 hsz (fun r e => by cases e)); clear hown7 hg7)
        clear HR1 hsz hk1
        have hsz7 : w.heap.size ≤ w7.heap.size := HB7.out.size
        have hk2 : k + 1 ≤ 1000000 := by omega
        go_upto_region 9 with (at_builtin; go_must (refine wpList_append_row _ rfl _ _ 40 9 rfl 1 16 (.string ByteArray.empty) Tryz.underlying40 infoT rfl (by decide) (by decide) w.heap.size _ k ((K.take k).map .string) rfl (row_far HO7.out ((Below.refl _ _).alloc (Nat.le_refl _) _)) ⟨w7.heap.size, 0, none⟩ 1 1 (tx1 s) (tx1_one s) rfl (tx1_row w7 s 9) hk2 (by simp; omega) ?_); intro v8 w8 hown8 hg8; have HO8 := Lib.hid hown8; have HB8 := Lib.hid ((HB7.out.alloc hsz7 _).grown hg8 (by simp; omega) (fun r e => (HO7.out.lt r e).1)); clear hown8 hg8)
        clear HO7 HB7 hsz7 hk2
        obtain ⟨A8, c8, hv8⟩ := own_formk HO8.out
        subst hv8
        have hd0 : (k : Int) ≤ (K.length : Int) := Int.ofNat_le.2 hk
        have hsz8 : w.heap.size ≤ w8.heap.size := HB8.out.size
        have hk3 : k + 1 + (K.length - k) ≤ 1000000 := by omega
        by_cases hck : c = k
        · have hlk : K.length - k = 0 := by have := HA.out.le; omega
          have HRD : Hid (Row 1 (kx (K.drop k)) w8 (some ad) (K.length - k)) := Lib.hid (fun h0 => absurd h0 (by omega))
          have HCK := Lib.hid hck
          clear hlk
          go_wp2_with (at_builtin; go_must (refine wpList_append_row _ rfl _ _ 40 9 rfl 1 16 (.string ByteArray.empty) Tryz.underlying40 infoT rfl (by decide) (by decide) w.heap.size _ (k + 1) ((K.take k).map Value.string ++ rcells 1 (tx1 s) 1) rfl HO8.out ad (K.length - k) 0 (kx (K.drop k)) (fun _ _ => rfl) rfl HRD.out hk3 hsz8 ?_); intro v9 w9 hown9 hg9; have HO9 := Lib.hid (ins_own hk hown9); have HB9 := Lib.hid (HB8.out.grown hg9 hsz8 (fun r e => (HO8.out.lt r e).1)); clear hown9 hg9)
          go_ret
          obtain ⟨B9, d9, e9, ht9⟩ := tsl_own HO9.out
          rw [HI2.out]
          exact ⟨B9, d9, by rw [← e9]; rfl, ht9, HB9.out⟩
        · have HRD : Hid (Row 1 (kx (K.drop k)) w8 (some (ad.add k)) (K.length - k)) := Lib.hid (by have h := row_drop (k := k) (HA.out.later HB8.out).row; rw [List.length_drop] at h; exact h)
          go_wp2_with (at_builtin; go_must (refine wpList_append_row _ rfl _ _ 40 9 rfl 1 16 (.string ByteArray.empty) Tryz.underlying40 infoT rfl (by decide) (by decide) w.heap.size _ (k + 1) ((K.take k).map Value.string ++ rcells 1 (tx1 s) 1) rfl HO8.out (ad.add k) (K.length - k) (c - k) (kx (K.drop k)) (fun _ _ => rfl) rfl HRD.out hk3 hsz8 ?_); intro v9 w9 hown9 hg9; have HO9 := Lib.hid (ins_own hk hown9); have HB9 := Lib.hid (HB8.out.grown hg9 hsz8 (fun r e => (HO8.out.lt r e).1)); clear hown9 hg9)
          go_ret
          obtain ⟨B9, d9, e9, ht9⟩ := tsl_own HO9.out
          rw [HI2.out]
          exact ⟨B9, d9, by rw [← e9]; rfl, ht9, HB9.out⟩
      | none =>
        obtain ⟨h1, h2⟩ := HA.out.nil rfl
        obtain rfl : K = [] := List.eq_nil_of_length_eq_zero h1
        obtain rfl : k = 0 := HKE.out
        subst h2
        obtain ⟨ti, hi0, -, -, -⟩ := info_parts infoT
        have hsz : w.heap.size ≤ wr.heap.size := HBL.out.size
        have HI4 : Hid (Ix.ins s [] = [s]) := Lib.hid rfl
        clear HI2 HIN HZ HALL hk h1 HKE
        go_upto_region 8 with (at_builtin; go_must (refine wpList_append_own_none rfl _ _ 40 rfl w.heap.size 9 ti 1 Tryz.underlying40 hi0 _ 0 [] rfl (World.ownsRow_nil _ _ _ _) rfl ?_))
        go_upto_region 9 with (at_builtin; go_must (refine wpList_append_row _ rfl _ _ 40 9 rfl 1 16 (.string ByteArray.empty) Tryz.underlying40 infoT rfl (by decide) (by decide) w.heap.size _ 0 [] rfl (World.ownsRow_nil _ _ _ _) ⟨wr.heap.size, 0, none⟩ 1 1 (tx1 s) (tx1_one s) rfl (tx1_row wr s 9) (by omega) (by simp; omega) ?_); intro v8 w8 hown8 hg8; have HO8 := Lib.hid (show w8.ownsRow w.heap.size 9 1 v8 [s].length ([s].map .string) from hown8); have HB8 := Lib.hid ((HBL.out.alloc hsz _).grown hg8 (by simp; omega) (fun r e => by cases e)); clear hown8 hg8)
        obtain ⟨A8, c8, hv8, ht8⟩ := tsl_own HO8.out
        subst hv8
        have HT8 := Lib.hid ht8
        clear ht8
        go_wp2_with (at_builtin; go_must (refine wpList_append_own_none rfl _ _ 40 rfl w.heap.size 9 ti 1 Tryz.underlying40 hi0 _ 1 ([s].map .string) rfl HO8.out rfl ?_))
        go_ret
        rw [HI4.out]
        exact ⟨A8, c8, rfl, HT8.out, HB8.out⟩
end Go.Proofs.YtliobahnekohmaaGreat
/-
  The document's symbols, and who has a label: the walks.
-/
namespace Go.Proofs.YtliobahnekohmaaGreat
open Go.RowKit
namespace Ix
theorem insAll_snoc (W : List ByteArray) (x : ByteArray) : insAll (W ++ [x]) = ins x (insAll W) := by unfold insAll; rw [List.foldl_append]; rfl
end Ix
def wordsL2 (l : List Lab) : List ByteArray := l.flatMap fun x => [x.1, x.2]
theorem wordsL2_len (l : List Lab) : (wordsL2 l).length = 2 * l.length := by
  induction l with
  | nil => rfl
  | cons x l ih =>
    have e : wordsL2 (x :: l) = [x.1, x.2] ++ wordsL2 l := by unfold wordsL2; rw [List.flatMap_cons]
    rw [e, List.length_append, ih, List.length_cons]
    simp; omega
theorem words_succ2 (q : Nat → EAt) (i : Nat) : Ix.words (entL q (i + 1)) = Ix.words (entL q i) ++ wordsL2 (q i).e.l := by
  unfold Ix.words
  rw [entL_succ, List.flatMap_append]
  simp [wordsL2]
theorem wordsL2_take (l : List Lab) {k : Nat} (hk : k < l.length) : wordsL2 (l.take (k + 1)) = wordsL2 (l.take k) ++ [(La.at_ l k).1] ++ [(La.at_ l k).2] := by
  rw [take_labs l hk]
  unfold wordsL2
  rw [List.flatMap_append]
  simp
/-- texts that are short, and not too many -/
structure Short (W : List ByteArray) (n : Nat) : Prop where
  few : W.length ≤ n
  small : ∀ y ∈ W, y.size ≤ 20000
theorem Short.snoc {W : List ByteArray} {n : Nat} {x : ByteArray} (h : Short W n) (hx : x.size ≤ 20000) : Short (W ++ [x]) (n + 1) :=
  ⟨by rw [List.length_append]; exact Nat.succ_le_succ h.few, fun y hy => by
    rcases List.mem_append.1 hy with hy | hy
    · exact h.small y hy
    · rw [List.mem_singleton.1 hy]; exact hx⟩
theorem Short.all {W : List ByteArray} {n : Nat} (h : Short W n) (hn : n ≤ 100000) : (Ix.insAll W).length ≤ 100000 ∧ ∀ i, i < (Ix.insAll W).length → ((Ix.insAll W).getD i ByteArray.empty).size ≤ maxLen := by
  refine ⟨Nat.le_trans (Ix.insAll_length W) (Nat.le_trans h.few hn), fun i hi => ?_⟩
  rw [List.getD_eq_getElem?_getD, List.getElem?_eq_getElem hi]
  have := h.small _ ((Ix.insAll_mem W _).1 (List.getElem_mem hi))
  show (Ix.insAll W)[i].size ≤ maxLen
  unfold maxLen
  omega
theorem rput {w : World} {A : Option Addr} {c m : Nat} {W : List ByteArray} {x : ByteArray} (hA : TSl w A c (Ix.insAll W)) (hW : Short W m) (hm : m ≤ 100000) (hx : x.size ≤ 20000) :
    Calls Tryz.prog 53 #[.slice A (Ix.insAll W).length c, .string x] w fun e w' => ∃ B d, e = .returned (.slice B (Ix.insAll (W ++ [x])).length d) ∧ TSl w' B d (Ix.insAll (W ++ [x])) ∧ Below w.heap.size w w' := by
  obtain ⟨h1, h2⟩ := hW.all hm
  rw [Ix.insAll_snoc]
  exact rwith_any A c (Ix.insAll W) x w hA h1 h2 (by unfold maxLen; omega)
set_option maxRecDepth 100000 in
set_option maxHeartbeats 8000000 in
theorem rSymbols_any (A : Option Addr) (n c : Nat) (q : Nat → EAt) (w : World) (hA : EntsIn w A n q) (hn30 : n ≤ 30) :
    Calls Tryz.prog 20 #[.slice A n c] w fun e w' => ∃ B d, e = .returned (.slice B (Ix.syms (entL q n)).length d) ∧ TSl w' B d (Ix.syms (entL q n)) ∧ Below w.heap.size w w' := by
  have HA := Lib.hid hA
  clear hA
  go_enter Tryz.func20, Tryz.ntmps20
  go_wp2_with fail
  go_loopw [3, 4, 5] (fun v i _ wr => ∃ (k : Nat) (B : Option Addr) (d : Nat), k ≤ n ∧ i = .int .i64 k ∧ Short (Ix.words (entL q k)) (600 * k) ∧ v = .slice B (Ix.insAll (Ix.words (entL q k))).length d ∧ TSl wr B d (Ix.insAll (Ix.words (entL q k))) ∧ Below w.heap.size w wr) (fun _ i _ _ => n - (intOf i).toNat)
  case atStart => exact ⟨0, none, 0, Nat.zero_le _, rfl, ⟨Nat.le_refl _, fun y hy => by cases hy⟩, rfl, ⟨Nat.le_refl _, by decide, fun _ => ⟨rfl, rfl⟩, fun h => absurd h (Nat.lt_irrefl 0)⟩, Below.refl _ _⟩
  case round =>
    obtain ⟨k, B, d, hk, rfl, hsh, rfl, hts, hbl⟩ := hrel
    have HS := Lib.hid hsh; have HT := Lib.hid hts; have HB := Lib.hid hbl
    clear hsh hts hbl
    by_cases hkn : k < n
    · have d1 : decide ((k : Int) < (n : Int)) = true := decide_eq_true (Int.ofNat_lt.2 hkn)
      have i0 : (0 : Int) ≤ (k : Int) := Int.natCast_nonneg _
      have i1 : (k : Int) < (n : Int) := Int.ofNat_lt.2 hkn
      obtain ⟨wb, hwb⟩ : ∃ wb, wb = wr := ⟨_, rfl⟩
      subst hwb
      have HWS := Lib.hid (words_succ2 q k)
      have HCE := Lib.hid (fun (U : World) (hU : Below w.heap.size w U) => HA.out.cells hU hkn)
      have HRO := Lib.hid (HA.out.each k hkn).row
      have HSM := Lib.hid (HA.out.each k hkn).small
      have hlm := (HA.out.each k hkn).len
      generalize Ix.words (entL q k) = W0 at *
      generalize (q k).e.l = l at *
      have hk600 : 600 * k ≤ 18000 := by omega
      go_wp2_with fail
      go_loopw [3, 5] (fun v i wr => ∃ (m : Nat) (B : Option Addr) (d : Nat), m ≤ l.length ∧ i = .int .i64 m ∧ Short (W0 ++ wordsL2 (l.take m)) (600 * k + 2 * m) ∧ v = .slice B (Ix.insAll (W0 ++ wordsL2 (l.take m))).length d ∧ TSl wr B d (Ix.insAll (W0 ++ wordsL2 (l.take m))) ∧ Below w.heap.size w wr) (fun _ i _ => l.length - (intOf i).toNat)
      case atStart =>
        have e0 : W0 ++ wordsL2 (l.take 0) = W0 := List.append_nil _
        refine ⟨0, B, d, Nat.zero_le _, rfl, ?_, ?_, ?_, HB.out⟩
        · rw [e0]; exact HS.out
        · rw [e0]
        · rw [e0]; exact HT.out
      case round =>
        obtain ⟨m, B2, d2, hm, rfl, hsh, rfl, hts, hbl⟩ := hrel
        have HS2 := Lib.hid hsh; have HT2 := Lib.hid hts; have HB2 := Lib.hid hbl
        clear hsh hts hbl HS HT HB
        obtain ⟨ad, rfl, c0, -, -, -⟩ := HCE.out wr HB2.out
        by_cases hml : m < l.length
        · have d3 : decide ((m : Int) < (l.length : Int)) = true := decide_eq_true (Int.ofNat_lt.2 hml)
          have k0 : (0 : Int) ≤ (m : Int) := Int.natCast_nonneg _
          have k1 : (m : Int) < (l.length : Int) := Int.ofNat_lt.2 hml
          have HTK : Hid (W0 ++ wordsL2 (l.take (m + 1)) = (W0 ++ wordsL2 (l.take m)) ++ [(La.at_ l m).1] ++ [(La.at_ l m).2]) := Lib.hid (by rw [wordsL2_take l hml]; simp)
          obtain ⟨ad2, e2, g0, g1⟩ := HRO.out.at_ HB2.out hml
          have hsm := HSM.out m hml
          rw [e2] at c0
          generalize W0 ++ wordsL2 (l.take m) = W at *
          have HC1 := Lib.hid (rput (x := (La.at_ l m).1) HT2.out HS2.out (by omega) hsm.1)
          have HC2 := Lib.hid (fun (U : World) B d (hT : TSl U B d (Ix.insAll (W ++ [(La.at_ l m).1]))) => rput (x := (La.at_ l m).2) hT (HS2.out.snoc hsm.1) (by omega) hsm.2)
          have HS3 := Lib.hid ((HS2.out.snoc hsm.1).snoc hsm.2)
          generalize La.at_ l m = x at *
          obtain ⟨x1, x2⟩ := x
          simp only at HC1 HC2 HTK g0 g1 HS3
          obtain ⟨lv, hlv⟩ : ∃ lv, lv = (Ix.insAll W).length := ⟨_, rfl⟩
          rw [← hlv] at HC1 ⊢
          clear hsm e2 hlv
          go_wp2_with fail
          refine HC1.out.mono ?_; rintro e w5 ⟨B5, d5, rfl, ht5, hb5⟩
          have HB5 := Lib.hid (below_step HB2.out hb5)
          have c0' := keep_at2 c0 hb5; have g1' := keep_at2 g1 hb5
          have HC3 := Lib.hid (HC2.out w5 B5 d5 ht5)
          clear hb5 ht5 HC1 HC2 c0 g0 g1
          generalize (Ix.insAll (W ++ [x1])).length = l5 at *
          go_wp2_with fail
          refine HC3.out.mono ?_; rintro e w6 ⟨B6, d6, rfl, ht6, hb6⟩
          have HB6 := Lib.hid (below_step HB5.out hb6); have HT6 := Lib.hid ht6
          clear hb6 ht6 HC3 HB5 c0' g1'
          have HRL : Hid (∃ l6, l6 = (Ix.insAll (W ++ [x1] ++ [x2])).length) := Lib.hid ⟨_, rfl⟩
          obtain ⟨l6, hl6⟩ := HRL.out
          rw [← hl6]
          have HL6 := Lib.hid hl6
          clear hl6 HRL
          go_wp2_with fail
          go_roundw
          case rel =>
            refine ⟨m + 1, B6, d6, hml, rfl, ?_, ?_, ?_, HB6.out⟩
            · rw [HTK.out]; exact HS3.out
            · rw [HTK.out, HL6.out]
            · rw [HTK.out]; exact HT6.out
          case measure => exact meas_lt0 hml
        · obtain rfl : m = l.length := Nat.le_antisymm hm (Nat.le_of_not_lt hml)
          have d3 : decide ((l.length : Int) < (l.length : Int)) = false := decide_eq_false (Int.lt_irrefl _)
          have hs2 := HS2.out; have ht2 := HT2.out
          rw [List.take_length] at hs2 ht2 ⊢
          have HS4 := Lib.hid hs2; have HT4 := Lib.hid ht2
          clear hs2 ht2 HS2 HT2
          obtain ⟨lv, hlv⟩ : ∃ lv, lv = (Ix.insAll (W0 ++ wordsL2 l)).length := ⟨_, rfl⟩
          rw [← hlv]
          have HLV := Lib.hid hlv
          clear hlv
          go_wp2_with fail
          go_roundw
          case rel =>
            refine ⟨k + 1, B2, d2, hkn, rfl, ?_, ?_, ?_, HB2.out⟩
            · rw [HWS.out]; exact ⟨by have := HS4.out.few; omega, HS4.out.small⟩
            · rw [HWS.out, HLV.out]
            · rw [HWS.out]; exact HT4.out
          case measure => exact meas_lt0 hkn
    · obtain rfl : k = n := Nat.le_antisymm hk (Nat.le_of_not_lt hkn)
      have d1 : decide ((k : Int) < (k : Int)) = false := decide_eq_false (Int.lt_irrefl _)
      have e : Ix.syms (entL q k) = Ix.insAll (Ix.words (entL q k)) := rfl
      obtain ⟨lv, hlv⟩ : ∃ lv, lv = (Ix.insAll (Ix.words (entL q k))).length := ⟨_, rfl⟩
      rw [← hlv]
      have HLV := Lib.hid hlv; have HE := Lib.hid e
      clear hlv e
      go_wp2_with fail
      go_ret
      rw [HE.out]
      exact ⟨B, d, by rw [HLV.out]; rfl, HT.out, HB.out⟩
end Go.Proofs.YtliobahnekohmaaGreat
/-
  The document's Postings: the walk.
-/
namespace Go.Proofs.YtliobahnekohmaaGreat
open Go.RowKit
theorem infoI2 : (Tryz.prog.info? 3).map (fun i => (i.zero, i.size, i.bytes)) = some (some (.int .i64 0), 1, 8) := by kernel_rfl
def one2 (x : Nat) (_ _ : Nat) : Value := .int .i64 (x : Int)
theorem one2_row (w : World) (x : Nat) (T : TypeId) : Row 1 (one2 x) (w.alloc (.cells #[.int .i64 (x : Int)] T)) (some ⟨w.heap.size, 0, none⟩) 1 := row_built 1 _ w _ _ (fun j hj => by
  obtain rfl : j = 0 := by omega
  rfl)
def pl2 (L : List Nat) : List Value := L.flatMap fun i : Nat => [.int .i64 (i : Int)]
theorem pl2_snoc (L : List Nat) (x : Nat) : pl2 (L ++ [x]) = pl2 L ++ [.int .i64 (x : Int)] := by unfold pl2; rw [List.flatMap_append]; rfl
theorem sel_more (b : Nat → Bool) (n : Nat) : Ma.sel b (n + 1) = Ma.sel b n ++ (if b n = true then [n] else []) := by
  unfold Ma.sel
  rw [List.range_succ, List.filter_append, List.filter_cons]
  rfl
theorem hasN_more (f : Nat → Lab) (x : Lab) (n : Nat) : Ix.hasN f x (n + 1) = (Ix.hasN f x n || decide (f n = x)) := by
  unfold Ix.hasN
  rw [List.range_succ, List.any_append]
  simp
set_option maxRecDepth 100000 in
set_option maxHeartbeats 8000000 in
theorem rPostings_any (A : Option Addr) (n c : Nat) (q : Nat → EAt) (x : Lab) (w : World) (hA : EntsIn w A n q) :
    Calls Tryz.prog 25 #[.slice A n c, .agg #[.string x.1, .string x.2]] w (Picks 3 1 (fun i => [.int .i64 (i : Int)]) (Ma.sel (hasE q x) n) w) := by
  obtain ⟨x1, x2⟩ := x
  simp only
  have hn := hA.len
  obtain ⟨wa, hwa⟩ : ∃ wa, wa = w.alloc (.cells #[.string x1, .string x2] 37) := ⟨_, rfl⟩
  have hba : Below w.heap.size w wa := by rw [hwa]; exact (Below.refl _ _).alloc (Nat.le_refl _) _
  have hx : wa.heap[w.heap.size]? = some (.cells #[.string x1, .string x2] 37 (0, 0)) := by rw [hwa]; exact heap_alloc_new w _
  have HA := Lib.hid (hA.later hba); have HX := Lib.hid hx; have HBA := Lib.hid hba
  have heg : Tryz.prog.eqGuardType Tryz.prog.depth 37 = false := by kernel_rfl
  clear hA hx hba
  go_enter Tryz.func25, Tryz.ntmps25
  go_upto_region 1 with fail
  rw [← hwa]
  clear hwa
  go_wp2_with fail
  go_loopw [5, 6, 7, 8] (fun v i _ _ wr => ∃ k : Nat, k ≤ n ∧ i = .int .i64 k ∧ wr.ownsRow wa.heap.size 3 1 v (Ma.sel (hasE q (x1, x2)) k).length (pl2 (Ma.sel (hasE q (x1, x2)) k)) ∧ Below wa.heap.size wa wr) (fun _ i _ _ _ => n - (intOf i).toNat)
  case atStart => exact ⟨0, Nat.zero_le _, rfl, World.ownsRow_nil _ _ _ _, Below.refl _ _⟩
  case round =>
    obtain ⟨k, hk, rfl, hown, hbl⟩ := hrel
    have HO := Lib.hid hown; have HBL := Lib.hid hbl
    clear hown hbl
    by_cases hkn : k < n
    · have d1 : decide ((k : Int) < (n : Int)) = true := decide_eq_true (Int.ofNat_lt.2 hkn)
      have i0 : (0 : Int) ≤ (k : Int) := Int.natCast_nonneg _
      have i1 : (k : Int) < (n : Int) := Int.ofNat_lt.2 hkn
      obtain ⟨wb, hwb⟩ : ∃ wb, wb = wr := ⟨_, rfl⟩
      subst hwb
      have hll := Ma.sel_length (hasE q (x1, x2)) k
      have HSE := Lib.hid (sel_more (hasE q (x1, x2)) k)
      have HCE := Lib.hid (fun (U : World) (hU : Below wa.heap.size wa U) => HA.out.cells hU hkn)
      have HRO := Lib.hid (HA.out.each k hkn).row
      have hlm := (HA.out.each k hkn).len
      have hHE : hasE q (x1, x2) k = Ix.hasN (La.at_ (q k).e.l) (x1, x2) (q k).e.l.length := rfl
      have HHE := Lib.hid hHE
      clear hHE
      generalize (q k).e.l = l at *
      generalize Ma.sel (hasE q (x1, x2)) k = L at *
      go_wp2_with fail
      go_loopw [7, 8] (fun v i wr => ∃ m : Nat, m ≤ l.length ∧ i = .int .i64 m ∧ v = .bool (Ix.hasN (La.at_ l) (x1, x2) m) ∧ DrewOf wb wr) (fun _ i _ => l.length - (intOf i).toNat)
      case atStart => exact ⟨0, Nat.zero_le _, rfl, rfl, ⟨0, rfl⟩⟩
      case round =>
        obtain ⟨m, hm, rfl, rfl, nq, rfl⟩ := hrel
        obtain ⟨ad, rfl, c0, -, -, -⟩ := HCE.out wb HBL.out
        by_cases hml : m < l.length
        · have d3 : decide ((m : Int) < (l.length : Int)) = true := decide_eq_true (Int.ofNat_lt.2 hml)
          have k0 : (0 : Int) ≤ (m : Int) := Int.natCast_nonneg _
          have k1 : (m : Int) < (l.length : Int) := Int.ofNat_lt.2 hml
          have HMO := Lib.hid (hasN_more (La.at_ l) (x1, x2) m)
          obtain ⟨ad2, e2, g0, g1⟩ := HRO.out.at_ HBL.out hml
          rw [e2] at c0
          clear e2
          have z0 : wb.cell? ⟨w.heap.size, 0, none⟩ = some (.string x1) := cell_of_row _ _ _ _ _ _ (heap_keep HX.out HBL.out)
          have z1 : wb.cell? ⟨w.heap.size, 1, none⟩ = some (.string x2) := cell_of_row _ _ _ _ _ _ (heap_keep HX.out HBL.out)
          have hel : ∀ W, (Op.equalIn 10000 37 (.agg #[.string (La.at_ l m).1, .string (La.at_ l m).2]) (.agg #[.string x1, .string x2])).run Tryz.prog W = .ok (decide (La.at_ l m = (x1, x2))) W := fun W => by
            rw [run_equal_lab, str_beq, str_beq]
            congr 1
            rw [Bool.eq_iff_iff, Bool.and_eq_true, decide_eq_true_eq, decide_eq_true_eq, decide_eq_true_eq]
            exact ⟨fun h => Prod.ext h.1 h.2, fun h => ⟨by rw [h], by rw [h]⟩⟩
          generalize decide (La.at_ l m = (x1, x2)) = be at *
          generalize La.at_ l m = y at *
          obtain ⟨y1, y2⟩ := y
          simp only at hel g0 g1
          generalize Ix.hasN (La.at_ l) (x1, x2) m = bh at *
          cases bh with
          | true =>
            go_wp2_with fail
            go_quiet (fail)
            go_wp2_with fail
            go_roundw
            case rel => exact ⟨m + 1, hml, rfl, by rw [HMO.out]; rfl, _, rfl⟩
            case measure => exact meas_lt0 hml
          | false =>
            go_wp2_with fail
            go_quiet (fail)
            go_wp2_with fail
            go_roundw
            case rel => exact ⟨m + 1, hml, rfl, by rw [HMO.out]; rfl, _, rfl⟩
            case measure => exact meas_lt0 hml
        · obtain rfl : m = l.length := Nat.le_antisymm hm (Nat.le_of_not_lt hml)
          have d3 : decide ((l.length : Int) < (l.length : Int)) = false := decide_eq_false (Int.lt_irrefl _)
          have HBQ : Hid (Below wa.heap.size wa (wb.drewN nq)) := Lib.hid (below_drewN HBL.out nq)
          have hsz : wa.heap.size ≤ (wb.drewN nq).heap.size := HBQ.out.size
          have hl1 : L.length + 1 ≤ 1000000 := by omega
          rw [← HHE.out]
          have HOQ : Hid ((wb.drewN nq).ownsRow wa.heap.size 3 1 u5 L.length (pl2 L)) := Lib.hid HO.out
          generalize hasE q (x1, x2) k = bk at *
          obtain ⟨wq, hwq⟩ : ∃ wq, wq = wb.drewN nq := ⟨_, rfl⟩
          rw [← hwq] at HBQ hsz HOQ ⊢
          have c0' : wq.cell? (ad.add (k * 4)) = some (.slice (q k).A l.length (q k).c) := by rw [hwq]; exact c0
          clear hwq c0 HO
          cases bk with
          | true =>
            go_wp2_with (at_builtin; go_must (refine wpList_append_row _ rfl _ _ 43 3 rfl 1 8 (.int .i64 0) Tryz.underlying43 infoI2 rfl (by decide) (by decide) wa.heap.size _ L.length (pl2 L) rfl (row_far HOQ.out ((Below.refl _ _).alloc (Nat.le_refl _) _)) ⟨wq.heap.size, 0, none⟩ 1 1 (one2 k) (fun _ _ => rfl) rfl (one2_row wq k 3) hl1 (by simp; omega) ?_); intro v8 w8 hown8 hg8; have HO8 := Lib.hid hown8; have HB8 := Lib.hid ((HBQ.out.alloc hsz _).grown hg8 (by simp; omega) (fun r e => (HOQ.out.lt r e).1)); clear hown8 hg8)
            go_roundw
            case rel => exact ⟨k + 1, hkn, rfl, by rw [HSE.out, if_pos rfl, pl2_snoc, List.length_append]; exact HO8.out, HB8.out⟩
            case measure => exact meas_lt0 hkn
          | false =>
            go_wp2_with fail
            go_roundw
            case rel => exact ⟨k + 1, hkn, rfl, by rw [HSE.out, if_neg (by decide), List.append_nil]; exact HOQ.out, HBQ.out⟩
            case measure => exact meas_lt0 hkn
    · obtain rfl : k = n := Nat.le_antisymm hk (Nat.le_of_not_lt hkn)
      have d1 : decide ((k : Int) < (k : Int)) = false := decide_eq_false (Int.lt_irrefl _)
      have HF : Hid (wr.ownsRow w.heap.size 3 1 u5 (Ma.sel (hasE q (x1, x2)) k).length (pl2 (Ma.sel (hasE q (x1, x2)) k)) ∧ Below w.heap.size w wr) := Lib.hid ⟨own_from HO.out HBA.out.size, HBA.out.trans (HBL.out.mono HBA.out.size)⟩
      go_wp2_with fail
      go_ret
      exact ⟨_, rfl, HF.out⟩
end Go.Proofs.YtliobahnekohmaaGreat
/-
  The document's Fits and All, and Few of matchers.
-/
namespace Go.Proofs.YtliobahnekohmaaGreat
open Go.RowKit
set_option maxRecDepth 100000 in
set_option maxHeartbeats 1000000 in
theorem rGet_any' (A : Option Addr) (n c : Nat) (hn : n ≤ maxLen) (f : Nat → Lab) (name : ByteArray) (w : World) (hA : LabRow w A n f) :
    Calls Tryz.prog 123 #[.slice A n c, .string name] w fun e w' => e = .returned (.string (La.get f name n 0)) ∧ Below w.heap.size w w' := by
  unfold maxLen at hn
  have HA := Lib.hid hA; clear hA
  generalize hr : La.get f name n 0 = r
  have HR := Lib.hid hr; clear hr
  go_enter Tryz.func123, Tryz.ntmps123
  go_wp2_with fail
  go_loopw [5] (fun i wr => ∃ k : Nat, k ≤ n ∧ i = .int .i64 k ∧ La.get f name (n - k) k = r ∧ Below w.heap.size w wr) (fun i _ => n - (intOf i).toNat)
  case atStart => exact ⟨0, by omega, rfl, HR.out, Below.refl _ _⟩
  case round =>
    obtain ⟨k, hk, rfl, hg, hb⟩ := hrel
    have HB := Lib.hid hb; clear hb
    by_cases hlt : k < n
    · obtain ⟨ad, rfl, c0, c1⟩ := HA.out.at_ HB.out hlt
      have i1 : (k : Int) < (n : Int) := by omega
      have i0 : (0 : Int) ≤ (k : Int) := by omega
      rw [show n - k = (n - (k + 1)) + 1 from by omega, La.get] at hg
      have HG := Lib.hid hg; clear hg
      have HBA := HB
      have hbe := str_beq (f k).1 name
      obtain ⟨x, hx⟩ : ∃ x, (f k).1 = x := ⟨_, rfl⟩
      obtain ⟨y, hy⟩ : ∃ y, (f k).2 = y := ⟨_, rfl⟩
      rw [hx] at c0 HG hbe
      rw [hy] at c1 HG
      clear hx hy
      by_cases he : x = name
      · have hb : (x.toList == name.toList) = true := by rw [hbe]; simpa using he
        have HE := Lib.hid he; clear he hbe
        go_wp2_with fail
        go_ret
        refine ⟨?_, HBA.out⟩
        have := HG.out
        rw [if_pos HE.out] at this
        rw [this]; rfl
      · have hb : (x.toList == name.toList) = false := by rw [hbe]; simpa using he
        have HE := Lib.hid he; clear he hbe
        go_wp2_with fail
        go_roundw
        case rel =>
          have := HG.out
          rw [if_neg HE.out] at this
          exact ⟨k + 1, by omega, by go_num, this, HBA.out⟩
        case measure => simp [intOf]; omega
    · obtain rfl : k = n := by omega
      rw [Nat.sub_self] at hg
      have HG := Lib.hid hg; clear hg
      go_wp2_with fail
      go_ret
      refine ⟨?_, HB.out⟩
      rw [← HG.out]; rfl


namespace Ma
theorem sel_at {b : Nat → Bool} {i : Nat} (hb : b i = true) : ∀ n, i < n → (sel b i).length < (sel b n).length ∧ (sel b n).getD (sel b i).length 0 = i
  | 0, h => absurd h (Nat.not_lt_zero i)
  | n + 1, h => by
    by_cases hi : i = n
    · subst hi
      rw [sel_yes hb, List.length_append]
      refine ⟨by simp, ?_⟩
      simp [List.getD]
    · obtain ⟨h1, h2⟩ := sel_at hb n (by omega)
      cases hn : b n
      · rw [sel_no hn]; exact ⟨h1, h2⟩
      · rw [sel_yes hn, List.length_append]
        refine ⟨by omega, ?_⟩
        rw [List.getD_eq_getElem?_getD, List.getElem?_append_left h1, ← List.getD_eq_getElem?_getD]; exact h2
theorem sel_split (b : Nat → Bool) : ∀ n, (sel b n).length + (sel (fun i => !b i) n).length = n
  | 0 => rfl
  | n + 1 => by
    have ih := sel_split b n
    cases hb : b n
    · rw [sel_no hb, sel_yes (b := fun i => !b i) (by simp [hb]), List.length_append]; simp; omega
    · rw [sel_yes hb, sel_no (b := fun i => !b i) (by simp [hb]), List.length_append]; simp; omega
theorem sel_all {b : Nat → Bool} : ∀ n, (∀ i, i < n → b i = true) → sel b n = List.range n
  | 0, _ => rfl
  | n + 1, h => by rw [sel_yes (h n (by omega)), sel_all n (fun i hi => h i (by omega)), List.range_succ]
theorem sel_step (b : Nat → Bool) (i : Nat) : (sel b (i + 1)).length = (sel b i).length + (if b i = true then 1 else 0) := by
  cases hb : b i
  · rw [sel_no hb]; rfl
  · rw [sel_yes hb]; simp
theorem has_step (b : Nat → Bool) (k : Nat) : decide (0 < (sel b (k + 1)).length) = (decide (0 < (sel b k).length) || b k) := by
  rw [sel_step]
  cases b k <;> simp
theorem all_none (m : Nat → Mat) (f : Nat → Lab) (n : Nat) : all m 0 f n = true := rfl
theorem all_iff (m : Nat → Mat) (k : Nat) (f : Nat → Lab) (n : Nat) : all m k f n = true ↔ ∀ i, i < k → fits (m i) f n = true := by
  unfold all
  rw [decide_eq_true_eq]
  constructor
  · intro h i hi
    cases hb : fits (m i) f n with
    | true => rfl
    | false =>
      have h2 := sel_split (fun i => fits (m i) f n) k
      have h3 := sel_at (b := fun i => !fits (m i) f n) (i := i) (by simp [hb]) k hi
      omega
  · intro h
    rw [sel_all k (fun i hi => h i hi), List.length_range]
def lab (m : Nat → Mat) (i : Nat) : Lab := ((m i).n, (m i).v)
end Ma
/-- a matcher's block -/
def MatAt (W : World) (g : Nat) (k : Int) (n v : ByteArray) : Prop := W.heap[g]? = some (.cells #[.int .i64 k, .string n, .string v] 55 (0, 0))
theorem MatAt.later {W W2 : World} {g : Nat} {k : Int} {n v : ByteArray} (h : MatAt W g k n v) (hb : Below W.heap.size W W2) : MatAt W2 g k n v := heap_keep h hb
theorem MatAt.cells {W : World} {g : Nat} {k : Int} {n v : ByteArray} (h : MatAt W g k n v) : W.cell? ⟨g, 0, none⟩ = some (.int .i64 k) ∧ W.cell? ⟨g, 1, none⟩ = some (.string n) ∧ W.cell? ⟨g, 2, none⟩ = some (.string v) :=
  ⟨cell_of_row _ _ 0 _ _ _ h, cell_of_row _ _ 1 _ _ _ h, cell_of_row _ _ 2 _ _ _ h⟩
theorem own_later {w w2 : World} {base e size n : Nat} {v : Value} {xs : List Value} (h : w.ownsRow base e size v n xs) (hb : Below w.heap.size w w2) : w2.ownsRow base e size v n xs :=
  ⟨h.1, by
    rcases h.2 with h0 | ⟨g, cap, cur, h1, h2, h3, h4⟩
    · exact .inl h0
    · exact .inr ⟨g, cap, cur, h1, h2, heap_keep h3 hb, h4⟩⟩
set_option maxRecDepth 100000 in
set_option maxHeartbeats 2000000 in
theorem rFits_any (m : Mat) (A : Option Addr) (n c : Nat) (hn : n ≤ 1000000) (f : Nat → Lab) (w : World) (hA : LabRow w A n f) :
    Calls Tryz.prog 90 #[m.val, .slice A n c] w fun e w' => e = .returned (.bool (Ma.fits m f n)) ∧ Below w.heap.size w w' := by
  obtain ⟨mk, mn, mv⟩ := m
  unfold Mat.val
  have hal : Below w.heap.size w (w.alloc (.cells #[.int .i64 mk, .string mn, .string mv] 55)) := (Below.refl _ _).alloc (Nat.le_refl _) _
  have M1 : Hid (MatAt (w.alloc (.cells #[.int .i64 mk, .string mn, .string mv] 55)) w.heap.size mk mn mv) := Lib.hid (heap_alloc_new _ _)
  have B1 := Lib.hid hal
  have HA := Lib.hid hA
  have CG := Lib.hid (fun W hW => rGet_any' A n c (by unfold maxLen; omega) f mn W (hA.later hW))
  have hf : Ma.fits ⟨mk, mn, mv⟩ f n = if mk = 0 then decide (La.get f mn n 0 = mv) else if mk = 1 then !decide (La.get f mn n 0 = mv) else
    if mk = 2 then Ma.begins (La.get f mn n 0) mv else if mk = 3 then decide (0 < (Ma.sel (fun i => decide ((f i).1 = mn)) n).length) else false := rfl
  clear hal hA
  have hsb := str_beq (La.get f mn n 0) mv
  have hxb : (((La.get f mn n 0).extract 0 mv.size).toList == mv.toList) = decide ((La.get f mn n 0).extract 0 mv.size = mv) := str_beq _ _
  have hbg : Ma.begins (La.get f mn n 0) mv = (decide (mv.size ≤ (La.get f mn n 0).size) && decide ((La.get f mn n 0).extract 0 mv.size = mv)) := rfl
  generalize La.get f mn n 0 = gv at *
  have HF := Lib.hid hf; have HSB := Lib.hid hsb; have HXB := Lib.hid hxb; have HBG := Lib.hid hbg
  clear hf hsb hxb hbg
  obtain ⟨x0, x1, x2⟩ := M1.out.cells
  go_enter Tryz.func90, Tryz.ntmps90
  go_wp2_with fail
  refine (CG.out _ B1.out).mono ?_; rintro e w2 ⟨rfl, hb2⟩
  have B2 := Lib.hid (below_step B1.out hb2); have M2 := Lib.hid (M1.out.later hb2)
  clear hb2 x0 x1 x2 M1 B1
  go_wp2_with fail
  go_loopw [6, 7] (fun t i wr => ∃ k : Nat, k ≤ n ∧ i = .int .i64 k ∧ t = .bool (decide (0 < (Ma.sel (fun i => decide ((f i).1 = mn)) k).length)) ∧ Below w2.heap.size w2 wr) (fun _ i _ => n - (intOf i).toNat)
  case atStart => exact ⟨0, Nat.zero_le _, rfl, rfl, Below.refl _ _⟩
  case round =>
    obtain ⟨k, hk, rfl, rfl, hb⟩ := hrel
    have HB := Lib.hid (below_step B2.out hb); have HB2 := Lib.hid hb; have M3 := Lib.hid (M2.out.later hb)
    clear hb
    obtain ⟨x0, x1, x2⟩ := M3.out.cells
    by_cases hlt : k < n
    · obtain ⟨ad, rfl, c0, c1⟩ := HA.out.at_ HB.out hlt
      have hst := Ma.has_step (fun i => decide ((f i).1 = mn)) k
      have hbe := str_beq (f k).1 mn
      have i1 : (k : Int) < (n : Int) := by omega
      have i0 : (0 : Int) ≤ (k : Int) := by omega
      generalize (f k).1 = x at *
      generalize (f k).2 = y at *
      generalize decide (0 < (Ma.sel (fun i => decide ((f i).1 = mn)) k).length) = t at *
      rw [← hbe] at hst
      have HST := Lib.hid hst
      clear hst hbe
      cases t
      · go_wp2_with fail
        go_quiet (fail)
        go_wp2_with fail
        go_roundw
        case rel => exact ⟨k + 1, by omega, by go_num, by rw [HST.out, Bool.false_or], below_drewN HB2.out _⟩
        case measure => simp [intOf]; omega
      · go_wp2_with fail
        go_quiet (fail)
        go_wp2_with fail
        go_roundw
        case rel => exact ⟨k + 1, by omega, by go_num, by rw [HST.out, Bool.true_or], below_drewN HB2.out _⟩
        case measure => simp [intOf]; omega
    · obtain rfl : k = n := by omega
      have i1 : ¬ (k : Int) < (k : Int) := by omega
      have hth := Eq.refl (decide (0 < (Ma.sel (fun i => decide ((f i).1 = mn)) k).length))
      by_cases k0 : mk = 0
      · have e0 : (mk == 0) = true := by simp [k0]
        have HR : Hid (Ma.fits ⟨mk, mn, mv⟩ f k = (gv.toList == mv.toList)) := Lib.hid (by rw [HF.out, if_pos k0, HSB.out])
        clear k0
        go_wp2_with fail
        go_ret
        exact ⟨by rw [HR.out]; rfl, HB.out⟩
      have e0 : (mk == 0) = false := by simp [k0]
      by_cases k1 : mk = 1
      · have e1 : (mk == 1) = true := by simp [k1]
        have HR : Hid (Ma.fits ⟨mk, mn, mv⟩ f k = !(gv.toList == mv.toList)) := Lib.hid (by rw [HF.out, if_neg k0, if_pos k1, HSB.out])
        clear k0 k1
        go_wp2_with fail
        go_ret
        exact ⟨by rw [HR.out]; rfl, HB.out⟩
      have e1 : (mk == 1) = false := by simp [k1]
      by_cases k2 : mk = 2
      · have e2 : (mk == 2) = true := by simp [k2]
        have HR0 : Ma.fits ⟨mk, mn, mv⟩ f k = Ma.begins gv mv := by rw [HF.out, if_neg k0, if_neg k1, if_pos k2]
        rw [HBG.out] at HR0
        clear k0 k1 k2
        by_cases hl : mv.size ≤ gv.size
        · rw [decide_eq_true hl, Bool.true_and, ← HXB.out] at HR0
          have HR := Lib.hid HR0
          have d2 : decide ((mv.size : Int) ≤ (gv.size : Int)) = true := by simp; omega
          have i2 : (mv.size : Int) ≤ (gv.size : Int) := by omega
          have i3 : (0 : Int) ≤ (mv.size : Int) := by omega
          clear HR0
          go_wp2_with fail
          go_quiet (fail)
          go_wp2_with fail
          go_ret
          exact ⟨by rw [HR.out]; rfl, below_drewN HB.out _⟩
        · rw [decide_eq_false hl, Bool.false_and] at HR0
          have HR := Lib.hid HR0
          have d2 : decide ((mv.size : Int) ≤ (gv.size : Int)) = false := by simp; omega
          clear HR0
          go_wp2_with fail
          go_quiet (fail)
          go_wp2_with fail
          go_ret
          exact ⟨by rw [HR.out]; rfl, below_drewN HB.out _⟩
      have e2 : (mk == 2) = false := by simp [k2]
      by_cases k3 : mk = 3
      · have e3 : (mk == 3) = true := by simp [k3]
        have HR : Hid (Ma.fits ⟨mk, mn, mv⟩ f k = decide (0 < (Ma.sel (fun i => decide ((f i).1 = mn)) k).length)) := Lib.hid (by rw [HF.out, if_neg k0, if_neg k1, if_neg k2, if_pos k3])
        clear k0 k1 k2 k3
        generalize decide (0 < (Ma.sel (fun i => decide ((f i).1 = mn)) k).length) = t at *
        go_wp2_with fail
        go_ret
        exact ⟨by rw [HR.out]; rfl, HB.out⟩
      have e3 : (mk == 3) = false := by simp [k3]
      have HR : Hid (Ma.fits ⟨mk, mn, mv⟩ f k = false) := Lib.hid (by rw [HF.out, if_neg k0, if_neg k1, if_neg k2, if_neg k3])
      clear k0 k1 k2 k3
      go_wp2_with fail
      go_ret
      exact ⟨by rw [HR.out]; rfl, HB.out⟩
set_option maxRecDepth 100000 in
set_option maxHeartbeats 1000000 in
theorem rAll_any (B : Option Addr) (k cm : Nat) (hk : k ≤ 1000000) (m : Nat → Mat) (A : Option Addr) (n c : Nat) (hn : n ≤ 1000000) (f : Nat → Lab) (w : World) (hB : Row 3 (mx m) w B k) (hA : LabRow w A n f) :
    Calls Tryz.prog 55 #[.slice B k cm, .slice A n c] w fun e w' => e = .returned (.bool (Ma.all m k f n)) ∧ Below w.heap.size w w' := by
  have RB := Lib.hid hB; have HA := Lib.hid hA; clear hA hB
  go_enter Tryz.func55, Tryz.ntmps55
  go_wp2_with fail
  go_loopw [5] (fun i wr => ∃ p : Nat, p ≤ k ∧ i = .int .i64 p ∧ (∀ j, j < p → Ma.fits (m j) f n = true) ∧ Below w.heap.size w wr) (fun i _ => k - (intOf i).toNat)
  case atStart => exact ⟨0, Nat.zero_le _, rfl, (fun j hj => absurd hj (by omega)), Below.refl _ _⟩
  case round =>
    obtain ⟨p, hp, rfl, hall, hb⟩ := hrel
    have HE := Lib.hid hall; have HB := Lib.hid hb; clear hall hb
    by_cases hlt : p < k
    · obtain ⟨ad, rfl, c0, c1⟩ := RB.out.at_ HB.out hlt
      have e0 : wr.cell? (ad.add (p * 3)) = some (.int .i64 (m p).k) := c0 (by omega)
      have e1 : wr.cell? ⟨(ad.add (p * 3)).block, (ad.add (p * 3)).off + 1, none⟩ = some (.string (m p).n) := c1 1 (by omega) (by omega)
      have e2 : wr.cell? ⟨(ad.add (p * 3)).block, (ad.add (p * 3)).off + 2, none⟩ = some (.string (m p).v) := c1 2 (by omega) (by omega)
      have hva := rFits_any (m p) A n c hn f wr (HA.out.later HB.out)
      rw [show (m p).val = .agg #[.int .i64 (m p).k, .string (m p).n, .string (m p).v] from rfl] at hva
      have i1 : (p : Int) < (k : Int) := by omega
      have i0 : (0 : Int) ≤ (p : Int) := by omega
      clear c0 c1
      cases hr : Ma.fits (m p) f n
      · rw [hr] at hva
        have HR : Hid (Ma.all m k f n = false) := Lib.hid (by
          cases ha : Ma.all m k f n with
          | false => rfl
          | true => have := (Ma.all_iff m k f n).1 ha p hlt; rw [hr] at this; cases this)
        have HV := Lib.hid hva
        clear hva hr
        generalize (m p).k = xk at *
        generalize (m p).n = xn at *
        generalize (m p).v = xv at *
        go_wp2_with fail
        refine HV.out.mono ?_; rintro e w3 ⟨rfl, hb3⟩
        have HB3 := Lib.hid (below_step HB.out hb3); clear hb3
        go_wp2_with fail
        go_ret
        exact ⟨by rw [HR.out]; rfl, HB3.out⟩
      · rw [hr] at hva
        have HR := Lib.hid hr
        have HV := Lib.hid hva
        clear hva hr
        generalize hxk : (m p).k = xk at *
        generalize hxn : (m p).n = xn at *
        generalize hxv : (m p).v = xv at *
        clear hxk hxn hxv
        go_wp2_with fail
        refine HV.out.mono ?_; rintro e w3 ⟨rfl, hb3⟩
        have HB3 := Lib.hid (below_step HB.out hb3); clear hb3
        go_wp2_with fail
        go_roundw
        case rel => exact ⟨p + 1, by omega, by go_num, fun j hj => (by
          rcases Nat.lt_or_ge j p with h1 | h1
          · exact HE.out j h1
          · obtain rfl : j = p := by omega
            exact HR.out), HB3.out⟩
        case measure => simp [intOf]; omega
    · obtain rfl : p = k := by omega
      have HR : Hid (Ma.all m p f n = true) := Lib.hid ((Ma.all_iff m p f n).2 HE.out)
      have i1 : ¬ (p : Int) < (p : Int) := by omega
      go_wp2_with fail
      go_ret
      exact ⟨by rw [HR.out]; rfl, HB.out⟩
set_option maxRecDepth 100000 in
set_option maxHeartbeats 1000000 in
theorem MFew_any (A : Option Addr) (n c : Nat) (hn : n ≤ maxLen) (m : Nat → Mat) (w : World) (hA : Row 3 (mx m) w A n) :
    Calls Tryz.prog 18 #[.slice A n c] w fun e w' => e = .returned (.bool (La.few (Ma.lab m) n)) ∧ Below w.heap.size w w' := by
  unfold maxLen at hn
  have HA := Lib.hid hA; clear hA
  go_enter Tryz.func18, Tryz.ntmps18
  go_wp2_with fail
  go_loopw [3] (fun i wr => ∃ k : Nat, k ≤ n ∧ k ≤ 11 ∧ i = .int .i64 k ∧ (∀ j, j < k → (m j).n.size ≤ 300 ∧ (m j).v.size ≤ 300) ∧ Below w.heap.size w wr) (fun i _ => n - (intOf i).toNat)
  case atStart => exact ⟨0, Nat.zero_le _, by omega, rfl, (fun j hj => absurd hj (by omega)), Below.refl _ _⟩
  case round =>
    obtain ⟨k, hk, hk11, rfl, hall, hb⟩ := hrel
    by_cases hgo : k < n ∧ k ≤ 10
    · obtain ⟨h1, h2⟩ := hgo
      obtain ⟨ad, rfl, z0, z1⟩ := HA.out.at_ hb h1
      have c0 : wr.cell? ⟨(ad.add (k * 3)).block, (ad.add (k * 3)).off + 1, none⟩ = some (.string (m k).n) := z1 1 (by omega) (by omega)
      have c1 : wr.cell? ⟨(ad.add (k * 3)).block, (ad.add (k * 3)).off + 2, none⟩ = some (.string (m k).v) := z1 2 (by omega) (by omega)
      clear z0 z1
      have hb2 := Lib.hid hb; clear hb
      have hno : ¬ ((m k).n.size ≤ 300 ∧ (m k).v.size ≤ 300) → La.few (Ma.lab m) n = false := fun h => La.few_no (f := Ma.lab m) (n := n) (k := k) h1 h
      have hnx : (m k).n.size ≤ 300 ∧ (m k).v.size ≤ 300 → ∀ j, j < k + 1 → (m j).n.size ≤ 300 ∧ (m j).v.size ≤ 300 := fun h j hj => by
        rcases Nat.lt_or_ge j k with h3 | h3
        · exact hall j h3
        · rw [show j = k from by omega]; exact h
      have HNO := Lib.hid hno; have HNX := Lib.hid hnx; clear hno hnx hall
      generalize (m k).n = x at *
      generalize (m k).v = y at *
      have i1 : (k : Int) < (n : Int) := by omega
      have i2 : (k : Int) ≤ 10 := by omega
      have d1 : decide ((k : Int) < (n : Int)) = true := by simpa using h1
      have d2 : decide ((k : Int) ≤ 10) = true := by simpa using i2
      by_cases hx : x.size ≤ 300
      · have d3 : decide ((300 : Int) < (x.size : Int)) = false := by simp; omega
        by_cases hy : y.size ≤ 300
        · have d4 : decide ((300 : Int) < (y.size : Int)) = false := by simp; omega
          go_wp2_with fail
          go_roundw
          case rel => exact ⟨k + 1, by omega, by omega, by go_num, HNX.out ⟨hx, hy⟩, hb2.out⟩
          case measure => simp [intOf]; omega
        · have d4 : decide ((300 : Int) < (y.size : Int)) = true := by simp; omega
          go_wp2_with fail
          go_ret
          rw [HNO.out (fun e => hy e.2)]
          exact ⟨rfl, hb2.out⟩
      · have d3 : decide ((300 : Int) < (x.size : Int)) = true := by simp; omega
        go_wp2_with fail
        go_ret
        rw [HNO.out (fun e => hx e.1)]
        exact ⟨rfl, hb2.out⟩
    · by_cases hkn : k < n
      · have d1 : decide ((k : Int) < (n : Int)) = true := by simpa using hkn
        have d2 : decide ((k : Int) ≤ 10) = false := by simp; omega
        have d3 : decide ((n : Int) ≤ 10) = false := by simp; omega
        have hr := La.few_ten (f := Ma.lab m) (n := n) (by omega)
        have HR := Lib.hid hr; clear hr
        go_wp2_with fail
        go_ret
        rw [HR.out]
        exact ⟨rfl, hb⟩
      · have e : k = n := by omega
        subst e
        have d1 : decide ((k : Int) < (k : Int)) = false := by simp
        by_cases h10 : k ≤ 10
        · have hr := La.few_all (f := Ma.lab m) h10 hall
          have d3 : decide ((k : Int) ≤ 10) = true := by simp; omega
          have HR := Lib.hid hr; clear hr
          go_wp2_with fail
          go_ret
          rw [HR.out]
          exact ⟨rfl, hb⟩
        · have hr := La.few_ten (f := Ma.lab m) (n := k) (by omega)
          have d3 : decide ((k : Int) ≤ 10) = false := by simp; omega
          have HR := Lib.hid hr; clear hr
          go_wp2_with fail
          go_ret
          rw [HR.out]
          exact ⟨rfl, hb⟩

end Go.Proofs.YtliobahnekohmaaGreat
/-
  The document's Ask: the walk.
-/
namespace Go.Proofs.YtliobahnekohmaaGreat
open Go.RowKit
set_option maxRecDepth 100000 in
set_option maxHeartbeats 8000000 in
theorem rAsk_any (A : Option Addr) (n c : Nat) (q : Nat → EAt) (B : Option Addr) (km cm : Nat) (hkm : km ≤ 1000000) (mt : Nat → Mat) (w : World) (hA : EntsIn w A n q) (hB : Row 3 (mx mt) w B km) :
    Calls Tryz.prog 26 #[.slice A n c, .slice B km cm] w (Picks 3 1 (fun i => [.int .i64 (i : Int)]) (Ma.sel (fun i => Ma.all mt km (La.at_ (q i).e.l) (q i).e.l.length) n) w) := by
  have hn := hA.len
  have HA := Lib.hid hA; have HM := Lib.hid hB
  clear hA hB
  obtain ⟨b, hb⟩ : ∃ b : Nat → Bool, b = fun i => Ma.all mt km (La.at_ (q i).e.l) (q i).e.l.length := ⟨_, rfl⟩
  rw [← hb]
  have HBE := Lib.hid (fun i => show b i = Ma.all mt km (La.at_ (q i).e.l) (q i).e.l.length by rw [hb])
  clear hb
  go_enter Tryz.func26, Tryz.ntmps26
  go_wp2_with fail
  go_loopw [5, 6] (fun v i wr => ∃ k : Nat, k ≤ n ∧ i = .int .i64 k ∧ wr.ownsRow w.heap.size 3 1 v (Ma.sel b k).length (pl2 (Ma.sel b k)) ∧ Below w.heap.size w wr) (fun _ i _ => n - (intOf i).toNat)
  case atStart => exact ⟨0, Nat.zero_le _, rfl, World.ownsRow_nil _ _ _ _, Below.refl _ _⟩
  case round =>
    obtain ⟨k, hk, rfl, hown, hbl⟩ := hrel
    have HO := Lib.hid hown; have HBL := Lib.hid hbl
    clear hown hbl
    by_cases hkn : k < n
    · have d1 : decide ((k : Int) < (n : Int)) = true := decide_eq_true (Int.ofNat_lt.2 hkn)
      have i0 : (0 : Int) ≤ (k : Int) := Int.natCast_nonneg _
      have i1 : (k : Int) < (n : Int) := Int.ofNat_lt.2 hkn
      have hll := Ma.sel_length b k
      have HSE := Lib.hid (sel_more b k)
      obtain ⟨ad, rfl, c0, -, -, -⟩ := HA.out.cells HBL.out hkn
      have hc := rAll_any B km cm hkm mt (q k).A (q k).e.l.length (q k).c (by have := (HA.out.each k hkn).len; omega) (La.at_ (q k).e.l) wr (HM.out.later HBL.out) ((HA.out.each k hkn).row.later HBL.out)
      rw [← HBE.out k] at hc
      have HC := Lib.hid hc
      clear hc
      generalize Ma.sel b k = L at *
      go_wp2_with fail
      refine HC.out.mono ?_; rintro e w1 ⟨rfl, hb1⟩
      have HB1 := Lib.hid (below_step HBL.out hb1)
      have HO1 := Lib.hid (row_far HO.out hb1)
      have hsz : w.heap.size ≤ w1.heap.size := HB1.out.size
      have hl1 : L.length + 1 ≤ 1000000 := by omega
      clear hb1 HC c0
      generalize b k = bk at *
      cases bk with
      | true =>
        go_wp2_with (at_builtin; go_must (refine wpList_append_row _ rfl _ _ 43 3 rfl 1 8 (.int .i64 0) Tryz.underlying43 infoI2 rfl (by decide) (by decide) w.heap.size _ L.length (pl2 L) rfl (row_far HO1.out ((Below.refl _ _).alloc (Nat.le_refl _) _)) ⟨w1.heap.size, 0, none⟩ 1 1 (one2 k) (fun _ _ => rfl) rfl (one2_row w1 k 3) hl1 (by simp; omega) ?_); intro v8 w8 hown8 hg8; have HO8 := Lib.hid hown8; have HB8 := Lib.hid ((HB1.out.alloc hsz _).grown hg8 (by simp; omega) (fun r e => (HO1.out.lt r e).1)); clear hown8 hg8)
        go_roundw
        case rel => exact ⟨k + 1, hkn, rfl, by rw [HSE.out, if_pos trivial, pl2_snoc, List.length_append]; exact HO8.out, HB8.out⟩
        case measure => exact meas_lt0 hkn
      | false =>
        go_wp2_with fail
        go_roundw
        case rel => exact ⟨k + 1, hkn, rfl, by rw [HSE.out, if_neg (by first | exact id | decide), List.append_nil]; exact HO1.out, HB1.out⟩
        case measure => exact meas_lt0 hkn
    · obtain rfl : k = n := Nat.le_antisymm hk (Nat.le_of_not_lt hkn)
      have d1 : decide ((k : Int) < (k : Int)) = false := decide_eq_false (Int.lt_irrefl _)
      go_wp2_with fail
      go_ret
      exact ⟨_, rfl, HO.out, HBL.out⟩
end Go.Proofs.YtliobahnekohmaaGreat
