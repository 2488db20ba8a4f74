/-
  IndexSymbols: the walk.
-/
import Derived.Test.YtliobahnekohmaaGreatIwD
import Derived.BigQuiet
import Derived.Deep.CutBlock
import Derived.Test.YtliobahnekohmaaGreatRegT
import Derived.Deep.Slices
namespace Go.Proofs.YtliobahnekohmaaGreat
open Go.RowKit
theorem infoB : (Tryz.prog.info? 4).map (fun i => (i.zero, i.size, i.bytes)) = some (some (.bool false), 1, 1) := by kernel_rfl
def bf (_ _ : Nat) : Value := .bool false
theorem bf_row (w : World) (T : TypeId) : Row 1 bf (w.alloc (.cells #[.bool false] T)) (some ⟨w.heap.size, 0, none⟩) 1 := row_built 1 _ w _ _ (fun j hj => by
  obtain rfl : j = 0 := by omega
  rfl)
/-- a row of bools -/
structure BAt (w : World) (P : Option Addr) (n : Nat) (base : Nat) (u : Nat → Bool) : Prop where
  is_ : 0 < n → ∃ g cs, P = some ⟨g, 0, none⟩ ∧ base ≤ g ∧ w.heap[g]? = some (.cells cs 4 (0, 0)) ∧ ∀ i, i < n → cs[i]? = some (.bool (u i))
theorem BAt.later {w V : World} {P : Option Addr} {n base : Nat} {u : Nat → Bool} (h : BAt w P n base u) (hb : Below w.heap.size w V) : BAt V P n base u :=
  ⟨fun h0 => by obtain ⟨g, cs, e, hg, hc, hi⟩ := h.is_ h0; exact ⟨g, cs, e, hg, heap_keep hc hb, hi⟩⟩
theorem BAt.drew {w : World} {P : Option Addr} {n base : Nat} {u : Nat → Bool} (h : BAt w P n base u) (k : Nat) : BAt (w.drewN k) P n base u := ⟨h.is_⟩
theorem BAt.put {w : World} {P : Option Addr} {n base j : Nat} {u v : Nat → Bool} (h : BAt w P n base u) (hj : j < n) (hv : ∀ i, i < n → v i = if i = j then v j else u i) :
    ∃ g, P = some ⟨g, 0, none⟩ ∧ base ≤ g ∧ w.cell? ⟨g, j, none⟩ = some (.bool (u j)) ∧ w.frozen? ⟨g, j, none⟩ = false ∧ BAt (w.setCell ⟨g, j, none⟩ (.bool (v j))) P n base v := by
  obtain ⟨g, cs, e, hg, hc, hi⟩ := h.is_ (by omega)
  refine ⟨g, e, hg, (cell_of_row _ _ _ _ _ _ hc).trans (hi j hj), frozen_of_row _ _ _ _ _ hc, ⟨fun _ => ⟨g, _, e, hg, heap_setCell_same w g j cs _ (.bool (v j)) hc, fun i hin => ?_⟩⟩⟩
  have hjz : j < cs.size := (Array.getElem?_eq_some_iff.1 (hi j hj)).1
  rw [Array.getElem?_setIfInBounds]
  by_cases hij : j = i
  · subst hij; rw [if_pos rfl, if_pos hjz]
  · rw [if_neg hij, hi i hin, hv i hin, if_neg (fun e => hij e.symm)]
theorem bat_of {w : World} {base n : Nat} {v : Value} (h : w.ownsRow base 4 1 v n (rcells 1 bf n)) : ∃ P c, v = .slice P n c ∧ BAt w P n base fun _ => false := by
  obtain ⟨A, c, e, -, -, -, hr⟩ := own_row h
  refine ⟨A, c, e, ⟨fun h0 => ?_⟩⟩
  rcases h.2 with ⟨e2, h2⟩ | ⟨g, cap, cur, e2, -, hg, -⟩
  · omega
  · rw [e] at e2
    cases e2
    refine ⟨g, cur, rfl, (h.lt g (by rw [e]; rfl)).1, hg, fun i hi => ?_⟩
    obtain ⟨ad, e3, -, hc⟩ := hr h0
    cases e3
    have h5 := hc i hi 0 (by decide)
    rw [Addr.add_lit, cell_of_row _ _ _ _ _ _ hg] at h5
    have h6 : cur[i]? = some (bf i 0) := by simpa using h5
    exact h6
theorem BAt.heap {w W : World} {P : Option Addr} {n base : Nat} {u : Nat → Bool} (h : BAt w P n base u) (e : W.heap = w.heap) : BAt W P n base u := ⟨fun h0 => by rw [e]; exact h.is_ h0⟩
theorem BAt.congr {w : World} {P : Option Addr} {n base : Nat} {u v : Nat → Bool} (h : BAt w P n base u) (hv : ∀ i, i < n → u i = v i) : BAt w P n base v :=
  ⟨fun h0 => by obtain ⟨g, cs, e, hg, hc, hi⟩ := h.is_ h0; exact ⟨g, cs, e, hg, hc, fun i hin => by rw [← hv i hin]; exact hi i hin⟩⟩
/-- is it a name, or a value, of these labels? -/
def hit (S : List ByteArray) (P : List Lab) (j : Nat) : Bool := P.any fun x => decide (S.getD j ByteArray.empty = x.1) || decide (S.getD j ByteArray.empty = x.2)
theorem hit_snoc (S : List ByteArray) (P : List Lab) (x : Lab) (j : Nat) : hit S (P ++ [x]) j = (hit S P j || decide (S.getD j ByteArray.empty = x.1) || decide (S.getD j ByteArray.empty = x.2)) := by
  unfold hit
  rw [List.any_append]
  simp [Bool.or_assoc]
def among (S : List ByteArray) (t : ByteArray) (j : Nat) : Bool := (S.take j).any fun s => decide (s = t)
theorem among_succ (S : List ByteArray) (t : ByteArray) {j : Nat} (hj : j < S.length) : among S t (j + 1) = (among S t j || decide (S.getD j ByteArray.empty = t)) := by
  unfold among
  rw [List.take_add_one, List.getElem?_eq_getElem hj, List.any_append, List.getD_eq_getElem?_getD, List.getElem?_eq_getElem hj]
  simp
theorem among_all (S : List ByteArray) (t : ByteArray) (h : t ∈ S) : among S t S.length = true := by
  unfold among
  rw [List.take_length]
  exact List.any_eq_true.2 ⟨t, h, decide_eq_true rfl⟩
def labsTo (q : Nat → EAt) (i : Nat) : List Lab := (entL q i).flatMap (·.l)
theorem labsTo_succ (q : Nat → EAt) (i : Nat) : labsTo q (i + 1) = labsTo q i ++ (q i).e.l := by unfold labsTo; rw [entL_succ, List.flatMap_append]; simp
theorem take_labs (l : List Lab) {k : Nat} (hk : k < l.length) : l.take (k + 1) = l.take k ++ [La.at_ l k] := by
  rw [List.take_add_one, List.getElem?_eq_getElem hk]
  have e : La.at_ l k = l[k] := by unfold La.at_; simp [List.getD, hk]
  rw [e]; rfl
theorem sym_has {q : Nat → EAt} {n i k : Nat} (hi : i < n) (hk : k < (q i).e.l.length) : (La.at_ (q i).e.l k).1 ∈ Ix.syms (entL q n) ∧ (La.at_ (q i).e.l k).2 ∈ Ix.syms (entL q n) := by
  have hm : (q i).e ∈ entL q n := List.mem_map.2 ⟨i, List.mem_range.2 hi, rfl⟩
  have e : La.at_ (q i).e.l k = (q i).e.l[k] := by unfold La.at_; simp [List.getD, hk]
  have hx : La.at_ (q i).e.l k ∈ (q i).e.l := by rw [e]; exact List.getElem_mem hk
  exact ⟨Ix.syms_mem.2 ⟨_, hm, _, hx, Or.inl rfl⟩, Ix.syms_mem.2 ⟨_, hm, _, hx, Or.inr rfl⟩⟩
theorem all_hit {q : Nat → EAt} {n j : Nat} (hj : j < (Ix.syms (entL q n)).length) : hit (Ix.syms (entL q n)) (labsTo q n) j = true := by
  have hm : (Ix.syms (entL q n)).getD j ByteArray.empty ∈ Ix.syms (entL q n) := by
    rw [List.getD_eq_getElem?_getD, List.getElem?_eq_getElem hj]; exact List.getElem_mem hj
  obtain ⟨e, he, x, hx, h⟩ := Ix.syms_mem.1 hm
  unfold hit
  refine List.any_eq_true.2 ⟨x, List.mem_flatMap.2 ⟨e, he, hx⟩, ?_⟩
  rcases h with h | h
  · rw [decide_eq_true h]; rfl
  · rw [decide_eq_true h, Bool.or_true]
theorem rise_at {S : List ByteArray} (h : Ix.Rising S) {k : Nat} (hk : 0 < k) (hl : k < S.length) : La.less (S.getD (k - 1) ByteArray.empty) (S.getD k ByteArray.empty) = true := by
  have := List.pairwise_iff_getElem.1 h (k - 1) k (by omega) hl (by omega)
  rw [List.getD_eq_getElem?_getD, List.getElem?_eq_getElem (by omega), List.getD_eq_getElem?_getD, List.getElem?_eq_getElem hl]
  exact this
theorem words_le : ∀ (L : List Ix.Ent), (∀ e ∈ L, e.l.length ≤ 300) → (Ix.words L).length ≤ 600 * L.length
  | [], _ => Nat.le_refl _
  | e :: L, h => by
    have ih := words_le L fun x hx => h x (List.mem_cons_of_mem _ hx)
    have h1 := h e (List.mem_cons_self ..)
    have h2 : ∀ l : List Lab, (l.flatMap fun x => [x.1, x.2]).length = 2 * l.length := by
      intro l
      induction l with
      | nil => rfl
      | cons x l ih => rw [List.flatMap_cons, List.length_append, ih, List.length_cons]; simp; omega
    have e1 : Ix.words (e :: L) = (e.l.flatMap fun x => [x.1, x.2]) ++ Ix.words L := by unfold Ix.words; rw [List.flatMap_cons]
    rw [e1, List.length_append, h2, List.length_cons]
    omega
theorem syms_le {w : World} {A : Option Addr} {n : Nat} {q : Nat → EAt} (h : EntsIn w A n q) (hn : n ≤ 30) : (Ix.syms (entL q n)).length ≤ 100000 := by
  have h1 := Ix.insAll_length (Ix.words (entL q n))
  have h2 := words_le (entL q n) (fun e he => by
    obtain ⟨i, hi, rfl⟩ := List.mem_map.1 he
    exact (h.each i (List.mem_range.1 hi)).len)
  rw [entL_length] at h2
  unfold Ix.syms
  omega
theorem keep_at {w U : World} {p : Addr} {v : Value} (h : w.cell? p = some v) (hb : Below w.heap.size w U) : U.cell? p = some v := by
  have hlt := Go.block_lt_of_cell h
  unfold World.cell? at h ⊢
  rw [hb.block p.block hlt]
  exact h
set_option maxRecDepth 100000 in
set_option maxHeartbeats 8000000 in
theorem indexSymbols_walk {H : Type} {enc : TypeId × Value → H} {r0 : Reach} {b0 : Nat} {v0 : Value} {d0 : DataW H} {p0 : List MemPlace} (w : World)
    (o0 : Value.okWide Tryz.prog w r0 b0 22 v0) (k0 : DataW.Trod enc Tryz.prog w 0 (fun _ => true) true 22 v0 d0 p0) :
    Calls Tryz.prog 7 #[v0] w fun e w' => e = .returned (.bool true) ∧ Below w.heap.size w w' := by
  obtain ⟨A, n, c, q, rfl, hn, -, hA⟩ := open_ents o0 k0
  clear o0 k0
  have HA := Lib.hid hA
  have HF := Lib.hid (fun U (hU : Below w.heap.size w U) => few_any A n c hn q U (HA.out.later hU))
  clear hA
  go_enter Tryz.func7, Tryz.ntmps7
  go_wp2_with fail
  refine (works_any _).mono ?_; rintro e w1 ⟨rfl, hb1⟩
  have HB1 := Lib.hid hb1
  clear hb1
  go_wp2_with fail
  refine (HF.out _ HB1.out).mono ?_; rintro e w2 ⟨rfl, hb2⟩
  have HB2 := Lib.hid (below_step HB1.out hb2)
  clear hb2 HB1 HF
  obtain ⟨f1, hf1⟩ : ∃ f1, f1 = fewR q n := ⟨_, rfl⟩
  rw [← hf1]
  have HFW := Lib.hid hf1
  clear hf1
  cases f1 with
  | false =>
    go_wp2_with fail
    go_ret
    exact ⟨rfl, HB2.out⟩
  | true =>
    have hin := (HA.out.in_ HFW.out.symm).later HB2.out
    have hn30 := (fewR_yes HFW.out.symm).1
    have HIN := Lib.hid hin
    have HSY := Lib.hid (Symbols_any A n c q w2 hin)
    have HRI := Lib.hid (show Ix.Rising (Ix.syms (entL q n)) from Ix.insAll_rising _)
    have HHS := Lib.hid (fun i k hi hk => sym_has (q := q) (n := n) (i := i) (k := k) hi hk)
    have HAL := Lib.hid (fun j hj => all_hit (q := q) (n := n) (j := j) hj)
    have hsl : (Ix.syms (entL q n)).length ≤ 100000 := syms_le hin hn30
    clear hin HFW HA
    generalize Ix.syms (entL q n) = S at *
    go_wp2_with fail
    refine HSY.out.mono ?_; rintro e w3 ⟨B, d, rfl, hs3, hb3⟩
    have HB3 := Lib.hid (below_step HB2.out hb3); have HI3 := Lib.hid (HIN.out.later hb3); have HS3 := Lib.hid hs3.row
    clear hb3 hs3 HB2 HIN HSY
    go_wp2_with fail
    go_loopw [6, 7] (fun v i wr => ∃ k : Nat, k ≤ S.length ∧ i = .int .i64 k ∧ wr.ownsRow w3.heap.size 4 1 v k (rcells 1 bf k) ∧ Below w3.heap.size w3 wr) (fun _ i _ => S.length - (intOf i).toNat)
    case atStart => exact ⟨0, Nat.zero_le _, rfl, World.ownsRow_nil _ _ _ _, Below.refl _ _⟩
    case round =>
      obtain ⟨k, hk, rfl, hown, hbl⟩ := hrel
      have HO := Lib.hid hown; have HBL := Lib.hid hbl
      clear hown hbl
      by_cases hks : k < S.length
      · have d1 : decide ((k : Int) < (S.length : Int)) = true := decide_eq_true (Int.ofNat_lt.2 hks)
        have hsz : w3.heap.size ≤ wr.heap.size := HBL.out.size
        have hll : k + 1 ≤ 1000000 := by omega
        go_upto_region 13 with (at_builtin; go_must (refine wpList_append_row _ rfl _ _ 62 4 rfl 1 1 (.bool false) Tryz.underlying62 infoB rfl (by decide) (by decide) w3.heap.size _ k (rcells 1 bf k) rfl (row_far HO.out ((Below.refl _ _).alloc (Nat.le_refl _) _)) ⟨wr.heap.size, 0, none⟩ 1 1 bf (fun _ _ => rfl) rfl (bf_row wr 4) hll (by simp; omega) ?_); intro v8 w8 hown8 hg8; have HO8 := Lib.hid (show w8.ownsRow w3.heap.size 4 1 v8 (k + 1) (rcells 1 bf (k + 1)) by rw [rcells_succ 1 bf k]; exact hown8); have HB8 := Lib.hid ((HBL.out.alloc hsz _).grown hg8 (by simp; omega) (fun r e => (HO.out.lt r e).1)); clear hown8 hg8)
        by_cases hk0 : 0 < k
        · have d2 : decide ((0 : Int) < (k : Int)) = true := decide_eq_true (by omega)
          have s1 : wrap64 ((k : Int) - 1) = ((k - 1 : Nat) : Int) := by rw [IntWalk.wrap64_in _ ⟨by omega, by omega⟩]; omega
          have hr := rise_at HRI.out hk0 hks
          obtain ⟨ad, rfl, c1, -⟩ := HS3.out.at_ HB8.out hks
          obtain ⟨ad', e', c0, -⟩ := HS3.out.at_ HB8.out (show k - 1 < S.length by omega)
          cases e'
          have x1 : w8.cell? (ad.add k) = some (.string (S.getD k ByteArray.empty)) := by have := c1 (by decide); rw [Nat.mul_one] at this; exact this
          have x0 : w8.cell? (ad.add (k - 1)) = some (.string (S.getD (k - 1) ByteArray.empty)) := by have := c0 (by decide); rw [Nat.mul_one] at this; exact this
          have i0 : (0 : Int) ≤ ((k - 1 : Nat) : Int) := Int.natCast_nonneg _
          have i1 : ((k - 1 : Nat) : Int) < (S.length : Int) := Int.ofNat_lt.2 (by omega)
          have j0 : (0 : Int) ≤ (k : Int) := Int.natCast_nonneg _
          have j1 : (k : Int) < (S.length : Int) := Int.ofNat_lt.2 hks
          unfold La.less at hr
          clear c0 c1
          generalize S.getD (k - 1) ByteArray.empty = sp at *
          generalize S.getD k ByteArray.empty = sk at *
          generalize hkm : k - 1 = km at *
          go_quiet (fail)
          go_wp2_with fail
          go_roundw
          case rel => exact ⟨k + 1, hks, rfl, HO8.out, below_drewN HB8.out _⟩
          case measure => exact meas_lt0 hks
        · have d2 : decide ((0 : Int) < (k : Int)) = false := decide_eq_false (by omega)
          go_quiet (fail)
          go_wp2_with fail
          go_roundw
          case rel => exact ⟨k + 1, hks, rfl, HO8.out, below_drewN HB8.out _⟩
          case measure => exact meas_lt0 hks
      · obtain rfl : k = S.length := Nat.le_antisymm hk (Nat.le_of_not_lt hks)
        have d1 : decide ((S.length : Int) < (S.length : Int)) = false := decide_eq_false (Int.lt_irrefl _)
        obtain ⟨PU, cu, rfl, hbu⟩ := bat_of HO.out
        have HU0 : Hid (BAt wr PU S.length w3.heap.size (hit S (labsTo q 0))) := Lib.hid hbu
        have HBL0 := Lib.hid HBL.out
        clear hbu HO HRI
        obtain ⟨wa, hwa⟩ : ∃ wa, wa = wr := ⟨_, rfl⟩
        subst hwa
        go_wp2_with fail
        go_loopw [8, 9, 10, 11, 12] (fun i _ _ _ _ wr => ∃ k : Nat, k ≤ n ∧ i = .int .i64 k ∧ BAt wr PU S.length w3.heap.size (hit S (labsTo q k)) ∧ Below w3.heap.size w3 wr) (fun i _ _ _ _ _ => n - (intOf i).toNat)
        case atStart => exact ⟨0, Nat.zero_le _, rfl, HU0.out, HBL0.out⟩
        case round =>
          obtain ⟨k, hk, rfl, hbu, hbl⟩ := hrel
          have HU := Lib.hid hbu; have HB := Lib.hid hbl
          clear hbu hbl HU0 HBL0 HBL
          by_cases hkn : k < n
          · have d2 : decide ((k : Int) < (n : Int)) = true := decide_eq_true (Int.ofNat_lt.2 hkn)
            have i0 : (0 : Int) ≤ (k : Int) := Int.natCast_nonneg _
            have i1 : (k : Int) < (n : Int) := Int.ofNat_lt.2 hkn
            obtain ⟨wb, hwb⟩ : ∃ wb, wb = wr := ⟨_, rfl⟩
            subst hwb
            have HLS := Lib.hid (labsTo_succ q k)
            have HCE := Lib.hid (fun (U : World) (hU : Below w3.heap.size w3 U) => HI3.out.cells hU hkn)
            have HRO := Lib.hid (HI3.out.each k hkn).row
            have hlm := (HI3.out.each k hkn).len
            have HSH := Lib.hid (fun j hj => HHS.out k j hkn hj)
            generalize labsTo q k = P at *
            generalize (q k).e.l = l at *
            go_wp2_with fail
            go_loopw [9, 10, 11, 12] (fun i _ _ _ wr => ∃ m : Nat, m ≤ l.length ∧ i = .int .i64 m ∧ BAt wr PU S.length w3.heap.size (hit S (P ++ l.take m)) ∧ Below w3.heap.size w3 wr) (fun i _ _ _ _ => l.length - (intOf i).toNat)
            case atStart => exact ⟨0, Nat.zero_le _, rfl, by simpa using HU.out, HB.out⟩
            case round =>
              obtain ⟨m, hm, rfl, hbu, hbl⟩ := hrel
              have HU2 := Lib.hid hbu; have HB2 := Lib.hid hbl
              clear hbu hbl HU
              obtain ⟨ad, rfl, c0, -, -, -⟩ := HCE.out wr HB2.out
              by_cases hml : m < l.length
              · have d3 : decide ((m : Int) < (l.length : Int)) = true := decide_eq_true (Int.ofNat_lt.2 hml)
                obtain ⟨wc, hwc⟩ : ∃ wc, wc = wr := ⟨_, rfl⟩
                subst hwc
                have HTL := Lib.hid (take_labs l hml)
                have hsy := HSH.out m hml
                generalize hQ : P ++ l.take m = Q at *
                have HQ := Lib.hid hQ
                clear hQ
                have HQX : Hid (P ++ l.take (m + 1) = Q ++ [La.at_ l m]) := Lib.hid (by rw [HTL.out, ← List.append_assoc, HQ.out])
                have HLB := Lib.hid (fun (U : World) (hU : Below w3.heap.size w3 U) => HRO.out.at_ hU hml)
                have HHIT := Lib.hid (fun j => hit_snoc S Q (La.at_ l m) j)
                have HA1 := Lib.hid (fun j (hj : j < S.length) => among_succ S (La.at_ l m).1 hj)
                have HA2 := Lib.hid (fun j (hj : j < S.length) => among_succ S (La.at_ l m).2 hj)
                have HE1 := Lib.hid (among_all S _ hsy.1); have HE2 := Lib.hid (among_all S _ hsy.2)
                have k0 : (0 : Int) ≤ (m : Int) := Int.natCast_nonneg _
                have k1 : (m : Int) < (l.length : Int) := Int.ofNat_lt.2 hml
                clear hsy HTL
                generalize La.at_ l m = x at *
                obtain ⟨x1, x2⟩ := x
                simp only at HLB HHIT HA1 HA2 HE1 HE2
                go_wp2_with fail
                go_loopw [10, 11, 12] (fun v1 v2 i wr => ∃ j : Nat, j ≤ S.length ∧ i = .int .i64 j ∧ v1 = .bool (among S x1 j) ∧ v2 = .bool (among S x2 j) ∧ BAt wr PU S.length w3.heap.size (fun t => if t < j then hit S (Q ++ [(x1, x2)]) t else hit S Q t) ∧ Below w3.heap.size w3 wr) (fun _ _ i _ => S.length - (intOf i).toNat)
                case atStart => exact ⟨0, Nat.zero_le _, rfl, rfl, rfl, by simpa using HU2.out, HB2.out⟩
                case round =>
                  obtain ⟨j, hj, rfl, rfl, rfl, hbu, hbl⟩ := hrel
                  have HU3 := Lib.hid hbu; have HB3' := Lib.hid hbl
                  clear hbu hbl HU2
                  by_cases hjs : j < S.length
                  · have d4 : decide ((j : Int) < (S.length : Int)) = true := decide_eq_true (Int.ofNat_lt.2 hjs)
                    have a1 := HA1.out j hjs; have a2 := HA2.out j hjs
                    have hh := HHIT.out j
                    obtain ⟨bd, rfl, cs, -⟩ := HS3.out.at_ HB3'.out hjs
                    have s0 : wr.cell? (bd.add j) = some (.string (S.getD j ByteArray.empty)) := by have := cs (by decide); rw [Nat.mul_one] at this; exact this
                    clear cs
                    obtain ⟨ad2, e2, g0, g1⟩ := HLB.out wr HB3'.out
                    obtain ⟨ad', e', c0, -, -, -⟩ := HCE.out wr HB3'.out
                    cases e'
                    rw [e2] at c0
                    have HS0 := Lib.hid s0; have HC0 := Lib.hid c0; have HG0 := Lib.hid g0; have HG1 := Lib.hid g1
                    have l0 : (0 : Int) ≤ (j : Int) := Int.natCast_nonneg _
                    have l1 : (j : Int) < (S.length : Int) := Int.ofNat_lt.2 hjs
                    have q1 := str_beq (S.getD j ByteArray.empty) x1; have q2 := str_beq (S.getD j ByteArray.empty) x2
                    rw [← q1] at a1 hh
                    rw [← q2] at a2 hh
                    have HBS := Lib.hid (fun (W : World) (hW : W.heap = wr.heap) (v : Nat → Bool) hv => (HU3.out.heap hW).put (v := v) hjs hv)
                    have HHH := Lib.hid hh
                    have HA1' := Lib.hid a1; have HA2' := Lib.hid a2
                    clear s0 c0 g0 g1 q1 q2 hh a1 a2 e2
                    generalize S.getD j ByteArray.empty = sj at *
                    obtain ⟨f1, hf1⟩ : ∃ f1, (sj.toList == x1.toList) = f1 := ⟨_, rfl⟩
                    obtain ⟨f2, hf2⟩ : ∃ f2, (sj.toList == x2.toList) = f2 := ⟨_, rfl⟩
                    rw [hf1] at HA1' HHH
                    rw [hf2] at HA2' HHH
                    obtain ⟨bn, hbn⟩ : ∃ bn, among S x1 j = bn := ⟨_, rfl⟩
                    obtain ⟨bv, hbv⟩ : ∃ bv, among S x2 j = bv := ⟨_, rfl⟩
                    rw [hbn] at HA1' ⊢
                    rw [hbv] at HA2' ⊢
                    have HF1 := Lib.hid hf1; have HF2 := Lib.hid hf2
                    clear hbn hbv hf1 hf2
                    go_upto_block 7 with fail
                    go_cut [10, 11] (fun v1 v2 wx => v1 = .bool (bn || f1) ∧ v2 = .bool (bv || f2) ∧ BAt wx PU S.length w3.heap.size (fun t => if t < j + 1 then hit S (Q ++ [(x1, x2)]) t else hit S Q t) ∧ Below w3.heap.size w3 wx)
                    case first =>
                      go_upto_region 26 with fail
                      go_cut [10] (fun v wx => v = .bool (bn || f1) ∧ ∃ nq, wr.drewN nq = wx)
                      case first =>
                        have s0 := HS0.out; have c0 := HC0.out; have g0 := HG0.out; have g1 := HG1.out; have r1 := HF1.out
                        cases bn with
                        | true =>
                          go_quiet (fail)
                          go_wp2_with fail
                          go_meet
                          exact ⟨rfl, _, rfl⟩
                        | false =>
                          go_quiet (fail)
                          go_wp2_with fail
                          go_meet
                          exact ⟨rfl, _, rfl⟩
                      case rest =>
                        obtain ⟨rfl, nq, rfl⟩ := hcut
                        go_upto_region 27 with fail
                        go_cut [11] (fun v wx => v = .bool (bv || f2) ∧ ∃ nq2, (wr.drewN nq).drewN nq2 = wx)
                        case first =>
                          have s0 := HS0.out; have c0 := HC0.out; have g0 := HG0.out; have g1 := HG1.out
                          have r2 := HF2.out
                          cases bv with
                          | true =>
                            go_quiet (fail)
                            go_wp2_with fail
                            go_meet
                            exact ⟨rfl, _, rfl⟩
                          | false =>
                            go_quiet (fail)
                            go_wp2_with fail
                            go_meet
                            exact ⟨rfl, _, rfl⟩
                        case rest =>
                          obtain ⟨rfl, nq2, rfl⟩ := hcut
                          go_upto_region 28 with fail
                          obtain ⟨W, hW⟩ : ∃ W, W = (wr.drewN nq).drewN nq2 := ⟨_, rfl⟩
                          rw [← hW]
                          obtain ⟨gu, rfl, hgu, w0, f0, hnew⟩ := HBS.out W.drew (by rw [hW]; rfl) (fun t => if t < j + 1 then hit S (Q ++ [(x1, x2)]) t else hit S Q t) (fun i hi => by
                            by_cases hij : i = j
                            · rw [if_pos hij]; rw [hij]
                            · rw [if_neg hij]
                              by_cases h2 : i < j
                              · rw [if_pos (by omega), if_pos h2]
                              · rw [if_neg (by omega), if_neg h2])
                          have hbW : Below w3.heap.size w3 W := by rw [hW]; exact below_drewN (below_drewN HB3'.out nq) nq2
                          have HBW := Lib.hid hbW
                          have s0 : W.cell? (bd.add j) = some (.string sj) := by rw [hW]; exact HS0.out
                          have c0 : W.cell? (ad.add (k * 4)) = some (.slice (some ad2) l.length (q k).c) := by rw [hW]; exact HC0.out
                          have g0 : W.cell? (ad2.add (m * 2)) = some (.string x1) := by rw [hW]; exact HG0.out
                          have g1 : W.cell? ⟨(ad2.add (m * 2)).block, (ad2.add (m * 2)).off + 1, none⟩ = some (.string x2) := by rw [hW]; exact HG1.out
                          have e0 : (if j < j then hit S (Q ++ [(x1, x2)]) j else hit S Q j) = hit S Q j := if_neg (Nat.lt_irrefl j)
                          have e1 : (if j < j + 1 then hit S (Q ++ [(x1, x2)]) j else hit S Q j) = (hit S Q j || f1 || f2) := by rw [if_pos (Nat.lt_succ_self j)]; exact HHH.out
                          rw [e0] at w0
                          rw [e1] at hnew
                          have HNEW := Lib.hid hnew
                          obtain ⟨bu, hbu⟩ : ∃ bu, hit S Q j = bu := ⟨_, rfl⟩
                          rw [hbu] at w0 HNEW
                          have w0' : W.cell? (Addr.add ⟨gu, 0, none⟩ j) = some (.bool bu) := by rw [Addr.add_lit, Nat.zero_add]; exact w0
                          have w1 : W.cell? ⟨gu, j, none⟩ = some (.bool bu) := w0
                          have f1' : W.frozen? ⟨gu, j, none⟩ = false := f0
                          clear w0 f0
                          have r1 := HF1.out; have r2 := HF2.out
                          clear e0 e1 hnew hbu hW hbW
                          have HS0' := Lib.hid s0; have HC0' := Lib.hid c0; have HG0' := Lib.hid g0; have HG1' := Lib.hid g1; have HW1 := Lib.hid w1; have HFZ := Lib.hid f1'
                          clear s0 c0 g0 g1 w0' w1 f1' HS0 HC0 HG0 HG1 HBS
                          refine plain_T (fun U => Below W.heap.size W U) [39] (by kernel_rfl) ?_
                          cases bu with
                          | true =>
                            refine wpAnyT_pick (S := (fun U => Below W.heap.size W U)) (by kernel_rfl) Only.panic Only.keepsIn (w := W.drew) (Below.refl _ _).drew [0, 1, 2, 3, 4, 5, 6, 7, 8, 9, 10, 11, 12, 13, 14, 15, 16, 17, 18, 19, 20, 21, 22, 23, 24, 25, 26, 27, 28, 29, 30, 31, 32, 33, 34, 35, 36, 37, 38] 1 _ _ (by kernel_rfl) ?_
                            refine PickT.value (d := some 103) (.slice (some ⟨gu, 0, none⟩) S.length cu) rfl rfl (by kernel_rfl) (fun U hU => (by go_simp)) ?_
                            refine PickT.value (d := some 104) (.int .i64 (j : Int)) rfl rfl (by kernel_rfl) (fun U hU => (by go_simp)) ?_
                            refine PickT.value (d := some 105) (.slice (some ⟨gu, 0, none⟩) S.length cu) rfl rfl (by kernel_rfl) (fun U hU => (by go_simp)) ?_
                            refine PickT.value (d := some 106) (.int .i64 (j : Int)) rfl rfl (by kernel_rfl) (fun U hU => (by go_simp)) ?_
                            refine PickT.value (d := some 107) (.pointer (some ⟨gu, j, none⟩)) rfl rfl (by kernel_rfl) (fun U hU => (by go_simp)) ?_
                            refine PickT.value (d := some 108) (.bool true) rfl rfl (by kernel_rfl) (fun U hU => (by have h0 := keep_at HW1.out hU; go_simp)) ?_
                            refine PickT.value (d := some 109) (.bool true) rfl rfl (by kernel_rfl) (fun U hU => (by go_simp)) ?_
                            refine PickT.skip (d := some 110) rfl rfl (by kernel_rfl) ?_
                            refine PickT.skip (d := some 111) rfl rfl (by kernel_rfl) ?_
                            refine PickT.skip (d := some 112) rfl rfl (by kernel_rfl) ?_
                            refine PickT.skip (d := some 113) rfl rfl (by kernel_rfl) ?_
                            refine PickT.skip (d := some 114) rfl rfl (by kernel_rfl) ?_
                            refine PickT.skip (d := some 115) rfl rfl (by kernel_rfl) ?_
                            refine PickT.skip (d := some 116) rfl rfl (by kernel_rfl) ?_
                            refine PickT.skip (d := some 117) rfl rfl (by kernel_rfl) ?_
                            refine PickT.skip (d := some 118) rfl rfl (by kernel_rfl) ?_
                            refine PickT.skip (d := some 119) rfl rfl (by kernel_rfl) ?_
                            refine PickT.skip (d := some 120) rfl rfl (by kernel_rfl) ?_
                            refine PickT.skip (d := some 121) rfl rfl (by kernel_rfl) ?_
                            refine PickT.skip (d := some 122) rfl rfl (by kernel_rfl) ?_
                            refine PickT.skip (d := some 123) rfl rfl (by kernel_rfl) ?_
                            refine PickT.value (d := some 124) (.bool true) rfl rfl (by kernel_rfl) (fun U hU => (by go_simp)) ?_
                            refine PickT.value (d := some 125) (.bool true) rfl rfl (by kernel_rfl) (fun U hU => (by go_simp)) ?_
                            refine PickT.skip (d := some 126) rfl rfl (by kernel_rfl) ?_
                            refine PickT.skip (d := some 127) rfl rfl (by kernel_rfl) ?_
                            refine PickT.skip (d := some 128) rfl rfl (by kernel_rfl) ?_
                            refine PickT.skip (d := some 129) rfl rfl (by kernel_rfl) ?_
                            refine PickT.skip (d := some 130) rfl rfl (by kernel_rfl) ?_
                            refine PickT.skip (d := some 131) rfl rfl (by kernel_rfl) ?_
                            refine PickT.skip (d := some 132) rfl rfl (by kernel_rfl) ?_
                            refine PickT.skip (d := some 133) rfl rfl (by kernel_rfl) ?_
                            refine PickT.skip (d := some 134) rfl rfl (by kernel_rfl) ?_
                            refine PickT.skip (d := some 135) rfl rfl (by kernel_rfl) ?_
                            refine PickT.skip (d := some 136) rfl rfl (by kernel_rfl) ?_
                            refine PickT.skip (d := some 137) rfl rfl (by kernel_rfl) ?_
                            refine PickT.skip (d := some 138) rfl rfl (by kernel_rfl) ?_
                            refine PickT.skip (d := some 139) rfl rfl (by kernel_rfl) ?_
                            refine PickT.value (d := some 140) (.bool true) rfl rfl (by kernel_rfl) (fun U hU => (by go_simp)) ?_
                            refine PickT.value (d := some 141) (.pointer (some ⟨gu, j, none⟩)) rfl rfl (by kernel_rfl) (fun U hU => (by go_simp)) ?_
                            simp only [PickT, Act.put, List.setIfInBounds_toArray, List.set_cons_zero, List.set_cons_succ]
                            have w1 := HW1.out; have f1' := HFZ.out
                            refine wpAnyT_one (i := 39) (by kernel_rfl) rfl (by kernel_rfl) ?_
                            intro K0 hK
                            unfold Oper.wp
                            go_simp
                            have hn0 : BAt (W.drew.setCell ⟨gu, j, none⟩ (.bool true)) (some ⟨gu, 0, none⟩) S.length w3.heap.size (fun t => if t < j + 1 then hit S (Q ++ [(x1, x2)]) t else hit S Q t) := HNEW.out
                            have hn : BAt (W.setCell ⟨gu, j, none⟩ (.bool true)).drew (some ⟨gu, 0, none⟩) S.length w3.heap.size (fun t => if t < j + 1 then hit S (Q ++ [(x1, x2)]) t else hit S Q t) := hn0.heap rfl
                            obtain ⟨wz, hwz⟩ : ∃ wz, wz = (W.setCell ⟨gu, j, none⟩ (.bool true)).drew := ⟨_, rfl⟩
                            have hbz : Below w3.heap.size w3 wz := by rw [hwz]; exact ((HBW.out).setCell (p := ⟨gu, j, none⟩) hgu _).drew
                            clear hn0
                            rw [← hwz] at hn ⊢
                            have HN := Lib.hid hn; have HBZ := Lib.hid hbz
                            clear hn hwz hbz HNEW w1 f1'
                            refine hK _ _ (fun h => absurd h (by decide)) ?_
                            clear hK K0
                            refine wpAnyT_done (by kernel_rfl) ?_ _
                            refine only_mk ?_
                            clear HW1 HFZ HS0' HC0' HG0' HG1'
                            go_wp2_with fail
                            go_meet
                            exact ⟨by simp, by simp, HN.out, HBZ.out⟩
                          | false =>
                            cases f1 with
                            | true =>
                              refine wpAnyT_pick (S := (fun U => Below W.heap.size W U)) (by kernel_rfl) Only.panic Only.keepsIn (w := W.drew) (Below.refl _ _).drew [0, 1, 2, 3, 4, 5, 6, 7, 8, 9, 10, 11, 12, 13, 14, 15, 16, 17, 18, 19, 20, 21, 22, 23, 24, 25, 26, 27, 28, 29, 30, 31, 32, 33, 34, 35, 36, 37, 38] 1 _ _ (by kernel_rfl) ?_
                              refine PickT.value (d := some 103) (.slice (some ⟨gu, 0, none⟩) S.length cu) rfl rfl (by kernel_rfl) (fun U hU => (by go_simp)) ?_
                              refine PickT.value (d := some 104) (.int .i64 (j : Int)) rfl rfl (by kernel_rfl) (fun U hU => (by go_simp)) ?_
                              refine PickT.value (d := some 105) (.slice (some ⟨gu, 0, none⟩) S.length cu) rfl rfl (by kernel_rfl) (fun U hU => (by go_simp)) ?_
                              refine PickT.value (d := some 106) (.int .i64 (j : Int)) rfl rfl (by kernel_rfl) (fun U hU => (by go_simp)) ?_
                              refine PickT.value (d := some 107) (.pointer (some ⟨gu, j, none⟩)) rfl rfl (by kernel_rfl) (fun U hU => (by go_simp)) ?_
                              refine PickT.value (d := some 108) (.bool false) rfl rfl (by kernel_rfl) (fun U hU => (by have h0 := keep_at HW1.out hU; go_simp)) ?_
                              refine PickT.value (d := some 109) (.bool false) rfl rfl (by kernel_rfl) (fun U hU => (by go_simp)) ?_
                              refine PickT.value (d := some 110) (.slice (some bd) S.length d) rfl rfl (by kernel_rfl) (fun U hU => (by go_simp)) ?_
                              refine PickT.value (d := some 111) (.int .i64 (j : Int)) rfl rfl (by kernel_rfl) (fun U hU => (by go_simp)) ?_
                              refine PickT.value (d := some 112) (.pointer (some (bd.add j))) rfl rfl (by kernel_rfl) (fun U hU => (by go_simp)) ?_
                              refine PickT.value (d := some 113) (.string sj) rfl rfl (by kernel_rfl) (fun U hU => (by have h0 := keep_at HS0'.out hU; go_simp)) ?_
                              refine PickT.value (d := some 114) (.slice (some ad) n c) rfl rfl (by kernel_rfl) (fun U hU => (by go_simp)) ?_
                              refine PickT.value (d := some 115) (.int .i64 (k : Int)) rfl rfl (by kernel_rfl) (fun U hU => (by go_simp)) ?_
                              refine PickT.value (d := some 116) (.pointer (some (ad.add (k * 4)))) rfl rfl (by kernel_rfl) (fun U hU => (by go_simp)) ?_
                              refine PickT.value (d := some 117) (.pointer (some (ad.add (k * 4)))) rfl rfl (by kernel_rfl) (fun U hU => (by go_simp)) ?_
                              refine PickT.value (d := some 118) (.slice (some ad2) l.length (q k).c) rfl rfl (by kernel_rfl) (fun U hU => (by have h0 := keep_at HC0'.out hU; go_simp)) ?_
                              refine PickT.value (d := some 119) (.int .i64 (m : Int)) rfl rfl (by kernel_rfl) (fun U hU => (by go_simp)) ?_
                              refine PickT.value (d := some 120) (.pointer (some (ad2.add (m * 2)))) rfl rfl (by kernel_rfl) (fun U hU => (by go_simp)) ?_
                              refine PickT.value (d := some 121) (.pointer (some (ad2.add (m * 2)))) rfl rfl (by kernel_rfl) (fun U hU => (by go_simp)) ?_
                              refine PickT.value (d := some 122) (.string x1) rfl rfl (by kernel_rfl) (fun U hU => (by have h0 := keep_at HG0'.out hU; go_simp)) ?_
                              refine PickT.value (d := some 123) (.bool true) rfl rfl (by kernel_rfl) (fun U hU => (by have r1' := r1; go_simp)) ?_
                              refine PickT.value (d := some 124) (.bool true) rfl rfl (by kernel_rfl) (fun U hU => (by go_simp)) ?_
                              refine PickT.value (d := some 125) (.bool true) rfl rfl (by kernel_rfl) (fun U hU => (by go_simp)) ?_
                              refine PickT.skip (d := some 126) rfl rfl (by kernel_rfl) ?_
                              refine PickT.skip (d := some 127) rfl rfl (by kernel_rfl) ?_
                              refine PickT.skip (d := some 128) rfl rfl (by kernel_rfl) ?_
                              refine PickT.skip (d := some 129) rfl rfl (by kernel_rfl) ?_
                              refine PickT.skip (d := some 130) rfl rfl (by kernel_rfl) ?_
                              refine PickT.skip (d := some 131) rfl rfl (by kernel_rfl) ?_
                              refine PickT.skip (d := some 132) rfl rfl (by kernel_rfl) ?_
                              refine PickT.skip (d := some 133) rfl rfl (by kernel_rfl) ?_
                              refine PickT.skip (d := some 134) rfl rfl (by kernel_rfl) ?_
                              refine PickT.skip (d := some 135) rfl rfl (by kernel_rfl) ?_
                              refine PickT.skip (d := some 136) rfl rfl (by kernel_rfl) ?_
                              refine PickT.skip (d := some 137) rfl rfl (by kernel_rfl) ?_
                              refine PickT.skip (d := some 138) rfl rfl (by kernel_rfl) ?_
                              refine PickT.skip (d := some 139) rfl rfl (by kernel_rfl) ?_
                              refine PickT.value (d := some 140) (.bool true) rfl rfl (by kernel_rfl) (fun U hU => (by go_simp)) ?_
                              refine PickT.value (d := some 141) (.pointer (some ⟨gu, j, none⟩)) rfl rfl (by kernel_rfl) (fun U hU => (by go_simp)) ?_
                              simp only [PickT, Act.put, List.setIfInBounds_toArray, List.set_cons_zero, List.set_cons_succ]
                              have w1 := HW1.out; have f1' := HFZ.out
                              refine wpAnyT_one (i := 39) (by kernel_rfl) rfl (by kernel_rfl) ?_
                              intro K0 hK
                              unfold Oper.wp
                              go_simp
                              have hn0 : BAt (W.drew.setCell ⟨gu, j, none⟩ (.bool true)) (some ⟨gu, 0, none⟩) S.length w3.heap.size (fun t => if t < j + 1 then hit S (Q ++ [(x1, x2)]) t else hit S Q t) := HNEW.out
                              have hn : BAt (W.setCell ⟨gu, j, none⟩ (.bool true)).drew (some ⟨gu, 0, none⟩) S.length w3.heap.size (fun t => if t < j + 1 then hit S (Q ++ [(x1, x2)]) t else hit S Q t) := hn0.heap rfl
                              obtain ⟨wz, hwz⟩ : ∃ wz, wz = (W.setCell ⟨gu, j, none⟩ (.bool true)).drew := ⟨_, rfl⟩
                              have hbz : Below w3.heap.size w3 wz := by rw [hwz]; exact ((HBW.out).setCell (p := ⟨gu, j, none⟩) hgu _).drew
                              clear hn0
                              rw [← hwz] at hn ⊢
                              have HN := Lib.hid hn; have HBZ := Lib.hid hbz
                              clear hn hwz hbz HNEW w1 f1'
                              refine hK _ _ (fun h => absurd h (by decide)) ?_
                              clear hK K0
                              refine wpAnyT_done (by kernel_rfl) ?_ _
                              refine only_mk ?_
                              clear HW1 HFZ HS0' HC0' HG0' HG1'
                              go_wp2_with fail
                              go_meet
                              exact ⟨by simp, by simp, HN.out, HBZ.out⟩
                            | false =>
                              refine wpAnyT_pick (S := (fun U => Below W.heap.size W U)) (by kernel_rfl) Only.panic Only.keepsIn (w := W.drew) (Below.refl _ _).drew [0, 1, 2, 3, 4, 5, 6, 7, 8, 9, 10, 11, 12, 13, 14, 15, 16, 17, 18, 19, 20, 21, 22, 23, 24, 25, 26, 27, 28, 29, 30, 31, 32, 33, 34, 35, 36, 37, 38] 1 _ _ (by kernel_rfl) ?_
                              refine PickT.value (d := some 103) (.slice (some ⟨gu, 0, none⟩) S.length cu) rfl rfl (by kernel_rfl) (fun U hU => (by go_simp)) ?_
                              refine PickT.value (d := some 104) (.int .i64 (j : Int)) rfl rfl (by kernel_rfl) (fun U hU => (by go_simp)) ?_
                              refine PickT.value (d := some 105) (.slice (some ⟨gu, 0, none⟩) S.length cu) rfl rfl (by kernel_rfl) (fun U hU => (by go_simp)) ?_
                              refine PickT.value (d := some 106) (.int .i64 (j : Int)) rfl rfl (by kernel_rfl) (fun U hU => (by go_simp)) ?_
                              refine PickT.value (d := some 107) (.pointer (some ⟨gu, j, none⟩)) rfl rfl (by kernel_rfl) (fun U hU => (by go_simp)) ?_
                              refine PickT.value (d := some 108) (.bool false) rfl rfl (by kernel_rfl) (fun U hU => (by have h0 := keep_at HW1.out hU; go_simp)) ?_
                              refine PickT.value (d := some 109) (.bool false) rfl rfl (by kernel_rfl) (fun U hU => (by go_simp)) ?_
                              refine PickT.value (d := some 110) (.slice (some bd) S.length d) rfl rfl (by kernel_rfl) (fun U hU => (by go_simp)) ?_
                              refine PickT.value (d := some 111) (.int .i64 (j : Int)) rfl rfl (by kernel_rfl) (fun U hU => (by go_simp)) ?_
                              refine PickT.value (d := some 112) (.pointer (some (bd.add j))) rfl rfl (by kernel_rfl) (fun U hU => (by go_simp)) ?_
                              refine PickT.value (d := some 113) (.string sj) rfl rfl (by kernel_rfl) (fun U hU => (by have h0 := keep_at HS0'.out hU; go_simp)) ?_
                              refine PickT.value (d := some 114) (.slice (some ad) n c) rfl rfl (by kernel_rfl) (fun U hU => (by go_simp)) ?_
                              refine PickT.value (d := some 115) (.int .i64 (k : Int)) rfl rfl (by kernel_rfl) (fun U hU => (by go_simp)) ?_
                              refine PickT.value (d := some 116) (.pointer (some (ad.add (k * 4)))) rfl rfl (by kernel_rfl) (fun U hU => (by go_simp)) ?_
                              refine PickT.value (d := some 117) (.pointer (some (ad.add (k * 4)))) rfl rfl (by kernel_rfl) (fun U hU => (by go_simp)) ?_
                              refine PickT.value (d := some 118) (.slice (some ad2) l.length (q k).c) rfl rfl (by kernel_rfl) (fun U hU => (by have h0 := keep_at HC0'.out hU; go_simp)) ?_
                              refine PickT.value (d := some 119) (.int .i64 (m : Int)) rfl rfl (by kernel_rfl) (fun U hU => (by go_simp)) ?_
                              refine PickT.value (d := some 120) (.pointer (some (ad2.add (m * 2)))) rfl rfl (by kernel_rfl) (fun U hU => (by go_simp)) ?_
                              refine PickT.value (d := some 121) (.pointer (some (ad2.add (m * 2)))) rfl rfl (by kernel_rfl) (fun U hU => (by go_simp)) ?_
                              refine PickT.value (d := some 122) (.string x1) rfl rfl (by kernel_rfl) (fun U hU => (by have h0 := keep_at HG0'.out hU; go_simp)) ?_
                              refine PickT.value (d := some 123) (.bool false) rfl rfl (by kernel_rfl) (fun U hU => (by have r1' := r1; go_simp)) ?_
                              refine PickT.value (d := some 124) (.bool false) rfl rfl (by kernel_rfl) (fun U hU => (by go_simp)) ?_
                              refine PickT.value (d := some 125) (.bool false) rfl rfl (by kernel_rfl) (fun U hU => (by go_simp)) ?_
                              refine PickT.value (d := some 126) (.slice (some bd) S.length d) rfl rfl (by kernel_rfl) (fun U hU => (by go_simp)) ?_
                              refine PickT.value (d := some 127) (.int .i64 (j : Int)) rfl rfl (by kernel_rfl) (fun U hU => (by go_simp)) ?_
                              refine PickT.value (d := some 128) (.pointer (some (bd.add j))) rfl rfl (by kernel_rfl) (fun U hU => (by go_simp)) ?_
                              refine PickT.value (d := some 129) (.string sj) rfl rfl (by kernel_rfl) (fun U hU => (by have h0 := keep_at HS0'.out hU; go_simp)) ?_
                              refine PickT.value (d := some 130) (.slice (some ad) n c) rfl rfl (by kernel_rfl) (fun U hU => (by go_simp)) ?_
                              refine PickT.value (d := some 131) (.int .i64 (k : Int)) rfl rfl (by kernel_rfl) (fun U hU => (by go_simp)) ?_
                              refine PickT.value (d := some 132) (.pointer (some (ad.add (k * 4)))) rfl rfl (by kernel_rfl) (fun U hU => (by go_simp)) ?_
                              refine PickT.value (d := some 133) (.pointer (some (ad.add (k * 4)))) rfl rfl (by kernel_rfl) (fun U hU => (by go_simp)) ?_
                              refine PickT.value (d := some 134) (.slice (some ad2) l.length (q k).c) rfl rfl (by kernel_rfl) (fun U hU => (by have h0 := keep_at HC0'.out hU; go_simp)) ?_
                              refine PickT.value (d := some 135) (.int .i64 (m : Int)) rfl rfl (by kernel_rfl) (fun U hU => (by go_simp)) ?_
                              refine PickT.value (d := some 136) (.pointer (some (ad2.add (m * 2)))) rfl rfl (by kernel_rfl) (fun U hU => (by go_simp)) ?_
                              refine PickT.value (d := some 137) (.pointer (some ⟨(ad2.add (m * 2)).block, (ad2.add (m * 2)).off + 1, none⟩)) rfl rfl (by kernel_rfl) (fun U hU => (by go_simp)) ?_
                              refine PickT.value (d := some 138) (.string x2) rfl rfl (by kernel_rfl) (fun U hU => (by have h0 := keep_at HG1'.out hU; go_simp)) ?_
                              refine PickT.value (d := some 139) (.bool f2) rfl rfl (by kernel_rfl) (fun U hU => (by have r2' := r2; go_simp)) ?_
                              refine PickT.value (d := some 140) (.bool f2) rfl rfl (by kernel_rfl) (fun U hU => (by go_simp)) ?_
                              refine PickT.value (d := some 141) (.pointer (some ⟨gu, j, none⟩)) rfl rfl (by kernel_rfl) (fun U hU => (by go_simp)) ?_
                              simp only [PickT, Act.put, List.setIfInBounds_toArray, List.set_cons_zero, List.set_cons_succ]
                              have w1 := HW1.out; have f1' := HFZ.out
                              refine wpAnyT_one (i := 39) (by kernel_rfl) rfl (by kernel_rfl) ?_
                              intro K0 hK
                              unfold Oper.wp
                              go_simp
                              have hn0 : BAt (W.drew.setCell ⟨gu, j, none⟩ (.bool f2)) (some ⟨gu, 0, none⟩) S.length w3.heap.size (fun t => if t < j + 1 then hit S (Q ++ [(x1, x2)]) t else hit S Q t) := HNEW.out
                              have hn : BAt (W.setCell ⟨gu, j, none⟩ (.bool f2)).drew (some ⟨gu, 0, none⟩) S.length w3.heap.size (fun t => if t < j + 1 then hit S (Q ++ [(x1, x2)]) t else hit S Q t) := hn0.heap rfl
                              obtain ⟨wz, hwz⟩ : ∃ wz, wz = (W.setCell ⟨gu, j, none⟩ (.bool f2)).drew := ⟨_, rfl⟩
                              have hbz : Below w3.heap.size w3 wz := by rw [hwz]; exact ((HBW.out).setCell (p := ⟨gu, j, none⟩) hgu _).drew
                              clear hn0
                              rw [← hwz] at hn ⊢
                              have HN := Lib.hid hn; have HBZ := Lib.hid hbz
                              clear hn hwz hbz HNEW w1 f1'
                              refine hK _ _ (fun h => absurd h (by decide)) ?_
                              clear hK K0
                              refine wpAnyT_done (by kernel_rfl) ?_ _
                              refine only_mk ?_
                              clear HW1 HFZ HS0' HC0' HG0' HG1'
                              go_wp2_with fail
                              go_meet
                              exact ⟨by simp, by simp, HN.out, HBZ.out⟩

                    case rest =>
                      obtain ⟨rfl, rfl, hn, hbz⟩ := hcut
                      have HN := Lib.hid hn; have HBZ := Lib.hid hbz
                      have HA1F := HA1'.out; have HA2F := HA2'.out
                      clear hn hbz HA1' HA2'
                      go_wp2_with fail
                      go_roundw
                      case rel => exact ⟨j + 1, hjs, rfl, by rw [HA1F], by rw [HA2F], HN.out, HBZ.out⟩
                      case measure => exact meas_lt0 hjs
                  · obtain rfl : j = S.length := Nat.le_antisymm hj (Nat.le_of_not_lt hjs)
                    have d4 : decide ((S.length : Int) < (S.length : Int)) = false := decide_eq_false (Int.lt_irrefl _)
                    have e1 := HE1.out; have e2 := HE2.out
                    go_wp2_with fail
                    go_roundw
                    case rel => exact ⟨m + 1, hml, rfl, by rw [HQX.out]; exact HU3.out.congr (fun t ht => if_pos ht), HB3'.out⟩
                    case measure => exact meas_lt0 hml
              · obtain rfl : m = l.length := Nat.le_antisymm hm (Nat.le_of_not_lt hml)
                have d3 : decide ((l.length : Int) < (l.length : Int)) = false := decide_eq_false (Int.lt_irrefl _)
                go_wp2_with fail
                go_roundw
                case rel => exact ⟨k + 1, hkn, rfl, by rw [HLS.out]; have h := HU2.out; rw [List.take_length] at h; exact h, HB2.out⟩
                case measure => exact meas_lt0 hkn
          · obtain rfl : k = n := Nat.le_antisymm hk (Nat.le_of_not_lt hkn)
            have d2 : decide ((k : Int) < (k : Int)) = false := decide_eq_false (Int.lt_irrefl _)
            obtain ⟨wb, hwb⟩ : ∃ wb, wb = wr := ⟨_, rfl⟩
            subst hwb
            go_wp2_with fail
            go_loopw [13] (fun i wr => ∃ j : Nat, j ≤ S.length ∧ i = .int .i64 j ∧ wb = wr) (fun i _ => S.length - (intOf i).toNat)
            case atStart => exact ⟨0, Nat.zero_le _, rfl, rfl⟩
            case round =>
              obtain ⟨j, hj, rfl, rfl⟩ := hrel
              by_cases hjs : j < S.length
              · have d4 : decide ((j : Int) < (S.length : Int)) = true := decide_eq_true (Int.ofNat_lt.2 hjs)
                obtain ⟨g, cs, rfl, -, hc, hi⟩ := HU.out.is_ (by omega)
                have hcell := (cell_of_row _ _ _ _ _ _ hc).trans (hi j hjs)
                rw [HAL.out j hjs] at hcell
                have i0 : (0 : Int) ≤ (j : Int) := Int.natCast_nonneg _
                have i1 : (j : Int) < (S.length : Int) := Int.ofNat_lt.2 hjs
                have y0 : wb.cell? (Addr.add ⟨g, 0, none⟩ j) = some (.bool true) := by rw [Addr.add_lit, Nat.zero_add]; exact hcell
                clear hc hi
                go_wp2_with fail
                go_roundw
                case rel => exact ⟨j + 1, hjs, rfl, trivial⟩
                case measure => exact meas_lt0 hjs
              · obtain rfl : j = S.length := Nat.le_antisymm hj (Nat.le_of_not_lt hjs)
                have d4 : decide ((S.length : Int) < (S.length : Int)) = false := decide_eq_false (Int.lt_irrefl _)
                have HFIN := Lib.hid (HB3.out.trans (HB.out.mono HB3.out.size))
                go_wp2_with fail
                go_ret
                exact ⟨rfl, HFIN.out⟩
end Go.Proofs.YtliobahnekohmaaGreat
