import Derived.Test.YtliobahnekohmaaGreatIxN
import Derived.Lib.SlicesCompact
import Derived.Lib.SortBridge
import Derived.Sort.Walk0
import Derived.Test.YtliobahnekohmaaGreatIwA
import Derived.Test.YtliobahnekohmaaGreatShelfS
import Derived.Laws.AppendOwnNone
import Derived.Laws.OwnMore
/-
  Symbols: what sorting and compacting come to.
-/
namespace Go.Proofs.YtliobahnekohmaaGreat
open Go.RowKit
namespace Ix
theorem byte_lt (a b : ByteArray) : La.less a b = decide (a.data.toList < b.data.toList) := by
 unfold La.less
 rw [bytesLess_eq, Lib.toList_data, Lib.toList_data]
theorem compact_go {zs : List (List UInt8)} (hs : zs.Pairwise (· ≤ ·)) : ∀ m, m ≤ zs.length →
 (Lib.compactUpTo zs.toArray m).Pairwise (· < ·) ∧ (∀ x, x ∈ Lib.compactUpTo zs.toArray m ↔ ∃ j, j < m ∧ zs.toArray[j]! = x) ∧ ∀ x ∈ Lib.compactUpTo zs.toArray m, 0 < m ∧ x ≤ zs.toArray[m - 1]!
 | 0, _ => by
  have e : Lib.compactUpTo zs.toArray 0 = [] := rfl
  rw [e]
  exact ⟨List.Pairwise.nil, fun x => ⟨fun h => (by cases h), fun ⟨j, hj, _⟩ => absurd hj (Nat.not_lt_zero j)⟩, fun x hx => by cases hx⟩
 | m + 1, hm => by
  obtain ⟨h1, h2, h3⟩ := compact_go hs m (by omega)
  have hget : ∀ i, i < zs.length → zs.toArray[i]! = zs.getD i [] := fun i hi => by simp [getElem!_pos, hi, List.getD]
  have hle : 0 < m → zs.toArray[m - 1]! ≤ zs.toArray[m]! := fun h0 => by
   rw [hget (m - 1) (by omega), hget m (by omega)]
   have := List.pairwise_iff_getElem.1 hs (m - 1) m (by omega) (by omega) (by omega)
   simpa [List.getD, show m - 1 < zs.length by omega, show m < zs.length by omega] using this
  rw [Lib.compactUpTo_succ]
  by_cases hk : m = 0 ∨ zs.toArray[m]! ≠ zs.toArray[m - 1]!
  · have hkp : Lib.keeps zs.toArray m = true := decide_eq_true hk
    rw [hkp, if_pos rfl]
    have hlt : ∀ x ∈ Lib.compactUpTo zs.toArray m, x < zs.toArray[m]! := fun x hx => by
     obtain ⟨h0, h4⟩ := h3 x hx
     rcases hk with h5 | h5
     · omega
     · have h6 := hle h0
       rcases Classical.em (zs.toArray[m]! ≤ x) with h7 | h7
       · exact absurd (List.le_antisymm (List.le_trans h7 h4) h6) h5
       · exact List.not_le.1 h7
    refine ⟨List.pairwise_append.2 ⟨h1, List.pairwise_singleton _ _, fun x hx y hy => ?_⟩, fun x => ?_, fun x hx => ⟨by omega, ?_⟩⟩
    · rw [List.mem_singleton.1 hy]; exact hlt x hx
    · rw [List.mem_append, h2, List.mem_singleton]
      constructor
      · rintro (⟨j, hj, e⟩ | e)
        · exact ⟨j, by omega, e⟩
        · exact ⟨m, by omega, e.symm⟩
      · rintro ⟨j, hj, e⟩
        by_cases hjm : j = m
        · subst hjm; exact Or.inr e.symm
        · exact Or.inl ⟨j, by omega, e⟩
    · rw [Nat.add_sub_cancel]
      rcases List.mem_append.1 hx with h | h
      · exact List.le_of_lt (hlt x h)
      · rw [List.mem_singleton.1 h]; exact List.le_refl _
  · have hm0 : 0 < m := by
     rcases Nat.eq_zero_or_pos m with h | h
     · exact absurd (Or.inl h) hk
     · exact h
    have he : zs.toArray[m]! = zs.toArray[m - 1]! := by
     rcases Classical.em (zs.toArray[m]! = zs.toArray[m - 1]!) with h | h
     · exact h
     · exact absurd (Or.inr h) hk
    rw [Lib.keeps_neg hm0 he, if_neg Bool.false_ne_true, List.append_nil]
    refine ⟨h1, fun x => ?_, fun x hx => ⟨by omega, ?_⟩⟩
    · rw [h2]
      constructor
      · rintro ⟨j, hj, e⟩; exact ⟨j, by omega, e⟩
      · rintro ⟨j, hj, e⟩
        by_cases hjm : j = m
        · subst hjm; exact ⟨j - 1, by omega, by rw [← e, he]⟩
        · exact ⟨j, by omega, e⟩
    · rw [Nat.add_sub_cancel, he]
      exact (h3 x hx).2
theorem compact_sorted {zs : List (List UInt8)} (hs : zs.Pairwise (· ≤ ·)) : (Lib.compact zs).Pairwise (· < ·) ∧ ∀ x, x ∈ Lib.compact zs ↔ x ∈ zs := by
 obtain ⟨h1, h2, -⟩ := compact_go hs zs.length (Nat.le_refl _)
 refine ⟨h1, fun x => ?_⟩
 show x ∈ Lib.compactUpTo zs.toArray zs.length ↔ _
 rw [h2]
 constructor
 · rintro ⟨j, hj, rfl⟩
   simp [getElem!_pos, hj]
 · intro h
   obtain ⟨j, hj, rfl⟩ := List.getElem_of_mem h
   exact ⟨j, hj, by simp [getElem!_pos, hj]⟩
def mk (l : List UInt8) : ByteArray := ⟨l.toArray⟩
theorem mk_data (l : List UInt8) : (mk l).data.toList = l := by simp [mk]
theorem data_mk (s : ByteArray) : mk s.data.toList = s := by simp [mk]
theorem sorted_syms (W : List ByteArray) : Lib.compact ((W.map (·.data.toList)).mergeSort fun x y => decide (x ≤ y)) = (insAll W).map (·.data.toList) := by
 have hs : ((W.map (·.data.toList)).mergeSort fun x y => decide (x ≤ y)).Pairwise (· ≤ ·) := by
  have := List.pairwise_mergeSort (le := fun (x y : List UInt8) => decide (x ≤ y)) (fun a b c h1 h2 => decide_eq_true (List.le_trans (of_decide_eq_true h1) (of_decide_eq_true h2))) (fun a b => by simpa using List.le_total a b) (W.map (·.data.toList))
  exact this.imp (fun h => of_decide_eq_true h)
 obtain ⟨h1, h2⟩ := compact_sorted hs
 have hT : (Lib.compact ((W.map (·.data.toList)).mergeSort fun x y => decide (x ≤ y))).map mk = insAll W := by
  refine rising_unique ?_ (insAll_rising W) (fun y => ?_)
  · unfold Rising
    rw [List.pairwise_map]
    refine h1.imp (fun {a b} h => ?_)
    rw [byte_lt, mk_data, mk_data]
    exact decide_eq_true h
  · rw [insAll_mem, List.mem_map]
    constructor
    · rintro ⟨l, hl, rfl⟩
      have := List.mem_mergeSort.1 ((h2 l).1 hl)
      obtain ⟨s, hs, rfl⟩ := List.mem_map.1 this
      rw [data_mk]; exact hs
    · intro hy
      exact ⟨y.data.toList, (h2 _).2 (List.mem_mergeSort.2 (List.mem_map.2 ⟨y, hy, rfl⟩)), data_mk y⟩
 rw [← hT, List.map_map]
 have : ((fun x : ByteArray => x.data.toList) ∘ mk) = id := by funext l; exact mk_data l
 rw [this, List.map_id]
end Ix
end Go.Proofs.YtliobahnekohmaaGreat
/-
  All names and values: the walk of Symbols.
-/
namespace Go.Proofs.YtliobahnekohmaaGreat
open Go.RowKit
def kx (K : List ByteArray) (i : Nat) (_ : Nat) : Value := .string (K.getD i ByteArray.empty)
structure SRow (w : World) (B : Option Addr) (K : List ByteArray) : Prop where
 row : Row 1 (kx K) w B K.length
 typ : 0 < K.length → ∀ ad, B = some ad → ∃ cs fr, w.heap[ad.block]? = some (.cells cs 9 fr)
theorem SRow.later {w w2 : World} {B : Option Addr} {K : List ByteArray} (h : SRow w B K) (hb : Below w.heap.size w w2) : SRow w2 B K :=
 ⟨h.row.later hb, fun h0 ad e => by obtain ⟨cs, fr, hc⟩ := h.typ h0 ad e; exact ⟨cs, fr, heap_keep hc hb⟩⟩
theorem infoT : (Tryz.prog.info? 9).map (fun i => (i.zero, i.size, i.bytes)) = some (some (.string ByteArray.empty), 1, 16) := by kernel_rfl
theorem wpList_append_row {ops : Array Oper} {rest : List Oper} {o : Oper} {a : Act} {Q : Exit → Act → World → Prop} (w : World) (hgd : o.guard = none) (s y : Operand) (T E : TypeId)
 (ho : o.op = .call { callee := .builtin .append, args := #[s, y], argTypes := #[T, T] })
 (k by_ : Nat) (z : Value) (ht : Tryz.prog.underlying T = some (.slice E)) (hinfo : (Tryz.prog.info? E).map (fun i => (i.zero, i.size, i.bytes)) = some (some z, k, by_)) (hzs : z.cells.size = k) (hk : 0 < k) (hby : by_ ≤ 1000)
 (base : Nat) (v : Value) (n0 : Nat) (xs : List Value) (hs : a.eval s = v) (hown : w.ownsRow base E k v n0 xs)
 (ad : Addr) (n c : Nat) (x : Nat → Nat → Value) (hx1 : ∀ i j, (x i j).oneCell' = true) (hy : a.eval y = .slice (some ad) n c) (hA : Row k x w (some ad) n) (hsz : n0 + n ≤ 1000000) (hbase : base ≤ w.heap.size)
 (h : ∀ v' w', w'.ownsRow base E k v' (n0 + n) (xs ++ rcells k x n) → w.grownBy w' v.ownBlock → wpList Tryz.prog ops Q rest (a.put o.dst v') w') : wpList Tryz.prog ops Q (o :: rest) a w := by
 obtain ⟨i0, hi0, hz0, hz1, hz2⟩ := info_parts hinfo
 have hb2 : (n0 + n) * by_ ≤ 1000000 * 1000 := Nat.mul_le_mul hsz hby
 exact wpList_append_own w hgd s y T ho base E i0 z k by_ ht hi0 hz0 hz1 hz2 hzs hk v n0 xs hs hown ad n c (rcells k x n) hy (rcells_length k x n) (hA.cells hk) (rcells_one hx1 n) (by unfold maxLen; omega) (by omega) hbase (fun v' w' h1 h2 _ => h v' w' h1 h2)
theorem setCells_typed (b : Nat) {T : TypeId} : ∀ (vs : List Value) (o : Nat) (w : World) (cs : Array Value), w.heap[b]? = some (.cells cs T (0, 0)) → ∃ cs', (w.setCells b o vs).heap[b]? = some (.cells cs' T (0, 0))
 | [], _, _, cs, h => ⟨cs, h⟩
 | v :: r, o, w, _, h => setCells_typed b r (o + 1) _ _ (heap_setCell_same w b o _ T v h)
theorem below_cells {B b : Nat} {a : World} (hb : B ≤ b) : ∀ (vs : List Value) (o : Nat) (w : World), Below B a w → Below B a (w.setCells b o vs)
 | [], _, _, h => h
 | v :: r, o, _, h => below_cells hb r (o + 1) _ (h.setCell (p := ⟨b, o, none⟩) hb v)
theorem size_cells (b : Nat) : ∀ (vs : List Value) (o : Nat) (w : World), (w.setCells b o vs).heap.size = w.heap.size
 | [], _, _ => rfl
 | v :: r, o, w => by
  show ((w.setCell ⟨b, o, none⟩ v).setCells b (o + 1) r).heap.size = _
  rw [size_cells b r (o + 1)]
  simp [World.setCell]
theorem drewN_below (B : Nat) (w : World) (n : Nat) : Below B w (w.drewN n) := ⟨rfl, rfl, rfl, Nat.le_refl _, fun _ _ => rfl⟩
theorem holds_row {w : World} {base g cap : Nat} {K : List ByteArray} {cur : Array Value} (ho : w.ownsRow base 9 1 (.slice (some ⟨g, 0, none⟩) K.length cap) K.length (K.map .string)) (hc : w.heap[g]? = some (.cells cur 9 (0, 0))) : Go.Sort.Holds encStr w g 0 (K.map (·.data.toList)).toArray := by
 intro j hj
 have hj' : j < K.length := by simpa using hj
 refine ⟨?_, frozen_of_row _ _ _ _ _ hc⟩
 rw [Nat.zero_add, World.ownsRow.cellAt ho j (by omega)]
 simp [hj', encStr]
theorem words_map_app (K : List ByteArray) (a b : ByteArray) : K.map Value.string ++ [.string a, .string b] = (K ++ [a, b]).map Value.string := by simp
set_option maxHeartbeats 1000000 in
theorem sortS_any (base g cap : Nat) (K : List ByteArray) (hK : 0 < K.length) (hbig : K.length ≤ 1000000) (w : World) (hg : base ≤ g) (ho : w.ownsRow base 9 1 (.slice (some ⟨g, 0, none⟩) K.length cap) K.length (K.map .string)) {cur : Array Value} (hc : w.heap[g]? = some (.cells cur 9 (0, 0))) :
 Calls Tryz.prog 51 #[.slice (some ⟨g, 0, none⟩) K.length cap] w fun e w' => e = .returned (.tuple #[]) ∧ Go.Sort.Holds encStr w' g 0 ((K.map (·.data.toList)).mergeSort fun x y => decide (x ≤ y)).toArray ∧ (∃ cs, w'.heap[g]? = some (.cells cs 9 (0, 0))) ∧ Below base w w' := by
 have hH := holds_row ho hc
 have hlt := (Array.getElem?_eq_some_iff.1 hc).1
 have := Tryz.slices_Sort_string g 0 cap (K.map (·.data.toList)) w hH hlt (by rw [List.length_map]; omega)
 rw [List.length_map] at this
 refine this.mono ?_
 rintro e w' ⟨rfl, n, os, rfl⟩
 have hl : ((K.map (·.data.toList)).mergeSort fun x y => decide (x ≤ y)).length = (K.map (·.data.toList)).toArray.size := by simp
 have hH2 := Go.Sort.holds_putRow encStr (Go.Sort.ahead w n) g 0 _ ((K.map (·.data.toList)).mergeSort fun x y => decide (x ≤ y)).toArray (Go.Sort.holds_ahead _ w n g 0 _ hH) (by simp)
 have he := Go.Lib.putRow_eq_setCells encStr w g 0 (K.map (·.data.toList)).toArray ((K.map (·.data.toList)).mergeSort fun x y => decide (x ≤ y)) n hH hl
 rw [he] at hH2 ⊢
 have hb1 : Below base w ((w.drewN n).setCells g 0 (((K.map (·.data.toList)).mergeSort fun x y => decide (x ≤ y)).map encStr)) := below_cells hg _ _ _ (drewN_below base w n)
 have hsz : ((w.drewN n).setCells g 0 (((K.map (·.data.toList)).mergeSort fun x y => decide (x ≤ y)).map encStr)).heap.size = w.heap.size := by
  rw [size_cells]; rfl
 obtain ⟨cs, hcs⟩ := setCells_typed g (((K.map (·.data.toList)).mergeSort fun x y => decide (x ≤ y)).map encStr) 0 (w.drewN n) cur hc
 generalize (w.drewN n).setCells g 0 (((K.map (·.data.toList)).mergeSort fun x y => decide (x ≤ y)).map encStr) = V at *
 refine ⟨rfl, Go.Sort.holds_grow _ V os g 0 _ (by omega) hH2, ⟨cs, by rw [Go.Sort.heap_grow_old V os (by omega)]; exact hcs⟩, ?_⟩
 refine hb1.trans ⟨rfl, rfl, rfl, by rw [Go.Sort.size_grow]; omega, fun k hk => Go.Sort.heap_grow_old V os (by omega)⟩
set_option maxHeartbeats 1000000 in
theorem compactS_any (base g cap : Nat) (Z : List (List UInt8)) (hbig : Z.length ≤ 1000000) (w : World) (hg : base ≤ g) (hH : Go.Sort.Holds encStr w g 0 Z.toArray) (hcap : Z.length ≤ cap) {cur : Array Value} (hc : w.heap[g]? = some (.cells cur 9 (0, 0))) :
 Calls Tryz.prog 52 #[.slice (some ⟨g, 0, none⟩) Z.length cap] w fun e w' => e = .returned (.slice (some ⟨g, 0, none⟩) (Lib.compact Z).length cap) ∧ (∀ i, i < (Lib.compact Z).length → w'.cell? ⟨g, i, none⟩ = some (.string (Ix.mk ((Lib.compact Z).getD i [])))) ∧ (∃ cs, w'.heap[g]? = some (.cells cs 9 (0, 0))) ∧ Below base w w' := by
 refine (Tryz.slices_Compact_string g 0 cap Z w hH (by omega) hcap).mono ?_
 rintro e w' ⟨rfl, q, rfl⟩
 have hcl := Go.Lib.compact_length_le Z
 have hl : (Lib.compact Z ++ List.replicate (Z.length - (Lib.compact Z).length) []).length = Z.toArray.size := by
  rw [List.length_append, List.length_replicate, List.size_toArray]; omega
 have hH2 := Go.Sort.holds_putRow encStr (Go.Sort.ahead w q) g 0 _ (Lib.compact Z ++ List.replicate (Z.length - (Lib.compact Z).length) []).toArray (Go.Sort.holds_ahead _ w q g 0 _ hH) (by simpa using hl)
 have he := Go.Lib.putRow_eq_setCells encStr w g 0 Z.toArray (Lib.compact Z ++ List.replicate (Z.length - (Lib.compact Z).length) []) q hH hl
 rw [he] at hH2 ⊢
 obtain ⟨cs, hcs⟩ := setCells_typed g ((Lib.compact Z ++ List.replicate (Z.length - (Lib.compact Z).length) []).map encStr) 0 (w.drewN q) cur hc
 refine ⟨rfl, fun i hi => ?_, ⟨cs, hcs⟩, below_cells hg _ _ _ (drewN_below base w q)⟩
 have := (hH2 i (by simp; omega)).1
 rw [Nat.zero_add] at this
 rw [this]
 simp [encStr, Ix.mk, hi, getElem!_pos, List.getD, show i < (Lib.compact Z).length + (Z.length - (Lib.compact Z).length) by omega]
def wordsL (l : List Lab) : List ByteArray := l.flatMap fun x => [x.1, x.2]
theorem words_succ (q : Nat → EAt) (k : Nat) : Ix.words (entL q (k + 1)) = Ix.words (entL q k) ++ wordsL (q k).e.l := by
 rw [entL_succ]
 unfold Ix.words wordsL
 rw [List.flatMap_append]
 simp
theorem wordsL_succ (l : List Lab) {j : Nat} (hj : j < l.length) : wordsL (l.take (j + 1)) = wordsL (l.take j) ++ [(La.at_ l j).1, (La.at_ l j).2] := by
 unfold wordsL
 rw [List.take_add_one, List.getElem?_eq_getElem hj, List.flatMap_append]
 have e : La.at_ l j = l[j] := by unfold La.at_; simp [List.getD, hj]
 rw [e]
 simp
def two (a b : ByteArray) (i : Nat) (_ : Nat) : Value := if i = 0 then .string a else .string b
theorem two_one (a b : ByteArray) (i j : Nat) : (two a b i j).oneCell' = true := by unfold two; split <;> rfl
theorem two_cells (a b : ByteArray) : rcells 1 (two a b) 2 = [.string a, .string b] := rfl
theorem two_row (w : World) (a b : ByteArray) (T : TypeId) : Row 1 (two a b) (w.alloc (.cells #[.string a, .string b] T)) (some ⟨w.heap.size, 0, none⟩) 2 := fun _ => ⟨⟨w.heap.size, 0, none⟩, rfl, by simp, fun i hi j hj => by
 obtain rfl : j = 0 := by omega
 rw [Addr.add_lit, Nat.zero_add, Nat.mul_one, Nat.add_zero]
 have hc := heap_alloc_new w (.cells #[.string a, .string b] T)
 rw [cell_of_row _ _ _ _ _ _ hc]
 rcases (show i = 0 ∨ i = 1 by omega) with rfl | rfl <;> rfl⟩
theorem wordsL_length (l : List Lab) : (wordsL l).length = 2 * l.length := by
 unfold wordsL
 induction l with
 | nil => rfl
 | cons x l ih => rw [List.flatMap_cons, List.length_append, ih, List.length_cons]; simp; omega
theorem words_bound (q : Nat → EAt) {n : Nat} (h : ∀ i, i < n → (q i).e.l.length ≤ 300) : ∀ k, k ≤ n → (Ix.words (entL q k)).length ≤ 600 * k
 | 0, _ => Nat.le_refl _
 | k + 1, hk => by
  have ih := words_bound q h k (by omega)
  have h1 := h k (by omega)
  rw [words_succ, List.length_append, wordsL_length]
  omega
set_option maxRecDepth 100000 in
set_option maxHeartbeats 8000000 in
theorem Symbols_any (A : Option Addr) (n c : Nat) (q : Nat → EAt) (w : World) (h : EntsIn w A n q) :
 Calls Tryz.prog 19 #[.slice A n c] w fun e w' => ∃ B d, e = .returned (.slice B (Ix.syms (entL q n)).length d) ∧ SRow w' B (Ix.syms (entL q n)) ∧ Below w.heap.size w w' := by
 have HA := Lib.hid h
 have hn := h.len
 have HWB := Lib.hid (words_bound q (n := n) (fun i hi => (h.each i hi).len))
 have HEND := Lib.hid (Ix.sorted_syms (Ix.words (entL q n)))
 clear h
 go_enter Tryz.func19, Tryz.ntmps19
 go_wp2_with fail
 go_loopw [3, 10] (fun o i wr => ∃ (k : Nat) (ov : Value), k ≤ n ∧ i = .int .i64 k ∧ ov = o ∧ wr.ownsRow w.heap.size 9 1 ov (Ix.words (entL q k)).length ((Ix.words (entL q k)).map .string) ∧ Below w.heap.size w wr) (fun _ i _ => n - (intOf i).toNat)
 case atStart => exact ⟨0, _, by omega, rfl, rfl, World.ownsRow_nil _ _ _ _, Below.refl _ _⟩
 case round =>
  obtain ⟨k, ov, hk, rfl, rfl, ho, hb⟩ := hrel
  have HBL := Lib.hid hb; have HO := Lib.hid ho
  clear hb ho
  have i0 : (0 : Int) ≤ (k : Int) := by omega
  by_cases hlt : k < n
  · have i1 : (k : Int) < (n : Int) := by omega
    have dd1 : decide ((k : Int) < (n : Int)) = true := decide_eq_true i1
    obtain ⟨ad, rfl, x0, x1, x2, x3⟩ := HA.out.cells HBL.out hlt
    have hE := (HA.out.each k hlt).later HBL.out
    obtain ⟨w5, hw5⟩ : ∃ w5, w5 = wr.alloc (.cells (entC (q k)) 59) := ⟨_, rfl⟩
    have hb5 : Below wr.heap.size wr w5 := by rw [hw5]; exact (Below.refl _ _).alloc (Nat.le_refl _) _
    have hy5 : w5.heap[wr.heap.size]? = some (.cells (entC (q k)) 59 (0, 0)) := by rw [hw5]; exact heap_alloc_new wr _
    unfold entC at hw5 hy5
    have y0 := cell_of_row _ _ 0 _ _ _ hy5
    simp only [List.getElem?_toArray, List.getElem?_cons_zero] at y0
    obtain ⟨eb, heb⟩ : ∃ eb, eb = wr.heap.size := ⟨_, rfl⟩
    rw [← heb] at y0
    have HO5 := Lib.hid (row_far HO.out hb5); have HB5 := Lib.hid (below_step HBL.out hb5)
    have HLAB := Lib.hid (HA.out.each k hlt).row; have HLN := Lib.hid hE.len
    have hwb := HWB.out k hk
    have HWK := Lib.hid (words_succ q k)
    generalize (q k).e.l = l at *
    generalize (q k).A = LA at *
    generalize Ix.words (entL q k) = W at *
    clear hb5 hy5 hE HO HBL
    go_upto_region 5 with fail
    rw [← hw5, ← heb]
    clear hw5 heb x0 x1 x2 x3
    go_wp2_with fail
    clear y0
    go_loopw [3, 17] (fun o i wr => ∃ j : Nat, j ≤ l.length ∧ i = .int .i64 j ∧ wr.ownsRow w.heap.size 9 1 o (W ++ wordsL (l.take j)).length ((W ++ wordsL (l.take j)).map .string) ∧ Below w.heap.size w wr) (fun _ i _ => l.length - (intOf i).toNat)
    case atStart => exact ⟨0, by omega, rfl, by show World.ownsRow _ _ _ _ _ (W ++ []).length ((W ++ []).map .string); rw [List.append_nil]; exact HO5.out, HB5.out⟩
    case round =>
     obtain ⟨j, hj, rfl, ho, hb⟩ := hrel
     have HO := Lib.hid ho; have HB := Lib.hid hb
     clear ho hb
     have j0 : (0 : Int) ≤ (j : Int) := by omega
     have hll := HLN.out
     by_cases hjl : j < l.length
     · have j1 : (j : Int) < (l.length : Int) := by omega
       have dd2 : decide ((j : Int) < (l.length : Int)) = true := decide_eq_true j1
       obtain ⟨la, rfl, z0, z1⟩ := HLAB.out.at_ HB.out hjl
       have HWS := Lib.hid (wordsL_succ l hjl)
       have hlen : (wordsL (l.take j)).length ≤ 600 := by
        have := HLN.out
        rw [wordsL_length, List.length_take]; omega
       generalize (La.at_ l j).1 = a at *
       generalize (La.at_ l j).2 = b at *
       have hsz : (W ++ wordsL (l.take j)).length ≤ 700000 := by rw [List.length_append]; omega
       obtain ⟨w6, hw6⟩ : ∃ w6, w6 = wr.alloc (.cells #[.string a, .string b] 37) := ⟨_, rfl⟩
       have hb6 : Below wr.heap.size wr w6 := by rw [hw6]; exact (Below.refl _ _).alloc (Nat.le_refl _) _
       have hy6 : w6.heap[wr.heap.size]? = some (.cells #[.string a, .string b] 37 (0, 0)) := by rw [hw6]; exact heap_alloc_new wr _
       have y0 := cell_of_row _ _ 0 _ _ _ hy6; have y1 := cell_of_row _ _ 1 _ _ _ hy6
       simp only [List.getElem?_toArray, List.getElem?_cons_zero, List.getElem?_cons_succ] at y0 y1
       have hb7 : Below w6.heap.size w6 (w6.alloc (.cells #[.string a, .string b] 9)) := (Below.refl _ _).alloc (Nat.le_refl _) _
       have hb67 := below_step hb6 hb7
       have HR7 := Lib.hid (two_row w6 a b 9); have HO7 := Lib.hid (row_far HO.out hb67); have HB7 := Lib.hid (below_step HB.out hb67)
       clear hb6 hy6 hb7 hb67 hlen
       go_upto_region 8 with fail
       rw [← hw6]
       clear hw6 z0 z1
       go_wp2_with (at_builtin; go_must (refine wpList_append_row _ rfl _ _ 40 9 rfl 1 16 (.string ByteArray.empty) Tryz.underlying40 infoT rfl (by decide) (by decide) w.heap.size _ (W ++ wordsL (l.take j)).length ((W ++ wordsL (l.take j)).map .string) rfl HO7.out ⟨w6.heap.size, 0, none⟩ 2 2 (two a b) (two_one a b) rfl HR7.out (by omega) HB7.out.size ?_); intro v8 w8 hown8 hg8; have HO8 := Lib.hid hown8; have HG8 := Lib.hid hg8; clear hown8 hg8)
       go_roundw
       case rel =>
        refine ⟨j + 1, by omega, by go_num, ?_, HB7.out.grown HG8.out HB7.out.size (fun r e => (HO7.out.lt r e).1)⟩
        have h8 := HO8.out
        rw [two_cells, words_map_app] at h8
        rw [HWS.out, ← List.append_assoc]
        have e : (W ++ wordsL (l.take j) ++ [a, b]).length = (W ++ wordsL (l.take j)).length + 2 := by rw [List.length_append]; rfl
        rw [e]
        exact h8
       case measure => simp [intOf]; omega
     · obtain rfl : j = l.length := by omega
       have dd2 : decide ((l.length : Int) < (l.length : Int)) = false := decide_eq_false (by omega)
       have ho := HO.out
       rw [List.take_length, ← HWK.out] at ho
       have HO2 := Lib.hid ho
       clear ho
       go_wp2_with fail
       go_roundw
       case rel => exact ⟨k + 1, _, by omega, by go_num, rfl, HO2.out, HB.out⟩
       case measure => simp [intOf]; omega
  · obtain rfl : k = n := by omega
    have dd1 : decide ((k : Int) < (k : Int)) = false := decide_eq_false (by omega)
    obtain ⟨W, hW⟩ : ∃ W, W = Ix.words (entL q k) := ⟨_, rfl⟩
    have hwl := HWB.out k (Nat.le_refl k)
    have he := HEND.out
    have hs : Ix.syms (entL q k) = Ix.insAll W := by rw [hW]; rfl
    rw [← hW] at HO hwl he
    have HEE := Lib.hid he; have HSY := Lib.hid hs
    clear hW hs he HEND HWB
    rcases Nat.eq_zero_or_pos W.length with hw0 | hw0
    · obtain rfl : W = [] := List.length_eq_zero_iff.1 hw0
      obtain ⟨A0, c0, rfl⟩ : ∃ A0 c0, ov = .slice A0 0 c0 := by
       rcases HO.out.2 with ⟨rfl, -⟩ | ⟨g1, c1, cur1, rfl, -⟩
       · exact ⟨none, 0, rfl⟩
       · exact ⟨_, _, rfl⟩
      go_wp2_with fail
      refine (Tryz.slices_Sort_string_none A0 c0 wr).mono ?_; rintro e w3 ⟨rfl, rfl⟩
      go_wp2_with fail
      refine (Tryz.slices_Compact_string_empty A0 c0 _).mono ?_; rintro e w4 ⟨rfl, rfl⟩
      go_wp2_with fail
      go_ret
      rw [HSY.out]
      exact ⟨A0, c0, rfl, ⟨fun h => absurd h (Nat.lt_irrefl 0), fun h => absurd h (Nat.lt_irrefl 0)⟩, HBL.out⟩
    · rcases HO.out.2 with ⟨rfl, h0⟩ | ⟨g, cap, cur, rfl, hbg, hg, hcap, -, -, -⟩
      · exact absurd h0 (by omega)
      · have HS := Lib.hid (sortS_any w.heap.size g cap W hw0 (by omega) wr hbg HO.out hg)
        have HCP := Lib.hid hcap; have HBG := Lib.hid hbg
        clear hbg hg hcap
        go_wp2_with fail
        refine HS.out.mono ?_; rintro e w3 ⟨rfl, hH3, ⟨cs3, hc3⟩, hb3⟩
        have hzl : ((W.map (·.data.toList)).mergeSort fun x y => decide (x ≤ y)).length = W.length := by simp
        obtain ⟨Z, hZ⟩ : ∃ Z, Z = ((W.map (·.data.toList)).mergeSort fun x y => decide (x ≤ y)) := ⟨_, rfl⟩
        rw [← hZ] at hH3 hzl HEE
        have hcm := compactS_any w.heap.size g cap Z (by omega) w3 HBG.out hH3 (by rw [hzl]; exact HCP.out) hc3
        rw [hzl] at hcm
        have HCM := Lib.hid hcm; have HB3 := Lib.hid (HBL.out.trans hb3)
        clear hZ hH3 hc3 hb3 hcm HS HO
        go_wp2_with fail
        refine HCM.out.mono ?_; rintro e w4 ⟨rfl, hcell, ⟨cs4, hc4⟩, hb4⟩
        have hl : (Lib.compact Z).length = (Ix.insAll W).length := by rw [HEE.out, List.length_map]
        have HSR : Hid (SRow w4 (some ⟨g, 0, none⟩) (Ix.insAll W)) := Lib.hid ⟨fun hn0 => ⟨⟨g, 0, none⟩, rfl, (Array.getElem?_eq_some_iff.1 hc4).1, fun i hi j hj => by
         obtain rfl : j = 0 := by omega
         rw [Addr.add_lit, Nat.zero_add, Nat.mul_one, Nat.add_zero, hcell i (by omega), HEE.out]
         unfold kx
         rw [List.getD_eq_getElem?_getD, List.getD_eq_getElem?_getD, List.getElem?_map, List.getElem?_eq_getElem hi]
         exact congrArg (fun x => some (Value.string x)) (Ix.data_mk _)⟩, fun _ ad e => by cases e; exact ⟨cs4, _, hc4⟩⟩
        have HB4 := Lib.hid (HB3.out.trans hb4)
        clear hcell hc4 hb4
        rw [hl]
        go_wp2_with fail
        go_ret
        rw [HSY.out]
        exact ⟨_, cap, rfl, HSR.out, HB4.out⟩
end Go.Proofs.YtliobahnekohmaaGreat
