import Derived.Test.YtliobahnekohmaaGreatIxR
import Derived.Test.YtliobahnekohmaaGreatLaR
import Derived.Test.YtliobahnekohmaaGreatIvD
import Derived.Test.YtliobahnekohmaaGreatIxU
import Derived.Test.YtliobahnekohmaaGreatRob
import Derived.Test.YtliobahnekohmaaGreatLaT
/-
  Who is asked for by postings, as mathematics; rows of places.
-/
namespace Go.Proofs.YtliobahnekohmaaGreat
open Go.RowKit
namespace La
end La
namespace Ix
end Ix
def pcx (L : List Nat) (i _j : Nat) : Value := .int .i64 ((L.getD i 0 : Nat) : Int)
theorem pcx_cells (L : List Nat) : rcells 1 (pcx L) L.length = L.flatMap fun i : Nat => [.int .i64 (i : Int)] := by
 have h1 : ∀ (x : Nat → Nat → Value) (n : Nat), rcells 1 x n = (List.range n).map fun i => x i 0 := by
  intro x n
  induction n with
  | zero => rfl
  | succ n ih => rw [rcells_succ, ih, show List.range (n + 1) = List.range n ++ [n] from List.range_succ, List.map_append]; rfl
 have h2 : ∀ (M : List Nat), (M.flatMap fun i : Nat => [Value.int .i64 (i : Int)]) = M.map fun i : Nat => Value.int .i64 (i : Int) := by
  intro M
  induction M with
  | nil => rfl
  | cons x M ih => rw [List.flatMap_cons, ih]; rfl
 rw [h1, h2]
 apply List.ext_getElem
 · simp
 · intro i h3 h4
   have h5 : i < L.length := by simpa using h3
   simp [pcx, List.getD, h5]
theorem nat_row {w : World} {base : Nat} {v : Value} {L : List Nat} (h : w.ownsRow base 3 1 v L.length (L.flatMap fun i : Nat => [.int .i64 (i : Int)])) : ∃ A c, v = .slice A L.length c ∧ Row 1 (pcx L) w A L.length := by
 rw [← pcx_cells] at h
 obtain ⟨A, c, e, -, -, -, hr⟩ := own_row h
 exact ⟨A, c, e, hr⟩
end Go.Proofs.YtliobahnekohmaaGreat
/-
  The document's labels, in order, each once: the walk.
-/
namespace Go.Proofs.YtliobahnekohmaaGreat
open Go.RowKit
namespace Ix
theorem labIns_at (s : Lab) : ∀ (K : List Lab) (k : Nat), k ≤ K.length → (∀ i, i < k → labLess (La.at_ K i) s = true) → (k = K.length ∨ labLess (La.at_ K k) s = false) →
 labIns s K = if k < K.length ∧ La.at_ K k = s then K else K.take k ++ s :: K.drop k
 | [], k, hk, _, _ => by
  obtain rfl : k = 0 := by simpa using hk
  rfl
 | y :: K, 0, _, _, h => by
  have hl : labLess y s = false := by
   rcases h with h | h
   · simp at h
   · exact h
  unfold labIns
  rw [if_neg (by rw [hl]; decide)]
  by_cases e : y = s
  · rw [if_pos e, if_pos ⟨by simp, e⟩]
  · rw [if_neg e, if_neg (fun h => e h.2)]; rfl
 | y :: K, k + 1, hk, h1, h2 => by
  have hy : labLess y s = true := h1 0 (by omega)
  have ih := labIns_at s K k (by simpa using hk) (fun i hi => h1 (i + 1) (by omega)) (by
   rcases h2 with h | h
   · left; simpa using h
   · right; exact h)
  unfold labIns
  rw [if_pos hy, ih]
  by_cases e : k < K.length ∧ La.at_ K k = s
  · rw [if_pos e, if_pos ⟨by simpa using e.1, e.2⟩]
  · rw [if_neg e, if_neg (fun h => e ⟨by simpa using h.1, h.2⟩)]; rfl
def labAllW (W : List Lab) : List Lab := W.foldl (fun S x => labIns x S) []
theorem labAllW_snoc (W : List Lab) (x : Lab) : labAllW (W ++ [x]) = labIns x (labAllW W) := by unfold labAllW; rw [List.foldl_append]; rfl
theorem labIns_length (x : Lab) : ∀ S : List Lab, (labIns x S).length ≤ S.length + 1
 | [] => Nat.le_refl _
 | y :: S => by
  unfold labIns
  split
  · have := labIns_length x S
    rw [List.length_cons, List.length_cons]; omega
  · split
    · omega
    · exact Nat.le_refl _
theorem labAllW_len (W : List Lab) : (labAllW W).length ≤ W.length := by
 refine foldr_snoc (P := fun W => (labAllW W).length ≤ W.length) (Nat.le_refl _) (fun W x ih => ?_) W
 rw [labAllW_snoc, List.length_append, List.length_singleton]
 have := labIns_length x (labAllW W)
 omega
theorem labAllW_mem (W : List Lab) (y : Lab) : y ∈ labAllW W ↔ y ∈ W := by
 have := (labFold_go W [] List.Pairwise.nil).2 y
 rw [show labAllW W = W.foldl (fun S x => labIns x S) [] from rfl, this]; simp
end Ix
def lkx (K : List Lab) (i j : Nat) : Value := if j = 0 then .string (La.at_ K i).1 else .string (La.at_ K i).2
theorem lkx_one (K : List Lab) (i j : Nat) : (lkx K i j).oneCell' = true := by unfold lkx; split <;> rfl
structure LSl (w : World) (A : Option Addr) (c : Nat) (K : List Lab) : Prop where
 le : K.length ≤ c
 max : c ≤ maxLen
 nil : A = none → K.length = 0 ∧ c = 0
 row : Row 2 (lkx K) w A K.length
theorem LSl.later {w U : World} {A : Option Addr} {c : Nat} {K : List Lab} (h : LSl w A c K) (hb : Below w.heap.size w U) : LSl U A c K := ⟨h.le, h.max, h.nil, h.row.later hb⟩
theorem lkx_cells (K : List Lab) : ∀ n, n ≤ K.length → rcells 2 (lkx K) n = (K.take n).flatMap labC
 | 0, _ => by rw [List.take_zero]; rfl
 | n + 1, h => by
  rw [rcells_succ, lkx_cells K n (by omega), take_lab K h, List.flatMap_append]; rfl
theorem lkx_all (K : List Lab) : rcells 2 (lkx K) K.length = K.flatMap labC := by rw [lkx_cells K K.length (Nat.le_refl _), List.take_length]
theorem lsl_own {w : World} {base : Nat} {v : Value} {K : List Lab} (h : w.ownsRow base 37 2 v K.length (K.flatMap labC)) : ∃ A c, v = .slice A K.length c ∧ LSl w A c K := by
 rw [← lkx_all] at h
 obtain ⟨A, c, e, h1, h2, h3, h4⟩ := own_row h
 exact ⟨A, c, e, h1, h2, h3, h4⟩
theorem lrow_take {w : World} {ad : Addr} {K : List Lab} (h : Row 2 (lkx K) w (some ad) K.length) {k : Nat} (hk : k ≤ K.length) : Row 2 (lkx K) w (some ad) k := fun h0 => by
 obtain ⟨ad2, e, hl, hc⟩ := h (by omega)
 exact ⟨ad2, e, hl, fun i hi => hc i (by omega)⟩
theorem lrow_drop {w : World} {ad : Addr} {K : List Lab} (h : Row 2 (lkx K) w (some ad) K.length) {k : Nat} : Row 2 (lkx (K.drop k)) w (some (ad.add (k * 2))) (K.length - k) := fun h0 => by
 obtain ⟨ad2, e, hl, hc⟩ := h (by omega)
 cases e
 refine ⟨ad.add (k * 2), rfl, by rw [addr_block]; exact hl, fun i hi j hj => ?_⟩
 have e2 : lkx (K.drop k) i j = lkx K (k + i) j := by unfold lkx La.at_; rw [List.getD_eq_getElem?_getD, List.getD_eq_getElem?_getD, List.getElem?_drop]
 rw [e2, Go.Deep.add_add]
 have := hc (k + i) (by omega) j hj
 rw [show k * 2 + (i * 2 + j) = (k + i) * 2 + j by omega]
 exact this
theorem lab_ins_own {w : World} {base k : Nat} {v : Value} {K : List Lab} {s : Lab} (hk : k ≤ K.length) (h : w.ownsRow base 37 2 v (k + 1 + (K.length - k)) (((K.take k).flatMap labC ++ rcells 2 (lx2 s) 1) ++ rcells 2 (lkx (K.drop k)) (K.length - k))) : w.ownsRow base 37 2 v (K.take k ++ s :: K.drop k).length ((K.take k ++ s :: K.drop k).flatMap labC) := by
 have e1 := lkx_all (K.drop k)
 rw [List.length_drop] at e1
 rw [e1] at h
 have e2 : (K.take k ++ s :: K.drop k).length = k + 1 + (K.length - k) := by
  rw [List.length_append, List.length_take, List.length_cons, List.length_drop, Nat.min_eq_left hk]; omega
 have e3 : (K.take k ++ s :: K.drop k).flatMap labC = ((K.take k).flatMap labC ++ rcells 2 (lx2 s) 1) ++ (K.drop k).flatMap labC := by
  rw [List.flatMap_append, List.flatMap_cons, List.append_assoc]; rfl
 rw [e2, e3]; exact h
structure LShort (W : List Lab) (n : Nat) : Prop where
 few : W.length ≤ n
 small : ∀ y ∈ W, y.1.size ≤ 20000 ∧ y.2.size ≤ 20000
theorem LShort.snoc {W : List Lab} {n : Nat} {x : Lab} (h : LShort W n) (hx : x.1.size ≤ 20000 ∧ x.2.size ≤ 20000) : LShort (W ++ [x]) (n + 1) :=
 ⟨by rw [List.length_append]; exact Nat.succ_le_succ h.few, fun y hy => by
  rcases List.mem_append.1 hy with hy | hy
  · exact h.small y hy
  · rw [List.mem_singleton.1 hy]; exact hx⟩
theorem LShort.all {W : List Lab} {n : Nat} (h : LShort W n) (hn : n ≤ 100000) : (Ix.labAllW W).length ≤ 100000 ∧ ∀ i, i < (Ix.labAllW W).length → (La.at_ (Ix.labAllW W) i).1.size ≤ 20000 ∧ (La.at_ (Ix.labAllW W) i).2.size ≤ 20000 := by
 refine ⟨Nat.le_trans (Ix.labAllW_len W) (Nat.le_trans h.few hn), fun i hi => ?_⟩
 have e : La.at_ (Ix.labAllW W) i = (Ix.labAllW W)[i] := by unfold La.at_; simp [List.getD, hi]
 rw [e]
 exact h.small _ ((Ix.labAllW_mem W _).1 (List.getElem_mem hi))
theorem lab_same (x y : Lab) : ∀ W, (Op.equalIn 10000 37 (.agg #[.string x.1, .string x.2]) (.agg #[.string y.1, .string y.2])).run Tryz.prog W = .ok (decide (x = y)) W := fun W => by
 rw [run_equal_lab, str_beq, str_beq]
 congr 1
 rw [Bool.eq_iff_iff, Bool.and_eq_true, decide_eq_true_eq, decide_eq_true_eq, decide_eq_true_eq]
 exact ⟨fun h => Prod.ext h.1 h.2, fun h => ⟨by rw [h], by rw [h]⟩⟩
end Go.Proofs.YtliobahnekohmaaGreat
