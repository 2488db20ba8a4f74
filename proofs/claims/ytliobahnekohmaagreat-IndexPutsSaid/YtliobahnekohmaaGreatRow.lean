/-
  Rows of cells; rows of the call's own; worlds in which blocks of other types stay as they were.
-/
import Derived.Test.YtliobahnekohmaaGreatArr
import Derived.Test.YtliobahnekohmaaGreatRegT
import Derived.Test.YtliobahnekohmaaGreatMaE
import Derived.Laws.AppendOwnNone
import Derived.Laws.OwnMore
import Derived.ArgAppend
import Derived.OwnWalkIn
import Derived.Deep.Slices
import Derived.Deep.SlicePairs
namespace Go.Proofs.YtliobahnekohmaaGreat
open Go.RowKit
def rcells (k : Nat) (x : Nat → Nat → Value) (n : Nat) : List Value := (List.range n).flatMap fun i => (List.range k).map (x i)
theorem rcells_succ (k : Nat) (x : Nat → Nat → Value) (n : Nat) : rcells k x (n + 1) = rcells k x n ++ (List.range k).map (x n) := by
 unfold rcells
 rw [List.range_succ, List.flatMap_append]
 simp
theorem rcells_length (k : Nat) (x : Nat → Nat → Value) : ∀ n, (rcells k x n).length = n * k
 | 0 => by simp [rcells]
 | n + 1 => by rw [rcells_succ, List.length_append, rcells_length k x n, List.length_map, List.length_range, Nat.succ_mul]
theorem rcells_get (k : Nat) (x : Nat → Nat → Value) : ∀ n i j, i < n → j < k → (rcells k x n)[i * k + j]? = some (x i j)
 | n + 1, i, j, hi, hj => by
  rw [rcells_succ]
  by_cases h : i < n
  · have hlt : i * k + j < n * k := by
     have := Nat.mul_le_mul_right k (show i + 1 ≤ n from h)
     rw [Nat.succ_mul] at this
     omega
    rw [List.getElem?_append_left (by rw [rcells_length]; exact hlt)]
    exact rcells_get k x n i j h hj
  · obtain rfl : i = n := by omega
    rw [List.getElem?_append_right (by rw [rcells_length]; omega), rcells_length, Nat.add_sub_cancel_left]
    simp [hj]
theorem rcells_one {k : Nat} {x : Nat → Nat → Value} (hx : ∀ i j, (x i j).oneCell' = true) (n : Nat) : ∀ v ∈ rcells k x n, v.oneCell' = true := by
 intro v hv
 unfold rcells at hv
 obtain ⟨i, -, h⟩ := List.mem_flatMap.1 hv
 obtain ⟨j, -, rfl⟩ := List.mem_map.1 h
 exact hx i j
theorem Row.cells {k : Nat} {x : Nat → Nat → Value} {w : World} {ad : Addr} {n : Nat} (hk : 0 < k) (h : Row k x w (some ad) n) : ∀ j u, (rcells k x n)[j]? = some u → w.cell? (ad.add j) = some u := by
 intro j u hu
 have hj : j < n * k := by
  rcases Nat.lt_or_ge j (n * k) with h | h
  · exact h
  · rw [List.getElem?_eq_none (by rw [rcells_length]; exact h)] at hu; cases hu
 have hi : j / k < n := (Nat.div_lt_iff_lt_mul hk).2 hj
 obtain ⟨ad2, e, _, hc⟩ := h (Nat.lt_of_le_of_lt (Nat.zero_le _) hi)
 cases e
 have hg := rcells_get k x n (j / k) (j % k) hi (Nat.mod_lt _ hk)
 have hjj : j / k * k + j % k = j := by rw [Nat.mul_comm]; exact Nat.div_add_mod j k
 rw [hjj, hu] at hg
 have := hc (j / k) hi (j % k) (Nat.mod_lt _ hk)
 rw [hjj] at this
 rw [this]; exact hg.symm
theorem own_row {w : World} {base e k n : Nat} {v : Value} {x : Nat → Nat → Value} (h : w.ownsRow base e k v n (rcells k x n)) : ∃ A c, v = .slice A n c ∧ n ≤ c ∧ c ≤ maxLen ∧ (A = none → n = 0 ∧ c = 0) ∧ Row k x w A n := by
 rcases h.2 with ⟨rfl, h0⟩ | ⟨g, cap, cur, rfl, hb, hg, hc, hm, _⟩
 · exact ⟨none, 0, by rw [h0], by omega, by unfold maxLen; omega, fun _ => ⟨h0, rfl⟩, fun hn => by omega⟩
 · refine ⟨some ⟨g, 0, none⟩, cap, rfl, hc, hm, (fun h => by cases h), fun _ => ⟨⟨g, 0, none⟩, rfl, (Array.getElem?_eq_some_iff.1 hg).1, fun i hi j hj => ?_⟩⟩
   have hlt : i * k + j < n * k := by
    have := Nat.mul_le_mul_right k (show i + 1 ≤ n from hi)
    rw [Nat.succ_mul] at this
    omega
   rw [Addr.add_lit, Nat.zero_add, World.ownsRow.cellAt h _ hlt]
   exact rcells_get k x n i j hi hj
theorem row_kept {W W2 : World} {base e k n : Nat} {v : Value} {xs : List Value} {row : Option Nat} (h : W.ownsRow base e k v n xs) (hg : W.grownBy W2 row) (hr : ∀ r, row = some r → v.ownBlock ≠ some r) : W2.ownsRow base e k v n xs := by
 refine ⟨h.1, ?_⟩
 rcases h.2 with h0 | ⟨g, cap, cur, rfl, hb, hc, hx⟩
 · exact Or.inl h0
 · refine Or.inr ⟨g, cap, cur, rfl, hb, (hg.block g (Array.getElem?_eq_some_iff.1 hc).1 (fun e1 => ?_)).trans hc, hx⟩
   exact hr g e1.symm rfl
theorem row_far {W W2 : World} {base e k n : Nat} {v : Value} {xs : List Value} (h : W.ownsRow base e k v n xs) (hb : Below W.heap.size W W2) : W2.ownsRow base e k v n xs := row_kept h (grown_of_below (row := none) hb) (fun r e => by cases e)
theorem row_apart {W : World} {b1 b2 e1 e2 k1 k2 n1 n2 : Nat} {v1 v2 : Value} {x1 x2 : List Value} (h1 : W.ownsRow b1 e1 k1 v1 n1 x1) (h2 : W.ownsRow b2 e2 k2 v2 n2 x2) (hne : e1 ≠ e2) {r : Nat} (hr : v2.ownBlock = some r) : v1.ownBlock ≠ some r := by
 intro h
 rcases h1.2 with ⟨rfl, -⟩ | ⟨g1, c1, cur1, rfl, -, hc1, -⟩
 · cases h
 · rcases h2.2 with ⟨rfl, -⟩ | ⟨g2, c2, cur2, rfl, -, hc2, -⟩
   · cases hr
   · have a : some g1 = some r := h
     have b : some g2 = some r := hr
     cases a
     cases b
     rw [hc1] at hc2
     cases hc2
     exact hne rfl
def Keeps (Ts : List TypeId) (W W2 : World) : Prop := ∀ (g : Nat) (o : Obj), W.heap[g]? = some o → (∀ cs T fr, o = Obj.cells cs T fr → T ∉ Ts) → W2.heap[g]? = some o
theorem Keeps.refl (Ts : List TypeId) (W : World) : Keeps Ts W W := fun _ _ h _ => h
theorem Keeps.trans {Ts : List TypeId} {W W2 W3 : World} (h : Keeps Ts W W2) (h2 : Keeps Ts W2 W3) : Keeps Ts W W3 := fun g o ho hn => h2 g o (h g o ho hn) hn
theorem Keeps.below {Ts : List TypeId} {W W2 : World} (hb : Below W.heap.size W W2) : Keeps Ts W W2 := fun _ _ h _ => heap_keep h hb
theorem wp_append_row {o : Oper} {a : Act} {K : Act → World → Prop} {Q : Exit → Act → World → Prop} (w : World) (s y : Operand) (T E : TypeId)
 (ho : o.op = .call { callee := .builtin .append, args := #[s, y], argTypes := #[T, T] })
 (k by_ : Nat) (z : Value) (ht : Tryz.prog.underlying T = some (.slice E)) (hinfo : (Tryz.prog.info? E).map (fun i => (i.zero, i.size, i.bytes)) = some (some z, k, by_)) (hzs : z.cells.size = k) (hk : 0 < k) (hby : by_ ≤ 1000)
 (base : Nat) (v : Value) (n0 : Nat) (xs : List Value) (hs : a.eval s = v) (hown : w.ownsRow base E k v n0 xs)
 (ad : Addr) (n c : Nat) (x : Nat → Nat → Value) (hx1 : ∀ i j, (x i j).oneCell' = true) (hy : a.eval y = .slice (some ad) n c) (hA : Row k x w (some ad) n) (hsz : n0 + n ≤ 1000000) (hbase : base ≤ w.heap.size)
 (h : ∀ v' w', w'.ownsRow base E k v' (n0 + n) (xs ++ rcells k x n) → w.grownBy w' v.ownBlock → (v' = .slice none 0 0 ↔ v = .slice none 0 0 ∧ n = 0) → K (a.put o.dst v') w') : o.wp Tryz.prog a w K Q := by
 obtain ⟨i0, hi0, hz0, hz1, hz2⟩ := info_parts hinfo
 have hb2 : (n0 + n) * by_ ≤ 1000000 * 1000 := Nat.mul_le_mul hsz hby
 exact wp_append_own w s y T ho base E i0 z k by_ ht hi0 hz0 hz1 hz2 hzs hk v n0 xs hs hown ad n c (rcells k x n) hy (rcells_length k x n) (hA.cells hk) (rcells_one hx1 n) (by unfold maxLen; omega) (by omega) hbase (fun v' w' h1 h2 h3 => h v' w' h1 h2 h3)
theorem row_built (k : Nat) (x : Nat → Nat → Value) (W : World) (cs : Array Value) (T : TypeId) (hc : ∀ j, j < k → cs[j]? = some (x 0 j)) : Row k x (W.alloc (.cells cs T)) (some ⟨W.heap.size, 0, none⟩) 1 := fun _ => ⟨⟨W.heap.size, 0, none⟩, rfl, by simp, fun i hi j hj => by
 obtain rfl : i = 0 := by omega
 rw [Addr.add_lit, Nat.zero_mul, Nat.zero_add, Nat.zero_add]
 exact cell_of_row _ _ _ _ _ _ (by rw [heap_alloc_new W _]) |>.trans (by simpa using hc j hj)⟩
theorem block_other {W : World} {b1 e k m g : Nat} {u : Value} {xs : List Value} {cs : Array Value} {T : TypeId} {fr : Nat × Nat} (ho : W.ownsRow b1 e k u m xs) (hc : W.heap[g]? = some (.cells cs T fr)) (hne : T ≠ e) : u.ownBlock ≠ some g := by
 intro e2
 rcases ho.2 with ⟨rfl, -⟩ | ⟨g1, c1, cur1, rfl, -, hc1, -⟩
 · cases e2
 · have a : some g1 = some g := e2
   cases a
   rw [hc] at hc1
   cases hc1
   exact hne rfl
end Go.Proofs.YtliobahnekohmaaGreat
