import Derived.Test.YtidfanmfibbiiaaTrF
import Derived.Test.YtidfanmfibbiiaaLaR
import Derived.Test.YtidfanmfibbiiaaMapF
import Derived.Laws.AppendOwnNone
import Derived.Laws.CopyRow
import Derived.Laws.CopyOwn
import Derived.DeepKeys4
import Derived.Test.YtidfanmfibbiiaaTrP
import Derived.Lib.LazyBuf
/-
  Rows of cells: appended, copied. What keyOf comes to.
-/
namespace Go.Proofs.Ytidfanmfibbiiaa
open Go.RowKit
/-- a row's cells -/
def rcells (k : Nat) (x : Nat → Nat → Value) (n : Nat) : List Value := (List.range n).flatMap fun i => (List.range k).map (x i)
theorem rcells_succ (k : Nat) (x : Nat → Nat → Value) (n : Nat) : rcells k x (n + 1) = rcells k x n ++ (List.range k).map (x n) := by
  unfold rcells
  rw [List.range_succ, List.flatMap_append]
  simp
theorem rcells_length (k : Nat) (x : Nat → Nat → Value) : ∀ n, (rcells k x n).length = n * k
  | 0 => by simp [rcells]
  | n + 1 => by rw [rcells_succ, List.length_append, rcells_length k x n, List.length_map, List.length_range, Nat.succ_mul]
theorem rcells_get (k : Nat) (x : Nat → Nat → Value) : ∀ n i j, i < n → j < k → (rcells k x n)[i * k + j]? = some (x i j)
  | n + 1, i, j, hi, hj => by
    rw [rcells_succ]
    by_cases h : i < n
    · have hlt : i * k + j < n * k := by
        have := Nat.mul_le_mul_right k (show i + 1 ≤ n from h)
        rw [Nat.succ_mul] at this
        omega
      rw [List.getElem?_append_left (by rw [rcells_length]; exact hlt)]
      exact rcells_get k x n i j h hj
    · obtain rfl : i = n := by omega
      rw [List.getElem?_append_right (by rw [rcells_length]; omega), rcells_length, Nat.add_sub_cancel_left]
      simp [hj]
theorem rcells_one {k : Nat} {x : Nat → Nat → Value} (hx : ∀ i j, (x i j).oneCell' = true) (n : Nat) : ∀ v ∈ rcells k x n, v.oneCell' = true := by
  intro v hv
  unfold rcells at hv
  obtain ⟨i, -, h⟩ := List.mem_flatMap.1 hv
  obtain ⟨j, -, rfl⟩ := List.mem_map.1 h
  exact hx i j
/-- a row's cells stand where it says -/
theorem Row.cells {k : Nat} {x : Nat → Nat → Value} {w : World} {ad : Addr} {n : Nat} (hk : 0 < k) (h : Row k x w (some ad) n) : ∀ j u, (rcells k x n)[j]? = some u → w.cell? (ad.add j) = some u := by
  intro j u hu
  have hj : j < n * k := by
    rcases Nat.lt_or_ge j (n * k) with h | h
    · exact h
    · rw [List.getElem?_eq_none (by rw [rcells_length]; exact h)] at hu; cases hu
  have hi : j / k < n := (Nat.div_lt_iff_lt_mul hk).2 hj
  obtain ⟨ad2, e, _, hc⟩ := h (Nat.lt_of_le_of_lt (Nat.zero_le _) hi)
  cases e
  have hg := rcells_get k x n (j / k) (j % k) hi (Nat.mod_lt _ hk)
  have hjj : j / k * k + j % k = j := by rw [Nat.mul_comm]; exact Nat.div_add_mod j k
  rw [hjj, hu] at hg
  have := hc (j / k) hi (j % k) (Nat.mod_lt _ hk)
  rw [hjj] at this
  rw [this]; exact hg.symm
/-- a row of the call's own, as a row -/
theorem own_row {w : World} {base e k n : Nat} {v : Value} {x : Nat → Nat → Value} (h : w.ownsRow base e k v n (rcells k x n)) : ∃ A c, v = .slice A n c ∧ n ≤ c ∧ c ≤ maxLen ∧ (A = none → n = 0 ∧ c = 0) ∧ Row k x w A n := by
  rcases h.2 with ⟨rfl, h0⟩ | ⟨g, cap, cur, rfl, hb, hg, hc, hm, _⟩
  · exact ⟨none, 0, by rw [h0], by omega, by unfold maxLen; omega, fun _ => ⟨h0, rfl⟩, fun hn => by omega⟩
  · refine ⟨some ⟨g, 0, none⟩, cap, rfl, hc, hm, (fun h => by cases h), fun _ => ⟨⟨g, 0, none⟩, rfl, (Array.getElem?_eq_some_iff.1 hg).1, fun i hi j hj => ?_⟩⟩
    have hlt : i * k + j < n * k := by
      have := Nat.mul_le_mul_right k (show i + 1 ≤ n from hi)
      rw [Nat.succ_mul] at this
      omega
    rw [Addr.add_lit, Nat.zero_add, World.ownsRow.cellAt h _ hlt]
    exact rcells_get k x n i j hi hj
/-- a row behind a row of the call's own -/
theorem wpList_append_row {ops : Array Oper} {rest : List Oper} {o : Oper} {a : Act} {Q : Exit → Act → World → Prop} (w : World) (hgd : o.guard = none) (s y : Operand) (T E : TypeId)
    (ho : o.op = .call { callee := .builtin .append, args := #[s, y], argTypes := #[T, T] })
    (k by_ : Nat) (z : Value) (ht : Try.prog.underlying T = some (.slice E)) (hinfo : (Try.prog.info? E).map (fun i => (i.zero, i.size, i.bytes)) = some (some z, k, by_)) (hzs : z.cells.size = k) (hk : 0 < k) (hby : by_ ≤ 1000)
    (base : Nat) (v : Value) (n0 : Nat) (xs : List Value) (hs : a.eval s = v) (hown : w.ownsRow base E k v n0 xs)
    (A : Option Addr) (n c : Nat) (x : Nat → Nat → Value) (hx1 : ∀ i j, (x i j).oneCell' = true) (hy : a.eval y = .slice A n c) (hA : Row k x w A n) (hnone : A = none → n = 0 ∧ c = 0) (hsz : n0 + n ≤ 1000000) (hbase : base ≤ w.heap.size)
    (h : ∀ v' w', w'.ownsRow base E k v' (n0 + n) (xs ++ rcells k x n) → w.grownBy w' v.ownBlock → (v' = .slice none 0 0 ↔ v = .slice none 0 0 ∧ n = 0) → wpList Try.prog ops Q rest (a.put o.dst v') w') : wpList Try.prog ops Q (o :: rest) a w := by
  obtain ⟨i0, hi0, hz0, hz1, hz2⟩ := info_parts hinfo
  cases A with
  | none =>
    obtain ⟨rfl, rfl⟩ := hnone rfl
    refine wpList_append_own_none hgd s y T ho base E i0 k ht hi0 v n0 xs hs hown hy ?_
    exact h v w (by rw [Nat.add_zero]; have e : rcells k x 0 = [] := rfl; rw [e, List.append_nil]; exact hown) (grown_refl _ _) (by simp)
  | some ad =>
    have hb2 : (n0 + n) * by_ ≤ 1000000 * 1000 := Nat.mul_le_mul hsz hby
    exact wpList_append_own w hgd s y T ho base E i0 z k by_ ht hi0 hz0 hz1 hz2 hzs hk v n0 xs hs hown ad n c (rcells k x n) hy (rcells_length k x n) (hA.cells hk) (rcells_one hx1 n) (by unfold maxLen; omega) (by omega) hbase (fun v' w' h1 h2 h3 => h v' w' h1 h2 h3)
/-- copy of elements of k cells into a block of the call's own -/
theorem run_copy_rowk {P : Program} (w : World) (dT sT ty elem : TypeId) (k g o dLen dCap : Nat) (ad : Addr) (sLen sCap : Nat) (cur : Array Value) (t : TypeId) (cs : List Value)
    (hu : P.underlying dT = some (.slice elem)) (hs : (P.info? elem).map (·.size) = some k)
    (hg : w.heap[g]? = some (.cells cur t (0, 0))) (hn : cs.length = Nat.min sLen dLen * k)
    (hsrc : ∀ j v, cs[j]? = some v → w.cell? (ad.add j) = some v) (hfit : o + cs.length ≤ cur.size) (h1 : ∀ v ∈ cs, v.oneCell' = true) :
    (Builtin.copy_ #[dT, sT] ty #[.slice (some ⟨g, o, none⟩) dLen dCap, .slice (some ad) sLen sCap]).run P w =
      .ok (goInt (Nat.min sLen dLen)) (w.setRow g (cur.toList.take o ++ cs ++ cur.toList.drop (o + cs.length)).toArray) := by
  have hl := run_loadCells_list (P := P) w ad cs hsrc
  have hst := run_storeCells_at P g o t cs 0 cur w hg (by simpa using hfit) h1
  cases hq : P.info? elem with
  | none => simp [hq] at hs
  | some i =>
    have hi : i.size = k := by simpa [hq] using hs
    simp [Builtin.copy_, run_underlying hu, Builtin.lenOf, Builtin.firstCells, sizeOf, typeInfo, hq, hi, ← hn, hl, hst]
/-- .. out of nothing -/
theorem run_copy_nilk {P : Program} (w : World) (dT sT ty elem : TypeId) (ad : Addr) (dLen dCap : Nat) (hu : P.underlying dT = some (.slice elem)) (hs : ((P.info? elem).map (·.size)).isSome = true) :
    (Builtin.copy_ #[dT, sT] ty #[.slice (some ad) dLen dCap, .slice none 0 0]).run P w = .ok (goInt 0) w := run_copy_nil P w dT sT ty elem ad dLen dCap hu hs
/-- labels' cells -/
def lx (f : Nat → Lab) (i j : Nat) : Value := if j = 0 then .string (f i).1 else .string (f i).2
theorem lx_one (f : Nat → Lab) (i j : Nat) : (lx f i j).oneCell' = true := by unfold lx; split <;> rfl
theorem LabRow.of_row {w : World} {A : Option Addr} {n : Nat} {f : Nat → Lab} (h : Row 2 (lx f) w A n) : LabRow w A n f := fun hn => by
  obtain ⟨ad, e, hlt, hc⟩ := h hn
  exact ⟨ad, e, hlt, fun i hi => ⟨hc i hi 0 (by omega), hc i hi 1 (by omega)⟩⟩
/-- the key of labels: a cell -/
def kc (f : Nat → Lab) (n j : Nat) : ByteArray := if j / 2 < n then (if j % 2 = 0 then (f (j / 2)).1 else (f (j / 2)).2) else ByteArray.empty
def keyV (f : Nat → Lab) (n : Nat) : Value := .agg #[.string (kc f n 0), .string (kc f n 1), .string (kc f n 2), .string (kc f n 3), .string (kc f n 4), .string (kc f n 5), .string (kc f n 6), .string (kc f n 7), .string (kc f n 8), .string (kc f n 9), .string (kc f n 10), .string (kc f n 11), .string (kc f n 12), .string (kc f n 13)]
theorem key_cells (f : Nat → Lab) (n : Nat) : (rcells 2 (lx f) (Nat.min n 7) ++ (List.replicate 14 (Value.string ByteArray.empty)).drop (Nat.min n 7 * 2)).toArray = #[.string (kc f n 0), .string (kc f n 1), .string (kc f n 2), .string (kc f n 3), .string (kc f n 4), .string (kc f n 5), .string (kc f n 6), .string (kc f n 7), .string (kc f n 8), .string (kc f n 9), .string (kc f n 10), .string (kc f n 11), .string (kc f n 12), .string (kc f n 13)] := by
  rcases (show n = 0 ∨ n = 1 ∨ n = 2 ∨ n = 3 ∨ n = 4 ∨ n = 5 ∨ n = 6 ∨ 7 ≤ n by omega) with rfl | rfl | rfl | rfl | rfl | rfl | rfl | h
  all_goals try rfl
  have e : Nat.min n 7 = 7 := Nat.min_eq_right h
  rw [e]
  have hk : ∀ j, j < 14 → kc f n j = kc f 7 j := fun j hj => by unfold kc; rw [if_pos (show j / 2 < n by omega), if_pos (show j / 2 < 7 by omega)]
  rw [hk 0 (by omega), hk 1 (by omega), hk 2 (by omega), hk 3 (by omega), hk 4 (by omega), hk 5 (by omega), hk 6 (by omega), hk 7 (by omega), hk 8 (by omega), hk 9 (by omega), hk 10 (by omega), hk 11 (by omega), hk 12 (by omega), hk 13 (by omega)]
  rfl
theorem kc_size {f : Nat → Lab} {n : Nat} (h : ∀ i, i < n → (f i).1.size ≤ maxLen ∧ (f i).2.size ≤ maxLen) (j : Nat) : (kc f n j).size ≤ maxLen := by
  unfold kc
  split
  · rename_i hj
    split
    · exact (h _ hj).1
    · exact (h _ hj).2
  · exact Nat.zero_le _
theorem kc_same {f g : Nat → Lab} {n : Nat} (h : ∀ i, i < n → f i = g i) : keyV f n = keyV g n := by
  have : ∀ j, kc f n j = kc g n j := fun j => by
    unfold kc
    split
    · rename_i hj
      rw [h _ hj]
    · rfl
  unfold keyV
  simp only [this]
end Go.Proofs.Ytidfanmfibbiiaa
/-
  What isTime and keyOf come to; a key reads as one.
-/
namespace Go.Proofs.Ytidfanmfibbiiaa
open Go.RowKit
theorem isTime_any (t : Int) (w : World) :
    Calls Try.prog 29 #[.int .i64 t] w fun e w' => e = .returned (.bool (Tr.isT t)) ∧ w' = w := by
  have hr : Tr.isT t = (decide (0 ≤ t) && decide (t ≤ 1125899906842624)) := by unfold Tr.isT; rw [Bool.eq_iff_iff]; simp
  by_cases h1 : 0 ≤ t
  · have d1 : decide (0 ≤ t) = true := decide_eq_true h1
    rw [d1, Bool.true_and] at hr
    have HR := Lib.hid hr; clear hr
    go_enter Try.func29, Try.ntmps29
    go_wp2_with fail
    go_ret
    exact ⟨by rw [HR.out]; rfl, rfl⟩
  · have d1 : decide (0 ≤ t) = false := decide_eq_false h1
    rw [d1, Bool.false_and] at hr
    have HR := Lib.hid hr; clear hr
    go_enter Try.func29, Try.ntmps29
    go_wp2_with fail
    go_ret
    exact ⟨by rw [HR.out]; rfl, rfl⟩
theorem key_size : (Try.prog.info? 100).map (·.size) = some 14 := by kernel_rfl
theorem infoLab : (Try.prog.info? 60).map (fun i => (i.zero, i.size, i.bytes)) = some (some (.agg #[.string ByteArray.empty, .string ByteArray.empty]), 2, 32) := by kernel_rfl
set_option maxRecDepth 100000 in
theorem key_copy (W : World) (A : Option Addr) (n c : Nat) (hnone : A = none → n = 0 ∧ c = 0) (f : Nat → Lab) (hA : LabRow W A n f) :
    (Builtin.copy_ #[35, 35] 3 #[.slice (some ⟨W.heap.size, 0, none⟩) 7 7, .slice A n c]).run Try.prog (W.alloc (.cells #[.string ⟨#[]⟩, .string ⟨#[]⟩, .string ⟨#[]⟩, .string ⟨#[]⟩, .string ⟨#[]⟩, .string ⟨#[]⟩, .string ⟨#[]⟩, .string ⟨#[]⟩, .string ⟨#[]⟩, .string ⟨#[]⟩, .string ⟨#[]⟩, .string ⟨#[]⟩, .string ⟨#[]⟩, .string ⟨#[]⟩] 100)) = .ok (goInt (Nat.min n 7)) (W.alloc (.cells #[.string (kc f n 0), .string (kc f n 1), .string (kc f n 2), .string (kc f n 3), .string (kc f n 4), .string (kc f n 5), .string (kc f n 6), .string (kc f n 7), .string (kc f n 8), .string (kc f n 9), .string (kc f n 10), .string (kc f n 11), .string (kc f n 12), .string (kc f n 13)] 100)) := by
  obtain ⟨i0, hi0, hz0, hz1, hz2⟩ := info_parts infoLab
  have hcells := key_cells f n
  cases A with
  | none =>
    obtain ⟨rfl, rfl⟩ := hnone rfl
    rw [run_copy_nilk _ _ _ _ _ _ _ _ Try.underlying35 (by rw [hi0]; rfl)]
    rfl
  | some ad =>
    have hR : Row 2 (lx f) (W.alloc (.cells #[.string ⟨#[]⟩, .string ⟨#[]⟩, .string ⟨#[]⟩, .string ⟨#[]⟩, .string ⟨#[]⟩, .string ⟨#[]⟩, .string ⟨#[]⟩, .string ⟨#[]⟩, .string ⟨#[]⟩, .string ⟨#[]⟩, .string ⟨#[]⟩, .string ⟨#[]⟩, .string ⟨#[]⟩, .string ⟨#[]⟩] 100)) (some ad) n := Row.later hA.row ((Below.refl _ _).alloc (Nat.le_refl _) _)
    have hR2 : Row 2 (lx f) (W.alloc (.cells #[.string ⟨#[]⟩, .string ⟨#[]⟩, .string ⟨#[]⟩, .string ⟨#[]⟩, .string ⟨#[]⟩, .string ⟨#[]⟩, .string ⟨#[]⟩, .string ⟨#[]⟩, .string ⟨#[]⟩, .string ⟨#[]⟩, .string ⟨#[]⟩, .string ⟨#[]⟩, .string ⟨#[]⟩, .string ⟨#[]⟩] 100)) (some ad) (Nat.min n 7) := fun hn => by
      obtain ⟨a2, e, h1, h2⟩ := hR (Nat.lt_of_lt_of_le hn (Nat.min_le_left _ _))
      exact ⟨a2, e, h1, fun i hi => h2 i (Nat.lt_of_lt_of_le hi (Nat.min_le_left _ _))⟩
    have hm : Nat.min n 7 ≤ 7 := Nat.min_le_right _ _
    have h := run_copy_rowk (P := Try.prog) (W.alloc (.cells #[.string ⟨#[]⟩, .string ⟨#[]⟩, .string ⟨#[]⟩, .string ⟨#[]⟩, .string ⟨#[]⟩, .string ⟨#[]⟩, .string ⟨#[]⟩, .string ⟨#[]⟩, .string ⟨#[]⟩, .string ⟨#[]⟩, .string ⟨#[]⟩, .string ⟨#[]⟩, .string ⟨#[]⟩, .string ⟨#[]⟩] 100)) 35 35 3 60 2 W.heap.size 0 7 7 ad n c #[.string ⟨#[]⟩, .string ⟨#[]⟩, .string ⟨#[]⟩, .string ⟨#[]⟩, .string ⟨#[]⟩, .string ⟨#[]⟩, .string ⟨#[]⟩, .string ⟨#[]⟩, .string ⟨#[]⟩, .string ⟨#[]⟩, .string ⟨#[]⟩, .string ⟨#[]⟩, .string ⟨#[]⟩, .string ⟨#[]⟩] 100 (rcells 2 (lx f) (Nat.min n 7)) Try.underlying35 (by rw [hi0]; simp [hz1]) (heap_alloc_new W _) (rcells_length _ _ _) (hR2.cells (by decide)) (by rw [rcells_length]; simp; omega) (rcells_one (lx_one f) _)
    rw [h, setRow_alloc]
    congr 3
    rw [← hcells, rcells_length, List.take_zero, List.nil_append, Nat.zero_add]
    rfl
set_option maxRecDepth 100000 in
theorem keyOf_any (A : Option Addr) (n c : Nat) (hnone : A = none → n = 0 ∧ c = 0) (f : Nat → Lab) (w : World) (hA : LabRow w A n f) :
    Calls Try.prog 50 #[.slice A n c] w fun e w' => e = .returned (keyV f n) ∧ Below w.heap.size w w' := by
  have hc := key_copy (w.alloc (.cells #[.string ⟨#[]⟩, .string ⟨#[]⟩, .string ⟨#[]⟩, .string ⟨#[]⟩, .string ⟨#[]⟩, .string ⟨#[]⟩, .string ⟨#[]⟩, .string ⟨#[]⟩, .string ⟨#[]⟩, .string ⟨#[]⟩, .string ⟨#[]⟩, .string ⟨#[]⟩, .string ⟨#[]⟩, .string ⟨#[]⟩] 100)) A n c hnone f (LabRow.later hA ((Below.refl _ _).alloc (Nat.le_refl _) _))
  have hs : (w.alloc (.cells #[.string ⟨#[]⟩, .string ⟨#[]⟩, .string ⟨#[]⟩, .string ⟨#[]⟩, .string ⟨#[]⟩, .string ⟨#[]⟩, .string ⟨#[]⟩, .string ⟨#[]⟩, .string ⟨#[]⟩, .string ⟨#[]⟩, .string ⟨#[]⟩, .string ⟨#[]⟩, .string ⟨#[]⟩, .string ⟨#[]⟩] 100)).heap.size = w.heap.size + 1 := by simp
  rw [hs] at hc
  have hkv : keyV f n = .agg #[.string (kc f n 0), .string (kc f n 1), .string (kc f n 2), .string (kc f n 3), .string (kc f n 4), .string (kc f n 5), .string (kc f n 6), .string (kc f n 7), .string (kc f n 8), .string (kc f n 9), .string (kc f n 10), .string (kc f n 11), .string (kc f n 12), .string (kc f n 13)] := rfl
  have HKV := Lib.hid hkv
  clear hkv
  generalize kc f n = g at hc HKV
  clear hs hA hnone
  go_enter Try.func50, Try.ntmps50
  go_wp2_with fail
  have hb := ((Below.refl w.heap.size w).alloc (Nat.le_refl _) (.cells #[.string (g 0), .string (g 1), .string (g 2), .string (g 3), .string (g 4), .string (g 5), .string (g 6), .string (g 7), .string (g 8), .string (g 9), .string (g 10), .string (g 11), .string (g 12), .string (g 13)] 100)).alloc (by simp) (.cells #[.string (g 0), .string (g 1), .string (g 2), .string (g 3), .string (g 4), .string (g 5), .string (g 6), .string (g 7), .string (g 8), .string (g 9), .string (g 10), .string (g 11), .string (g 12), .string (g 13)] 100)
  refine bodyPost_ret (v := .agg #[.string (g 0), .string (g 1), .string (g 2), .string (g 3), .string (g 4), .string (g 5), .string (g 6), .string (g 7), .string (g 8), .string (g 9), .string (g 10), .string (g 11), .string (g 12), .string (g 13)]) ?_ rfl ⟨by rw [HKV.out], hb⟩
  exact results_cell_row rfl _ _ w.heap.size 100 _ (0, 0) _ rfl (heap_alloc2_old w _ _) Try.underlying100 rfl key_size
theorem key_row : (100 : TypeId) < Try.prog.types.size := of_decide_eq_true (by kernel_rfl)
theorem key_laid : laidOutB Try.prog = true := by kernel_rfl
theorem key_deep : Try.prog.keyTypeAt 3 100 = true := by kernel_rfl
theorem key_law : Maps.Keyed Try.prog 100 := by
  refine Maps.Keyed.of_law (deep_law_laid key_laid (m := 3) (by omega) key_row key_deep ?_)
  rw [Try.underlying100]
set_option maxRecDepth 100000 in
theorem key_type : Try.prog.keyType 100 = true := by kernel_rfl
theorem key_formed (c : Array Value) (h : c.size = 14) : (Value.agg c).formed Try.prog 100 = true := by
  have hc : Try.prog.cellsOf 100 = 14 := by kernel_rfl
  simp [Value.formed, Try.underlying100, hc, h]
theorem lab_lits (d : Nat) (a b : ByteArray) (ha : a.size ≤ maxLen) (hb : b.size ≤ maxLen) : Try.prog.keyLits (d + 2) 60 [.string a, .string b] = some [.string a.data.toList, .string b.data.toList] := by
  have hc : Try.prog.cellsOf 60 = 2 := by kernel_rfl
  have hs : Try.prog.cellsOf 9 = 1 := by kernel_rfl
  unfold Program.keyLits
  simp [Try.underlying60, hc, hs, Program.keyLits, Try.underlying9, ha, hb]
theorem key_reads (f : Nat → Lab) (n : Nat) (h : ∀ i, i < n → (f i).1.size ≤ maxLen ∧ (f i).2.size ≤ maxLen) : ∃ l, keyOf Try.prog 100 (keyV f n) = some l := by
  have hk := kc_size (f := f) (n := n) h
  have hf : (keyV f n).formed Try.prog 100 = true := key_formed _ rfl
  unfold keyOf
  rw [Try.underlying100]
  simp only [key_type, hf, Bool.and_self, if_true]
  have hc : Try.prog.cellsOf 100 = 14 := by kernel_rfl
  have h2 : Try.prog.cellsOf 60 = 2 := by kernel_rfl
  obtain ⟨m, hm⟩ : ∃ m, Try.prog.types.size + 1 = m + 3 := ⟨Try.prog.types.size - 2, by have : 2 ≤ Try.prog.types.size := of_decide_eq_true (by kernel_rfl); omega⟩
  rw [hm]
  unfold Program.keyLits keyV
  rw [Try.underlying100]
  have hr : List.range 7 = [0, 1, 2, 3, 4, 5, 6] := rfl
  have hl := fun a b ha hb => lab_lits m a b ha hb
  simp only [Value.cells, hc, h2, hr, List.length_cons, List.length_nil, if_true, List.mapM_cons, List.mapM_nil, List.drop, List.take, hl _ _ (hk _) (hk _)]
  exact ⟨_, rfl⟩
end Go.Proofs.Ytidfanmfibbiiaa
/-
  What slices.Clone comes to: of labels, of samples, of series.
-/
namespace Go.Proofs.Ytidfanmfibbiiaa
open Go.RowKit
theorem infoSam : (Try.prog.info? 51).map (fun i => (i.zero, i.size, i.bytes)) = some (some (.agg #[.int .i64 0, .int .u64 0]), 2, 16) := by kernel_rfl
theorem infoSer : (Try.prog.info? 48).map (fun i => (i.zero, i.size, i.bytes)) = some (some (.agg #[.slice none 0 0, .slice none 0 0, .int .i64 0]), 3, 56) := by kernel_rfl
/-- a new row of nothing -/
theorem own_new (w : World) (base E k : Nat) (hb : base ≤ w.heap.size) : (w.alloc (.cells #[] E)).ownsRow base E k (.slice (some ⟨w.heap.size, 0, none⟩) 0 0) 0 [] :=
  ⟨by simp, Or.inr ⟨w.heap.size, 0, #[], rfl, hb, heap_alloc_new w _, Nat.le_refl _, Nat.zero_le _, by simp, by simp⟩⟩
set_option maxRecDepth 100000 in
set_option maxHeartbeats 1000000 in
theorem cloneL_any (A : Option Addr) (n c : Nat) (hn : n ≤ 1000) (hnone : A = none → n = 0 ∧ c = 0) (x : Nat → Nat → Value) (hx : ∀ i j, (x i j).oneCell' = true) (w : World) (hA : Row 2 x w A n) :
    Calls Try.prog 38 #[.slice A n c] w fun e w' => ∃ v, e = .returned v ∧ w'.ownsRow w.heap.size 60 2 v n (rcells 2 x n) ∧ Below w.heap.size w w' := by
  cases A with
  | none =>
    obtain ⟨rfl, rfl⟩ := hnone rfl
    have heq := run_eql_slice_nil (P := Try.prog) w 35 60 none 0 0 Try.underlying35
    clear hA hnone
    go_enter Try.func38, Try.ntmps38
    go_wp2_with fail
    go_ret
    exact ⟨_, rfl, World.ownsRow_nil _ _ _ _, Below.refl _ _⟩
  | some ad =>
    have HA := Lib.hid (Row.later hA ((Below.refl _ _).alloc (Nat.le_refl _) (.cells #[] 60)))
    have HO := Lib.hid (own_new w w.heap.size 60 2 (Nat.le_refl _))
    have HB := Lib.hid ((Below.refl w.heap.size w).alloc (Nat.le_refl _) (.cells #[] 60))
    have HX := Lib.hid hx
    have heq := run_eql_slice_nil (P := Try.prog) w 35 60 (some ad) n c Try.underlying35
    clear hA hnone hx
    go_enter Try.func38, Try.ntmps38
    go_wp2_with (at_builtin; go_must (refine wpList_append_row _ rfl _ _ 35 60 rfl 2 32 (.agg #[.string ByteArray.empty, .string ByteArray.empty]) Try.underlying35 infoLab rfl (by decide) (by decide) w.heap.size _ 0 [] rfl HO.out (some ad) n c x HX.out rfl HA.out (fun e => by cases e) (by omega) (by simp) ?_); intro v4 w4 hown4 hg4 _; have H4 := Lib.hid hown4; have G4 := Lib.hid hg4; clear hown4 hg4)
    go_ret
    have h4 := H4.out
    rw [Nat.zero_add, List.nil_append] at h4
    exact ⟨_, rfl, h4, HB.out.grown G4.out HB.out.size (fun r e => by cases e; exact Nat.le_refl _)⟩
set_option maxRecDepth 100000 in
set_option maxHeartbeats 1000000 in
theorem cloneS_any (A : Option Addr) (n c : Nat) (hn : n ≤ 1000) (hnone : A = none → n = 0 ∧ c = 0) (x : Nat → Nat → Value) (hx : ∀ i j, (x i j).oneCell' = true) (w : World) (hA : Row 2 x w A n) :
    Calls Try.prog 39 #[.slice A n c] w fun e w' => ∃ v, e = .returned v ∧ w'.ownsRow w.heap.size 51 2 v n (rcells 2 x n) ∧ Below w.heap.size w w' := by
  cases A with
  | none =>
    obtain ⟨rfl, rfl⟩ := hnone rfl
    have heq := run_eql_slice_nil (P := Try.prog) w 46 51 none 0 0 Try.underlying46
    clear hA hnone
    go_enter Try.func39, Try.ntmps39
    go_wp2_with fail
    go_ret
    exact ⟨_, rfl, World.ownsRow_nil _ _ _ _, Below.refl _ _⟩
  | some ad =>
    have HA := Lib.hid (Row.later hA ((Below.refl _ _).alloc (Nat.le_refl _) (.cells #[] 51)))
    have HO := Lib.hid (own_new w w.heap.size 51 2 (Nat.le_refl _))
    have HB := Lib.hid ((Below.refl w.heap.size w).alloc (Nat.le_refl _) (.cells #[] 51))
    have HX := Lib.hid hx
    have heq := run_eql_slice_nil (P := Try.prog) w 46 51 (some ad) n c Try.underlying46
    clear hA hnone hx
    go_enter Try.func39, Try.ntmps39
    go_wp2_with (at_builtin; go_must (refine wpList_append_row _ rfl _ _ 46 51 rfl 2 16 (.agg #[.int .i64 0, .int .u64 0]) Try.underlying46 infoSam rfl (by decide) (by decide) w.heap.size _ 0 [] rfl HO.out (some ad) n c x HX.out rfl HA.out (fun e => by cases e) (by omega) (by simp) ?_); intro v4 w4 hown4 hg4 _; have H4 := Lib.hid hown4; have G4 := Lib.hid hg4; clear hown4 hg4)
    go_ret
    have h4 := H4.out
    rw [Nat.zero_add, List.nil_append] at h4
    exact ⟨_, rfl, h4, HB.out.grown G4.out HB.out.size (fun r e => by cases e; exact Nat.le_refl _)⟩
set_option maxRecDepth 100000 in
set_option maxHeartbeats 1000000 in
theorem cloneR_any (A : Option Addr) (n c : Nat) (hn : n ≤ 1000) (hnone : A = none → n = 0 ∧ c = 0) (x : Nat → Nat → Value) (hx : ∀ i j, (x i j).oneCell' = true) (w : World) (hA : Row 3 x w A n) :
    Calls Try.prog 37 #[.slice A n c] w fun e w' => ∃ v, e = .returned v ∧ w'.ownsRow w.heap.size 48 3 v n (rcells 3 x n) ∧ Below w.heap.size w w' := by
  cases A with
  | none =>
    obtain ⟨rfl, rfl⟩ := hnone rfl
    have heq := run_eql_slice_nil (P := Try.prog) w 26 48 none 0 0 Try.underlying26
    clear hA hnone
    go_enter Try.func37, Try.ntmps37
    go_wp2_with fail
    go_ret
    exact ⟨_, rfl, World.ownsRow_nil _ _ _ _, Below.refl _ _⟩
  | some ad =>
    have HA := Lib.hid (Row.later hA ((Below.refl _ _).alloc (Nat.le_refl _) (.cells #[] 48)))
    have HO := Lib.hid (own_new w w.heap.size 48 3 (Nat.le_refl _))
    have HB := Lib.hid ((Below.refl w.heap.size w).alloc (Nat.le_refl _) (.cells #[] 48))
    have HX := Lib.hid hx
    have heq := run_eql_slice_nil (P := Try.prog) w 26 48 (some ad) n c Try.underlying26
    clear hA hnone hx
    go_enter Try.func37, Try.ntmps37
    go_wp2_with (at_builtin; go_must (refine wpList_append_row _ rfl _ _ 26 48 rfl 3 56 (.agg #[.slice none 0 0, .slice none 0 0, .int .i64 0]) Try.underlying26 infoSer rfl (by decide) (by decide) w.heap.size _ 0 [] rfl HO.out (some ad) n c x HX.out rfl HA.out (fun e => by cases e) (by omega) (by simp) ?_); intro v4 w4 hown4 hg4 _; have H4 := Lib.hid hown4; have G4 := Lib.hid hg4; clear hown4 hg4)
    go_ret
    have h4 := H4.out
    rw [Nat.zero_add, List.nil_append] at h4
    exact ⟨_, rfl, h4, HB.out.grown G4.out HB.out.size (fun r e => by cases e; exact Nat.le_refl _)⟩
end Go.Proofs.Ytidfanmfibbiiaa
