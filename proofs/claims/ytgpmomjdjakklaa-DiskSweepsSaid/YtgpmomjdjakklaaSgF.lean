/-
  A text behind texts of the law's own.
-/
import Derived.Test.YtgpmomjdjakklaaSgD
namespace Go.Proofs.Ytgpmomjdjakklaa
open Go.RowKit
theorem infoStr : (Try.prog.info? 9).map (fun i => (i.zero, i.size, i.bytes)) = some (some (.string ByteArray.empty), 1, 16) := by kernel_rfl
theorem tx_snoc (l : List (List UInt8)) (k : List UInt8) : rcells 1 (tx l) l.length ++ rcells 1 (fun _ _ => .string (bs k)) 1 = rcells 1 (tx (l ++ [k])) (l ++ [k]).length := by
  rw [List.length_append, List.length_singleton, rcells_succ 1 (tx (l ++ [k])) l.length]
  have e1 : rcells 1 (tx (l ++ [k])) l.length = rcells 1 (tx l) l.length := by
    apply List.ext_getElem?
    intro i
    by_cases h : i < l.length
    · have a := rcells_get 1 (tx (l ++ [k])) l.length i 0 h (by omega)
      have b := rcells_get 1 (tx l) l.length i 0 h (by omega)
      rw [Nat.mul_one, Nat.add_zero] at a b
      rw [a, b]
      unfold tx
      simp [List.getD, h, List.getElem?_append_left]
    · rw [List.getElem?_eq_none (by rw [rcells_length]; omega), List.getElem?_eq_none (by rw [rcells_length]; omega)]
  rw [e1]
  congr 1
  simp [rcells, tx, List.getD]
theorem tx_one (l : List (List UInt8)) (i j : Nat) : (tx l i j).oneCell' = true := rfl
theorem Txs.nil (w : World) (b : Nat) : Txs w b (.slice none 0 0) [] := ⟨World.ownsRow_nil _ _ _ _⟩
theorem wpList_append_text {ops : Array Oper} {rest : List Oper} {o : Oper} {a : Act} {Q : Exit → Act → World → Prop} (w : World) (hgd : o.guard = none) (s y : Operand)
    (ho : o.op = .call { callee := .builtin .append, args := #[s, y], argTypes := #[22, 22] })
    (b : Nat) (v : Value) (l : List (List UInt8)) (hs : a.eval s = v) (ht : Txs w b v l) (g : Nat) (k : List UInt8) (fr : Nat × Nat) (hy : a.eval y = .slice (some ⟨g, 0, none⟩) 1 1) (hg : w.heap[g]? = some (.cells #[.string (bs k)] 9 fr)) (hsz : l.length ≤ 900000) (hb : b ≤ w.heap.size)
    (h : ∀ (A : Option Addr) (c : Nat) (w' : World), Txs w' b (.slice A (l.length + 1) c) (l ++ [k]) → w.grownBy w' v.ownBlock → wpList Try.prog ops Q rest (a.put o.dst (.slice A (l.length + 1) c)) w') : wpList Try.prog ops Q (o :: rest) a w := by
  refine wpList_append_row_at w hgd s y 22 9 ho 1 16 (.string ByteArray.empty) Try.underlying22 infoStr rfl (by decide) (by decide) b v l.length (rcells 1 (tx l) l.length) hs ht.own ⟨g, 0, none⟩ 1 1 (fun _ _ => .string (bs k)) (fun _ _ => rfl) hy ?_ (by omega) hb ?_
  · exact row_there 1 _ w g _ _ fr hg (fun j hj => by
      obtain rfl : j = 0 := by omega
      rfl)
  · intro v' w' h1 h2 _
    rw [tx_snoc] at h1
    have ht2 : Txs w' b v' (l ++ [k]) := ⟨by
      have e : (l ++ [k]).length = l.length + 1 := by simp
      rw [e] at h1 ⊢
      exact h1⟩
    obtain ⟨A, c, e⟩ := ht2.slice
    subst e
    rw [show (l ++ [k]).length = l.length + 1 by simp] at ht2 ⊢
    exact h A c w' ht2 h2
theorem Txs.lo {w : World} {b : Nat} {v : Value} {l : List (List UInt8)} (h : Txs w b v l) : ∀ r, v.ownBlock = some r → b ≤ r := fun r e => (h.own.lt r e).1
theorem Txs.hi {w : World} {b : Nat} {v : Value} {l : List (List UInt8)} (h : Txs w b v l) : ∀ r, v.ownBlock = some r → r < w.heap.size := fun r e => (h.own.lt r e).2
/-- texts, where a machine is at work, and others grow -/
theorem Txs.kept {w w2 : World} {b : Nat} {v : Value} {l : List (List UInt8)} {row : Option Nat} (h : Txs w b v l) (hg : w.grownBy w2 row) (hr : ∀ r, row = some r → v.ownBlock ≠ some r) : Txs w2 b v l := ⟨row_kept h.own hg hr⟩
theorem FsAt.kept {w w2 : World} {base fb : Nat} {S : Sf.St} {row : Option Nat} (h : FsAt w base fb S) (hg : w.grownBy w2 row) {T : TypeId} (hT : T ≠ 50 ∧ T ≠ 66 ∧ T ≠ 58 ∧ T ≠ 88) (hr : ∀ g, row = some g → ∃ cs fr, w.heap[g]? = some (.cells cs T fr)) : FsAt w2 base fb S := by
  obtain ⟨mb, sb, cv, cvs, h⟩ := h
  have hne : ∀ {j : Nat} {cs : Array Value} {U : TypeId} {fr : Nat × Nat}, w.heap[j]? = some (.cells cs U fr) → U ≠ T → some j ≠ row := fun hj hU e => by
    obtain ⟨cs2, fr2, h2⟩ := hr _ e.symm
    rw [hj] at h2
    cases h2
    exact hU rfl
  have hmap : ∀ {j : Nat} {d : Sf.D}, NamesAt w j d → some j ≠ row := fun hj e => by
    obtain ⟨cs2, fr2, h2⟩ := hr _ e.symm
    exact names_ne hj h2 rfl
  have hrow : ∀ {v : Value} {e k n : Nat} {xs : List Value}, w.ownsRow base e k v n xs → T ≠ e → ∀ r, row = some r → v.ownBlock ≠ some r := fun ho hTe r e => by
    obtain ⟨cs2, fr2, h2⟩ := hr _ e
    exact own_ne ho h2 hTe
  refine ⟨mb, sb, cv, cvs, h.lo, h.lom, h.los, h.ne, (hg.block fb (Array.getElem?_eq_some_iff.1 h.blk).1 (hne h.blk hT.1.symm)).trans h.blk, h.nam.kept hg (hmap h.nam), h.syn.kept hg (hmap h.syn), row_kept h.row hg (hrow h.row hT.2.2.1), fun x hx => ?_, h.apart⟩
  have hf := h.fil x hx
  exact ⟨hf.lo, (hg.block x (Array.getElem?_eq_some_iff.1 hf.blk).1 (hne hf.blk hT.2.1.symm)).trans hf.blk, row_kept hf.row hg (hrow hf.row hT.2.2.2)⟩
theorem Runs.kept {W : World} {base fb B N : Nat} {S : Sf.St} {wr w2 : World} {row : Option Nat} (h : Runs W base fb B N S wr) (hg : wr.grownBy w2 row) {T : TypeId} (hT : T ≠ 50 ∧ T ≠ 66 ∧ T ≠ 58 ∧ T ≠ 88) (hr : ∀ g, row = some g → ∃ cs fr, wr.heap[g]? = some (.cells cs T fr)) (hlo : ∀ g, row = some g → W.heap.size ≤ g) : Runs W base fb B N S w2 :=
  ⟨h.fs.kept hg hT hr, h.ok, h.bel.grown hg h.bel.size hlo, h.lo, Nat.le_trans h.hi hg.size⟩
theorem Txs.cells {w : World} {b : Nat} {v : Value} {l : List (List UInt8)} (h : Txs w b v l) : ∀ g, v.ownBlock = some g → ∃ cs fr, w.heap[g]? = some (.cells cs 9 fr) := fun g e => by
  rcases h.own.2 with ⟨rfl, -⟩ | ⟨g1, cap, cur, rfl, -, hc, -⟩
  · cases e
  · have a : some g1 = some g := e
    cases a
    exact ⟨_, _, hc⟩
/-- what is read of the first names -/
def reads (S : Sf.St) (l : List (List UInt8)) (j : Nat) : List (List UInt8) := (List.range j).map fun i => (S.read (bs (l.getD i []))).1.data.toList
theorem reads_length (S : Sf.St) (l : List (List UInt8)) (j : Nat) : (reads S l j).length = j := by simp [reads]
theorem reads_succ (S : Sf.St) (l : List (List UInt8)) (j : Nat) : reads S l (j + 1) = reads S l j ++ [(S.read (bs (l.getD j []))).1.data.toList] := by
  unfold reads
  rw [List.range_succ, List.map_append]
  rfl
theorem reads_at (S : Sf.St) (l : List (List UInt8)) {j i : Nat} (h : i < j) : tx (reads S l j) i 0 = .string (S.read (bs (l.getD i []))).1 := by
  unfold tx reads
  simp [List.getD, h, Sf.bs_data]
end Go.Proofs.Ytgpmomjdjakklaa
