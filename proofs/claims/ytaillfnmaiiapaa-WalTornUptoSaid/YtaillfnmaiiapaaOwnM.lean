/-
  Bytes of the call's own in a block of whatever mark, told by their cells.
-/
import Derived.Test.YtaillfnmaiiapaaArr
import Derived.ArgAppend
namespace Go.Proofs.Ytaillfnmaiiapaa
open Go.RowKit

def OwnsM (W : World) (base : Nat) (v : Value) (l : List UInt8) : Prop :=
  ∃ g cap, v = .slice (some ⟨g, 0, none⟩) l.length cap ∧ base ≤ g ∧ g < W.heap.size ∧ l.length ≤ cap ∧ cap ≤ maxLen ∧
    (∀ j, j < cap → (W.cell? ⟨g, j, none⟩).isSome = true ∧ W.frozen? ⟨g, j, none⟩ = false) ∧
    (∀ j (h : j < l.length), W.cell? ⟨g, j, none⟩ = some (.int .u8 (l[j].toNat : Int)))

theorem OwnsM.text {P : Program} {w : World} {base src dst e : TypeId} {v : Value} {l : List UInt8} (h : OwnsM w base v l)
    (hs : P.underlying src = some (.slice e)) (he : P.underlying e = some (.int .u8)) (hd : P.underlying dst = some .string) :
    (convert src dst v).run P w = .ok (.string ⟨l.toArray⟩) w := by
  obtain ⟨g, cap, rfl, _, _, _, _, _, hc⟩ := h
  exact run_convert_bytes_back w src dst e ⟨g, 0, none⟩ cap l hs he hd (fun j hj => by rw [Addr.add_lit, Nat.zero_add]; exact hc j hj)

theorem OwnsM.keep {w w' : World} {base : Nat} {v : Value} {l : List UInt8} (h : OwnsM w base v l) (hb : Below w.heap.size w w') : OwnsM w' base v l := by
  obtain ⟨g, cap, rfl, h1, h2, h3, h4, h5, h6⟩ := h
  have hsz := hb.size
  refine ⟨g, cap, rfl, h1, by omega, h3, h4, fun j hj => ?_, fun j hj => ?_⟩
  · rw [hb.cell (p := ⟨g, j, none⟩) h2, hb.frozen (p := ⟨g, j, none⟩) h2]; exact h5 j hj
  · rw [hb.cell (p := ⟨g, j, none⟩) h2]; exact h6 j hj

theorem OwnsM.of_row {w : World} {base n : Nat} {e : TypeId} {v : Value} {l : List UInt8} (h : w.ownsRow base e 1 v n (byteVals l)) (hn : 0 < n) : OwnsM w base v l := by
  have hl : l.length = n := by have := h.1; simpa [byteVals] using this
  rcases h.2 with ⟨_, h0⟩ | ⟨g, cap, cur, rfl, hb, hg, hc, hm, hs, ht⟩
  · omega
  · subst hl
    refine ⟨g, cap, rfl, hb, (Array.getElem?_eq_some_iff.1 hg).1, hc, hm, fun j hj => ⟨?_, frozen_of_row _ _ _ _ _ hg⟩, fun j hj => ?_⟩
    · rw [cell_of_row _ _ _ _ _ _ hg, Array.getElem?_eq_getElem (by omega)]; rfl
    · rw [World.ownsRow.cellAt h j (by omega)]
      simp [byteVals, hj]

theorem OwnsM.of_string {w : World} {base : Nat} {s : ByteArray} {cap : Nat} {e : TypeId} (hb : base ≤ w.heap.size) (h1 : s.size ≤ cap) (h2 : cap ≤ maxLen) :
    OwnsM (w.drew.alloc (.cells (bytesRow s cap) e ((bytesRow s cap).size, (bytesRow s cap).size + 1))) base (.slice (some ⟨w.heap.size, 0, none⟩) s.size cap) s.data.toList := by
  have hz : (bytesRow s cap).size = cap := by
    have : s.data.size = s.size := rfl
    simp [bytesRow]; omega
  have hg := heap_alloc_new w.drew (.cells (bytesRow s cap) e ((bytesRow s cap).size, (bytesRow s cap).size + 1))
  have hl : s.data.toList.length = s.size := by simp
  generalize hW : w.drew.alloc (.cells (bytesRow s cap) e ((bytesRow s cap).size, (bytesRow s cap).size + 1)) = W at *
  have hg' : W.heap[w.heap.size]? = some (.cells (bytesRow s cap) e ((bytesRow s cap).size, (bytesRow s cap).size + 1)) := hg
  refine ⟨w.heap.size, cap, by rw [hl], hb, (Array.getElem?_eq_some_iff.1 hg').1, by omega, h2, fun j hj => ⟨?_, ?_⟩, fun j hj => ?_⟩
  · rw [cell_of_row _ _ _ _ _ _ hg', Array.getElem?_eq_getElem (by omega)]; rfl
  · simp [World.frozen?, hg', hz]; omega
  · rw [cell_of_row _ _ _ _ _ _ hg', bytesRow_at s cap j (by simpa using hj)]
    simp

theorem wpList_appM {P : Program} (w : World) {ops : Array Oper} {rest : List Oper} {o : Oper} {a : Act} {Q : Exit → Act → World → Prop}
    (hg : o.guard = none) (s x : Operand) (t : TypeId) (hop : o.op = Op.call { callee := Callee.builtin Builtin.append, args := #[s, x], argTypes := #[t, t] })
    (e : TypeId) (i : TypeInfo) (z : Value) (h1 : P.underlying t = some (.slice e)) (h2 : P.info? e = some i) (h3 : i.zero = some z) (h4 : i.size = 1) (h5 : i.bytes = 1) (h6 : z.cells.size = 1)
    (base : Nat) (v : Value) (l : List UInt8) (hs : a.eval s = v) (hown : OwnsM w base v l)
    (ad : Addr) (c : Nat) (nv : UInt8) (nw : Int) (hnv : (nv.toNat : Int) = nw) (hx : a.eval x = .slice (some ad) 1 c) (hc : ∀ j u, [Value.int .u8 nw][j]? = some u → w.cell? (ad.add j) = some u)
    (b1 : l.length ≤ 1000000)
    (h : ∀ v' w', OwnsM w' base v' (l ++ [nv]) → w.grownBy w' v.ownBlock → wpList P ops Q rest (a.put o.dst v') w') :
    wpList P ops Q (o :: rest) a w := by
  subst hnv
  obtain ⟨g, cap, rfl, hb, hlt, hlc, hcm, hcs, hcl⟩ := hown
  refine wpList_append_arg w hg s x t hop e i z 1 1 h1 h2 h3 h4 h5 h6 (by decide) g 0 l.length cap (byteVals l) hs (by simp [byteVals]) (fun j u hj => ?_) ad 1 c [.int .u8 (nv.toNat : Int)] hx rfl hc (by simp [Value.oneCell']) (fun hr j hj => ?_) (by unfold maxLen; omega) (by omega) (fun hr => ?_) (fun hr v' w' ho hgr => ?_)
  · rw [Nat.zero_add]
    have hjl : j < l.length := by have := (List.getElem?_eq_some_iff.1 hj).1; simpa [byteVals] using this
    rw [hcl j hjl, ← hj]; simp [byteVals, hjl]
  · have : j = 0 := by simp at hj; exact hj
    subst this
    simpa using hcs l.length (by omega)
  · have hin := World.cell?_setCells_in g [.int .u8 (nv.toNat : Int)] (0 + l.length * 1) w (fun j hj => by
      have : j = 0 := by simp at hj; exact hj
      subst this; simpa using (hcs l.length (by omega)).1) 0 (by simp)
    have hout := fun (j : Nat) (hj : j ≠ l.length) => World.cell?_setCells_out g [.int .u8 (nv.toNat : Int)] (0 + l.length * 1) w ⟨g, j, none⟩ (fun _ _ => by simp; omega)
    have hfz := fun (j : Nat) => World.frozen?_setCells g [.int .u8 (nv.toNat : Int)] (0 + l.length * 1) w ⟨g, j, none⟩
    have hkb := World.keptBut_setCells g (may := fun p => p.block = g) [.int .u8 (nv.toNat : Int)] (0 + l.length * 1) w (fun _ _ => rfl)
    have hsize : (w.setCells g (0 + l.length * 1) [.int .u8 (nv.toNat : Int)]).heap.size = w.heap.size := by simp [World.setCells, World.setCell]
    have htape : (w.setCells g (0 + l.length * 1) [.int .u8 (nv.toNat : Int)]).tape = w.tape := rfl
    have hos : (w.setCells g (0 + l.length * 1) [.int .u8 (nv.toNat : Int)]).os = w.os := rfl
    have hou : (w.setCells g (0 + l.length * 1) [.int .u8 (nv.toNat : Int)]).output = w.output := rfl
    generalize w.setCells g (0 + l.length * 1) [.int .u8 (nv.toNat : Int)] = w' at *
    simp only [Nat.zero_add, Nat.mul_one, Nat.add_zero, List.getElem_cons_zero] at hin
    refine h _ w' ⟨g, cap, by simp, hb, by omega, by simpa using hr, hcm, fun j hj => ?_, fun j hj => ?_⟩ ⟨hos, htape, hou, by omega, fun k hk hne => ?_⟩
    · rw [hfz]
      by_cases hj2 : j = l.length
      · subst hj2; rw [hin]; exact ⟨rfl, (hcs _ hj).2⟩
      · rw [hout j hj2]; exact hcs j hj
    · by_cases hj2 : j = l.length
      · subst hj2; rw [hin]; simp
      · have hjl : j < l.length := by simp at hj; omega
        rw [hout j hj2, hcl j hjl, List.getElem_append_left hjl]
    · exact hkb.block hk (fun _ hp e => hne (by simp only [Value.ownBlock]; rw [← e, hp]))
  · refine h v' w' ?_ ⟨hgr.os, hgr.tape, hgr.output, hgr.size, fun k hk _ => hgr.block k hk (by simp)⟩
    have : w'.ownsRow w.heap.size e 1 v' (l.length + 1) (byteVals (l ++ [nv])) := by rw [byteVals_append]; exact ho
    obtain ⟨g', cap', q1, q2, q3⟩ := OwnsM.of_row this (by omega)
    exact ⟨g', cap', q1, by omega, q3⟩
end Go.Proofs.Ytaillfnmaiiapaa
