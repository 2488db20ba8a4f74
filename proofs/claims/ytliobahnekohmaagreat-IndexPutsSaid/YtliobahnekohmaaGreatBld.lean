/-
  What the methods of a strings.Builder that a call makes come to.
-/
import Derived.Test.YtliobahnekohmaaGreatArr
import Derived.Test.YtliobahnekohmaaGreatShelf
import Derived.Lib.Strings
import Derived.Lib.Slices
import Derived.Lib.Walk
import Derived.Lib.Builder
import Derived.Lib.AppendStr
import Derived.Lib.UnsafeStr
import Derived.Laws.Externs
namespace Go.Proofs.YtliobahnekohmaaGreat
open Go.RowKit
def BldAt (W : World) (base b : Nat) (l : List UInt8) : Prop := Lib.IsBuilder 69 5 base b (byteVals l) W
theorem BldAt.new (w : World) : BldAt (w.alloc (.cells #[.pointer none, .slice none 0 0] 69)) w.heap.size w.heap.size [] := Lib.fresh_isBuilder _ _ w
theorem BldAt.lt {W : World} {base b : Nat} {l : List UInt8} (h : BldAt W base b l) : b < W.heap.size := by
 rcases h with h | h <;> exact h.lt
theorem BldAt.keepAt {W W2 : World} {base b : Nat} {p : Value} {l : List Value} (h : Lib.BuilderAt 69 5 base b p l W) (hb : Below W.heap.size W W2) : Lib.BuilderAt 69 5 base b p l W2 := by
 obtain ⟨h1, v, h2, h3, h4⟩ := h
 exact ⟨h1, v, heap_keep h2 hb, h3.kept (grown_of_below (row := none) hb) (by cases hv : v.ownBlock <;> simp), h4⟩
theorem BldAt.keep {W W2 : World} {base b : Nat} {l : List UInt8} (h : BldAt W base b l) (hb : Below W.heap.size W W2) : BldAt W2 base b l := by
 rcases h with h | h
 · exact .inl (BldAt.keepAt h hb)
 · exact .inr (BldAt.keepAt h hb)
def Others (b : Nat) (w w' : World) : Prop := ∀ k cs t, w.heap[k]? = some (.cells cs t (0, 0)) → k ≠ b → t ≠ 5 → w'.heap[k]? = some (.cells cs t (0, 0))
theorem Others.refl (b : Nat) (w : World) : Others b w w := fun _ _ _ h _ _ => h
theorem Others.trans {b : Nat} {w w1 w2 : World} (h : Others b w w1) (h2 : Others b w1 w2) : Others b w w2 := fun k cs t hk hb ht => h2 k cs t (h k cs t hk hb ht) hb ht
theorem Others.setCell (b i : Nat) (v : Value) (w : World) : Others b w (w.setCell ⟨b, i, none⟩ v) := fun k _ _ hk hb _ => (heap_setCell_other w ⟨b, i, none⟩ k v hb).trans hk
theorem Others.grown {b base n : Nat} {v : Value} {xs : List Value} {w w2 : World} (hown : w.ownsRow base 5 1 v n xs) (hg : w.grownBy w2 v.ownBlock) : Others b w w2 := fun k cs t hk _ ht => by
 refine (hg.block k (Array.getElem?_eq_some_iff.1 hk).1 (fun e => ?_)).trans hk
 rcases hown.2 with ⟨rfl, _⟩ | ⟨g, cap, cur, rfl, _, hgg, _⟩
 · simp [Value.ownBlock] at e
 · simp [Value.ownBlock] at e
   subst e
   rw [hgg] at hk
   injection hk with hk
   injection hk with _ h2
   exact ht h2.symm
theorem bld_size : (Tryz.prog.info? 69).map (·.size) = some 2 := by kernel_rfl
theorem bld_lies : liesAt Tryz.prog Tryz.prog.depth 69 (2 / Tryz.prog.cellsOf 69) 0 69 1 = true := by kernel_rfl
theorem bld_byte : (Tryz.prog.info? 5).map (fun i => (i.zero, i.size, i.bytes)) = some (some (.int .u8 0), 1, 1) := by kernel_rfl
set_option maxHeartbeats 1000000 in
set_option maxRecDepth 100000 in
theorem bldCheck_used (b : Nat) (w : World) (h0 : w.cell? ⟨b, 0, none⟩ = some (.pointer (some ⟨b, 0, none⟩))) :
 Calls Tryz.prog 137 #[.pointer (some ⟨b, 0, none⟩)] w fun e w' => e = .returned (.tuple #[]) ∧ w' = w := by
 obtain ⟨j, hj, _⟩ := Option.map_eq_some_iff.1 bld_size
 go_enter Tryz.func137, Tryz.ntmps137
 go_wp2
 rw [Lib.run_neq_ptr_same w _ Tryz.underlying67 hj]
 go_wp2
 go_end0
 exact ⟨rfl, rfl⟩
set_option maxHeartbeats 1000000 in
set_option maxRecDepth 100000 in
theorem bldCheck_fresh (b : Nat) (w : World) (h0 : w.cell? ⟨b, 0, none⟩ = some (.pointer none)) (hsh : w.shape? b = some (69, 2)) (hfz : w.frozen? ⟨b, 0, none⟩ = false) :
 Calls Tryz.prog 137 #[.pointer (some ⟨b, 0, none⟩)] w fun e w' => e = .returned (.tuple #[]) ∧ w' = w.setCell ⟨b, 0, none⟩ (.pointer (some ⟨b, 0, none⟩)) := by
 obtain ⟨j, hj, hjs⟩ := Option.map_eq_some_iff.1 bld_size
 go_enter Tryz.func137, Tryz.ntmps137
 go_wp2
 rw [Lib.run_to_unsafe w ⟨b, 0, none⟩ Tryz.underlying67 Tryz.underlying177 hj (by rw [hjs]; decide) hsh (Nat.zero_lt_succ 1)]
 simp only [Result.andThen]
 rw [Oper.upon_value]
 go_wp2
 rw [run_callFunc_extern Tryz.func154 (by kernel_rfl) (by kernel_rfl) (by kernel_rfl) (e := Extern.AbiNoEscape.same) (by kernel_rfl)]
 rw [Lib.run_noEscape]
 simp only [Result.andThen]
 rw [Oper.upon_value]
 go_wp2
 rw [Lib.run_from_unsafe w ⟨b, 0, none⟩ Tryz.underlying177 Tryz.underlying67 hj hsh bld_lies]
 simp only [Result.andThen]
 rw [Oper.upon_value]
 go_wp2
 go_end0
 exact ⟨rfl, rfl⟩
theorem bldCheck_any (base b : Nat) (bs : List Value) (w : World) (h : Lib.IsBuilder 69 5 base b bs w) :
 Calls Tryz.prog 137 #[.pointer (some ⟨b, 0, none⟩)] w fun e w' => e = .returned (.tuple #[]) ∧ Lib.BuilderAt 69 5 base b (.pointer (some ⟨b, 0, none⟩)) bs w' ∧ Below base w w' ∧ Others b w w' := by
 rcases h with h | h
 · refine (bldCheck_fresh b w h.cell0 h.shape h.frozen0).mono ?_
   rintro e w' ⟨rfl, rfl⟩
   exact ⟨rfl, h.used _, (Below.refl base w).setCell (p := ⟨b, 0, none⟩) h.1 _, Others.setCell _ _ _ _⟩
 · refine (bldCheck_used b w h.cell0).mono ?_
   rintro e w' ⟨rfl, rfl⟩
   exact ⟨rfl, h, Below.refl base _, Others.refl _ _⟩
set_option maxHeartbeats 2000000 in
set_option maxRecDepth 100000 in
theorem bldString (base b : Nat) (l : List UInt8) (s : ByteArray) (w : World) (h : BldAt w base b l) (hlen : l.length + s.size ≤ 1099511627776) (hBw : base ≤ w.heap.size) :
 Calls Tryz.prog 102 #[.pointer (some ⟨b, 0, none⟩), .string s] w fun e w' => e = .returned (.tuple #[.int .i64 s.size, .nilIface]) ∧ BldAt w' base b (l ++ s.data.toList) ∧ Below base w w' ∧ Others b w w' := by
 obtain ⟨i0, hi, hz0, hz1, hz2⟩ := info_parts bld_byte
 have hbl : (byteVals l).length = l.length := by simp [byteVals]
 go_enter Tryz.func102, Tryz.ntmps102
 go_wp2_with fail
 refine (bldCheck_any base b (byteVals l) _ h).mono ?_
 rintro e w1 ⟨rfl, h1, hb1, ho1⟩
 have HO1 := Lib.hid ho1; clear ho1
 obtain ⟨hB, v, hbk, hown, hne⟩ := h1
 have c0 : w1.cell? ⟨b, 0, none⟩ = some (.pointer (some ⟨b, 0, none⟩)) := by rw [Lib.cell_of_heap hbk]; rfl
 have c1 : w1.cell? ⟨b, 1, none⟩ = some v := by rw [Lib.cell_of_heap hbk]; rfl
 go_wp2_with (at_builtin; refine Lib.wpList_append_own_string _ rfl _ _ 63 9 rfl base 5 i0 Tryz.underlying63 Tryz.underlying9 hi hz0 hz1 hz2 _ _ _ rfl hown s rfl ?c3 ?c4 ?c5 ?_)
 case c3 => unfold maxLen; omega
 case c4 => omega
 case c5 => have := hb1.size; omega
 intro v' w2 hown' hgrow _
 have hlt : b < w1.heap.size := (Array.getElem?_eq_some_iff.1 hbk).1
 have hb2 : w2.heap[b]? = some (.cells #[.pointer (some ⟨b, 0, none⟩), v] 69 (0, 0)) := by
  rw [hgrow.block b hlt (fun e => hne e.symm)]
  exact hbk
 have d0 : w2.cell? ⟨b, 0, none⟩ = some (.pointer (some ⟨b, 0, none⟩)) := by rw [Lib.cell_of_heap hb2]; rfl
 have d1 : w2.cell? ⟨b, 1, none⟩ = some v := by rw [Lib.cell_of_heap hb2]; rfl
 have f1 : w2.frozen? ⟨b, 1, none⟩ = false := Lib.frozen_of_heap hb2 1
 obtain ⟨ao, n', cap, rfl⟩ : ∃ ao n' cap, v' = .slice ao n' cap := by
  rcases hown'.2 with ⟨hv, _⟩ | ⟨g, cap, cur, hv, _⟩
  · exact ⟨_, _, _, hv⟩
  · exact ⟨_, _, _, hv⟩
 go_wp2
 go_ret2
 have hcat : byteVals (l ++ s.data.toList) = byteVals l ++ Lib.strCells s := by rw [byteVals_append]; rfl
 refine ⟨rfl, .inr ?_, ?_, ?_⟩
 · rw [hcat]
   exact Lib.BuilderAt.put (T := 69) (e := 5) hB hb2 (bs' := byteVals l ++ Lib.strCells s) (by simpa [Lib.strCells_length, hbl] using hown') (by decide)
 · exact (hb1.grown hgrow (by have := hb1.size; omega) (fun k hk => (hown.lt k hk).1)).setCell (p := ⟨b, 1, none⟩) hB _
 · exact HO1.out.trans ((Others.grown hown hgrow).trans (Others.setCell _ _ _ _))
theorem bldText (base b : Nat) (l : List UInt8) (w : World) (h : BldAt w base b l) (hBw : base ≤ w.heap.size) :
 Calls Tryz.prog 33 #[.pointer (some ⟨b, 0, none⟩)] w fun e w' => e = .returned (.string ⟨l.toArray⟩) ∧ Below base w w' :=
 Tryz.Builder_String_any base b l w h hBw
end Go.Proofs.YtliobahnekohmaaGreat
