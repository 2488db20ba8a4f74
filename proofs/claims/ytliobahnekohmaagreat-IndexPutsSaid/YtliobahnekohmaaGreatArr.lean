import Derived.Test.YtliobahnekohmaaGreatRows
import Derived.WalkKit
import Derived.ProofKit
import Derived.WalkSpells
import Derived.WalkLawsBesides
import Derived.WalkSmall
import Derived.Handy
import Derived.BigQuiet
import Derived.Deep.QuietTactic
import Derived.Deep.RegionHeld3
import Derived.Lib.Hide
import Derived.IntWalk
import Derived.Lib.BufferWrite
/-
  Small lemmas that the walks of this seat share: on memory, texts and numbers.
-/
namespace Go.Proofs.YtliobahnekohmaaGreat
open Go.RowKit
theorem ret_int {k : IntKind} {a b : Int} (h : a = b) : Ending.returned (.int k a) = .returned (.int k b) := by rw [h]
theorem below_step {w w1 w2 : World} (h : Below w.heap.size w w1) (h2 : Below w1.heap.size w1 w2) : Below w.heap.size w w2 := h.trans (h2.mono h.size)
theorem str_beq (a b : ByteArray) : (a.toList == b.toList) = decide (a = b) := by
 rw [ByteArray.toList_eq, ByteArray.toList_eq]
 by_cases h : a = b
 · subst h; simp
 · have h2 : ¬ a.data = b.data := fun e => h (ByteArray.ext e)
   simp [h, h2]
theorem own_string {P : Program} {w : World} {base e src dst : TypeId} {v : Value} {n : Nat} (xs : List Int)
 (hs : P.underlying src = some (.slice e)) (he : P.underlying e = some (.int .u8)) (hd : P.underlying dst = some .string)
 (h : w.ownsRow base e 1 v n (xs.map (Value.int .u8))) : (convert src dst v).run P w = .ok (.string (strOfNums xs)) w := by
 have hl := h.1
 rcases h.2 with ⟨rfl, rfl⟩ | ⟨g, cap, cur, rfl, hb, hg, hn, hc, hcs, ht⟩
 · obtain rfl : xs = [] := by
    cases xs with
    | nil => rfl
    | cons a l => simp at hl
   rw [run_convert_bytes_nil w src e hs he 0 0 dst hd]; rfl
 · refine run_convert_bytes_arg (P := P) w src e hs he g 0 n cap xs (by simpa using hl) (fun i hi => ?_) dst hd
   rw [Nat.zero_add, World.ownsRow.cellAt h i (by omega)]
   have hx : i < xs.length := by simp at hl; omega
   simp [List.getD, hx]
theorem heap_keep {W W2 : World} {k : Nat} {o : Obj} (h : W.heap[k]? = some o) (hb : Below W.heap.size W W2) : W2.heap[k]? = some o :=
 (hb.block k (Array.getElem?_eq_some_iff.1 h).1).trans h
theorem grown_of_below {w w' : World} {row : Option Nat} (h : Below w.heap.size w w') : w.grownBy w' row := ⟨h.os, h.tape, h.output, h.size, fun k hk _ => h.block k hk⟩
theorem grown_refl (w : World) (row : Option Nat) : w.grownBy w row := ⟨rfl, rfl, rfl, Nat.le_refl _, fun _ _ _ => rfl⟩
theorem grown_trans {w w1 w2 : World} {row : Option Nat} (h1 : w.grownBy w1 row) (h2 : w1.grownBy w2 row) : w.grownBy w2 row :=
 ⟨h2.os.trans h1.os, h2.tape.trans h1.tape, h2.output.trans h1.output, Nat.le_trans h1.size h2.size, fun k hk hne => (h2.block k (Nat.lt_of_lt_of_le hk h1.size) hne).trans (h1.block k hk hne)⟩
theorem grown_setCell (w : World) (b i : Nat) (v : Value) : w.grownBy (w.setCell ⟨b, i, none⟩ v) (some b) :=
 ⟨rfl, rfl, rfl, by simp [World.setCell], fun k _ hne => heap_setCell_other w _ k v (fun e => hne (by rw [e]))⟩
theorem grown_drew {w w1 : World} {row : Option Nat} (h : w.grownBy w1 row) : w.grownBy w1.drew row := ⟨h.os, h.tape, h.output, h.size, h.block⟩
theorem grown_keep {W W2 : World} {k b : Nat} {o : Obj} (h : W.heap[k]? = some o) (hg : W.grownBy W2 (some b)) (hne : k ≠ b) : W2.heap[k]? = some o :=
 (hg.block k (Array.getElem?_eq_some_iff.1 h).1 (fun e => hne (by cases e; rfl))).trans h
theorem cell_keep {W W2 : World} {a : Addr} {v : Value} (h : W.cell? a = some v) (hb : Below W.heap.size W W2) : W2.cell? a = some v :=
 (hb.cell (block_lt_of_cell h)).trans h
end Go.Proofs.YtliobahnekohmaaGreat
/-
  Arrays of bytes that come in: what they are, and as texts.
-/
namespace Go.Proofs.YtliobahnekohmaaGreat
open Go.RowKit Go.WideShapes
def byteCells (l : List UInt8) : Array Value := (l.map fun b => Value.int .u8 (b.toNat : Int)).toArray
theorem byteCells_get (l : List UInt8) (i : Nat) (h : i < l.length) : (byteCells l)[i]? = some (.int .u8 ((l.getD i 0).toNat : Int)) := by
 simp [byteCells, List.getD, h]
theorem byteCells_put (pre : List UInt8) (k : Nat) (x : UInt8) (h : 0 < k) : (byteCells (pre ++ List.replicate k 0)).setIfInBounds pre.length (.int .u8 (x.toNat : Int)) = byteCells (pre ++ [x] ++ List.replicate (k - 1) 0) := by
 cases k with
 | zero => omega
 | succ k =>
  apply Array.toList_inj.1
  simp [byteCells, List.replicate_succ]
theorem byteCells_room (pre : List UInt8) (k : Nat) (h : 0 < k) : (byteCells (pre ++ List.replicate k 0))[pre.length]? = some (.int .u8 0) := by
 cases k with
 | zero => omega
 | succ k => simp [byteCells, List.replicate_succ]
theorem arr_take {P : Program} (w : World) (b : Nat) (src e dst t : TypeId) (l : List UInt8) (hs : P.underlying src = some (.slice e)) (he : P.underlying e = some (.int .u8)) (hd : P.underlying dst = some .string)
 (hc : w.heap[b]? = some (.cells (byteCells l) t (0, 0))) (n c : Nat) (hn : n ≤ l.length) :
 (convert src dst (.slice (some ⟨b, 0, none⟩) n c)).run P w = .ok (.string ⟨(l.take n).toArray⟩) w := by
 have h := run_convert_bytes_arg (P := P) w src e hs he b 0 n c ((l.take n).map fun x => (x.toNat : Int)) (by simp; omega) (fun i hi => by
  rw [Nat.zero_add, cell_of_row w b i _ _ _ hc, byteCells_get l i (by omega)]
  have : i < l.length := by omega
  simp [List.getD, this, hi]) dst hd
 rw [h]
 congr 2
 apply ByteArray.ext
 apply Array.toList_inj.1
 rw [strOfNums_data, List.map_map]
 simp [Function.comp_def]
theorem setRow_alloc (w : World) (cs cs' : Array Value) (t : TypeId) : (w.alloc (.cells cs t)).setRow w.heap.size cs' = w.alloc (.cells cs' t) := by
 unfold World.setRow World.alloc
 congr 1
 apply Array.ext_getElem?
 intro k
 rw [Array.getElem?_modify]
 by_cases hk : w.heap.size = k
 · subst hk; simp
 · rw [if_neg hk, Array.getElem?_push, Array.getElem?_push, if_neg (fun e => hk e.symm), if_neg (fun e => hk e.symm)]
theorem copy_new {P : Program} (w : World) (dT sT ty e t : TypeId) (dLen dCap : Nat) (s : ByteArray) (n : Nat)
 (hu : P.underlying dT = some (.slice e)) (hs : (P.info? e).map (·.size) = some 1) (hle : s.size ≤ dLen) (hfit : s.size ≤ n) :
 (Builtin.copy_ #[dT, sT] ty #[.slice (some ⟨w.heap.size, 0, none⟩) dLen dCap, .string s]).run P (w.alloc (.cells (byteCells (List.replicate n 0)) t)) =
  .ok (goInt s.size) (w.alloc (.cells (byteCells (s.data.toList ++ List.replicate (n - s.size) 0)) t)) := by
 rw [Lib.run_copy_row_string (P := P) _ dT sT ty e w.heap.size 0 dLen dCap s (byteCells (List.replicate n 0)) t hu hs (heap_alloc_new w _) hle (by simp [byteCells]; omega), setRow_alloc]
 congr 3
 apply Array.toList_inj.1
 simp [byteCells, Lib.byteCells]
def byteVals (l : List UInt8) : List Value := l.map fun b => Value.int .u8 (b.toNat : Int)
theorem byteVals_append (a b : List UInt8) : byteVals (a ++ b) = byteVals a ++ byteVals b := by simp [byteVals]
theorem own_bytes {P : Program} {w : World} {base e src dst : TypeId} {v : Value} {n : Nat} (l : List UInt8)
 (hs : P.underlying src = some (.slice e)) (he : P.underlying e = some (.int .u8)) (hd : P.underlying dst = some .string)
 (h : w.ownsRow base e 1 v n (byteVals l)) : (convert src dst v).run P w = .ok (.string ⟨l.toArray⟩) w := by
 have e1 : byteVals l = (l.map fun b => (b.toNat : Int)).map (Value.int .u8) := by simp [byteVals]
 rw [e1] at h
 rw [own_string _ hs he hd h]
 congr 2
 apply ByteArray.ext
 apply Array.toList_inj.1
 rw [strOfNums_data, List.map_map]
 simp [Function.comp_def]
def RowIs (W : World) (b : Nat) (o : Obj) : Prop := W.heap[b]? = some o
theorem RowIs.keep {W W2 : World} {b : Nat} {o : Obj} (h : RowIs W b o) (hb : Below W.heap.size W W2) : RowIs W2 b o := heap_keep h hb
theorem RowIs.one (w : World) (o : Obj) : RowIs (w.alloc o) w.heap.size o := heap_alloc_new w o
end Go.Proofs.YtliobahnekohmaaGreat
