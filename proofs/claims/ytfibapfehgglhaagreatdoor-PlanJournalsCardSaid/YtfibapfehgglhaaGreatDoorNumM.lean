import Derived.Test.YtfibapfehgglhaaGreatDoorRows
import Derived.WalkKit
import Derived.ProofKit
import Derived.WalkSpells
import Derived.WalkLawsBesides
import Derived.WalkSmall
import Derived.Handy
import Derived.BigQuiet
import Derived.Deep.QuietTactic
import Derived.Deep.RegionHeld3
import Derived.Lib.Hide
import Derived.IntWalk
import Derived.Lib.BufferWrite
/-
  Small lemmas that the walks of this seat share: on memory, texts and numbers.
-/
namespace Go.Proofs.YtfibapfehgglhaaGreatDoor
open Go.RowKit

theorem ret_int {k : IntKind} {a b : Int} (h : a = b) : Ending.returned (.int k a) = .returned (.int k b) := by rw [h]
theorem below_step {w w1 w2 : World} (h : Below w.heap.size w w1) (h2 : Below w1.heap.size w1 w2) : Below w.heap.size w w2 := h.trans (h2.mono h.size)
theorem str_beq (a b : ByteArray) : (a.toList == b.toList) = decide (a = b) := by
  rw [ByteArray.toList_eq, ByteArray.toList_eq]
  by_cases h : a = b
  · subst h; simp
  · have h2 : ¬ a.data = b.data := fun e => h (ByteArray.ext e)
    simp [h, h2]
/-- a slice of bytes of the call's own, as a text -/
theorem own_string {P : Program} {w : World} {base e src dst : TypeId} {v : Value} {n : Nat} (xs : List Int)
    (hs : P.underlying src = some (.slice e)) (he : P.underlying e = some (.int .u8)) (hd : P.underlying dst = some .string)
    (h : w.ownsRow base e 1 v n (xs.map (Value.int .u8))) : (convert src dst v).run P w = .ok (.string (strOfNums xs)) w := by
  have hl := h.1
  rcases h.2 with ⟨rfl, rfl⟩ | ⟨g, cap, cur, rfl, hb, hg, hn, hc, hcs, ht⟩
  · obtain rfl : xs = [] := by
      cases xs with
      | nil => rfl
      | cons a l => simp at hl
    rw [run_convert_bytes_nil w src e hs he 0 0 dst hd]; rfl
  · refine run_convert_bytes_arg (P := P) w src e hs he g 0 n cap xs (by simpa using hl) (fun i hi => ?_) dst hd
    rw [Nat.zero_add, World.ownsRow.cellAt h i (by omega)]
    have hx : i < xs.length := by simp at hl; omega
    simp [List.getD, hx]
theorem u32_nat (c : Int) (h : (Lit.int .u32 c).wf = true) : ∃ n : Nat, c = n ∧ n < 4294967296 := by
  have hx : 0 ≤ c ∧ c ≤ 4294967295 := by simpa [Lit.wf, IntKind.min, IntKind.max, IntKind.signed, IntKind.bits] using h
  exact ⟨c.toNat, by omega, by omega⟩

theorem u8_nat (c : Int) (h : (Lit.int .u8 c).wf = true) : ∃ n : UInt8, c = n.toNat := by
  have hx : 0 ≤ c ∧ c ≤ 255 := by simpa [Lit.wf, IntKind.min, IntKind.max, IntKind.signed, IntKind.bits] using h
  exact ⟨UInt8.ofNat c.toNat, by simp; omega⟩
theorem heap_keep {W W2 : World} {k : Nat} {o : Obj} (h : W.heap[k]? = some o) (hb : Below W.heap.size W W2) : W2.heap[k]? = some o :=
  (hb.block k (Array.getElem?_eq_some_iff.1 h).1).trans h
theorem grown_of_below {w w' : World} {row : Option Nat} (h : Below w.heap.size w w') : w.grownBy w' row := ⟨h.os, h.tape, h.output, h.size, fun k hk _ => h.block k hk⟩
theorem grown_refl (w : World) (row : Option Nat) : w.grownBy w row := ⟨rfl, rfl, rfl, Nat.le_refl _, fun _ _ _ => rfl⟩
theorem grown_trans {w w1 w2 : World} {row : Option Nat} (h1 : w.grownBy w1 row) (h2 : w1.grownBy w2 row) : w.grownBy w2 row :=
  ⟨h2.os.trans h1.os, h2.tape.trans h1.tape, h2.output.trans h1.output, Nat.le_trans h1.size h2.size, fun k hk hne => (h2.block k (Nat.lt_of_lt_of_le hk h1.size) hne).trans (h1.block k hk hne)⟩
theorem grown_setCell (w : World) (b i : Nat) (v : Value) : w.grownBy (w.setCell ⟨b, i, none⟩ v) (some b) :=
  ⟨rfl, rfl, rfl, by simp [World.setCell], fun k _ hne => heap_setCell_other w _ k v (fun e => hne (by rw [e]))⟩
theorem grown_drew {w w1 : World} {row : Option Nat} (h : w.grownBy w1 row) : w.grownBy w1.drew row := ⟨h.os, h.tape, h.output, h.size, h.block⟩
/-- what a step turned lies from B on -/
theorem below_of_grown {B : Nat} {w0 w w' : World} {b : Nat} (h : Below B w0 w) (hg : w.grownBy w' (some b)) (hB : B ≤ w.heap.size) (hb : B ≤ b) : Below B w0 w' :=
  h.grown hg hB (fun k e => by cases e; exact hb)
/-- another block -/
theorem grown_keep {W W2 : World} {k b : Nat} {o : Obj} (h : W.heap[k]? = some o) (hg : W.grownBy W2 (some b)) (hne : k ≠ b) : W2.heap[k]? = some o :=
  (hg.block k (Array.getElem?_eq_some_iff.1 h).1 (fun e => hne (by cases e; rfl))).trans h
theorem cell_keep {W W2 : World} {a : Addr} {v : Value} (h : W.cell? a = some v) (hb : Below W.heap.size W W2) : W2.cell? a = some v :=
  (hb.cell (block_lt_of_cell h)).trans h
theorem frozen_keep {W W2 : World} {a : Addr} {v : Value} (h : W.cell? a = some v) (hf : W.frozen? a = false) (hb : Below W.heap.size W W2) : W2.frozen? a = false :=
  (hb.frozen (block_lt_of_cell h)).trans hf
end Go.Proofs.YtfibapfehgglhaaGreatDoor
/-
  Arrays of bytes that come in: what they are, and as texts.
-/
namespace Go.Proofs.YtfibapfehgglhaaGreatDoor
open Go.RowKit Go.WideShapes

/-- the cells of bytes -/
def byteCells (l : List UInt8) : Array Value := (l.map fun b => Value.int .u8 (b.toNat : Int)).toArray

theorem okWide_array {P : Program} {w : World} {r : Reach} {base n : Nat} {e t : TypeId} {v : Value} (ht : P.underlying t = some (.array n e)) (h : Value.okWide P w r base t v) : ∃ cs, v = .agg cs ∧ cs.size = P.cellsOf t := by
  simp only [Value.okWide, ht] at h
  obtain ⟨cs, h1, h2, _⟩ := h
  exact ⟨cs, h1, h2⟩

theorem list_of_bytes : ∀ (cs : List Value), (∀ i, i < cs.length → ∃ n, (cs.drop i).take 1 = [.int .u8 n] ∧ (Lit.int .u8 n).wf = true) → ∃ l : List UInt8, cs = l.map fun b => Value.int .u8 (b.toNat : Int)
  | [], _ => ⟨[], rfl⟩
  | c :: cs, h => by
    obtain ⟨l, hl⟩ := list_of_bytes cs (fun i hi => by
      have := h (i + 1) (by simp; omega)
      simpa using this)
    obtain ⟨n, hn, wf⟩ := h 0 (by simp)
    obtain ⟨b, rfl⟩ := u8_nat n wf
    simp at hn
    exact ⟨b :: l, by rw [hl, hn]; rfl⟩

theorem open_byte_array {H : Type} {enc : TypeId × Value → H} {P : Program} {w : World} {r : Reach} {b0 base n : Nat} {spare : Nat → Bool} {held : Bool} {e t : TypeId} {v : Value} {d : DataW H} {p : List MemPlace}
    (ht : P.underlying t = some (.array n e)) (he : P.underlying e = some (.int .u8)) (hce : P.cellsOf e = 1) (hC : P.cellsOf t = n)
    (hv : Value.okWide P w r b0 t v) (h : DataW.Trod enc P w base spare held t v d p) : ∃ l : List UInt8, l.length = n ∧ v = .agg (byteCells l) := by
  obtain ⟨cs, rfl, hsz⟩ := okWide_array ht hv
  obtain ⟨fuel, hf⟩ := h
  obtain ⟨xs, m, _, _, hl, hlen, hx⟩ := DataW.trod_array ht hf
  have hcl : cs.toList.length = n := by simp; omega
  obtain ⟨l, hl2⟩ := list_of_bytes cs.toList (fun i hi => by
    have h1 := hx i (by omega)
    rw [hce, Nat.mul_one] at h1
    cases hxi : xs[i]? with
    | none => simp at hxi; omega
    | some x =>
      rw [hxi] at h1
      obtain ⟨n, h2, _, h3⟩ := DataW.trod_int he h1
      exact ⟨n, h2, h3⟩)
  refine ⟨l, ?_, ?_⟩
  · rw [hl2] at hcl; simpa using hcl
  · unfold byteCells; rw [← hl2]

/-- a whole array of bytes, sliced, as a text -/
theorem arr_back {P : Program} (w : World) (b : Nat) (src e dst t : TypeId) (l : List UInt8) (hs : P.underlying src = some (.slice e)) (he : P.underlying e = some (.int .u8)) (hd : P.underlying dst = some .string)
    (hc : w.heap[b]? = some (.cells (byteCells l) t (0, 0))) (n : Nat) (hn : l.length = n) :
    (convert src dst (.slice (some ⟨b, 0, none⟩) n n)).run P w = .ok (.string ⟨l.toArray⟩) w := by
  have h := run_convert_bytes_arg (P := P) w src e hs he b 0 n n (l.map fun x => (x.toNat : Int)) (by simpa using hn) (fun i hi => by
    rw [Nat.zero_add, cell_of_row w b i _ _ _ hc]
    have : i < l.length := by omega
    simp [byteCells, List.getD, this]) dst hd
  rw [h]
  congr 2
  apply ByteArray.ext
  apply Array.toList_inj.1
  rw [strOfNums_data, List.map_map]
  simp [Function.comp_def]
theorem byteCells_get (l : List UInt8) (i : Nat) (h : i < l.length) : (byteCells l)[i]? = some (.int .u8 ((l.getD i 0).toNat : Int)) := by
  simp [byteCells, List.getD, h]
theorem byteCells_size (l : List UInt8) : (byteCells l).size = l.length := by simp [byteCells]
/-- one byte more, where a row of bytes has room -/
theorem byteCells_put (pre : List UInt8) (k : Nat) (x : UInt8) (h : 0 < k) : (byteCells (pre ++ List.replicate k 0)).setIfInBounds pre.length (.int .u8 (x.toNat : Int)) = byteCells (pre ++ [x] ++ List.replicate (k - 1) 0) := by
  cases k with
  | zero => omega
  | succ k =>
    apply Array.toList_inj.1
    simp [byteCells, List.replicate_succ]
theorem byteCells_room (pre : List UInt8) (k : Nat) (h : 0 < k) : (byteCells (pre ++ List.replicate k 0))[pre.length]? = some (.int .u8 0) := by
  cases k with
  | zero => omega
  | succ k => simp [byteCells, List.replicate_succ]
/-- the first bytes of a row, as a text -/
theorem arr_take {P : Program} (w : World) (b : Nat) (src e dst t : TypeId) (l : List UInt8) (hs : P.underlying src = some (.slice e)) (he : P.underlying e = some (.int .u8)) (hd : P.underlying dst = some .string)
    (hc : w.heap[b]? = some (.cells (byteCells l) t (0, 0))) (n c : Nat) (hn : n ≤ l.length) :
    (convert src dst (.slice (some ⟨b, 0, none⟩) n c)).run P w = .ok (.string ⟨(l.take n).toArray⟩) w := by
  have h := run_convert_bytes_arg (P := P) w src e hs he b 0 n c ((l.take n).map fun x => (x.toNat : Int)) (by simp; omega) (fun i hi => by
    rw [Nat.zero_add, cell_of_row w b i _ _ _ hc, byteCells_get l i (by omega)]
    have : i < l.length := by omega
    simp [List.getD, this, hi]) dst hd
  rw [h]
  congr 2
  apply ByteArray.ext
  apply Array.toList_inj.1
  rw [strOfNums_data, List.map_map]
  simp [Function.comp_def]

theorem setRow_alloc (w : World) (cs cs' : Array Value) (t : TypeId) : (w.alloc (.cells cs t)).setRow w.heap.size cs' = w.alloc (.cells cs' t) := by
  unfold World.setRow World.alloc
  congr 1
  apply Array.ext_getElem?
  intro k
  rw [Array.getElem?_modify]
  by_cases hk : w.heap.size = k
  · subst hk; simp
  · rw [if_neg hk, Array.getElem?_push, Array.getElem?_push, if_neg (fun e => hk e.symm), if_neg (fun e => hk e.symm)]
/-- a text that is copied to the head of a row of bytes that was made last -/
theorem copy_new {P : Program} (w : World) (dT sT ty e t : TypeId) (dLen dCap : Nat) (s : ByteArray) (n : Nat)
    (hu : P.underlying dT = some (.slice e)) (hs : (P.info? e).map (·.size) = some 1) (hle : s.size ≤ dLen) (hfit : s.size ≤ n) :
    (Builtin.copy_ #[dT, sT] ty #[.slice (some ⟨w.heap.size, 0, none⟩) dLen dCap, .string s]).run P (w.alloc (.cells (byteCells (List.replicate n 0)) t)) =
      .ok (goInt s.size) (w.alloc (.cells (byteCells (s.data.toList ++ List.replicate (n - s.size) 0)) t)) := by
  rw [Lib.run_copy_row_string (P := P) _ dT sT ty e w.heap.size 0 dLen dCap s (byteCells (List.replicate n 0)) t hu hs (heap_alloc_new w _) hle (by simp [byteCells]; omega), setRow_alloc]
  congr 3
  apply Array.toList_inj.1
  simp [byteCells, Lib.byteCells]

/-- bytes, as values -/
def byteVals (l : List UInt8) : List Value := l.map fun b => Value.int .u8 (b.toNat : Int)
theorem byteVals_append (a b : List UInt8) : byteVals (a ++ b) = byteVals a ++ byteVals b := by simp [byteVals]
/-- a slice of bytes of the call's own, as a text -/
theorem own_bytes {P : Program} {w : World} {base e src dst : TypeId} {v : Value} {n : Nat} (l : List UInt8)
    (hs : P.underlying src = some (.slice e)) (he : P.underlying e = some (.int .u8)) (hd : P.underlying dst = some .string)
    (h : w.ownsRow base e 1 v n (byteVals l)) : (convert src dst v).run P w = .ok (.string ⟨l.toArray⟩) w := by
  have e1 : byteVals l = (l.map fun b => (b.toNat : Int)).map (Value.int .u8) := by simp [byteVals]
  rw [e1] at h
  rw [own_string _ hs he hd h]
  congr 2
  apply ByteArray.ext
  apply Array.toList_inj.1
  rw [strOfNums_data, List.map_map]
  simp [Function.comp_def]

/-- a block's cells: a name of its own, so that no simp takes it apart -/
def RowIs (W : World) (b : Nat) (o : Obj) : Prop := W.heap[b]? = some o
theorem RowIs.keep {W W2 : World} {b : Nat} {o : Obj} (h : RowIs W b o) (hb : Below W.heap.size W W2) : RowIs W2 b o := heap_keep h hb
theorem RowIs.one (w : World) (o : Obj) : RowIs (w.alloc o) w.heap.size o := heap_alloc_new w o
theorem RowIs.two (w : World) (a o : Obj) : RowIs ((w.alloc a).alloc o) (w.heap.size + 1) o := heap_alloc2_new w a o
theorem RowIs.drew (W : World) (b : Nat) (o : Obj) : RowIs W.drew b o = RowIs W b o := rfl
theorem RowIs.same {W W2 : World} (hb : Below W.heap.size W W2) (b : Nat) (o : Obj) (h : b < W.heap.size) : RowIs W2 b o = RowIs W b o := by
  unfold RowIs; rw [hb.block b h]
theorem RowIs.under (W : World) (a o : Obj) (b : Nat) (h : b < W.heap.size) : RowIs (W.alloc a) b o = RowIs W b o := by
  unfold RowIs; rw [heap_alloc_old W a h]

theorem run_part_int {P : Program} (w : World) (e : TypeId) (k : IntKind) (he : P.underlying e = some (.int k)) (cs : Array Value) (j : Nat) (v : Value) (hv : cs[j]? = some v) : (part e cs j).run P w = .ok v w := by
  have hagg : (isAgg e).run P w = .ok false w := by
    unfold isAgg
    rw [Sem.run_bind, run_underlying he w]
    simp
  simp [part, Sem.run_bind, hagg, hv]
theorem run_equalIn_arr4 {P : Program} (w : World) (d : Nat) (t e : TypeId) (i : TypeInfo) (ht : P.underlying t = some (.array 4 e)) (he : P.underlying e = some (.int .u8)) (hi : P.info? e = some i) (hs : i.size = 1) (a0 a1 a2 a3 b0 b1 b2 b3 : Int)
    (f : Int → Int → Bool) (heq : ∀ a b : Int, (Op.equalIn d e (.int .u8 a) (.int .u8 b)).run P w = .ok (f a b) w) :
    (Op.equalIn (d + 1) t (.agg #[.int .u8 a0, .int .u8 a1, .int .u8 a2, .int .u8 a3]) (.agg #[.int .u8 b0, .int .u8 b1, .int .u8 b2, .int .u8 b3])).run P w = .ok (f a0 b0 && (f a1 b1 && (f a2 b2 && f a3 b3))) w := by
  have hu := run_underlying ht
  have pa := fun (cs : Array Value) (j : Nat) (v : Value) (hv : cs[j]? = some v) => run_part_int (P := P) w e .u8 he cs j v hv
  have r4 : List.range' 0 4 = [0, 1, 2, 3] := rfl
  have p0 := pa #[.int .u8 a0, .int .u8 a1, .int .u8 a2, .int .u8 a3] 0 (.int .u8 a0) rfl
  have p1 := pa #[.int .u8 a0, .int .u8 a1, .int .u8 a2, .int .u8 a3] 1 (.int .u8 a1) rfl
  have p2 := pa #[.int .u8 a0, .int .u8 a1, .int .u8 a2, .int .u8 a3] 2 (.int .u8 a2) rfl
  have p3 := pa #[.int .u8 a0, .int .u8 a1, .int .u8 a2, .int .u8 a3] 3 (.int .u8 a3) rfl
  have q0 := pa #[.int .u8 b0, .int .u8 b1, .int .u8 b2, .int .u8 b3] 0 (.int .u8 b0) rfl
  have q1 := pa #[.int .u8 b0, .int .u8 b1, .int .u8 b2, .int .u8 b3] 1 (.int .u8 b1) rfl
  have q2 := pa #[.int .u8 b0, .int .u8 b1, .int .u8 b2, .int .u8 b3] 2 (.int .u8 b2) rfl
  have q3 := pa #[.int .u8 b0, .int .u8 b1, .int .u8 b2, .int .u8 b3] 3 (.int .u8 b3) rfl
  simp only [Op.equalIn, Sem.run_bind, hu, Result.andThen_ok, sizeOf, typeInfo, run_program, hi, hs, Std.Legacy.Range.forIn_eq_forIn_range', Sem.run_pure]
  simp only [Std.Legacy.Range.size, Nat.sub_zero, Nat.add_sub_cancel, Nat.div_one, r4, List.forIn_cons, List.forIn_nil, Sem.run_bind, Nat.mul_one, p0, q0, heq, Result.andThen_ok]
  cases h0 : f a0 b0 <;> cases h1 : f a1 b1 <;> cases h2 : f a2 b2 <;> cases h3 : f a3 b3 <;> simp [h1, h2, h3, Sem.run_bind, p1, p2, p3, q1, q2, q3, heq]
end Go.Proofs.YtfibapfehgglhaaGreatDoor
/-
  The plain mathematics of small numbers: seven bits a byte, the lowest first; and back.
-/
namespace Go.Proofs.YtfibapfehgglhaaGreatDoor
namespace Num

/-- a number by seven bits a byte; f: how many bytes more there may be -/
def enc : Nat → Nat → List UInt8
  | 0, n => [UInt8.ofNat n]
  | f + 1, n => if 128 ≤ n then UInt8.ofNat (n % 128 + 128) :: enc f (n / 128) else [UInt8.ofNat n]
def small (n : Nat) : List UInt8 := enc 9 n
/-- what bytes begin with, behind i bytes that came to v: the number, and how many bytes -/
def dec (i v : Nat) : List UInt8 → Option (Nat × Nat)
  | [] => none
  | b :: r =>
    if 10 ≤ i ∨ (i = 9 ∧ 1 < b.toNat) then none
    else if b.toNat < 128 then (if b.toNat ≠ 0 ∨ i = 0 then some (v + b.toNat % 128 * 128 ^ i, i + 1) else none)
    else dec (i + 1) (v + b.toNat % 128 * 128 ^ i) r

theorem enc_length_pos (f n : Nat) : 1 ≤ (enc f n).length := by
  cases f with
  | zero => simp [enc]
  | succ f => unfold enc; split <;> simp
theorem enc_length_le (f : Nat) : ∀ n, (enc f n).length ≤ f + 1 := by
  induction f with
  | zero => intro n; simp [enc]
  | succ f ih => intro n; unfold enc; split <;> simp; exact ih _
theorem enc_mono (f : Nat) : ∀ a b, a ≤ b → (enc f a).length ≤ (enc f b).length := by
  induction f with
  | zero => intro a b _; simp [enc]
  | succ f ih =>
    intro a b h
    unfold enc
    by_cases ha : 128 ≤ a
    · rw [if_pos ha, if_pos (by omega)]
      simp only [List.length_cons]
      have := ih (a / 128) (b / 128) (by omega)
      omega
    · rw [if_neg ha]
      split
      · simp
      · simp
theorem enc_short (f : Nat) : ∀ (i n : Nat), n < 128 ^ i → 1 ≤ i → (enc f n).length ≤ i := by
  induction f with
  | zero => intro i n _ h1; simp [enc]; omega
  | succ f ih =>
    intro i n h h1
    unfold enc
    split
    · rename_i hn
      have h2 : 2 ≤ i := by
        rcases Nat.lt_or_ge i 2 with h3 | h3
        · obtain rfl : i = 1 := by omega
          simp at h; omega
        · exact h3
      have hd : n / 128 < 128 ^ (i - 1) := by
        rw [Nat.div_lt_iff_lt_mul (by decide), ← Nat.pow_succ, show (i - 1).succ = i from by omega]; exact h
      have := ih (i - 1) (n / 128) hd (by omega)
      simp only [List.length_cons]; omega
    · simp; omega

theorem pow_split (i : Nat) (h : i ≤ 8) : 128 ^ (9 - i) = 128 * 128 ^ (9 - (i + 1)) := by
  rw [show 9 - i = (9 - (i + 1)) + 1 from by omega, Nat.pow_succ, Nat.mul_comm]
/-- what was written is read -/
theorem dec_enc (rest : List UInt8) : ∀ (k i v m : Nat), k + i = 9 → m < 2 * 128 ^ k → (m ≠ 0 ∨ i = 0) →
    dec i v (enc k m ++ rest) = some (v + m * 128 ^ i, i + (enc k m).length) := by
  intro k
  induction k with
  | zero =>
    intro i v m hk hm h0
    have hm2 : m < 2 := by simpa using hm
    have e : (UInt8.ofNat m).toNat = m := by simp; omega
    show dec i v (UInt8.ofNat m :: rest) = _
    unfold dec
    rw [e, if_neg (by omega), if_pos (by omega), if_pos h0, Nat.mod_eq_of_lt (by omega)]
    simp [enc]
  | succ k ih =>
    intro i v m hk hm h0
    by_cases hc : 128 ≤ m
    · have e : (UInt8.ofNat (m % 128 + 128)).toNat = m % 128 + 128 := by simp; omega
      have he : enc (k + 1) m = UInt8.ofNat (m % 128 + 128) :: enc k (m / 128) := by rw [enc, if_pos hc]
      rw [he, List.cons_append]
      unfold dec
      rw [e, if_neg (by omega), if_neg (by omega)]
      have hm' : m / 128 < 2 * 128 ^ k := by rw [Nat.pow_succ] at hm; omega
      rw [ih (i + 1) _ (m / 128) (by omega) hm' (.inl (by omega))]
      have e2 : v + (m % 128 + 128) % 128 * 128 ^ i + m / 128 * 128 ^ (i + 1) = v + m * 128 ^ i := by
        have h1 : (m % 128 + 128) % 128 = m % 128 := by omega
        rw [h1, Nat.pow_succ, Nat.add_assoc]
        congr 1
        have h2 : m / 128 * (128 ^ i * 128) = m / 128 * 128 * 128 ^ i := by rw [Nat.mul_comm (128 ^ i), Nat.mul_assoc]
        rw [h2, ← Nat.add_mul]
        congr 1
        omega
      rw [e2]
      simp; omega
    · have e : (UInt8.ofNat m).toNat = m := by simp; omega
      have he : enc (k + 1) m = [UInt8.ofNat m] := by rw [enc, if_neg hc]
      rw [he]
      show dec i v (UInt8.ofNat m :: rest) = _
      unfold dec
      rw [e, if_neg (by omega), if_pos (by omega), if_pos h0, Nat.mod_eq_of_lt (by omega)]
      simp
/-- nothing else is read -/
theorem enc_dec : ∀ (l : List UInt8) (i v n k : Nat), dec i v l = some (n, k) →
    ∃ m, n = v + m * 128 ^ i ∧ i < k ∧ k ≤ i + l.length ∧ i ≤ 9 ∧ enc (9 - i) m = l.take (k - i) ∧ m < 2 * 128 ^ (9 - i) ∧ (m ≠ 0 ∨ i = 0)
  | [], _, _, _, _, h => by simp [dec] at h
  | b :: r, i, v, n, k, h => by
    have hb := b.toNat_lt
    unfold dec at h
    split at h
    · simp at h
    · rename_i hi
      have hi9 : i ≤ 9 := by omega
      split at h
      · rename_i hlt
        split at h
        · rename_i h0
          simp only [Option.some.injEq, Prod.mk.injEq] at h
          obtain ⟨rfl, rfl⟩ := h
          refine ⟨b.toNat, by rw [Nat.mod_eq_of_lt hlt], by omega, by simp, hi9, ?_, ?_, h0⟩
          · rw [show i + 1 - i = 1 from by omega]
            cases hk : 9 - i with
            | zero => simp [enc]
            | succ f => rw [enc, if_neg (by omega)]; simp
          · rcases Nat.lt_or_ge i 9 with h9 | h9
            · have : 128 ^ 1 ≤ 128 ^ (9 - i) := Nat.pow_le_pow_right (by decide) (by omega)
              omega
            · obtain rfl : i = 9 := by omega
              simp; omega
        · simp at h
      · rename_i hge
        obtain ⟨m, h1, h2, h3, h4, h5, h6, h7⟩ := enc_dec r (i + 1) _ n k h
        have hm0 : m ≠ 0 := by omega
        have hk : 9 - i = (9 - (i + 1)) + 1 := by omega
        refine ⟨b.toNat % 128 + 128 * m, ?_, by omega, by simp; omega, hi9, ?_, ?_, .inl (by omega)⟩
        · rw [h1, Nat.pow_succ, Nat.add_assoc]
          congr 1
          rw [Nat.add_mul]
          congr 1
          rw [Nat.mul_comm (128 ^ i), ← Nat.mul_assoc, Nat.mul_comm m]
        · rw [hk, enc, if_pos (by omega), show k - i = (k - (i + 1)) + 1 from by omega, List.take_succ_cons]
          congr 1
          · have e : (b.toNat % 128 + 128 * m) % 128 + 128 = b.toNat := by omega
            rw [e]; simp
          · rw [show (b.toNat % 128 + 128 * m) / 128 = m from by omega]; exact h5
        · rw [hk, Nat.pow_succ]; omega
/-- what is told of bytes: the number, how many bytes, and whether they are right -/
def decp (i v : Nat) : List UInt8 → Nat × Nat × Bool
  | [] => (0, 0, false)
  | b :: r =>
    if 10 ≤ i ∨ (i = 9 ∧ 1 < b.toNat) then (0, 0, false)
    else if b.toNat < 128 then (v + b.toNat % 128 * 128 ^ i, i + 1, decide (b.toNat ≠ 0 ∨ i = 0))
    else decp (i + 1) (v + b.toNat % 128 * 128 ^ i) r
theorem decp_dec : ∀ (l : List UInt8) (i v : Nat), dec i v l = if (decp i v l).2.2 = true then some ((decp i v l).1, (decp i v l).2.1) else none
  | [], i, v => by simp [dec, decp]
  | b :: r, i, v => by
    unfold dec decp
    split
    · simp
    · split
      · split <;> simp_all
      · exact decp_dec r (i + 1) _
/-- a text's first bytes as a number -/
def get (l : List UInt8) : Option (Nat × Nat) := dec 0 0 l
theorem get_small (n : Nat) (hn : n < 18446744073709551616) (rest : List UInt8) : get (small n ++ rest) = some (n, (small n).length) := by
  have h := dec_enc rest 9 0 0 n rfl (by simp; omega) (.inr rfl)
  unfold get small
  rw [h]; simp
theorem small_get (l : List UInt8) (n k : Nat) (h : get l = some (n, k)) : small n = l.take k ∧ 1 ≤ k ∧ k ≤ l.length ∧ n < 18446744073709551616 := by
  obtain ⟨m, h1, h2, h3, _, h5, h6, _⟩ := enc_dec l 0 0 n k h
  have e : n = m := by rw [h1]; simp
  subst e
  refine ⟨by unfold small; simpa using h5, by omega, by omega, by simpa using h6⟩
theorem decp_lt : ∀ (l : List UInt8) (i v : Nat), v < 128 ^ i → i ≤ 9 → (decp i v l).1 < 18446744073709551616
  | [], _, _, _, _ => by simp [decp]
  | b :: r, i, v, hv, hi => by
    have hb := b.toNat_lt
    unfold decp
    split
    · simp
    · rename_i hc
      rcases Nat.lt_or_ge i 9 with h9 | h9
      · have hs : v + b.toNat % 128 * 128 ^ i < 128 ^ (i + 1) := by
          have h1 : b.toNat % 128 * 128 ^ i ≤ 127 * 128 ^ i := Nat.mul_le_mul_right _ (by omega)
          rw [Nat.pow_succ]; omega
        split
        · have h2 : 128 ^ (i + 1) ≤ 128 ^ 9 := Nat.pow_le_pow_right (by decide) (by omega)
          show v + b.toNat % 128 * 128 ^ i < _
          omega
        · exact decp_lt r (i + 1) _ hs (by omega)
      · obtain rfl : i = 9 := by omega
        have hb1 : b.toNat ≤ 1 ∨ 128 ≤ b.toNat := by omega
        split
        · have h1 : b.toNat % 128 * 128 ^ 9 ≤ 1 * 128 ^ 9 := Nat.mul_le_mul_right _ (by omega)
          show v + b.toNat % 128 * 128 ^ 9 < _
          omega
        · cases r with
          | nil => simp [decp]
          | cons c r => simp [decp]
theorem decp_snd : ∀ (l : List UInt8) (i v : Nat), (decp i v l).2.1 ≤ i + l.length
  | [], _, _ => by simp [decp]
  | b :: r, i, v => by
    unfold decp
    split
    · simp
    · split
      · simp
      · have := decp_snd r (i + 1) (v + b.toNat % 128 * 128 ^ i)
        simp only [List.length_cons]; omega
end Num
end Go.Proofs.YtfibapfehgglhaaGreatDoor
