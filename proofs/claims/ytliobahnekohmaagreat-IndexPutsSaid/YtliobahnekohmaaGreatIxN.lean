import Derived.Test.YtliobahnekohmaaGreatLaR
import Derived.Test.YtliobahnekohmaaGreatFrM
/-
  Entries as bytes, as mathematics: cursors, symbols, the three generations, and that what is put is read again.
-/
namespace Go.Proofs.YtliobahnekohmaaGreat
open Go.RowKit
namespace Ix
structure Cu where
 s : ByteArray
 bad : Bool
def Cu.go {α : Type} (c : Cu) (ok : Bool) (v z : α) (n : Nat) : α × Cu :=
 (Num.curV c.bad ok v z, ⟨Num.curV c.bad ok (c.s.extract n c.s.size) c.s, c.bad || !ok⟩)
theorem go_ok {α : Type} (s : ByteArray) (v z : α) (n : Nat) : Cu.go ⟨s, false⟩ true v z n = (v, ⟨s.extract n s.size, false⟩) := rfl
theorem go_size {α : Type} (c : Cu) (ok : Bool) (v z : α) (n : Nat) : (Cu.go c ok v z n).2.s.size ≤ c.s.size := by
 unfold Cu.go Num.curV
 show (if (c.bad || !ok) = true then c.s else c.s.extract n c.s.size).size ≤ _
 split
 · exact Nat.le_refl _
 · rw [ByteArray.size_extract]; omega
def Cu.small (c : Cu) : Nat × Cu := c.go (Fr.num c.s).2.2 (Fr.num c.s).1 0 (Fr.num c.s).2.1
def Cu.wide (c : Cu) : Nat × Cu := c.go (decide (8 ≤ c.s.size)) (if decide (8 ≤ c.s.size) = true then Num.num (c.s.data.toList.take 8) else 0) 0 (if decide (8 ≤ c.s.size) = true then 8 else 0)
def Cu.text (c : Cu) (m : Int) : ByteArray × Cu := c.go (Num.xOk m c.s) (if Num.xOk m c.s = true then Num.xV c.s else ByteArray.empty) ByteArray.empty (if Num.xOk m c.s = true then Num.xN c.s else 0)
def Cu.take (c : Cu) (m : Int) : ByteArray × Cu := c.go (Num.tOk m c.s) (if Num.tOk m c.s = true then c.s.extract 0 m.toNat else ByteArray.empty) ByteArray.empty (if Num.tOk m c.s = true then m.toNat else 0)
def Cu.fixed (c : Cu) (k : Nat) : ByteArray × Cu := c.go (Num.fAll k c.s) (Num.fT k c.s) ByteArray.empty (Num.fN k c.s)
theorem small_size (c : Cu) : c.small.2.s.size ≤ c.s.size := go_size ..
theorem wide_size (c : Cu) : c.wide.2.s.size ≤ c.s.size := go_size ..
theorem text_size (c : Cu) (m : Int) : (c.text m).2.s.size ≤ c.s.size := go_size ..
theorem take_size (c : Cu) (m : Int) : (c.take m).2.s.size ≤ c.s.size := go_size ..
theorem fixed_size (c : Cu) (k : Nat) : (c.fixed k).2.s.size ≤ c.s.size := go_size ..
theorem small_app (n : Nat) (hn : n < 18446744073709551616) (r : ByteArray) : Cu.small ⟨Num.smallB n ++ r, false⟩ = (n, ⟨r, false⟩) := by
 have h : Fr.num (Num.smallB n ++ r) = (n, (Num.smallB n).size, true) := Num.decp_small n hn r
 unfold Cu.small
 rw [h, go_ok, Num.drop_app]
theorem wide_app (n : Nat) (hn : n < 18446744073709551616) (r : ByteArray) : Cu.wide ⟨Num.wideB n ++ r, false⟩ = (n, ⟨r, false⟩) := by
 have h8 : (Num.wideB n).size = 8 := by rw [Lib.size_eq]; exact Num.le_length n 8
 have h : decide (8 ≤ (Num.wideB n ++ r).size) = true := by rw [ByteArray.size_append]; simp; omega
 unfold Cu.wide
 show Cu.go ⟨Num.wideB n ++ r, false⟩ (decide (8 ≤ (Num.wideB n ++ r).size)) _ 0 _ = _
 simp only [h, if_true]
 rw [go_ok, Num.num_wide n hn r]
 have := Num.drop_app (Num.wideB n) r
 rw [h8] at this
 rw [this]
theorem text_app (t r : ByteArray) (m : Int) (hm : (t.size : Int) ≤ m) (ht : t.size ≤ maxLen) : Cu.text ⟨Fr.txt t ++ r, false⟩ m = (t, ⟨r, false⟩) := by
 unfold maxLen at ht
 have h : Num.decp 0 0 (Fr.txt t ++ r).data.toList = (t.size, (Num.smallB t.size).size, true) := by
  unfold Fr.txt; rw [ByteArray.append_assoc]; exact Num.decp_small t.size (by omega) (t ++ r)
 have hn : Num.xN (Fr.txt t ++ r) = (Fr.txt t).size := by unfold Num.xN; rw [h]; unfold Fr.txt; rw [ByteArray.size_append]
 have ho : Num.xOk m (Fr.txt t ++ r) = true := by
  unfold Num.xOk
  rw [h]
  unfold Fr.txt
  simp only [Bool.true_and, decide_eq_true_eq, ByteArray.size_append]
  omega
 have hv : Num.xV (Fr.txt t ++ r) = t := by
  unfold Num.xV
  rw [hn, h]
  unfold Fr.txt
  rw [ByteArray.size_append]
  exact Fr.ext_mid (Num.smallB t.size) t r
 unfold Cu.text
 simp only [ho, if_true, hv, hn]
 rw [go_ok, Num.drop_app]
theorem fixed_app (t r : ByteArray) (z : Nat) (hz : z ≤ 255) (ht : t.size ≤ z) : Cu.fixed ⟨Num.fixedB t z ++ r, false⟩ z = (t, ⟨r, false⟩) := by
 obtain ⟨h1, h2, h3⟩ := Num.fixed_app t r z hz
 have h4 : t.extract 0 z = t := by
  apply ByteArray.ext; apply Array.toList_inj.1
  have : t.data.toList.length = t.size := by simp
  simp only [ByteArray.data_extract, Array.toList_extract, List.extract_eq_take_drop, List.drop_zero, Nat.sub_zero]
  exact List.take_of_length_le (by omega)
 unfold Cu.fixed
 show Cu.go ⟨Num.fixedB t z ++ r, false⟩ (Num.fAll z (Num.fixedB t z ++ r)) (Num.fT z (Num.fixedB t z ++ r)) _ (Num.fN z (Num.fixedB t z ++ r)) = _
 rw [h1, h2, h3, h4, go_ok, Num.drop_app]
theorem take_app (t r : ByteArray) : Cu.take ⟨t ++ r, false⟩ (t.size : Int) = (t, ⟨r, false⟩) := by
 have h : Num.tOk (t.size : Int) (t ++ r) = true := by
  unfold Num.tOk
  simp only [decide_eq_true_eq, ByteArray.size_append]
  omega
 unfold Cu.take
 simp only [h, if_true, Int.toNat_natCast]
 rw [go_ok, Num.drop_app, Num.take_app]
structure Ent where
 l : List Lab
 last : Int
 off : Int
 len : Int
def isG (g : Int) : Bool := decide (1 ≤ g ∧ g ≤ 3)
def isPlace (n : Int) : Bool := decide (0 ≤ n ∧ n ≤ 1073741824)
def key (l : List Lab) : ByteArray := La.keyB (La.at_ l) l.length
def long (l : List Lab) : Nat := La.longest (La.at_ l) l.length
def okE (L : List Ent) (i : Nat) (e : Ent) : Bool :=
 La.rightL e.l && (decide (i = 0) || La.less (key ((L.getD (i - 1) ⟨[], 0, 0, 0⟩).l)) (key e.l)) && (decide (0 ≤ e.last ∧ e.last ≤ 1125899906842624) && (isPlace e.off && isPlace e.len))
def at_ (L : List Ent) (i : Nat) : Ent := L.getD i ⟨[], 0, 0, 0⟩
def okAll (L : List Ent) : Bool := (List.range L.length).all fun i => okE L i (at_ L i)
def fits (g : Int) (L : List Ent) : Bool := L.all fun e => decide (long e.l ≤ La.limit g)
def valid (L : List Ent) (g : Int) : Int :=
 if isG g = false ∨ 20 < L.length then 1 else if okAll L = false then 1 else if fits g L = false then 3 else 0
structure Good (g : Int) (L : List Ent) : Prop where
 gen : 1 ≤ g ∧ g ≤ 3
 few : L.length ≤ 20
 right : ∀ e ∈ L, La.rightL e.l = true
 short : ∀ e ∈ L, long e.l ≤ La.limit g
 last : ∀ e ∈ L, 0 ≤ e.last ∧ e.last ≤ 1125899906842624
 off : ∀ e ∈ L, 0 ≤ e.off ∧ e.off ≤ 1073741824
 len : ∀ e ∈ L, 0 ≤ e.len ∧ e.len ≤ 1073741824
theorem at_mem {L : List Ent} {e : Ent} (h : e ∈ L) : ∃ i, i < L.length ∧ at_ L i = e := by
 obtain ⟨i, hi, rfl⟩ := List.getElem_of_mem h
 exact ⟨i, hi, by unfold at_; simp [List.getD, hi]⟩
theorem good {L : List Ent} {g : Int} (h : valid L g = 0) : Good g L := by
 unfold valid at h
 split at h
 · simp at h
 rename_i h1
 split at h
 · simp at h
 rename_i h2
 split at h
 · simp at h
 rename_i h3
 have hg : isG g = true := by
  rcases hb : isG g with _ | _
  · exact absurd (Or.inl hb) h1
  · rfl
 have hl : L.length ≤ 20 := by
  rcases Nat.lt_or_ge 20 L.length with h | h
  · exact absurd (Or.inr h) h1
  · exact h
 have ha : okAll L = true := by simpa using h2
 have hf : fits g L = true := by simpa using h3
 have hat : ∀ e ∈ L, ∃ i, okE L i e = true := fun e he => by
  obtain ⟨i, hi, rfl⟩ := at_mem he
  exact ⟨i, List.all_eq_true.1 ha i (List.mem_range.2 hi)⟩
 have hparts : ∀ e ∈ L, La.rightL e.l = true ∧ (0 ≤ e.last ∧ e.last ≤ 1125899906842624) ∧ (0 ≤ e.off ∧ e.off ≤ 1073741824) ∧ (0 ≤ e.len ∧ e.len ≤ 1073741824) := fun e he => by
  obtain ⟨i, hi⟩ := hat e he
  unfold okE isPlace at hi
  simp only [Bool.and_eq_true, decide_eq_true_eq] at hi
  exact ⟨hi.1.1, hi.2.1, hi.2.2.1, hi.2.2.2⟩
 refine ⟨by simpa [isG] using hg, hl, fun e he => (hparts e he).1, fun e he => ?_, fun e he => (hparts e he).2.1, fun e he => (hparts e he).2.2.1, fun e he => (hparts e he).2.2.2⟩
 have := List.all_eq_true.1 hf e he
 simpa using this
def byte (n : Int) : ByteArray := strOfNums [n % 256]
theorem byte_size (n : Int) : (byte n).size = 1 := by unfold byte; rw [strOfNums_size]; rfl
def b0 (s : ByteArray) : Nat := (s.data.toList.getD 0 0).toNat
theorem byte_at (n : Nat) (h : n ≤ 255) : b0 (byte n) = n := by
 unfold b0 byte
 rw [strOfNums_data]
 have h1 : (n : Int) % 256 = n := by omega
 rw [h1]
 simp
 omega
def u64 (n : Int) : Nat := (n % 18446744073709551616).toNat
theorem u64_lt (n : Int) : u64 n < 18446744073709551616 := by unfold u64; omega
theorem u64_nat {n : Int} (h : 0 ≤ n ∧ n ≤ 1125899906842624) : u64 n = n.toNat := by unfold u64; omega
def i64 (n : Nat) : Int := IntKind.i64.wrap (n : Int)
theorem i64_low {n : Nat} (h : n < 9223372036854775808) : i64 n = (n : Int) := by
 unfold i64
 exact IntWalk.i64_in _ (by omega)
theorem i64_u64 {n : Int} (h : 0 ≤ n ∧ n ≤ 1125899906842624) : i64 (u64 n) = n := by
 rw [u64_nat h, i64_low (by omega)]; omega
def Cu.atMost (m : Nat) (x : Nat × Cu) : Nat × Cu := if x.2.bad = true ∨ m < x.1 then (0, ⟨x.2.s, true⟩) else x
def place (S : List ByteArray) (k : ByteArray) : Nat := S.findIdx (fun x => decide (x = k))
theorem place_lt {S : List ByteArray} {k : ByteArray} (h : k ∈ S) : place S k < S.length ∧ S.getD (place S k) ByteArray.empty = k := by
 have h1 : place S k < S.length := List.findIdx_lt_length_of_exists ⟨k, h, by simp⟩
 refine ⟨h1, ?_⟩
 have := List.findIdx_getElem (w := h1)
 rw [List.getD_eq_getElem?_getD, List.getElem?_eq_getElem h1]
 exact of_decide_eq_true this
def shared (a b : ByteArray) : Nat := ((a.data.toList.zip b.data.toList).takeWhile (fun p => decide (p.1 = p.2))).length
def symsB (sh : Bool) : ByteArray → List ByteArray → ByteArray
 | _, [] => ByteArray.empty
 | a, x :: S => (if sh = true then Num.smallB (shared a x) ++ Fr.txt (x.extract (shared a x) x.size) else Fr.txt x) ++ symsB sh x S
def rdSyms (sh : Bool) : Nat → ByteArray → Cu → List ByteArray × ByteArray × Cu
 | 0, a, c => ([], a, c)
 | k + 1, a, c =>
  let n := if sh = true then Cu.atMost a.size c.small else (0, c)
  let t := n.2.text 48
  let r := rdSyms sh k (a.extract 0 n.1 ++ t.1) t.2
  ((a.extract 0 n.1 ++ t.1) :: r.1, r.2.1, r.2.2)
theorem shared_eq (a b : ByteArray) : shared a b = ((a.data.toList.zip b.data.toList).takeWhile (fun p => decide (p.1 = p.2))).length := rfl
theorem shared_take : ∀ (a b : List UInt8), a.take ((a.zip b).takeWhile (fun p => decide (p.1 = p.2))).length = b.take ((a.zip b).takeWhile (fun p => decide (p.1 = p.2))).length ∧ ((a.zip b).takeWhile (fun p => decide (p.1 = p.2))).length ≤ a.length ∧ ((a.zip b).takeWhile (fun p => decide (p.1 = p.2))).length ≤ b.length
 | [], _ => by simp
 | _ :: _, [] => by simp
 | x :: a, y :: b => by
  obtain ⟨h1, h2, h3⟩ := shared_take a b
  rw [List.zip_cons_cons, List.takeWhile_cons]
  by_cases h : x = y
  · rw [if_pos (by simpa using h)]
    refine ⟨?_, by simp; omega, by simp; omega⟩
    rw [List.length_cons, List.take_succ_cons, List.take_succ_cons, h1, h]
  · rw [if_neg (by simpa using h)]
    simp
theorem shared_le (a b : ByteArray) : shared a b ≤ a.size ∧ shared a b ≤ b.size := by
 obtain ⟨-, h2, h3⟩ := shared_take a.data.toList b.data.toList
 rw [shared_eq, ← Crc.size_list a, ← Crc.size_list b]
 exact ⟨h2, h3⟩
theorem shared_join (a b : ByteArray) : a.extract 0 (shared a b) ++ b.extract (shared a b) b.size = b := by
 obtain ⟨h1, h2, h3⟩ := shared_take a.data.toList b.data.toList
 rw [← shared_eq] at h1 h2 h3
 apply Crc.ba_ext
 rw [Crc.data_append, Crc.extract_data', Crc.extract_data']
 simp only [List.drop_zero, Nat.sub_zero]
 have e2 : (b.data.toList.drop (shared a b)).take (b.size - shared a b) = b.data.toList.drop (shared a b) := List.take_of_length_le (by rw [List.length_drop, Crc.size_list]; exact Nat.le_refl _)
 rw [h1, e2, List.take_append_drop]
theorem atMost_ok {n m : Nat} (h : n ≤ m) (r : ByteArray) : Cu.atMost m (n, ⟨r, false⟩) = (n, ⟨r, false⟩) := by
 unfold Cu.atMost
 rw [if_neg (by rintro (h2 | h2); (· cases h2); omega)]
theorem rdSyms_syms (sh : Bool) : ∀ (S : List ByteArray) (a r : ByteArray), a.size ≤ 48 → (∀ x ∈ S, x.size ≤ 48) → rdSyms sh S.length a ⟨symsB sh a S ++ r, false⟩ = (S, S.getLast?.getD a, ⟨r, false⟩)
 | [], a, r, _, _ => by
  show ([], a, (⟨ByteArray.empty ++ r, false⟩ : Cu)) = _
  rw [ByteArray.empty_append]; rfl
 | x :: S, a, r, ha, h => by
  have hx := h x (List.mem_cons_self ..)
  have ih := rdSyms_syms sh S x r hx (fun y hy => h y (List.mem_cons_of_mem _ hy))
  have hlast : (x :: S).getLast?.getD a = S.getLast?.getD x := by
   cases S with
   | nil => rfl
   | cons y T =>
    rw [List.getLast?_cons_cons]
    cases h : (y :: T).getLast? with
    | none => simp at h
    | some z => rfl
  obtain ⟨hs1, hs2⟩ := shared_le a x
  rw [List.length_cons]
  unfold rdSyms symsB
  cases sh
  · simp only [Bool.false_eq_true, if_false, ByteArray.append_assoc]
    have ht := text_app x (symsB false x S ++ r) 48 (by omega) (by unfold maxLen; omega)
    have he : a.extract 0 0 ++ x = x := by
     have : a.extract 0 0 = ByteArray.empty := by apply Crc.ba_ext; rw [Crc.extract_data']; rfl
     rw [this, ByteArray.empty_append]
    simp only [ht, he, ih, hlast]
  · simp only [if_true, ByteArray.append_assoc]
    have h1 := small_app (shared a x) (by omega) (Fr.txt (x.extract (shared a x) x.size) ++ (symsB true x S ++ r))
    have ht := text_app (x.extract (shared a x) x.size) (symsB true x S ++ r) 48 (by rw [ByteArray.size_extract]; omega) (by unfold maxLen; rw [ByteArray.size_extract]; omega)
    simp only [h1, atMost_ok hs1, ht, shared_join, ih, hlast]
def labsB (S : List ByteArray) : List Lab → ByteArray
 | [] => ByteArray.empty
 | x :: l => Num.smallB (place S x.1) ++ (Num.smallB (place S x.2) ++ labsB S l)
def rdSym (S : List ByteArray) (c : Cu) : ByteArray × Cu :=
 if c.small.2.bad = true ∨ S.length ≤ c.small.1 then (ByteArray.empty, ⟨c.small.2.s, true⟩) else (S.getD c.small.1 ByteArray.empty, c.small.2)
def rdLabs (S : List ByteArray) : Nat → Cu → List Lab × Cu
 | 0, c => ([], c)
 | k + 1, c =>
  let x := rdSym S c
  let y := rdSym S x.2
  let r := rdLabs S k y.2
  ((x.1, y.1) :: r.1, r.2)
def labels (S : List ByteArray) (c : Cu) : List Lab × Cu := rdLabs S (Cu.atMost 6 c.small).1 (Cu.atMost 6 c.small).2
theorem rdSym_app {S : List ByteArray} (hS : S.length ≤ 1000) {k : ByteArray} (h : k ∈ S) (r : ByteArray) : rdSym S ⟨Num.smallB (place S k) ++ r, false⟩ = (k, ⟨r, false⟩) := by
 obtain ⟨h1, h2⟩ := place_lt h
 have hs := small_app (place S k) (by omega) r
 unfold rdSym
 simp only [hs]
 rw [if_neg (by rintro (h | h); (· cases h); omega), h2]
theorem rdLabs_labs {S : List ByteArray} (hS : S.length ≤ 1000) : ∀ (l : List Lab) (r : ByteArray), (∀ x ∈ l, x.1 ∈ S ∧ x.2 ∈ S) → rdLabs S l.length ⟨labsB S l ++ r, false⟩ = (l, ⟨r, false⟩)
 | [], r, _ => by
  show ([], (⟨ByteArray.empty ++ r, false⟩ : Cu)) = _
  rw [ByteArray.empty_append]
 | x :: l, r, h => by
  have hx := h x (List.mem_cons_self ..)
  have ih := rdLabs_labs hS l r (fun y hy => h y (List.mem_cons_of_mem _ hy))
  have h1 := rdSym_app hS hx.1 (Num.smallB (place S x.2) ++ (labsB S l ++ r))
  have h2 := rdSym_app hS hx.2 (labsB S l ++ r)
  rw [List.length_cons]
  unfold rdLabs labsB
  simp only [ByteArray.append_assoc, h1, h2, ih]
theorem labels_app {S : List ByteArray} (hS : S.length ≤ 1000) {l : List Lab} (hl : l.length ≤ 6) (h : ∀ x ∈ l, x.1 ∈ S ∧ x.2 ∈ S) (r : ByteArray) : labels S ⟨Num.smallB l.length ++ (labsB S l ++ r), false⟩ = (l, ⟨r, false⟩) := by
 have h1 := small_app l.length (by omega) (labsB S l ++ r)
 unfold labels
 rw [h1, atMost_ok hl]
 exact rdLabs_labs hS l r h
def fixB : List Lab → ByteArray
 | [] => ByteArray.empty
 | x :: l => (Num.fixedB x.1 12 ++ Num.fixedB x.2 12) ++ fixB l
def rdFix : Nat → Cu → List Lab × Cu
 | 0, c => ([], c)
 | k + 1, c => if c.bad = true then ([], c) else
  let x := c.fixed 12
  let y := x.2.fixed 12
  let r := rdFix k y.2
  ((x.1, y.1) :: r.1, r.2)
theorem rdFix_fix : ∀ (l : List Lab) (r : ByteArray), (∀ x ∈ l, x.1.size ≤ 12 ∧ x.2.size ≤ 12) → rdFix l.length ⟨fixB l ++ r, false⟩ = (l, ⟨r, false⟩)
 | [], r, _ => by
  show ([], (⟨ByteArray.empty ++ r, false⟩ : Cu)) = _
  rw [ByteArray.empty_append]
 | x :: l, r, h => by
  have hx := h x (List.mem_cons_self ..)
  have ih := rdFix_fix l r (fun y hy => h y (List.mem_cons_of_mem _ hy))
  have h1 := fixed_app x.1 (Num.fixedB x.2 12 ++ (fixB l ++ r)) 12 (by decide) hx.1
  have h2 := fixed_app x.2 (fixB l ++ r) 12 (by decide) hx.2
  rw [List.length_cons]
  unfold rdFix fixB
  simp only [Bool.false_eq_true, if_false, ByteArray.append_assoc]
  simp only [h1, h2, ih]
def one1 (e : Ent) : ByteArray := byte e.l.length ++ fixB e.l ++ (Num.wideB (u64 e.last) ++ Num.wideB (u64 e.off) ++ Num.wideB (u64 e.len))
def rd1 (c : Cu) : Ent × Cu :=
 let n := c.take 1
 let l := rdFix (b0 n.1) n.2
 let a := l.2.wide
 let o := a.2.wide
 let z := o.2.wide
 (⟨l.1, i64 a.1, i64 o.1, i64 z.1⟩, z.2)
theorem rd1_one {e : Ent} (hl : e.l.length ≤ 255) (hs : ∀ x ∈ e.l, x.1.size ≤ 12 ∧ x.2.size ≤ 12) (h1 : 0 ≤ e.last ∧ e.last ≤ 1125899906842624) (h2 : 0 ≤ e.off ∧ e.off ≤ 1073741824) (h3 : 0 ≤ e.len ∧ e.len ≤ 1073741824) (r : ByteArray) : rd1 ⟨one1 e ++ r, false⟩ = (e, ⟨r, false⟩) := by
 obtain ⟨l, a, o, z⟩ := e
 simp only at hl hs h1 h2 h3
 have q0 := take_app (byte l.length) (fixB l ++ (Num.wideB (u64 a) ++ (Num.wideB (u64 o) ++ (Num.wideB (u64 z) ++ r))))
 rw [byte_size] at q0
 have q1 := rdFix_fix l (Num.wideB (u64 a) ++ (Num.wideB (u64 o) ++ (Num.wideB (u64 z) ++ r))) hs
 have q2 := wide_app (u64 a) (u64_lt _) (Num.wideB (u64 o) ++ (Num.wideB (u64 z) ++ r))
 have q3 := wide_app (u64 o) (u64_lt _) (Num.wideB (u64 z) ++ r)
 have q4 := wide_app (u64 z) (u64_lt _) r
 have hb := byte_at l.length hl
 unfold rd1 one1
 simp only [Int.natCast_one] at q0
 simp only [ByteArray.append_assoc, q0, hb, q1, q2, q3, q4]
 rw [i64_u64 h1, i64_u64 (by omega), i64_u64 (by omega)]
def one2 (S : List ByteArray) (e : Ent) : ByteArray := Num.smallB e.l.length ++ labsB S e.l ++ (Num.smallB (u64 e.last) ++ Num.smallB (u64 e.off) ++ Num.smallB (u64 e.len))
def rd2 (S : List ByteArray) (c : Cu) : Ent × Cu :=
 let l := labels S c
 let a := l.2.small
 let o := a.2.small
 let z := o.2.small
 (⟨l.1, i64 a.1, i64 o.1, i64 z.1⟩, z.2)
theorem rd2_one {S : List ByteArray} (hS : S.length ≤ 1000) {e : Ent} (hl : e.l.length ≤ 6) (hs : ∀ x ∈ e.l, x.1 ∈ S ∧ x.2 ∈ S) (h1 : 0 ≤ e.last ∧ e.last ≤ 1125899906842624) (h2 : 0 ≤ e.off ∧ e.off ≤ 1073741824) (h3 : 0 ≤ e.len ∧ e.len ≤ 1073741824) (r : ByteArray) : rd2 S ⟨one2 S e ++ r, false⟩ = (e, ⟨r, false⟩) := by
 obtain ⟨l, a, o, z⟩ := e
 simp only at hl hs h1 h2 h3
 have q1 := labels_app hS hl hs (Num.smallB (u64 a) ++ (Num.smallB (u64 o) ++ (Num.smallB (u64 z) ++ r)))
 have q2 := small_app (u64 a) (u64_lt _) (Num.smallB (u64 o) ++ (Num.smallB (u64 z) ++ r))
 have q3 := small_app (u64 o) (u64_lt _) (Num.smallB (u64 z) ++ r)
 have q4 := small_app (u64 z) (u64_lt _) r
 unfold rd2 one2
 simp only [ByteArray.append_assoc, q1, q2, q3, q4]
 rw [i64_u64 h1, i64_u64 (by omega), i64_u64 (by omega)]
def one3 (S : List ByteArray) (last end_ : Int) (e : Ent) : ByteArray := Num.smallB e.l.length ++ labsB S e.l ++ (Num.smallB (Num.zig (e.last - last)) ++ Num.smallB (Num.zig (e.off - end_)) ++ Num.smallB (u64 e.len))
def rd3 (S : List ByteArray) (last end_ : Int) (c : Cu) : Ent × Int × Int × Cu :=
 let l := labels S c
 let a := l.2.small
 let o := a.2.small
 let z := o.2.small
 (⟨l.1, IntKind.i64.wrap (last + Num.zag a.1), IntKind.i64.wrap (end_ + Num.zag o.1), i64 z.1⟩, IntKind.i64.wrap (last + Num.zag a.1), IntKind.i64.wrap (IntKind.i64.wrap (end_ + Num.zag o.1) + i64 z.1), z.2)
theorem rd3_one {S : List ByteArray} (hS : S.length ≤ 1000) {e : Ent} (hl : e.l.length ≤ 6) (hs : ∀ x ∈ e.l, x.1 ∈ S ∧ x.2 ∈ S) (h1 : 0 ≤ e.last ∧ e.last ≤ 1125899906842624) (h2 : 0 ≤ e.off ∧ e.off ≤ 1073741824) (h3 : 0 ≤ e.len ∧ e.len ≤ 1073741824)
 {last end_ : Int} (g1 : 0 ≤ last ∧ last ≤ 1125899906842624) (g2 : 0 ≤ end_ ∧ end_ ≤ 2147483648) (r : ByteArray) : rd3 S last end_ ⟨one3 S last end_ e ++ r, false⟩ = (e, e.last, e.off + e.len, ⟨r, false⟩) := by
 obtain ⟨l, a, o, z⟩ := e
 simp only at hl hs h1 h2 h3
 have z1 := Num.zig_lt (a - last) (by omega) (by omega)
 have z2 := Num.zig_lt (o - end_) (by omega) (by omega)
 have q1 := labels_app hS hl hs (Num.smallB (Num.zig (a - last)) ++ (Num.smallB (Num.zig (o - end_)) ++ (Num.smallB (u64 z) ++ r)))
 have q2 := small_app (Num.zig (a - last)) z1 (Num.smallB (Num.zig (o - end_)) ++ (Num.smallB (u64 z) ++ r))
 have q3 := small_app (Num.zig (o - end_)) z2 (Num.smallB (u64 z) ++ r)
 have q4 := small_app (u64 z) (u64_lt _) r
 have e1 : IntKind.i64.wrap (last + (a - last)) = a := by rw [show last + (a - last) = a by omega]; exact IntWalk.i64_in _ (by omega)
 have e2 : IntKind.i64.wrap (end_ + (o - end_)) = o := by rw [show end_ + (o - end_) = o by omega]; exact IntWalk.i64_in _ (by omega)
 have e3 : IntKind.i64.wrap (o + z) = o + z := IntWalk.i64_in _ (by omega)
 unfold rd3 one3
 simp only [ByteArray.append_assoc, q1, q2, q3, q4, Num.zag_zig, e1, e2]
 rw [i64_u64 (n := z) (by omega), e3]
end Ix
end Go.Proofs.YtliobahnekohmaaGreat
/-
  Entries as bytes, as mathematics: symbols in order, postings, whole bodies; what is put is read again; nothing else is put so.
-/
namespace Go.Proofs.YtliobahnekohmaaGreat
open Go.RowKit
namespace Ix
def ins (x : ByteArray) : List ByteArray → List ByteArray
 | [] => [x]
 | y :: S => if La.less y x = true then y :: ins x S else if y = x then y :: S else x :: y :: S
def insAll (W : List ByteArray) : List ByteArray := W.foldl (fun S x => ins x S) []
def words (L : List Ent) : List ByteArray := L.flatMap fun e => e.l.flatMap fun x => [x.1, x.2]
def syms (L : List Ent) : List ByteArray := insAll (words L)
def Rising (S : List ByteArray) : Prop := S.Pairwise fun a b => La.less a b = true
theorem ins_mem {x y : ByteArray} : ∀ {S : List ByteArray}, y ∈ ins x S ↔ y = x ∨ y ∈ S
 | [] => by simp [ins]
 | z :: S => by
  unfold ins
  split
  · rw [List.mem_cons, ins_mem, List.mem_cons]
    constructor
    · rintro (h | h | h)
      · exact Or.inr (Or.inl h)
      · exact Or.inl h
      · exact Or.inr (Or.inr h)
    · rintro (h | h | h)
      · exact Or.inr (Or.inl h)
      · exact Or.inl h
      · exact Or.inr (Or.inr h)
  · split
    · rename_i h
      subst h
      constructor
      · exact Or.inr
      · rintro (h | h)
        · rw [h]; exact List.mem_cons_self ..
        · exact h
    · exact List.mem_cons
theorem ins_rising {x : ByteArray} : ∀ {S : List ByteArray}, Rising S → Rising (ins x S)
 | [], _ => List.pairwise_singleton _ _
 | z :: S, h => by
  obtain ⟨h1, h2⟩ := List.pairwise_cons.1 h
  unfold ins
  split
  · rename_i hlt
    refine List.pairwise_cons.2 ⟨fun y hy => ?_, ins_rising h2⟩
    rcases ins_mem.1 hy with e | e
    · rw [e]; exact hlt
    · exact h1 y e
  · split
    · exact h
    · rename_i h3 h4
      have hxz : La.less x z = true := by
       rcases La.less_tri x z with h | h | h
       · exact h
       · exact absurd h.symm h4
       · exact absurd h h3
      refine List.pairwise_cons.2 ⟨fun y hy => ?_, h⟩
      rcases List.mem_cons.1 hy with e | e
      · rw [e]; exact hxz
      · exact La.less_trans hxz (h1 y e)
theorem ins_length (x : ByteArray) : ∀ S : List ByteArray, (ins x S).length ≤ S.length + 1
 | [] => by simp [ins]
 | z :: S => by
  unfold ins
  split
  · have := ins_length x S
    simp only [List.length_cons]; omega
  · split
    · simp only [List.length_cons]; omega
    · simp
theorem insAll_go : ∀ (W S : List ByteArray), Rising S → Rising (W.foldl (fun S x => ins x S) S) ∧ (∀ y, y ∈ W.foldl (fun S x => ins x S) S ↔ y ∈ W ∨ y ∈ S) ∧ (W.foldl (fun S x => ins x S) S).length ≤ S.length + W.length
 | [], S, h => ⟨h, fun y => by simp, Nat.le_refl _⟩
 | x :: W, S, h => by
  obtain ⟨h1, h2, h3⟩ := insAll_go W (ins x S) (ins_rising h)
  refine ⟨h1, fun y => ?_, ?_⟩
  · show y ∈ W.foldl _ (ins x S) ↔ _
    rw [h2, ins_mem, List.mem_cons]
    constructor
    · rintro (h | h | h)
      · exact Or.inl (Or.inr h)
      · exact Or.inl (Or.inl h)
      · exact Or.inr h
    · rintro ((h | h) | h)
      · exact Or.inr (Or.inl h)
      · exact Or.inl h
      · exact Or.inr (Or.inr h)
  · have := ins_length x S
    show (W.foldl _ (ins x S)).length ≤ _
    rw [List.length_cons]; omega
theorem insAll_rising (W : List ByteArray) : Rising (insAll W) := (insAll_go W [] List.Pairwise.nil).1
theorem insAll_mem (W : List ByteArray) (y : ByteArray) : y ∈ insAll W ↔ y ∈ W := by
 have := (insAll_go W [] List.Pairwise.nil).2.1 y
 rw [show insAll W = W.foldl (fun S x => ins x S) [] from rfl, this]; simp
theorem insAll_length (W : List ByteArray) : (insAll W).length ≤ W.length := by
 have := (insAll_go W [] List.Pairwise.nil).2.2
 rw [show insAll W = W.foldl (fun S x => ins x S) [] from rfl]
 simpa using this
theorem rising_unique : ∀ {S T : List ByteArray}, Rising S → Rising T → (∀ y, y ∈ S ↔ y ∈ T) → S = T
 | [], [], _, _, _ => rfl
 | [], y :: T, _, _, h => by have := (h y).2 (List.mem_cons_self ..); cases this
 | x :: S, [], _, _, h => by have := (h x).1 (List.mem_cons_self ..); cases this
 | x :: S, y :: T, hS, hT, h => by
  obtain ⟨a1, a2⟩ := List.pairwise_cons.1 hS
  obtain ⟨b1, b2⟩ := List.pairwise_cons.1 hT
  have hxy : x = y := by
   rcases List.mem_cons.1 ((h x).1 (List.mem_cons_self ..)) with e | e
   · exact e
   · rcases List.mem_cons.1 ((h y).2 (List.mem_cons_self ..)) with e2 | e2
     · exact e2.symm
     · have h1 := b1 x e
       have h2 := a1 y e2
       have h3 := La.less_asymm h1
       rw [h2] at h3; cases h3
  subst hxy
  have hx1 : x ∉ S := fun hm => by have := a1 x hm; rw [La.less_irrefl] at this; cases this
  have hx2 : x ∉ T := fun hm => by have := b1 x hm; rw [La.less_irrefl] at this; cases this
  rw [rising_unique a2 b2 (fun z => ?_)]
  constructor
  · intro hz
    rcases List.mem_cons.1 ((h z).1 (List.mem_cons_of_mem _ hz)) with e | e
    · rw [e] at hz; exact absurd hz hx1
    · exact e
  · intro hz
    rcases List.mem_cons.1 ((h z).2 (List.mem_cons_of_mem _ hz)) with e | e
    · rw [e] at hz; exact absurd hz hx2
    · exact e
theorem words_mem {L : List Ent} {y : ByteArray} : y ∈ words L ↔ ∃ e ∈ L, ∃ x ∈ e.l, y = x.1 ∨ y = x.2 := by
 unfold words
 simp only [List.mem_flatMap, List.mem_cons, List.not_mem_nil, or_false]
theorem syms_mem {L : List Ent} {y : ByteArray} : y ∈ syms L ↔ ∃ e ∈ L, ∃ x ∈ e.l, y = x.1 ∨ y = x.2 := (insAll_mem _ _).trans words_mem
theorem words_length : ∀ (L : List Ent), (∀ e ∈ L, e.l.length ≤ 6) → (words L).length ≤ 12 * L.length
 | [], _ => Nat.le_refl _
 | e :: L, h => by
  have ih := words_length L fun x hx => h x (List.mem_cons_of_mem _ hx)
  have h1 := h e (List.mem_cons_self ..)
  have h2 : ∀ l : List Lab, (l.flatMap fun x => [x.1, x.2]).length = 2 * l.length := by
   intro l
   induction l with
   | nil => rfl
   | cons x l ih => rw [List.flatMap_cons, List.length_append, ih, List.length_cons]; simp; omega
  have e1 : words (e :: L) = (e.l.flatMap fun x => [x.1, x.2]) ++ words L := by unfold words; rw [List.flatMap_cons]
  rw [e1, List.length_append, h2, List.length_cons]
  omega
theorem right_le {l : List Lab} (h : La.rightL l = true) : l.length ≤ 6 ∧ ∀ x ∈ l, x.1.size ≤ 48 ∧ x.2.size ≤ 48 := by
 obtain ⟨h1, h2, h3⟩ := La.right_parts h
 refine ⟨h2, fun x hx => ?_⟩
 obtain ⟨i, hi, rfl⟩ := List.getElem_of_mem hx
 have h4 := h3 i hi
 have e : La.at_ l i = l[i] := by unfold La.at_; simp [List.getD, hi]
 rw [e] at h4
 exact ⟨(La.okName_size h4.1).2, (La.allB_pos h4.2.1).2⟩
def ents (f : Ent → ByteArray) : List Ent → ByteArray
 | [] => ByteArray.empty
 | e :: L => f e ++ ents f L
def ents3 (S : List ByteArray) : Int → Int → List Ent → ByteArray
 | _, _, [] => ByteArray.empty
 | a, z, e :: L => one3 S a z e ++ ents3 S e.last (e.off + e.len) L
def rdE (f : Cu → Ent × Cu) : Nat → Cu → List Ent × Cu
 | 0, c => ([], c)
 | k + 1, c =>
  let e := f c
  let r := rdE f k e.2
  (e.1 :: r.1, r.2)
def rdE3 (S : List ByteArray) : Nat → Int → Int → Cu → List Ent × Cu
 | 0, _, _, c => ([], c)
 | k + 1, a, z, c =>
  let e := rd3 S a z c
  let r := rdE3 S k e.2.1 e.2.2.1 e.2.2.2
  (e.1 :: r.1, r.2)
theorem rdE_ents {f : Ent → ByteArray} {g : Cu → Ent × Cu} : ∀ (L : List Ent) (r : ByteArray), (∀ e ∈ L, ∀ q, g ⟨f e ++ q, false⟩ = (e, ⟨q, false⟩)) → rdE g L.length ⟨ents f L ++ r, false⟩ = (L, ⟨r, false⟩)
 | [], r, _ => by
  show ([], (⟨ByteArray.empty ++ r, false⟩ : Cu)) = _
  rw [ByteArray.empty_append]
 | e :: L, r, h => by
  have h1 := h e (List.mem_cons_self ..) (ents f L ++ r)
  have ih := rdE_ents L r fun x hx => h x (List.mem_cons_of_mem _ hx)
  rw [List.length_cons]
  unfold rdE ents
  simp only [ByteArray.append_assoc, h1, ih]
structure Fine (S : List ByteArray) (e : Ent) : Prop where
 few : e.l.length ≤ 6
 mem : ∀ x ∈ e.l, x.1 ∈ S ∧ x.2 ∈ S
 last : 0 ≤ e.last ∧ e.last ≤ 1125899906842624
 off : 0 ≤ e.off ∧ e.off ≤ 1073741824
 len : 0 ≤ e.len ∧ e.len ≤ 1073741824
theorem rdE3_ents {S : List ByteArray} (hS : S.length ≤ 1000) : ∀ (L : List Ent) (a z : Int) (r : ByteArray), 0 ≤ a ∧ a ≤ 1125899906842624 → 0 ≤ z ∧ z ≤ 2147483648 → (∀ e ∈ L, Fine S e) → rdE3 S L.length a z ⟨ents3 S a z L ++ r, false⟩ = (L, ⟨r, false⟩)
 | [], a, z, r, _, _, _ => by
  show ([], (⟨ByteArray.empty ++ r, false⟩ : Cu)) = _
  rw [ByteArray.empty_append]
 | e :: L, a, z, r, ha, hz, h => by
  have he := h e (List.mem_cons_self ..)
  have h1 := rd3_one hS he.few he.mem he.last he.off he.len ha hz (ents3 S e.last (e.off + e.len) L ++ r)
  have q1 := he.off
  have q2 := he.len
  have ih := rdE3_ents hS L e.last (e.off + e.len) r he.last (by omega) fun x hx => h x (List.mem_cons_of_mem _ hx)
  rw [List.length_cons]
  unfold rdE3 ents3
  simp only [ByteArray.append_assoc, h1, ih]
def labLess (x y : Lab) : Bool := La.less x.1 y.1 || (decide (x.1 = y.1) && La.less x.2 y.2)
def labIns (x : Lab) : List Lab → List Lab
 | [] => [x]
 | y :: S => if labLess y x = true then y :: labIns x S else if y = x then y :: S else x :: y :: S
def labAll (L : List Ent) : List Lab := (L.flatMap (·.l)).foldl (fun S x => labIns x S) []
def posts (L : List Ent) (x : Lab) : List Nat := (List.range L.length).filter fun i => (at_ L i).l.any fun y => decide (y = x)
def diffsB : Nat → List Nat → ByteArray
 | _, [] => ByteArray.empty
 | a, i :: P => Num.smallB (i - a) ++ diffsB i P
def postB (L : List Ent) (x : Lab) : ByteArray := Num.smallB (posts L x).length ++ diffsB 0 (posts L x)
def postsB (L : List Ent) : List Lab → ByteArray
 | [] => ByteArray.empty
 | x :: l => postB L x ++ postsB L l
def body (g : Int) (L : List Ent) : ByteArray :=
 if g = 1 then Num.wideB L.length ++ ents one1 L
 else if g = 2 then Num.smallB (syms L).length ++ symsB false ByteArray.empty (syms L) ++ (Num.smallB L.length ++ ents (one2 (syms L)) L)
 else Num.smallB (syms L).length ++ symsB true ByteArray.empty (syms L) ++ (Num.smallB L.length ++ ents3 (syms L) 0 0 L ++ postsB L (labAll L))
def put (g : Int) (L : List Ent) : ByteArray × Int := if valid L g = 0 then (body g L ++ Crc.four (Crc.ofB (body g L)), 0) else (ByteArray.empty, valid L g)
def rd (g : Int) (c : Cu) : List Ent × Cu :=
 if g = 1 then rdE rd1 (Cu.atMost 20 c.wide).1 (Cu.atMost 20 c.wide).2
 else
  let m := Cu.atMost 240 c.small
  let S := rdSyms (decide (g = 3)) m.1 ByteArray.empty m.2
  let n := Cu.atMost 20 S.2.2.small
  if g = 2 then rdE (rd2 S.1) n.1 n.2 else rdE3 S.1 n.1 0 0 n.2
def get (g : Int) (s : ByteArray) : List Ent × Int :=
 if isG g = false then ([], 1)
 else if (Crc.good s).2 = false then ([], 9)
 else if (rd g ⟨(Crc.good s).1, false⟩).2.bad = true ∨ put g (rd g ⟨(Crc.good s).1, false⟩).1 ≠ (s, 0) then ([], 9)
 else ((rd g ⟨(Crc.good s).1, false⟩).1, 0)
theorem rd_body {g : Int} {L : List Ent} (h : valid L g = 0) : ∃ r, rd g ⟨body g L, false⟩ = (L, ⟨r, false⟩) := by
 have hg := good h
 have hfew : ∀ e ∈ L, e.l.length ≤ 6 := fun e he => (right_le (hg.right e he)).1
 have hl := hg.few
 have hS : (syms L).length ≤ 240 := by
  have h1 := insAll_length (words L)
  have h2 := words_length L hfew
  unfold syms
  omega
 have hmem : ∀ e ∈ L, ∀ x ∈ e.l, x.1 ∈ syms L ∧ x.2 ∈ syms L := fun e he x hx => ⟨syms_mem.2 ⟨e, he, x, hx, Or.inl rfl⟩, syms_mem.2 ⟨e, he, x, hx, Or.inr rfl⟩⟩
 have hsz : ∀ x ∈ syms L, x.size ≤ 48 := fun y hy => by
  obtain ⟨e, he, x, hx, h⟩ := syms_mem.1 hy
  have := (right_le (hg.right e he)).2 x hx
  rcases h with rfl | rfl
  · exact this.1
  · exact this.2
 have hfine : ∀ e ∈ L, Fine (syms L) e := fun e he => ⟨hfew e he, hmem e he, hg.last e he, hg.off e he, hg.len e he⟩
 have he0 : (ByteArray.empty : ByteArray).size ≤ 48 := by decide
 obtain ⟨g1, g2⟩ := hg.gen
 by_cases e1 : g = 1
 · subst e1
   refine ⟨ByteArray.empty, ?_⟩
   have h12 : ∀ e ∈ L, ∀ x ∈ e.l, x.1.size ≤ 12 ∧ x.2.size ≤ 12 := fun e he x hx => by
    have h3 := hg.short e he
    obtain ⟨i, hi, rfl⟩ := List.getElem_of_mem hx
    have h4 := La.longest_ge (La.at_ e.l) e.l.length i hi
    have e2 : La.at_ e.l i = e.l[i] := by unfold La.at_; simp [List.getD, hi]
    rw [e2] at h4
    have h5 : La.limit 1 = 12 := rfl
    unfold long at h3
    omega
   have q0 := wide_app L.length (by omega) (ents one1 L ++ ByteArray.empty)
   have q1 := rdE_ents (f := one1) (g := rd1) L ByteArray.empty fun e he q => rd1_one (by have := hfew e he; omega) (h12 e he) (hg.last e he) (hg.off e he) (hg.len e he) q
   rw [ByteArray.append_empty] at q0 q1
   have hb : body 1 L = Num.wideB L.length ++ ents one1 L := rfl
   rw [hb]
   unfold rd
   rw [if_pos rfl, q0, atMost_ok hl]
   exact q1
 · by_cases e2 : g = 2
   · subst e2
     refine ⟨ByteArray.empty, ?_⟩
     have hb : body 2 L = Num.smallB (syms L).length ++ (symsB false ByteArray.empty (syms L) ++ (Num.smallB L.length ++ (ents (one2 (syms L)) L ++ ByteArray.empty))) := by
      rw [ByteArray.append_empty, ← ByteArray.append_assoc]; rfl
     have q0 := small_app (syms L).length (by omega) (symsB false ByteArray.empty (syms L) ++ (Num.smallB L.length ++ (ents (one2 (syms L)) L ++ ByteArray.empty)))
     have q1 := rdSyms_syms false (syms L) ByteArray.empty (Num.smallB L.length ++ (ents (one2 (syms L)) L ++ ByteArray.empty)) he0 hsz
     have q2 := small_app L.length (by omega) (ents (one2 (syms L)) L ++ ByteArray.empty)
     have q3 := rdE_ents (f := one2 (syms L)) (g := rd2 (syms L)) L ByteArray.empty fun e he q => rd2_one (by omega) (hfew e he) (hmem e he) (hg.last e he) (hg.off e he) (hg.len e he) q
     unfold rd
     rw [if_neg (by decide), hb, q0, atMost_ok hS]
     simp only [show decide ((2 : Int) = 3) = false from rfl, q1, q2, atMost_ok hl, if_true, q3]
   · obtain rfl : g = 3 := by omega
     refine ⟨postsB L (labAll L), ?_⟩
     have hb : body 3 L = Num.smallB (syms L).length ++ (symsB true ByteArray.empty (syms L) ++ (Num.smallB L.length ++ (ents3 (syms L) 0 0 L ++ postsB L (labAll L)))) := by
      have : body 3 L = Num.smallB (syms L).length ++ symsB true ByteArray.empty (syms L) ++ (Num.smallB L.length ++ ents3 (syms L) 0 0 L ++ postsB L (labAll L)) := rfl
      rw [this, ByteArray.append_assoc, ByteArray.append_assoc]
     have q0 := small_app (syms L).length (by omega) (symsB true ByteArray.empty (syms L) ++ (Num.smallB L.length ++ (ents3 (syms L) 0 0 L ++ postsB L (labAll L))))
     have q1 := rdSyms_syms true (syms L) ByteArray.empty (Num.smallB L.length ++ (ents3 (syms L) 0 0 L ++ postsB L (labAll L))) he0 hsz
     have q2 := small_app L.length (by omega) (ents3 (syms L) 0 0 L ++ postsB L (labAll L))
     have q3 := rdE3_ents (S := syms L) (by omega) L 0 0 (postsB L (labAll L)) (by omega) (by omega) hfine
     unfold rd
     rw [if_neg (by decide), hb, q0, atMost_ok hS]
     simp only [decide_true, q1, q2, atMost_ok hl]
     rw [if_neg (by decide), q3]
theorem put_ok {g : Int} {L : List Ent} (h : valid L g = 0) : put g L = (body g L ++ Crc.four (Crc.ofB (body g L)), 0) := if_pos h
theorem put_no {g : Int} {L : List Ent} (h : ¬ valid L g = 0) : put g L = (ByteArray.empty, valid L g) := if_neg h
theorem put_err (g : Int) (L : List Ent) : (put g L).2 = valid L g := by
 by_cases h : valid L g = 0
 · rw [put_ok h]; exact h.symm
 · rw [put_no h]
theorem get_put {g : Int} {L : List Ent} (h : valid L g = 0) : get g (put g L).1 = (L, 0) := by
 have hg := good h
 obtain ⟨r, hr⟩ := rd_body h
 have hc : Crc.good (put g L).1 = (body g L, true) := by
  rw [put_ok h]
  show Crc.good (body g L ++ Crc.four (Crc.ofB (body g L))) = _
  rw [Crc.good_append _ _ (Crc.four_size _), if_pos rfl]
 have hi : isG g = true := by unfold isG; exact decide_eq_true hg.gen
 unfold get
 rw [hc]
 simp only
 rw [hr]
 rw [if_neg (by rw [hi]; simp), if_neg (by simp), if_neg ?_]
 rintro (h1 | h1)
 · cases h1
 · exact h1 (Prod.ext rfl (by rw [put_err]; exact h))
end Ix
end Go.Proofs.YtliobahnekohmaaGreat
