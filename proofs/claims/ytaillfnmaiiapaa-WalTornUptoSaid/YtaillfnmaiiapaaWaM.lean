/-
  Changes as bytes, as mathematics: cursors; what tells a change in generations 2 and 3, and that it is read back.
-/
import Derived.Test.YtaillfnmaiiapaaLaR
import Derived.Test.YtaillfnmaiiapaaFrN
namespace Go.Proofs.Ytaillfnmaiiapaa
open Go.RowKit
namespace Wa
/-- a cursor -/
structure Cu where
  s : ByteArray
  bad : Bool
/-- what a call of a cursor comes to -/
def Cu.go {α : Type} (c : Cu) (ok : Bool) (v z : α) (n : Nat) : α × Cu :=
  (Num.curV c.bad ok v z, ⟨Num.curV c.bad ok (c.s.extract n c.s.size) c.s, c.bad || !ok⟩)
theorem go_ok {α : Type} (s : ByteArray) (v z : α) (n : Nat) : Cu.go ⟨s, false⟩ true v z n = (v, ⟨s.extract n s.size, false⟩) := rfl
theorem go_size {α : Type} (c : Cu) (ok : Bool) (v z : α) (n : Nat) : (Cu.go c ok v z n).2.s.size ≤ c.s.size := by
  unfold Cu.go Num.curV
  show (if (c.bad || !ok) = true then c.s else c.s.extract n c.s.size).size ≤ _
  split
  · exact Nat.le_refl _
  · rw [ByteArray.size_extract]; omega
def Cu.small (c : Cu) : Nat × Cu := c.go (Fr.num c.s).2.2 (Fr.num c.s).1 0 (Fr.num c.s).2.1
def Cu.wide (c : Cu) : Nat × Cu := c.go (decide (8 ≤ c.s.size)) (if decide (8 ≤ c.s.size) = true then Num.num (c.s.data.toList.take 8) else 0) 0 (if decide (8 ≤ c.s.size) = true then 8 else 0)
def Cu.text (c : Cu) (m : Int) : ByteArray × Cu := c.go (Num.xOk m c.s) (if Num.xOk m c.s = true then Num.xV c.s else ByteArray.empty) ByteArray.empty (if Num.xOk m c.s = true then Num.xN c.s else 0)
def Cu.take (c : Cu) (m : Int) : ByteArray × Cu := c.go (Num.tOk m c.s) (if Num.tOk m c.s = true then c.s.extract 0 m.toNat else ByteArray.empty) ByteArray.empty (if Num.tOk m c.s = true then m.toNat else 0)
def Cu.fixed (c : Cu) (k : Nat) : ByteArray × Cu := c.go (Num.fAll k c.s) (Num.fT k c.s) ByteArray.empty (Num.fN k c.s)
theorem small_app (n : Nat) (hn : n < 18446744073709551616) (r : ByteArray) : Cu.small ⟨Num.smallB n ++ r, false⟩ = (n, ⟨r, false⟩) := by
  have h : Fr.num (Num.smallB n ++ r) = (n, (Num.smallB n).size, true) := Num.decp_small n hn r
  unfold Cu.small
  rw [h, go_ok, Num.drop_app]
theorem wide_app (n : Nat) (hn : n < 18446744073709551616) (r : ByteArray) : Cu.wide ⟨Num.wideB n ++ r, false⟩ = (n, ⟨r, false⟩) := by
  have h8 : (Num.wideB n).size = 8 := by rw [Lib.size_eq]; exact Num.le_length n 8
  have h : decide (8 ≤ (Num.wideB n ++ r).size) = true := by rw [ByteArray.size_append]; simp; omega
  unfold Cu.wide
  show Cu.go ⟨Num.wideB n ++ r, false⟩ (decide (8 ≤ (Num.wideB n ++ r).size)) _ 0 _ = _
  simp only [h, if_true]
  rw [go_ok, Num.num_wide n hn r]
  have := Num.drop_app (Num.wideB n) r
  rw [h8] at this
  rw [this]
theorem text_app (t r : ByteArray) (m : Int) (hm : (t.size : Int) ≤ m) (ht : t.size ≤ maxLen) : Cu.text ⟨Fr.txt t ++ r, false⟩ m = (t, ⟨r, false⟩) := by
  unfold maxLen at ht
  have h : Num.decp 0 0 (Fr.txt t ++ r).data.toList = (t.size, (Num.smallB t.size).size, true) := by
    unfold Fr.txt; rw [ByteArray.append_assoc]; exact Num.decp_small t.size (by omega) (t ++ r)
  have hn : Num.xN (Fr.txt t ++ r) = (Fr.txt t).size := by unfold Num.xN; rw [h]; unfold Fr.txt; rw [ByteArray.size_append]
  have ho : Num.xOk m (Fr.txt t ++ r) = true := by
    unfold Num.xOk
    rw [h]
    unfold Fr.txt
    simp only [Bool.true_and, decide_eq_true_eq, ByteArray.size_append]
    omega
  have hv : Num.xV (Fr.txt t ++ r) = t := by
    unfold Num.xV
    rw [hn, h]
    unfold Fr.txt
    rw [ByteArray.size_append]
    exact Fr.ext_mid (Num.smallB t.size) t r
  unfold Cu.text
  simp only [ho, if_true, hv, hn]
  rw [go_ok, Num.drop_app]
theorem fixed_app (t r : ByteArray) (z : Nat) (hz : z ≤ 255) (ht : t.size ≤ z) : Cu.fixed ⟨Num.fixedB t z ++ r, false⟩ z = (t, ⟨r, false⟩) := by
  obtain ⟨h1, h2, h3⟩ := Num.fixed_app t r z hz
  have h4 : t.extract 0 z = t := by
    apply ByteArray.ext; apply Array.toList_inj.1
    have : t.data.toList.length = t.size := by simp
    simp only [ByteArray.data_extract, Array.toList_extract, List.extract_eq_take_drop, List.drop_zero, Nat.sub_zero]
    exact List.take_of_length_le (by omega)
  unfold Cu.fixed
  show Cu.go ⟨Num.fixedB t z ++ r, false⟩ (Num.fAll z (Num.fixedB t z ++ r)) (Num.fT z (Num.fixedB t z ++ r)) _ (Num.fN z (Num.fixedB t z ++ r)) = _
  rw [h1, h2, h3, h4, go_ok, Num.drop_app]
theorem take_app (t r : ByteArray) : Cu.take ⟨t ++ r, false⟩ (t.size : Int) = (t, ⟨r, false⟩) := by
  have h : Num.tOk (t.size : Int) (t ++ r) = true := by
    unfold Num.tOk
    simp only [decide_eq_true_eq, ByteArray.size_append]
    omega
  unfold Cu.take
  simp only [h, if_true, Int.toNat_natCast]
  rw [go_ok, Num.drop_app, Num.take_app]
/-- a change -/
structure Rec where
  kind : Int
  l : List Lab
  t : Int
  hi : Int
  v : Nat
def isT (t : Int) : Bool := decide (0 ≤ t ∧ t ≤ 1125899906842624)
/-- may a change be, in some generation? -/
def may (r : Rec) : Bool :=
  if r.kind = 0 then La.rightL r.l && isT r.t && decide (r.hi = 0)
  else if r.kind = 1 then La.rightL r.l && decide (r.t ≤ r.hi) && decide (r.v = 0)
  else if r.kind = 2 then decide (r.l = []) && isT r.t && decide (r.hi = 0) && decide (r.v = 0)
  else false
def long (r : Rec) : Nat := La.longest (La.at_ r.l) r.l.length
/-- .. and in this one: the error -/
def valid (r : Rec) (g : Int) : Int := if may r = false then 1 else if La.limit g < long r then 3 else 0
/-- what the words of a change are -/
structure Words (r : Rec) : Prop where
  t0 : -9223372036854775808 ≤ r.t
  t1 : r.t ≤ 9223372036854775807
  h0 : -9223372036854775808 ≤ r.hi
  h1 : r.hi ≤ 9223372036854775807
  v1 : r.v < 18446744073709551616
def key (l : List Lab) : ByteArray := La.keyB (La.at_ l) l.length
/-- the place of a key among keys -/
def place (K : List ByteArray) (k : ByteArray) : Option Nat := K.findIdx? (fun x => decide (x = k))
theorem place_some {K : List ByteArray} {k : ByteArray} {i : Nat} (h : place K k = some i) : i < K.length ∧ K.getD i ByteArray.empty = k := by
  obtain ⟨h1, h2, _⟩ := List.findIdx?_eq_some_iff_getElem.1 h
  refine ⟨h1, ?_⟩
  rw [List.getD_eq_getElem?_getD, List.getElem?_eq_getElem h1]
  simpa using h2
theorem place_none {K : List ByteArray} {k : ByteArray} (h : place K k = none) : k ∉ K := fun hm => by
  have := List.findIdx?_eq_none_iff.1 h k hm
  simp at this
/-- a series as bytes, and the keys behind it -/
def ser (K : List ByteArray) (l : List Lab) : ByteArray × List ByteArray :=
  match place K (key l) with
  | some i => (Num.smallB i, K)
  | none => (Num.smallB K.length ++ Fr.txt (key l), K ++ [key l])
/-- a sample as bytes, in generation 2, or else in 3, behind another sample -/
def smp (two : Bool) (t : Int) (v : Nat) (r : Rec) : ByteArray :=
  if two = true then Num.smallB r.t.toNat ++ Num.wideB r.v else Num.smallB (Num.zig (r.t - t)) ++ Num.smallB (r.v ^^^ v)
/-- a change as bytes -/
def tell (two : Bool) (K : List ByteArray) (t : Int) (v : Nat) (r : Rec) : ByteArray × List ByteArray :=
  if r.kind = 0 then (Num.smallB 0 ++ (ser K r.l).1 ++ smp two t v r, (ser K r.l).2)
  else if r.kind = 1 then (Num.smallB 1 ++ (ser K r.l).1 ++ Num.smallB (Num.zig r.t) ++ Num.smallB (Num.zig r.hi), (ser K r.l).2)
  else (Num.smallB 2 ++ Num.smallB r.t.toNat, K)
def i64 (n : Nat) : Int := IntKind.i64.wrap (n : Int)
/-- the labels behind a key -/
def unkey (k : ByteArray) : List Lab := (La.of k).getD []
/-- the labels that a series told -/
def rdSer (K : List ByteArray) (c : Cu) : List Lab × List ByteArray × Cu :=
  if c.small.2.bad = false ∧ c.small.1 = K.length then
    if (La.of (c.small.2.text c.small.2.s.size).1).isNone = true ∨ (place K (c.small.2.text c.small.2.s.size).1).isSome = true then ([], K, ⟨(c.small.2.text c.small.2.s.size).2.s, true⟩)
    else if (c.small.2.text c.small.2.s.size).2.bad = true then ([], K ++ [(c.small.2.text c.small.2.s.size).1], ⟨(c.small.2.text c.small.2.s.size).2.s, true⟩)
    else (unkey (c.small.2.text c.small.2.s.size).1, K ++ [(c.small.2.text c.small.2.s.size).1], (c.small.2.text c.small.2.s.size).2)
  else if c.small.2.bad = true ∨ K.length ≤ c.small.1 then ([], K, ⟨c.small.2.s, true⟩)
  else (unkey (K.getD c.small.1 ByteArray.empty), K, c.small.2)
/-- the sample that was told -/
def rdSmp (two : Bool) (t : Int) (v : Nat) (c : Cu) : Int × Nat × Cu :=
  if two = true then (i64 c.small.1, c.small.2.wide.1, c.small.2.wide.2)
  else (IntKind.i64.wrap (t + Num.zag c.small.1), v ^^^ c.small.2.small.1, c.small.2.small.2)
/-- the change that was told -/
def rd (two : Bool) (K : List ByteArray) (t : Int) (v : Nat) (c : Cu) : Rec × List ByteArray × Cu :=
  if i64 c.small.1 = 0 then
    (⟨0, (rdSer K c.small.2).1, (rdSmp two t v (rdSer K c.small.2).2.2).1, 0, (rdSmp two t v (rdSer K c.small.2).2.2).2.1⟩, (rdSer K c.small.2).2.1, (rdSmp two t v (rdSer K c.small.2).2.2).2.2)
  else if i64 c.small.1 = 1 then
    (⟨1, (rdSer K c.small.2).1, Num.zag (rdSer K c.small.2).2.2.small.1, Num.zag (rdSer K c.small.2).2.2.small.2.small.1, 0⟩, (rdSer K c.small.2).2.1, (rdSer K c.small.2).2.2.small.2.small.2)
  else if i64 c.small.1 = 2 then (⟨2, [], i64 c.small.2.small.1, 0, 0⟩, K, c.small.2.small.2)
  else (⟨i64 c.small.1, [], 0, 0, 0⟩, K, ⟨c.small.2.s, true⟩)
theorem i64_low {n : Nat} (h : n < 9223372036854775808) : i64 n = (n : Int) := by
  unfold i64
  exact IntWalk.i64_in _ (by omega)
/-- keys of labels that may be, few -/
structure Keys (K : List ByteArray) : Prop where
  each : ∀ k ∈ K, ∃ l, La.rightL l = true ∧ key l = k
  few : K.length ≤ 1000000
theorem key_size {l : List Lab} (h : La.rightL l = true) : (key l).size ≤ 3720 := by
  have hr := La.right_sizes l h
  have h1 := La.key_length (La.at_ l) l.length hr.2
  have h2 : (key l).size = (La.key (La.at_ l) l.length).length := by unfold key La.keyB; rw [Lib.size_eq]
  have := hr.1
  omega
theorem unkey_key {l : List Lab} (h : La.rightL l = true) : La.of (key l) = some l := by
  have := La.of_of_key h
  rw [La.listOf_at] at this
  exact this
theorem ser_keys {K : List ByteArray} (hK : Keys K) (hK2 : K.length + 1 ≤ 1000000) {l : List Lab} (hl : La.rightL l = true) : Keys (ser K l).2 := by
  unfold ser
  split
  · exact hK
  · refine ⟨fun k hk => ?_, by rw [List.length_append]; exact hK2⟩
    rcases List.mem_append.1 hk with h | h
    · exact hK.each k h
    · exact ⟨l, hl, (List.mem_singleton.1 h).symm⟩
theorem rdSer_ser {K : List ByteArray} (hK : Keys K) {l : List Lab} (hl : La.rightL l = true) (r : ByteArray) : rdSer K ⟨(ser K l).1 ++ r, false⟩ = (l, (ser K l).2, ⟨r, false⟩) := by
  have hf := hK.few
  unfold ser
  split
  · rename_i i hi
    obtain ⟨h1, h2⟩ := place_some hi
    have hs := small_app i (by omega) r
    unfold rdSer
    simp only [hs]
    rw [if_neg (by rintro ⟨-, h⟩; omega), if_neg (by rintro (h | h); (· simp at h); omega)]
    rw [h2]
    unfold unkey
    rw [unkey_key hl]; rfl
  · rename_i hi
    have hs := small_app K.length (by omega) (Fr.txt (key l) ++ r)
    rw [← ByteArray.append_assoc] at hs
    have hz := key_size hl
    have ht := text_app (key l) r ((Fr.txt (key l) ++ r).size : Int) (by rw [ByteArray.size_append, Fr.txt_size]; omega) (by unfold maxLen; omega)
    unfold rdSer
    simp only [hs, ht]
    rw [if_pos ⟨trivial, trivial⟩, if_neg (by rw [unkey_key hl, hi]; simp), if_neg (by simp)]
    unfold unkey
    rw [unkey_key hl]; rfl
theorem rdSmp_smp (two : Bool) {t : Int} {v : Nat} (ht : isT t = true) (hv : v < 18446744073709551616) {r : Rec} (hr : isT r.t = true) (hrv : r.v < 18446744073709551616) (b : ByteArray) :
    rdSmp two t v ⟨smp two t v r ++ b, false⟩ = (r.t, r.v, ⟨b, false⟩) := by
  unfold isT at ht hr
  simp only [decide_eq_true_eq] at ht hr
  unfold rdSmp smp
  cases two
  · simp only [Bool.false_eq_true, if_false]
    have hz := Num.zig_lt (r.t - t) (by omega) (by omega)
    have hx : r.v ^^^ v < 18446744073709551616 := Nat.xor_lt_two_pow (n := 64) hrv hv
    have h1 := small_app (Num.zig (r.t - t)) hz (Num.smallB (r.v ^^^ v) ++ b)
    rw [← ByteArray.append_assoc] at h1
    have h2 := small_app (r.v ^^^ v) hx b
    simp only [h1, h2]
    rw [Num.zag_zig, show t + (r.t - t) = r.t from by omega, Nat.xor_comm r.v v, ← Nat.xor_assoc, Nat.xor_self, Nat.zero_xor]
    have e : IntKind.i64.wrap r.t = r.t := IntWalk.i64_in _ (by omega)
    rw [e]
  · simp only [if_true]
    have h1 := small_app r.t.toNat (by omega) (Num.wideB r.v ++ b)
    rw [← ByteArray.append_assoc] at h1
    have h2 := wide_app r.v hrv b
    simp only [h1, h2]
    rw [i64_low (by omega), show ((r.t.toNat : Nat) : Int) = r.t from by omega]
/-- what is told is read -/
theorem rd_tell (two : Bool) {K : List ByteArray} (hK : Keys K) {t : Int} {v : Nat} (ht : isT t = true) (hv : v < 18446744073709551616) {r : Rec} (hr : may r = true) (hw : Words r) (b : ByteArray) :
    rd two K t v ⟨(tell two K t v r).1 ++ b, false⟩ = (r, (tell two K t v r).2, ⟨b, false⟩) := by
  obtain ⟨kind, l, rt, hi, rv⟩ := r
  obtain ⟨w0, w1, w2, w3, w4⟩ := hw
  simp only at w0 w1 w2 w3 w4
  unfold may at hr
  simp only at hr
  unfold tell
  by_cases h0 : kind = 0
  · subst h0
    simp only [if_true, Bool.and_eq_true, decide_eq_true_eq] at hr ⊢
    obtain ⟨⟨hl, hT⟩, rfl⟩ := hr
    have h1 := small_app 0 (by decide) ((ser K l).1 ++ (smp two t v ⟨0, l, rt, 0, rv⟩ ++ b))
    have h2 := rdSer_ser hK hl (smp two t v ⟨0, l, rt, 0, rv⟩ ++ b)
    have h3 := rdSmp_smp two ht hv (r := ⟨0, l, rt, 0, rv⟩) hT w4 b
    unfold rd
    simp only [ByteArray.append_assoc, h1, h2, h3]
    rw [i64_low (by decide)]
    rfl
  · rw [if_neg h0] at hr ⊢
    by_cases hk : kind = 1
    · subst hk
      simp only [if_true, Bool.and_eq_true, decide_eq_true_eq] at hr ⊢
      obtain ⟨⟨hl, _⟩, rfl⟩ := hr
      have hz1 := Num.zig_lt rt w0 w1
      have hz2 := Num.zig_lt hi w2 w3
      have h1 := small_app 1 (by decide) ((ser K l).1 ++ (Num.smallB (Num.zig rt) ++ (Num.smallB (Num.zig hi) ++ b)))
      have h2 := rdSer_ser hK hl (Num.smallB (Num.zig rt) ++ (Num.smallB (Num.zig hi) ++ b))
      have h3 := small_app (Num.zig rt) hz1 (Num.smallB (Num.zig hi) ++ b)
      have h4 := small_app (Num.zig hi) hz2 b
      unfold rd
      simp only [ByteArray.append_assoc, h1, h2, h3, h4, Num.zag_zig]
      rw [i64_low (by decide)]
      rfl
    · rw [if_neg hk] at hr ⊢
      by_cases h2 : kind = 2
      · subst h2
        simp only [if_true, Bool.and_eq_true, decide_eq_true_eq] at hr ⊢
        obtain ⟨⟨⟨rfl, hT⟩, rfl⟩, rfl⟩ := hr
        unfold isT at hT
        simp only [decide_eq_true_eq] at hT
        have h1 := small_app 2 (by decide) (Num.smallB rt.toNat ++ b)
        have h3 := small_app rt.toNat (by omega) b
        unfold rd
        simp only [ByteArray.append_assoc, h1, h3]
        rw [i64_low (by decide), i64_low (by omega), show ((rt.toNat : Nat) : Int) = rt from by omega]
        rfl
      · rw [if_neg h2] at hr
        simp at hr
end Wa
end Go.Proofs.Ytaillfnmaiiapaa
