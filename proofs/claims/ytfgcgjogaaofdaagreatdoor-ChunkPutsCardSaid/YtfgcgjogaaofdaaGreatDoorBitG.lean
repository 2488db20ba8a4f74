/-
  What the function Get of package bits comes to.
-/
import Derived.Test.YtfgcgjogaaofdaaGreatDoorBitP
namespace Go.Proofs.YtfgcgjogaaofdaaGreatDoor
open Go.RowKit Go.Shelf
attribute [local go_sem] Oper.semAt_some

/-- a reader that stands at a bit of bytes -/
def RdAt (W : World) (p : Nat) (s : ByteArray) (x : Nat) : Prop := W.heap[p]? = some (.cells #[.string s, .int .i64 x] 131 (0, 0))
/-- what a get turns: the reader -/
def OneSet (p : Nat) : Nat → Prop := fun k => k = p

/-- only draws -/
def DrewOf (w W : World) : Prop := ∃ k, W = w.drewN k
theorem DrewOf.heap {w W : World} (h : DrewOf w W) : W.heap = w.heap := by obtain ⟨k, rfl⟩ := h; rfl
theorem DrewOf.grown {w W : World} (h : DrewOf w W) (row : Option Nat) : w.grownBy W row := by obtain ⟨k, rfl⟩ := h; exact ⟨rfl, rfl, rfl, Nat.le_refl _, fun _ _ _ => rfl⟩

set_option maxHeartbeats 400000 in
theorem Left_any (p : Nat) (s : ByteArray) (hs : s.size ≤ 137438953472) (x : Nat) (hx : x ≤ 8 * s.size) (w : World) (h : RdAt w p s x) :
    Calls Tryz.prog 91 #[.pointer (some ⟨p, 0, none⟩)] w fun e w' => e = .returned (.int .i64 ((8 * s.size - x : Nat) : Int)) ∧ DrewOf w w' := by
  have c0 : w.cell? ⟨p, 0, none⟩ = some (.string s) := cell_of_row _ _ _ _ _ _ h
  have c1 : w.cell? ⟨p, 1, none⟩ = some (.int .i64 x) := cell_of_row _ _ _ _ _ _ h
  clear h
  have e1 : IntKind.i64.wrap (8 * (s.size : Int)) = 8 * (s.size : Int) := IntWalk.i64_in _ (by omega)
  have e2 : IntKind.i64.wrap (8 * (s.size : Int) - (x : Int)) = 8 * (s.size : Int) - (x : Int) := IntWalk.i64_in _ (by omega)
  go_enter Tryz.func91, Tryz.ntmps91
  go_wp2_with fail
  go_quiet (fail)
  go_wp2_with fail
  go_ret
  exact ⟨ret_int (by omega), _, rfl⟩

/-- the bits that are got -/
def Bit.bits (s : ByteArray) : List Bool := Bit.un s.data.toList
theorem Bit.bits_length (s : ByteArray) : (Bit.bits s).length = 8 * s.size := by unfold Bit.bits; rw [Bit.un_length]; simp
theorem Bit.got_more (s : ByteArray) (p a m : Nat) (h : p + a + m ≤ 8 * s.size) (h8 : (p + a) % 8 + m ≤ 8) (hm : 0 < m) (hi : (p + a) / 8 < s.size) :
    Bit.val (((Bit.bits s).drop p).take (a + m)) = Bit.val (((Bit.bits s).drop p).take a) * 2 ^ m + (s[(p + a) / 8]).toNat / 2 ^ (8 - (p + a) % 8 - m) % 2 ^ m := by
  have hl := Bit.bits_length s
  rw [List.take_add, Bit.val_append, List.drop_drop]
  have e1 : (((Bit.bits s).drop (p + a)).take m).length = m := by rw [List.length_take, List.length_drop, hl]; omega
  rw [e1]
  congr 1
  exact Bit.un_mid s.data.toList (p + a) m (by simpa using hi) h8
theorem Bit.val_take_lt (l : List Bool) (n : Nat) : Bit.val (l.take n) < 2 ^ n :=
  Nat.lt_of_lt_of_le (Bit.val_lt _) (Bit.two_pow_le (by rw [List.length_take]; omega))

/-- the blocks of a get's own -/
structure Gets (b p v : Nat) (W : World) : Prop where
  r : W.heap[b]? = some (.cells #[.pointer (some ⟨p, 0, none⟩)] 106 (0, 0))
  v : W.heap[b + 1]? = some (.cells #[.int .u64 v] 28 (0, 0))
/-- between two rounds of a get -/
structure GetAt (p : Nat) (s : ByteArray) (q nn : Nat) (w : World) (x : Nat) (W : World) : Prop where
  lo : q ≤ x
  hi : x ≤ q + nn
  own : Gets w.heap.size p (Bit.val (((Bit.bits s).drop q).take (x - q))) W
  box : Boxes (w.heap.size + 2) q nn W
  rd : RdAt W p s x
  far : Far w W (OneSet p)
  size : w.heap.size + 4 ≤ W.heap.size
theorem GetAt.kept {p q nn x : Nat} {s : ByteArray} {w W W2 : World} {row : Option Nat} (h : GetAt p s q nn w x W) (hp : p < w.heap.size) (hg : W.grownBy W2 row) (hr : ∀ r, row = some r → w.heap.size + 4 ≤ r) : GetAt p s q nn w x W2 := by
  have hlow : ∀ k, k < w.heap.size + 4 → W2.heap[k]? = W.heap[k]? := fun k hk => hg.block k (by have := h.size; omega) (fun e => by have := hr k e.symm; omega)
  exact ⟨h.lo, h.hi, ⟨(hlow _ (by omega)).trans h.own.r, (hlow _ (by omega)).trans h.own.v⟩, h.box.keep (hlow _ (by omega)) (hlow _ (by omega)), (hlow p (by omega)).trans h.rd,
    h.far.step hg (fun r e => .inr (by have := hr r e; omega)), Nat.le_trans h.size hg.size⟩
theorem get_end {p q nn m v2 : Nat} {s : ByteArray} {w W : World} {x : Nat} (h : GetAt p s q nn w x W) (hp : p < w.heap.size) (hm : x + m ≤ q + nn) (hv : Bit.val (((Bit.bits s).drop q).take (x + m - q)) = v2) :
    KeepsFrom (w.heap.size + 4) W ((W.setCell ⟨w.heap.size + 1, 0, none⟩ (.int .u64 v2)).setCell ⟨p, 1, none⟩ (.int .i64 ((x + m : Nat) : Int))) ∧
    BoxKeep (w.heap.size + 2) W ((W.setCell ⟨w.heap.size + 1, 0, none⟩ (.int .u64 v2)).setCell ⟨p, 1, none⟩ (.int .i64 ((x + m : Nat) : Int))) ∧
    GetAt p s q nn w (x + m) ((W.setCell ⟨w.heap.size + 1, 0, none⟩ (.int .u64 v2)).setCell ⟨p, 1, none⟩ (.int .i64 ((x + m : Nat) : Int))) := by
  have s1 := grown_setCell W (w.heap.size + 1) 0 (.int .u64 v2)
  have n1 := heap_setCell_same W (w.heap.size + 1) 0 _ _ (.int .u64 v2) h.own.v
  have f1 : ∀ k, k ≠ w.heap.size + 1 → (W.setCell ⟨w.heap.size + 1, 0, none⟩ (.int .u64 v2)).heap[k]? = W.heap[k]? := fun k hk => heap_setCell_other W ⟨w.heap.size + 1, 0, none⟩ k _ hk
  have k1 : KeepsOthers W (W.setCell ⟨w.heap.size + 1, 0, none⟩ (.int .u64 v2)) := KeepsOthers.setCell _ _ _
  generalize W.setCell ⟨w.heap.size + 1, 0, none⟩ (.int .u64 v2) = W1 at *
  have s2 := grown_setCell W1 p 1 (.int .i64 ((x + m : Nat) : Int))
  have c2 := (f1 p (by omega)).trans h.rd
  have n2 := heap_setCell_same W1 p 1 _ _ (.int .i64 ((x + m : Nat) : Int)) c2
  have f2 : ∀ k, k ≠ p → (W1.setCell ⟨p, 1, none⟩ (.int .i64 ((x + m : Nat) : Int))).heap[k]? = W1.heap[k]? := fun k hk => heap_setCell_other W1 ⟨p, 1, none⟩ k _ hk
  have k2 : KeepsOthers W1 (W1.setCell ⟨p, 1, none⟩ (.int .i64 ((x + m : Nat) : Int))) := KeepsOthers.setCell _ _ _
  generalize W1.setCell ⟨p, 1, none⟩ (.int .i64 ((x + m : Nat) : Int)) = W2 at *
  have low : ∀ k, k ≠ p → k ≠ w.heap.size + 1 → W2.heap[k]? = W.heap[k]? := fun k h1 h2 => (f2 k h1).trans (f1 k h2)
  have hlo := h.lo
  refine ⟨(k1.trans k2).from _, ⟨low _ (by omega) (by omega), low _ (by omega) (by omega)⟩, by omega, hm, ⟨(low _ (by omega) (by omega)).trans h.own.r, ?_⟩, ⟨(low _ (by omega) (by omega)).trans h.box.1, (low _ (by omega) (by omega)).trans h.box.2⟩, n2, ?_, ?_⟩
  · rw [hv]; exact (f2 _ (by omega)).trans n1
  · exact (h.far.step s1 (fun r e => by cases e; exact .inr (by omega))).step s2 (fun r e => by cases e; exact .inl rfl)
  · have h1 := h.size; have h2 := s1.size; have h3 := s2.size; omega

set_option maxRecDepth 100000 in
set_option maxHeartbeats 1000000 in
/-- there are so many -/
theorem Get_yes (p : Nat) (s : ByteArray) (hs : s.size ≤ 137438953472) (q : Nat) (n : Int) (w : World) (hr : RdAt w p s q) (hq : q + Bit.wd n ≤ 8 * s.size) :
    Calls Tryz.prog 90 #[.pointer (some ⟨p, 0, none⟩), .int .i64 n] w fun e w' => e = .returned (.tuple #[.int .u64 ((Bit.val (((Bit.bits s).drop q).take (Bit.wd n)) : Nat) : Int), .bool true]) ∧ RdAt w' p s (q + Bit.wd n) ∧ Far w w' (OneSet p) := by
  have hn := Bit.wd_le n
  have hW := width_any n
  generalize Bit.wd n = nn at *
  have HW := Lib.hid hW; clear hW
  have hpl : p < w.heap.size := (Array.getElem?_eq_some_iff.1 hr).1
  have hLf := fun W (h : RdAt W p s q) => Left_any p s hs q (by omega) W h
  have HLf := Lib.hid hLf; have HRd := Lib.hid hr; clear hLf hr
  refine (callsIn_wide (n := 3)).1 ?_
  refine callsIn_of_wp_marks Tryz.func90 rfl trivial ?_ rfl
  simp only [Tryz.ntmps90, List.size_toArray, List.length_cons, List.length_nil, Nat.reduceAdd, Nat.reduceSub, Array.replicate_succ, Array.replicate_zero, List.push_toArray, List.append_toArray, List.nil_append, List.cons_append]
  refine wpIn_wide.2 ?_
  go_wp2_with fail
  refine (HW.out _).mono ?_; rintro e wx ⟨rfl, rfl⟩
  have d1 : decide (8 * s.size - q < nn) = false := by simp; omega
  go_wp2_with fail
  refine (HLf.out _ ((Below.heap_alloc w _ p hpl).trans HRd.out)).mono ?_; rintro e w1 ⟨rfl, hd⟩
  have HD := Lib.hid hd; clear hd
  go_upto_region 5 with fail
  have hd := HD.out; clear HD
  have hh := hd.heap
  have hg0 := grown_trans (World.grownBy_alloc w (.cells #[.pointer (some ⟨p, 0, none⟩)] 106) none) (hd.grown none)
  clear hd
  have hz1 : w1.heap.size = w.heap.size + 1 := by rw [hh]; simp
  have hold : ∀ k, k < w.heap.size → w1.heap[k]? = w.heap[k]? := fun k hk => by rw [hh]; exact Below.heap_alloc w _ k hk
  have h10 : w1.heap[w.heap.size]? = some (.cells #[.pointer (some ⟨p, 0, none⟩)] 106 (0, 0)) := by rw [hh]; exact heap_alloc_new w _
  clear hh
  have g2 := World.grownBy_alloc w1 (.cells #[.int .u64 0] 28) none
  have z2 : (w1.alloc (.cells #[.int .u64 0] 28)).heap.size = w.heap.size + 2 := by simp [hz1]
  have h21 : (w1.alloc (.cells #[.int .u64 0] 28)).heap[w.heap.size + 1]? = some (.cells #[.int .u64 0] 28 (0, 0)) := by rw [← hz1]; exact heap_alloc_new w1 _
  have h20 := (Below.heap_alloc w1 (.cells #[.int .u64 0] 28) w.heap.size (by omega)).trans h10
  have hrd2 : RdAt (w1.alloc (.cells #[.int .u64 0] 28)) p s q := (Below.heap_alloc w1 _ p (by omega)).trans ((hold p hpl).trans HRd.out)
  obtain ⟨W2, hW2⟩ : ∃ W2, w1.alloc (.cells #[.int .u64 0] 28) = W2 := ⟨_, rfl⟩
  rw [hW2, hz1]
  rw [hW2] at h20 h21 z2 g2 hrd2
  clear hz1 hold h10
  have HG := Lib.hid (grown_trans hg0 g2); have HW2 := Lib.hid hW2; clear hW2 g2 hg0
  have b0 : W2.cell? ⟨w.heap.size, 0, none⟩ = some (.pointer (some ⟨p, 0, none⟩)) := cell_of_row _ _ _ _ _ _ h20
  have b1 : W2.cell? ⟨p, 1, none⟩ = some (.int .i64 q) := cell_of_row _ _ _ _ _ _ hrd2
  have HGT := Lib.hid (⟨h20, h21⟩ : Gets w.heap.size p 0 W2); have HRD2 := Lib.hid hrd2; have HZ2 := Lib.hid z2
  clear h20 h21 hrd2 z2
  go_wp2_with fail
  refine (pieces_any q nn _).mono ?_; rintro e w4 ⟨rfl, hw4⟩
  have h4 := two_heap W2 (.cells #[.int .i64 q] 3) (.cells #[.int .i64 nn] 3)
  rw [← hw4, HZ2.out] at h4
  rw [HZ2.out]
  clear hw4
  obtain ⟨h42, h43, hs4, hk4, hg4⟩ := h4
  have start : GetAt p s q nn w q w4 :=
    ⟨Nat.le_refl _, by omega, ⟨(hk4 _ (by omega)).trans HGT.out.r, by rw [Nat.sub_self]; exact (hk4 _ (by omega)).trans HGT.out.v⟩, ⟨h42, h43⟩, (hk4 _ (by omega)).trans HRD2.out,
      (Far.refl w _).step (grown_trans HG.out hg4) (fun r e => by cases e), by omega⟩
  have ST := Lib.hid start
  clear start hk4 hg4 b0 b1
  go_wp2_with fail
  have HB4 : Boxes (w.heap.size + 2) q nn w4 := ⟨h42, h43⟩
  refine (wpIn_wide (n := 3)).1 ?_
  refine' rangeV (gf := 102) (lb := #[.pointer (some ⟨w.heap.size + 2, 0, none⟩), .pointer (some ⟨w.heap.size + 2 + 1, 0, none⟩)]) rfl (enters_of Tryz.func102 (by kernel_rfl) rfl)
    (pieces_iter (w.heap.size + 2) q nn (by omega) hn w4 HB4) (fun h k => h.trans k) ?ka ?kb (fun _ => rfl) (GetAt p s q nn w) (fun _ _ _ => False) ?hI (fun _ _ _ _ _ h _ _ => h) ST.out _ ?assign ?body ?done ?stop
  case ka =>
    intro o1 o2 _ _
    have t := two_heap w4 o1 o2
    exact ⟨t.2.2.2.1 _ (by omega), t.2.2.2.1 _ (by omega)⟩
  case kb =>
    intro W l o o2 hl _ _
    exact ⟨putObj_other _ _ _ _ (by omega), putObj_other _ _ _ _ (by omega)⟩
  case hI =>
    intro x W W2 row h hg hr
    exact h.kept hpl hg (fun r e => by have := (hr r e).1; omega)
  case assign =>
    intro l x W K hK
    gi_wp2
    exact hK
  case body =>
    intro l x W hi hm
    have hxl : x < q + nn := of_decide_eq_true hm
    have hst : 0 < Bit.step (q + nn) x ∧ x % 8 + Bit.step (q + nn) x ≤ 8 ∧ x + Bit.step (q + nn) x ≤ q + nn := by unfold Bit.step; omega
    generalize Bit.step (q + nn) x = m at *
    obtain ⟨hm0, hm8, hme⟩ := hst
    have lo := hi.lo
    have hidx : x / 8 < s.size := by omega
    have hgot := Bit.got_more s q (x - q) m (by omega) (by rw [show q + (x - q) = x from by omega]; exact hm8) hm0 (by rw [show q + (x - q) = x from by omega]; exact hidx)
    have hgs : (s[(q + (x - q)) / 8]'(by rw [show q + (x - q) = x from by omega]; exact hidx)) = s[x / 8] := by congr 2; omega
    rw [hgs, show q + (x - q) = x from by omega, show x - q + m = x + m - q from by omega] at hgot
    have hvl := Bit.val_take_lt ((Bit.bits s).drop q) (x - q)
    have hvl2 := Bit.val_take_lt ((Bit.bits s).drop q) (x + m - q)
    have b0 : W.cell? ⟨w.heap.size, 0, none⟩ = some (.pointer (some ⟨p, 0, none⟩)) := cell_of_row _ _ _ _ _ _ hi.own.r
    have b1 : W.cell? ⟨w.heap.size + 1, 0, none⟩ = some (.int .u64 (Bit.val (((Bit.bits s).drop q).take (x - q)) : Nat)) := cell_of_row _ _ _ _ _ _ hi.own.v
    have f1 : W.frozen? ⟨w.heap.size + 1, 0, none⟩ = false := frozen_of_row _ _ _ _ _ hi.own.v
    have c0 : W.cell? ⟨p, 0, none⟩ = some (.string s) := cell_of_row _ _ _ _ _ _ hi.rd
    have c1 : W.cell? ⟨p, 1, none⟩ = some (.int .i64 x) := cell_of_row _ _ _ _ _ _ hi.rd
    have f2 : W.frozen? ⟨p, 1, none⟩ = false := frozen_of_row _ _ _ _ _ hi.rd
    have hby := s[x / 8].toNat_lt
    generalize hbe : s[x / 8].toNat = by8 at *
    have e9 : IntKind.u64.wrap ((s[x / 8].toNat : Nat) : Int) = (by8 : Int) := by rw [hbe, IntKind.wrap_u64]; omega
    generalize hv1 : Bit.val (((Bit.bits s).drop q).take (x - q)) = v1 at *
    have ek : (8 : Int) - (x : Int) % 8 - (m : Int) = ((8 - x % 8 - m : Nat) : Int) := by omega
    generalize hke : 8 - x % 8 - m = k at *
    have evb : (by8 : Int) / 2 ^ k = ((by8 / 2 ^ k : Nat) : Int) := by rw [Int.natCast_ediv, Int.natCast_pow]; rfl
    have hq1 : by8 / 2 ^ k < 256 := Nat.lt_of_le_of_lt (Nat.div_le_self _ _) hby
    have hLQ := fun W => low_any (by8 / 2 ^ k) m (Lib.hid (by omega)) (by omega) W
    have hcm : by8 / 2 ^ k % 2 ^ m < 2 ^ m := Nat.mod_lt _ (Nat.two_pow_pos m)
    generalize hqe : by8 / 2 ^ k = bq at *
    generalize hce : bq % 2 ^ m = c at *
    have hp64 : 2 ^ (x + m - q) ≤ 2 ^ 64 := Bit.two_pow_le (by omega)
    have esh : IntKind.u64.wrap ((v1 : Int) * 2 ^ m) = ((v1 * 2 ^ m : Nat) : Int) := by
      have e : (v1 : Int) * 2 ^ m = ((v1 * 2 ^ m : Nat) : Int) := by rw [Int.natCast_mul, Int.natCast_pow]; rfl
      rw [e, IntKind.wrap_u64]; omega
    have eor : bits BinOp.or .u64 ((v1 * 2 ^ m : Nat) : Int) (c : Int) = ((v1 * 2 ^ m + c : Nat) : Int) := by
      rw [u64_or_nat _ _ (by omega) (by omega), nat_join m _ _ (Nat.mul_mod_left _ _) hcm]
    rw [← hgot] at eor
    generalize hv2 : Bit.val (((Bit.bits s).drop q).take (x + m - q)) = v2 at *
    generalize hd : v1 * 2 ^ m = d at *
    have t1 : (x : Int).tmod 8 = (x : Int) % 8 := Int.tmod_eq_emod_of_nonneg (by omega)
    have t2 : IntKind.i64.wrap (8 - (x : Int) % 8) = 8 - (x : Int) % 8 := IntWalk.i64_in _ (by omega)
    have t3 : IntKind.i64.wrap (k : Int) = (k : Int) := IntWalk.i64_in _ (by omega)
    have i1 : (0 : Int) ≤ (x : Int) / 8 := by omega
    have i2 : (x : Int) / 8 < (s.size : Int) := by omega
    have i3 : ((x : Int) / 8).toNat = x / 8 := by omega
    have hk64 : k ≤ 64 := by omega
    have hm64 : m ≤ 64 := by omega
    have HI := Lib.hid hi; have HV2 := Lib.hid hv2; have HLQ := Lib.hid hLQ; have HBE := Lib.hid hbe
    clear hi hv2 hLQ hgot hgs hvl hvl2 hv1 hke hqe hce hp64 hd hbe
    gi_upto_region 8 with fail
    refine round_still_tail 22 (by kernel_rfl) (by kernel_rfl) (by kernel_rfl) ?_
    simp only [List.take_succ_cons, List.take_zero, List.drop_succ_cons, List.drop_zero]
    repeat still_step
    refine wpStill_step (fun K hK => ?_)
    go_simp
    refine ⟨_, HLQ.out _, hK _ ?_⟩
    clear hK K
    repeat still_step
    refine wpStill_nil ?_
    have x0 : (W.setCell ⟨w.heap.size + 1, 0, none⟩ (.int .u64 v2)).cell? ⟨w.heap.size, 0, none⟩ = some (.pointer (some ⟨p, 0, none⟩)) := (World.cell?_setCell_other W ⟨w.heap.size + 1, 0, none⟩ ⟨w.heap.size, 0, none⟩ _ (fun e => by have := congrArg Addr.block e; simp at this)).trans b0
    have x1 : (W.setCell ⟨w.heap.size + 1, 0, none⟩ (.int .u64 v2)).cell? ⟨p, 1, none⟩ = some (.int .i64 x) := (World.cell?_setCell_other W ⟨w.heap.size + 1, 0, none⟩ ⟨p, 1, none⟩ _ (fun e => by have := congrArg Addr.block e; simp at this; omega)).trans c1
    go_wp2_with fail
    refine Only.next ?_
    have hfin := get_end HI.out hpl hme HV2.out
    rw [show ((x + m : Nat) : Int) = (x : Int) + (m : Int) from by omega] at hfin
    have HFIN := Lib.hid hfin; clear hfin t1 t2 t3 ek esh eor evb e9
    gi_wp2
    obtain ⟨z1, z2, z3⟩ := HFIN.out
    rw [hs4]
    exact ⟨z1.trans ((KeepsOthers.drew _).from _), z2, z3.kept hpl (grown_drew (grown_refl _ none)) (fun r e => by cases e)⟩
  case done =>
    intro D x W hD hm hi hK
    have hx : x = q + nn := by have h1 := hi.hi; have h2 := of_decide_eq_false hm; omega
    subst hx
    have b1 : W.cell? ⟨w.heap.size + 1, 0, none⟩ = some (.int .u64 (Bit.val (((Bit.bits s).drop q).take (q + nn - q)) : Nat)) := cell_of_row _ _ _ _ _ _ hi.own.v
    rw [Nat.add_sub_cancel_left] at b1
    have HI := Lib.hid hi; have HK := Lib.hid hK; clear hi hK
    go_wp2_with fail
    refine ⟨by simp, .inl ⟨_, _, rfl, run_takeDeferred HK.out, ?_⟩⟩
    have hk := HI.out.kept hpl (grownBy_putObj' W D (.deferred none)) (fun r e => by cases e; omega)
    exact ⟨.tuple #[.int .u64 ((Bit.val (((Bit.bits s).drop q).take nn) : Nat) : Int), .bool true], by simp [results, Tryz.results90, go_sem], rfl, hk.rd, hk.far⟩
  case stop =>
    intro D c x W _ h _
    exact h.elim

set_option maxRecDepth 100000 in
set_option maxHeartbeats 400000 in
/-- there are not so many -/
theorem Get_no (p : Nat) (s : ByteArray) (hs : s.size ≤ 137438953472) (q : Nat) (hq : q ≤ 8 * s.size) (n : Int) (w : World) (hr : RdAt w p s q) (hn : 8 * s.size < q + Bit.wd n) :
    Calls Tryz.prog 90 #[.pointer (some ⟨p, 0, none⟩), .int .i64 n] w fun e w' => e = .returned (.tuple #[.int .u64 0, .bool false]) ∧ Below w.heap.size w w' := by
  have hW := width_any n
  generalize Bit.wd n = nn at *
  have HW := Lib.hid hW; clear hW
  have hpl : p < w.heap.size := (Array.getElem?_eq_some_iff.1 hr).1
  have hLf := fun W (h : RdAt W p s q) => Left_any p s hs q hq W h
  have HLf := Lib.hid hLf; have HRd := Lib.hid hr; clear hLf hr
  have d1 : decide (8 * s.size - q < nn) = true := by simp; omega
  go_enter Tryz.func90, Tryz.ntmps90
  go_wp2_with fail
  refine (HW.out _).mono ?_; rintro e wx ⟨rfl, rfl⟩
  go_wp2_with fail
  refine (HLf.out _ ((Below.heap_alloc w _ p hpl).trans HRd.out)).mono ?_; rintro e w1 ⟨rfl, hd⟩
  have HB := Lib.hid (((Below.refl w.heap.size w).alloc (Nat.le_refl _) (.cells #[.pointer (some ⟨p, 0, none⟩)] 106)).grown (hd.grown none) (by simp) (fun r e => by cases e)); clear hd
  go_wp2_with fail
  go_ret2
  exact ⟨rfl, HB.out⟩
end Go.Proofs.YtfgcgjogaaofdaaGreatDoor
