import Derived.Test.YtliobahnekohmaaGreatIzA
import Derived.Test.YtliobahnekohmaaGreatIxV
import Derived.Test.YtliobahnekohmaaGreatRob
/-
  The reader's labels: the walk.
-/
namespace Go.Proofs.YtliobahnekohmaaGreat
open Go.RowKit
namespace Ix
theorem rdLabs_snoc (S : List ByteArray) : ∀ (k : Nat) (c : Cu), rdLabs S (k + 1) c = ((rdLabs S k c).1 ++ [((rdSym S (rdLabs S k c).2).1, (rdSym S (rdSym S (rdLabs S k c).2).2).1)], (rdSym S (rdSym S (rdLabs S k c).2).2).2)
 | 0, _ => rfl
 | k + 1, c => by
  have ih := rdLabs_snoc S k (rdSym S (rdSym S c).2).2
  show (((rdSym S c).1, (rdSym S (rdSym S c).2).1) :: (rdLabs S (k + 1) (rdSym S (rdSym S c).2).2).1, (rdLabs S (k + 1) (rdSym S (rdSym S c).2).2).2) = _
  rw [ih]
  rfl
theorem rdLabs_length (S : List ByteArray) : ∀ (k : Nat) (c : Cu), (rdLabs S k c).1.length = k
 | 0, _ => rfl
 | k + 1, c => by
  show ((rdLabs S k _).1).length + 1 = k + 1
  rw [rdLabs_length S k]
end Ix
theorem grown_beyond {A B C : World} {row : Option Nat} {b : Nat} (h : A.grownBy B (some b)) (h2 : B.grownBy C row) (hr : ∀ r, row = some r → A.heap.size ≤ r) : A.grownBy C (some b) :=
 ⟨h2.os.trans h.os, h2.tape.trans h.tape, h2.output.trans h.output, Nat.le_trans h.size h2.size, fun k hk hne => (h2.block k (Nat.lt_of_lt_of_le hk h.size) (fun e => by have := hr k e.symm; omega)).trans (h.block k hk hne)⟩
theorem Rdr.grown {w U V : World} {rb : Nat} {c : Ix.Cu} {S : List ByteArray} {sv : Value} {la en : Int} {row : Option Nat} (h : Rdr w U rb c S sv la en) (hg : U.grownBy V row) (hr : ∀ r, row = some r → r ≠ rb ∧ sv.ownBlock ≠ some r ∧ w.heap.size ≤ r) : Rdr w V rb c S sv la en :=
 ⟨(hg.block rb h.lt (fun e => (hr rb e.symm).1 rfl)).trans h.cur, row_kept h.own hg (fun r e => (hr r e).2.1), h.bel.grown hg h.bel.size (fun r e => (hr r e).2.2), h.lo, h.room⟩
structure Lb (w U0 U : World) (rb : Nat) (c : Ix.Cu) (S : List ByteArray) (sv : Value) (la en : Int) (v : Value) (l : List Lab) : Prop where
 rd : Rdr w U rb c S sv la en
 own : U.ownsRow U0.heap.size 37 2 v l.length (l.flatMap labC)
 gr : U0.grownBy U (some rb)
 lt : rb < U0.heap.size
 le : w.heap.size ≤ U0.heap.size
section
variable {w U0 U V : World} {rb : Nat} {c d : Ix.Cu} {S : List ByteArray} {sv v : Value} {la en : Int} {l : List Lab}
theorem Lb.step (h : Lb w U0 U rb c S sv la en v l) (hr : Rdr w V rb d S sv la en) (hg : U.grownBy V (some rb)) : Lb w U0 V rb d S sv la en v l :=
 ⟨hr, row_kept h.own hg (fun r e hs => by cases e; have := (h.own.lt rb hs).1; have := h.lt; omega), grown_trans h.gr hg, h.lt, h.le⟩
theorem Lb.later (h : Lb w U0 U rb c S sv la en v l) (hb : Below U.heap.size U V) : Lb w U0 V rb c S sv la en v l :=
 ⟨h.rd.later hb, row_far h.own hb, grown_trans h.gr (grown_of_below hb), h.lt, h.le⟩
theorem Lb.more {v2 : Value} {l2 : List Lab} (h : Lb w U0 U rb c S sv la en v l) (hg : U.grownBy V v.ownBlock) (hr : V.ownsRow U0.heap.size 37 2 v2 l2.length (l2.flatMap labC)) : Lb w U0 V rb c S sv la en v2 l2 := by
 have hlt : ∀ r, v.ownBlock = some r → U0.heap.size ≤ r := fun r e => (h.own.lt r e).1
 refine ⟨h.rd.grown hg (fun r e => ⟨fun e2 => ?_, ?_, Nat.le_trans h.le (hlt r e)⟩), hr, grown_beyond h.gr hg hlt, h.lt, h.le⟩
 · have := hlt r e; have := h.lt; omega
 · exact row_apart h.rd.own h.own (by decide) e
end
set_option maxRecDepth 100000 in
set_option maxHeartbeats 4000000 in
theorem rlabels {w U : World} {rb : Nat} {c : Ix.Cu} {S : List ByteArray} {sv : Value} {la en : Int} (h : Rdr w U rb c S sv la en) (hS : S.length ≤ 1000) :
 Calls Tryz.prog 129 #[.pointer (some ⟨rb, 0, none⟩)] U fun e V => ∃ v, e = .returned v ∧ Lb w U V rb (Ix.labels S c).2 S sv la en v (Ix.labels S c).1 := by
 have HSM := Lib.hid (rsmall h)
 have hlt := h.lt
 have hle : w.heap.size ≤ U.heap.size := h.bel.size
 have hL : Ix.labels S c = Ix.rdLabs S (Ix.Cu.atMost 6 c.small).1 (Ix.Cu.atMost 6 c.small).2 := rfl
 have HSN := Lib.hid (fun k c => Ix.rdLabs_snoc S k c); have HLN := Lib.hid (fun k c => Ix.rdLabs_length S k c)
 have hat : (Ix.Cu.atMost 6 c.small).1 ≤ 6 := by
  unfold Ix.Cu.atMost
  split
  · exact Nat.zero_le _
  · omega
 have HAT := Lib.hid (fun (V : World) (hv : Rdr w V rb c.small.2 S sv la en) => ratMost hv c.small.1 6 (by omega))
 generalize Ix.labels S c = res at *
 generalize c.small = x at *
 obtain ⟨x0, c1⟩ := x
 simp only at HSM HAT
 generalize Ix.Cu.atMost 6 (x0, c1) = y at *
 obtain ⟨m, c2⟩ := y
 simp only at hL HAT hat
 have HRES := Lib.hid hL
 clear hL h
 go_enter Tryz.func129, Tryz.ntmps129
 go_wp2_with fail
 refine HSM.out.mono ?_; rintro e w1 ⟨rfl, h1, h2⟩
 have HC := Lib.hid (HAT.out w1 h1); have HG1 := Lib.hid h2
 clear h1 h2 HSM HAT
 go_wp2_with fail
 refine HC.out.mono ?_; rintro e w2 ⟨rfl, h1, h2⟩
 have HLB : Hid (Lb w U w2 rb (Ix.rdLabs S 0 c2).2 S sv la en (.slice none 0 0) (Ix.rdLabs S 0 c2).1) := Lib.hid ⟨h1, World.ownsRow_nil _ _ _ _, grown_trans HG1.out h2, hlt, hle⟩
 clear h1 h2 HC HG1
 go_wp2_with fail
 go_loopw [3, 10] (fun v i wr => ∃ k : Nat, k ≤ m ∧ i = .int .i64 k ∧ Lb w U wr rb (Ix.rdLabs S k c2).2 S sv la en v (Ix.rdLabs S k c2).1) (fun _ i _ => m - (intOf i).toNat)
 case atStart => exact ⟨0, by omega, rfl, HLB.out⟩
 case round =>
  obtain ⟨k, hk, rfl, hlb⟩ := hrel
  have HL := Lib.hid hlb
  clear hlb HLB
  have i0 : (0 : Int) ≤ (k : Int) := by omega
  have hln := HLN.out k c2
  have hsn := HSN.out k c2
  by_cases hlk : k < m
  · have i1 : (k : Int) < (m : Int) := by omega
    have dd1 : decide ((k : Int) < (m : Int)) = true := decide_eq_true i1
    have HS1 := Lib.hid (rsymbol HL.out.rd hS)
    generalize Ix.rdLabs S k c2 = p at *
    obtain ⟨l, c3⟩ := p
    simp only at hln hsn HL HS1
    generalize Ix.rdSym S c3 = z1 at *
    obtain ⟨s1, c4⟩ := z1
    simp only at hsn HS1
    have HS2 := Lib.hid (fun (V : World) (hv : Rdr w V rb c4 S sv la en) => rsymbol hv hS)
    generalize Ix.rdSym S c4 = z2 at *
    obtain ⟨s2, c5⟩ := z2
    simp only at hsn HS2
    have HNX := Lib.hid hsn
    clear hsn
    go_wp2_with fail
    refine HS1.out.mono ?_; rintro e w3 ⟨rfl, h1, h2⟩
    have HL3 := Lib.hid (HL.out.step h1 h2); have HC := Lib.hid (HS2.out w3 h1)
    clear h1 h2 HS1 HS2 HL
    go_wp2_with fail
    refine HC.out.mono ?_; rintro e w4 ⟨rfl, h1, h2⟩
    have hb5 : Below w4.heap.size w4 (w4.alloc (.cells #[.string s1, .string s2] 37)) := (Below.refl _ _).alloc (Nat.le_refl _) _
    have HL5 := Lib.hid ((HL3.out.step h1 h2).later hb5)
    have HR5 := Lib.hid (lx2_row w4 (s1, s2) 37)
    have HBB : Hid (U.heap.size ≤ (w4.alloc (.cells #[.string s1, .string s2] 37)).heap.size) := Lib.hid HL5.out.gr.size
    clear h1 h2 HC HL3 hb5
    go_wp2_with (at_builtin; go_must (refine wpList_append_row _ rfl _ _ 57 37 rfl 2 32 (.agg #[.string ByteArray.empty, .string ByteArray.empty]) Tryz.underlying57 infoL rfl (by decide) (by decide) U.heap.size _ l.length (l.flatMap labC) rfl HL5.out.own ⟨w4.heap.size, 0, none⟩ 1 1 (lx2 (s1, s2)) (lx2_one (s1, s2)) rfl HR5.out (by omega) HBB.out ?_); intro v8 w8 hown8 hg8; have HO8 := Lib.hid hown8; have HG8 := Lib.hid hg8; clear hown8 hg8)
    have hr8 := HO8.out
    rw [lx2_cells] at hr8
    have HL8 := Lib.hid (HL5.out.more (v2 := v8) (l2 := l ++ [(s1, s2)]) HG8.out (by
     rw [List.length_append, List.flatMap_append]
     have e : [(s1, s2)].flatMap labC = labC (s1, s2) := by simp
     rw [e]; exact hr8))
    clear hr8 HO8 HG8
    go_roundw
    case rel => exact ⟨k + 1, by omega, by go_num, by rw [HNX.out]; exact HL8.out⟩
    case measure => simp [intOf]; omega
  · obtain rfl : k = m := by omega
    have dd1 : decide ((k : Int) < (k : Int)) = false := decide_eq_false (by omega)
    clear hsn
    go_wp2_with fail
    go_ret
    rw [HRES.out]
    exact ⟨_, rfl, HL.out⟩
end Go.Proofs.YtliobahnekohmaaGreat
/-
  The reader's entry of generation 2: the walk.
-/
namespace Go.Proofs.YtliobahnekohmaaGreat
open Go.RowKit
theorem lrow_own {U : World} {base : Nat} {v : Value} {l : List Lab} (h : U.ownsRow base 37 2 v l.length (l.flatMap labC)) : ∃ A k, v = .slice A l.length k ∧ LRow U A l := by
 rcases h.2 with ⟨e, h0⟩ | ⟨g, cap, cur, e, -, hg, -⟩
 · exact ⟨none, 0, by rw [e, h0], fun hn => by omega, fun hn => by omega⟩
 · refine ⟨some ⟨g, 0, none⟩, cap, e, fun _ => ⟨⟨g, 0, none⟩, rfl, (Array.getElem?_eq_some_iff.1 hg).1, fun i hi => ?_⟩, fun _ ad e2 => by cases e2; exact ⟨cur, _, hg⟩⟩
   have hx : l.getD i (ByteArray.empty, ByteArray.empty) = La.at_ l i := rfl
   rw [e] at h
   rw [Addr.add_lit, Addr.add_lit, Nat.zero_add, Nat.zero_add, World.ownsRow.cellAt h _ (by omega), World.ownsRow.cellAt h _ (by omega), flat_at _ _ (by omega), flat_at _ _ (by omega), show i * 2 / 2 = i by omega, show (i * 2 + 1) / 2 = i by omega, show i * 2 % 2 = 0 by omega, show (i * 2 + 1) % 2 = 1 by omega, hx]
   exact ⟨rfl, rfl⟩
theorem store4 {U : World} {ob : Nat} {cs : Array Value} {T : TypeId} (h : U.heap[ob]? = some (.cells cs T (0, 0))) (hz : cs.size = 4) (a b c d : Value) :
 (((((U.setCell ⟨ob, 0, none⟩ a).setCell ⟨ob, 1, none⟩ b).setCell ⟨ob, 2, none⟩ c).setCell ⟨ob, 3, none⟩ d).heap[ob]? = some (.cells #[a, b, c, d] T (0, 0))) ∧ U.grownBy ((((U.setCell ⟨ob, 0, none⟩ a).setCell ⟨ob, 1, none⟩ b).setCell ⟨ob, 2, none⟩ c).setCell ⟨ob, 3, none⟩ d) (some ob) := by
 have h1 := heap_setCell_same U ob 0 _ _ a h
 have h2 := heap_setCell_same _ ob 1 _ _ b h1
 have h3 := heap_setCell_same _ ob 2 _ _ c h2
 have h4 := heap_setCell_same _ ob 3 _ _ d h3
 refine ⟨?_, grown_trans (grown_trans (grown_trans (grown_setCell U ob 0 a) (grown_setCell _ ob 1 b)) (grown_setCell _ ob 2 c)) (grown_setCell _ ob 3 d)⟩
 rw [h4]
 obtain ⟨x0, x1, x2, x3, rfl⟩ : ∃ x0 x1 x2 x3, cs = #[x0, x1, x2, x3] := ⟨cs[0], cs[1], cs[2], cs[3], by
  apply Array.ext
  · simp [hz]
  · intro i hi _
    rw [hz] at hi
    rcases (show i = 0 ∨ i = 1 ∨ i = 2 ∨ i = 3 by omega) with rfl | rfl | rfl | rfl <;> rfl⟩
 rfl
theorem entry_size : (Tryz.prog.info? 59).map (·.size) = some 4 := by kernel_rfl
def EntOut (w U : World) (rb : Nat) (x : Ix.Ent) (c : Ix.Cu) (S : List ByteArray) (sv : Value) (la en : Int) (e : Ending) (V : World) : Prop :=
 ∃ A k, e = .returned (.agg #[.slice A x.l.length k, .int .i64 x.last, .int .i64 x.off, .int .i64 x.len]) ∧ LRow V A x.l ∧ Rdr w V rb c S sv la en ∧ U.grownBy V (some rb)
def zeroE : Array Value := #[.slice none 0 0, .int .i64 0, .int .i64 0, .int .i64 0]
set_option maxRecDepth 100000 in
set_option maxHeartbeats 8000000 in
theorem rsecond {w U : World} {rb : Nat} {c : Ix.Cu} {S : List ByteArray} {sv : Value} {la en : Int} (h : Rdr w U rb c S sv la en) (hS : S.length ≤ 1000) :
 Calls Tryz.prog 94 #[.pointer (some ⟨rb, 0, none⟩)] U (EntOut w U rb (Ix.rd2 S c).1 (Ix.rd2 S c).2 S sv la en) := by
 have hr : Ix.rd2 S c = (⟨(Ix.labels S c).1, Ix.i64 (Ix.labels S c).2.small.1, Ix.i64 (Ix.labels S c).2.small.2.small.1, Ix.i64 (Ix.labels S c).2.small.2.small.2.small.1⟩, (Ix.labels S c).2.small.2.small.2.small.2) := rfl
 have hlt := h.lt
 obtain ⟨w1, hw1⟩ : ∃ w1, w1 = U.alloc (.cells zeroE 59) := ⟨_, rfl⟩
 have hb1 : Below U.heap.size U w1 := by rw [hw1]; exact (Below.refl _ _).alloc (Nat.le_refl _) _
 have ho1 : w1.heap[U.heap.size]? = some (.cells zeroE 59 (0, 0)) := by rw [hw1]; exact heap_alloc_new U _
 have H1 := Lib.hid (h.later hb1); have HO1 := Lib.hid ho1; have HB1 := Lib.hid hb1
 have hobl : U.heap.size < w1.heap.size := (Array.getElem?_eq_some_iff.1 ho1).1
 have HL := Lib.hid (fun U1 (hU : Rdr w U1 rb c S sv la en) => rlabels hU hS)
 generalize Ix.labels S c = x0 at *
 obtain ⟨l, c1⟩ := x0
 simp only at HL hr
 have HN1 := Lib.hid (fun U1 (hU : Rdr w U1 rb c1 S sv la en) => rsmall hU)
 generalize c1.small = x1 at *
 obtain ⟨n1, c2⟩ := x1
 simp only at HN1 hr
 have HN2 := Lib.hid (fun U1 (hU : Rdr w U1 rb c2 S sv la en) => rsmall hU)
 generalize c2.small = x2 at *
 obtain ⟨n2, c3⟩ := x2
 simp only at HN2 hr
 have HN3 := Lib.hid (fun U1 (hU : Rdr w U1 rb c3 S sv la en) => rsmall hU)
 generalize c3.small = x3 at *
 obtain ⟨n3, c4⟩ := x3
 simp only at HN3 hr
 rw [hr]
 clear hr h hb1 ho1
 have g1 : IntKind.i64.wrap (n1 : Int) = Ix.i64 n1 := rfl
 have g2 : IntKind.i64.wrap (n2 : Int) = Ix.i64 n2 := rfl
 have g3 : IntKind.i64.wrap (n3 : Int) = Ix.i64 n3 := rfl
 unfold zeroE at hw1 HO1
 go_enter Tryz.func94, Tryz.ntmps94
 go_upto_region 1 with fail
 rw [← hw1]
 obtain ⟨ob, hob⟩ : ∃ ob, ob = U.heap.size := ⟨_, rfl⟩
 rw [← hob] at HO1 hobl ⊢
 have hrl : rb < ob := by omega
 have HOB := Lib.hid hob
 clear hw1 hob
 refine plain_robD [(0, some 3), (1, some 4), (2, some 5), (3, some 6), (4, some 7), (5, some 8), (6, some 9), (7, some 10), (8, some 11), (9, some 12), (10, some 13), (11, some 14), (12, some 15), (13, some 16), (14, some 17), (15, some 18), (16, some 19)] [17,18] (fun U V => U.grownBy V (some rb)) (fun δ U => Rdr w U rb (if δ 15 = true then c4 else if δ 10 = true then c3 else if δ 5 = true then c2 else if δ 1 = true then c1 else c) S sv la en ∧ w1.grownBy U (some rb) ∧ U.heap[ob]? = some (.cells #[.slice none 0 0, .int .i64 0, .int .i64 0, .int .i64 0] 59 (0, 0))) [(0, .pointer (some ⟨rb, 0, none⟩)), (2, .pointer (some ⟨rb, 0, none⟩)), (3, .pointer (some ⟨rb, 0, none⟩)), (4, .pointer (some ⟨rb, 0, none⟩)), (5, .int .u64 (n1 : Int)), (6, .int .i64 (Ix.i64 n1)), (7, .pointer (some ⟨rb, 0, none⟩)), (8, .pointer (some ⟨rb, 0, none⟩)), (9, .pointer (some ⟨rb, 0, none⟩)), (10, .int .u64 (n2 : Int)), (11, .int .i64 (Ix.i64 n2)), (12, .pointer (some ⟨rb, 0, none⟩)), (13, .pointer (some ⟨rb, 0, none⟩)), (14, .pointer (some ⟨rb, 0, none⟩)), (15, .int .u64 (n3 : Int)), (16, .int .i64 (Ix.i64 n3))] [(1, (fun v W => W.ownsRow w1.heap.size 37 2 v l.length (l.flatMap labC) : Value → World → Prop))] 2 (by kernel_rfl) (by kernel_rfl) (by kernel_rfl) (⟨H1.out.later (Below.refl _ _).drew, grown_drew (grown_refl _ _), HO1.out⟩) ?_ ?_ ?_
 · intro p hp
   simp only [List.mem_cons, List.not_mem_nil, or_false] at hp
   subst hp
   exact fun v U V hv hg => row_kept hv hg (fun r e hs => by cases e; have := (hv.lt rb hs).1; omega)
 · refine ⟨⟨_, rfl, fun ν δ U hU h00 h1 h2 hp => ?_⟩, ?_⟩
   · simp only [putsν, Act.put, List.setIfInBounds_toArray, List.set_cons_zero, List.set_cons_succ]
     dsimp only at hU
     exact Yld.value (.pointer (some ⟨rb, 0, none⟩)) U (by kernel_rfl) (by go_simp) ⟨grown_refl _ _, hU, Fx.fixed rfl rfl⟩
   refine ⟨⟨_, rfl, fun ν δ U hU h00 h1 h2 hp => ?_⟩, ?_⟩
   · simp only [putsν, Act.put, List.setIfInBounds_toArray, List.set_cons_zero, List.set_cons_succ]
     have e0 := (hp 0 (by kernel_rfl) (by kernel_rfl)).val _ rfl
     simp only [e0]
     dsimp only at hU
     refine Yld.call 129 #[.pointer (some ⟨rb, 0, none⟩)] (by kernel_rfl) (by go_simp) ?_
     have hU1 := hU.1
     rw [h00, h2 5 (by kernel_rfl) (by kernel_rfl), h2 10 (by kernel_rfl) (by kernel_rfl), h2 15 (by kernel_rfl) (by kernel_rfl)] at hU1
     refine (HL.out U hU1).mono ?_
     rintro e V ⟨v, rfl, hlb⟩
     exact ⟨_, rfl, hlb.gr, ⟨by simpa [h2 5 (by kernel_rfl) (by kernel_rfl), h2 10 (by kernel_rfl) (by kernel_rfl), h2 15 (by kernel_rfl) (by kernel_rfl)] using hlb.rd, grown_trans hU.2.1 hlb.gr, grown_keep hU.2.2 hlb.gr (by omega)⟩, Fx.some_ rfl rfl (own_from hlb.own hU.2.1.size)⟩
   refine ⟨⟨_, rfl, fun ν δ U hU h00 h1 h2 hp => ?_⟩, ?_⟩
   · simp only [putsν, Act.put, List.setIfInBounds_toArray, List.set_cons_zero, List.set_cons_succ]
     dsimp only at hU
     exact Yld.value (.pointer (some ⟨rb, 0, none⟩)) U (by kernel_rfl) (by go_simp) ⟨grown_refl _ _, hU, Fx.fixed rfl rfl⟩
   refine ⟨⟨_, rfl, fun ν δ U hU h00 h1 h2 hp => ?_⟩, ?_⟩
   · simp only [putsν, Act.put, List.setIfInBounds_toArray, List.set_cons_zero, List.set_cons_succ]
     have e2 := (hp 2 (by kernel_rfl) (by kernel_rfl)).val _ rfl
     simp only [e2]
     dsimp only at hU
     exact Yld.value (.pointer (some ⟨rb, 0, none⟩)) U (by kernel_rfl) (by go_simp) ⟨grown_refl _ _, hU, Fx.fixed rfl rfl⟩
   refine ⟨⟨_, rfl, fun ν δ U hU h00 h1 h2 hp => ?_⟩, ?_⟩
   · simp only [putsν, Act.put, List.setIfInBounds_toArray, List.set_cons_zero, List.set_cons_succ]
     have e3 := (hp 3 (by kernel_rfl) (by kernel_rfl)).val _ rfl
     simp only [e3]
     dsimp only at hU
     exact Yld.value (.pointer (some ⟨rb, 0, none⟩)) U (by kernel_rfl) (by go_simp) ⟨grown_refl _ _, hU, Fx.fixed rfl rfl⟩
   refine ⟨⟨_, rfl, fun ν δ U hU h00 h1 h2 hp => ?_⟩, ?_⟩
   · simp only [putsν, Act.put, List.setIfInBounds_toArray, List.set_cons_zero, List.set_cons_succ]
     have e4 := (hp 4 (by kernel_rfl) (by kernel_rfl)).val _ rfl
     simp only [e4]
     dsimp only at hU
     refine Yld.call 92 #[.pointer (some ⟨rb, 0, none⟩)] (by kernel_rfl) (by go_simp) ?_
     have hcall := HN1.out U (by have hc := hU.1; rw [h00, h1 1 (by kernel_rfl) (by kernel_rfl), h2 10 (by kernel_rfl) (by kernel_rfl), h2 15 (by kernel_rfl) (by kernel_rfl)] at hc; exact hc)
     refine hcall.mono ?_
     rintro e V ⟨rfl, hc, hg⟩; exact ⟨_, rfl, hg, ⟨by simpa [h2 10 (by kernel_rfl) (by kernel_rfl), h2 15 (by kernel_rfl) (by kernel_rfl)] using hc, grown_trans hU.2.1 hg, grown_keep hU.2.2 hg (by omega)⟩, Fx.fixed rfl rfl⟩
   refine ⟨⟨_, rfl, fun ν δ U hU h00 h1 h2 hp => ?_⟩, ?_⟩
   · simp only [putsν, Act.put, List.setIfInBounds_toArray, List.set_cons_zero, List.set_cons_succ]
     have e5 := (hp 5 (by kernel_rfl) (by kernel_rfl)).val _ rfl
     simp only [e5]
     dsimp only at hU
     exact Yld.value (.int .i64 (Ix.i64 n1)) U (by kernel_rfl) (by go_simp) ⟨grown_refl _ _, hU, Fx.fixed rfl rfl⟩
   refine ⟨⟨_, rfl, fun ν δ U hU h00 h1 h2 hp => ?_⟩, ?_⟩
   · simp only [putsν, Act.put, List.setIfInBounds_toArray, List.set_cons_zero, List.set_cons_succ]
     dsimp only at hU
     exact Yld.value (.pointer (some ⟨rb, 0, none⟩)) U (by kernel_rfl) (by go_simp) ⟨grown_refl _ _, hU, Fx.fixed rfl rfl⟩
   refine ⟨⟨_, rfl, fun ν δ U hU h00 h1 h2 hp => ?_⟩, ?_⟩
   · simp only [putsν, Act.put, List.setIfInBounds_toArray, List.set_cons_zero, List.set_cons_succ]
     have e7 := (hp 7 (by kernel_rfl) (by kernel_rfl)).val _ rfl
     simp only [e7]
     dsimp only at hU
     exact Yld.value (.pointer (some ⟨rb, 0, none⟩)) U (by kernel_rfl) (by go_simp) ⟨grown_refl _ _, hU, Fx.fixed rfl rfl⟩
   refine ⟨⟨_, rfl, fun ν δ U hU h00 h1 h2 hp => ?_⟩, ?_⟩
   · simp only [putsν, Act.put, List.setIfInBounds_toArray, List.set_cons_zero, List.set_cons_succ]
     have e8 := (hp 8 (by kernel_rfl) (by kernel_rfl)).val _ rfl
     simp only [e8]
     dsimp only at hU
     exact Yld.value (.pointer (some ⟨rb, 0, none⟩)) U (by kernel_rfl) (by go_simp) ⟨grown_refl _ _, hU, Fx.fixed rfl rfl⟩
   refine ⟨⟨_, rfl, fun ν δ U hU h00 h1 h2 hp => ?_⟩, ?_⟩
   · simp only [putsν, Act.put, List.setIfInBounds_toArray, List.set_cons_zero, List.set_cons_succ]
     have e9 := (hp 9 (by kernel_rfl) (by kernel_rfl)).val _ rfl
     simp only [e9]
     dsimp only at hU
     refine Yld.call 92 #[.pointer (some ⟨rb, 0, none⟩)] (by kernel_rfl) (by go_simp) ?_
     have hcall := HN2.out U (by have hc := hU.1; rw [h00, h1 5 (by kernel_rfl) (by kernel_rfl), h2 15 (by kernel_rfl) (by kernel_rfl)] at hc; exact hc)
     refine hcall.mono ?_
     rintro e V ⟨rfl, hc, hg⟩; exact ⟨_, rfl, hg, ⟨by simpa [h2 15 (by kernel_rfl) (by kernel_rfl)] using hc, grown_trans hU.2.1 hg, grown_keep hU.2.2 hg (by omega)⟩, Fx.fixed rfl rfl⟩
   refine ⟨⟨_, rfl, fun ν δ U hU h00 h1 h2 hp => ?_⟩, ?_⟩
   · simp only [putsν, Act.put, List.setIfInBounds_toArray, List.set_cons_zero, List.set_cons_succ]
     have e10 := (hp 10 (by kernel_rfl) (by kernel_rfl)).val _ rfl
     simp only [e10]
     dsimp only at hU
     exact Yld.value (.int .i64 (Ix.i64 n2)) U (by kernel_rfl) (by go_simp) ⟨grown_refl _ _, hU, Fx.fixed rfl rfl⟩
   refine ⟨⟨_, rfl, fun ν δ U hU h00 h1 h2 hp => ?_⟩, ?_⟩
   · simp only [putsν, Act.put, List.setIfInBounds_toArray, List.set_cons_zero, List.set_cons_succ]
     dsimp only at hU
     exact Yld.value (.pointer (some ⟨rb, 0, none⟩)) U (by kernel_rfl) (by go_simp) ⟨grown_refl _ _, hU, Fx.fixed rfl rfl⟩
   refine ⟨⟨_, rfl, fun ν δ U hU h00 h1 h2 hp => ?_⟩, ?_⟩
   · simp only [putsν, Act.put, List.setIfInBounds_toArray, List.set_cons_zero, List.set_cons_succ]
     have e12 := (hp 12 (by kernel_rfl) (by kernel_rfl)).val _ rfl
     simp only [e12]
     dsimp only at hU
     exact Yld.value (.pointer (some ⟨rb, 0, none⟩)) U (by kernel_rfl) (by go_simp) ⟨grown_refl _ _, hU, Fx.fixed rfl rfl⟩
   refine ⟨⟨_, rfl, fun ν δ U hU h00 h1 h2 hp => ?_⟩, ?_⟩
   · simp only [putsν, Act.put, List.setIfInBounds_toArray, List.set_cons_zero, List.set_cons_succ]
     have e13 := (hp 13 (by kernel_rfl) (by kernel_rfl)).val _ rfl
     simp only [e13]
     dsimp only at hU
     exact Yld.value (.pointer (some ⟨rb, 0, none⟩)) U (by kernel_rfl) (by go_simp) ⟨grown_refl _ _, hU, Fx.fixed rfl rfl⟩
   refine ⟨⟨_, rfl, fun ν δ U hU h00 h1 h2 hp => ?_⟩, ?_⟩
   · simp only [putsν, Act.put, List.setIfInBounds_toArray, List.set_cons_zero, List.set_cons_succ]
     have e14 := (hp 14 (by kernel_rfl) (by kernel_rfl)).val _ rfl
     simp only [e14]
     dsimp only at hU
     refine Yld.call 92 #[.pointer (some ⟨rb, 0, none⟩)] (by kernel_rfl) (by go_simp) ?_
     have hcall := HN3.out U (by have hc := hU.1; rw [h00, h1 10 (by kernel_rfl) (by kernel_rfl)] at hc; exact hc)
     refine hcall.mono ?_
     rintro e V ⟨rfl, hc, hg⟩; exact ⟨_, rfl, hg, ⟨hc, grown_trans hU.2.1 hg, grown_keep hU.2.2 hg (by omega)⟩, Fx.fixed rfl rfl⟩
   refine ⟨⟨_, rfl, fun ν δ U hU h00 h1 h2 hp => ?_⟩, ?_⟩
   · simp only [putsν, Act.put, List.setIfInBounds_toArray, List.set_cons_zero, List.set_cons_succ]
     have e15 := (hp 15 (by kernel_rfl) (by kernel_rfl)).val _ rfl
     simp only [e15]
     dsimp only at hU
     exact Yld.value (.int .i64 (Ix.i64 n3)) U (by kernel_rfl) (by go_simp) ⟨grown_refl _ _, hU, Fx.fixed rfl rfl⟩
   trivial
 intro ν δ w5 hS5 hd hf
 have e0 := (hf 0 (by kernel_rfl)).val _ rfl
 have c1 := (hf 1 (by kernel_rfl)).is _ rfl
 have e2 := (hf 2 (by kernel_rfl)).val _ rfl
 have e3 := (hf 3 (by kernel_rfl)).val _ rfl
 have e4 := (hf 4 (by kernel_rfl)).val _ rfl
 have e5 := (hf 5 (by kernel_rfl)).val _ rfl
 have e6 := (hf 6 (by kernel_rfl)).val _ rfl
 have e7 := (hf 7 (by kernel_rfl)).val _ rfl
 have e8 := (hf 8 (by kernel_rfl)).val _ rfl
 have e9 := (hf 9 (by kernel_rfl)).val _ rfl
 have e10 := (hf 10 (by kernel_rfl)).val _ rfl
 have e11 := (hf 11 (by kernel_rfl)).val _ rfl
 have e12 := (hf 12 (by kernel_rfl)).val _ rfl
 have e13 := (hf 13 (by kernel_rfl)).val _ rfl
 have e14 := (hf 14 (by kernel_rfl)).val _ rfl
 have e15 := (hf 15 (by kernel_rfl)).val _ rfl
 have e16 := (hf 16 (by kernel_rfl)).val _ rfl
 simp only [putsν, Act.put, List.setIfInBounds_toArray, List.set_cons_zero, List.set_cons_succ, e0, e2, e3, e4, e5, e6, e7, e8, e9, e10, e11, e12, e13, e14, e15, e16]
 clear hf e0 e2 e3 e4 e5 e6 e7 e8 e9 e10 e11 e12 e13 e14 e15 e16
 rw [hd 15 (by kernel_rfl)] at hS5
 clear hd
 obtain ⟨A, k, hv, -⟩ := lrow_own c1
 rw [hv] at c1
 have hown := c1
 simp only [hv]
 clear hv c1
 obtain ⟨hS6, hg5, ho5⟩ := hS5
 have x0 := cell_of_row _ _ 0 _ _ _ ho5; have x1 := cell_of_row _ _ 1 _ _ _ ho5; have x2 := cell_of_row _ _ 2 _ _ _ ho5; have x3 := cell_of_row _ _ 3 _ _ _ ho5
 have f0 := frozen_of_row _ _ 0 _ _ ho5; have f1 := frozen_of_row _ _ 1 _ _ ho5; have f2 := frozen_of_row _ _ 2 _ _ ho5; have f3 := frozen_of_row _ _ 3 _ _ ho5
 simp only [List.getElem?_toArray, List.getElem?_cons_zero, List.getElem?_cons_succ] at x0 x1 x2 x3
 refine wpAnyT_one (i := 17) (by kernel_rfl) rfl (by kernel_rfl) ?_
 intro K0 hK
 unfold Oper.wp
 go_simp
 refine hK _ _ (fun _ => trivial) ?_
 clear hK K0
 refine wpAnyT_one (i := 18) (by kernel_rfl) rfl (by kernel_rfl) ?_
 intro K0 hK
 unfold Oper.wp
 go_simp
 obtain ⟨hr6, hg6⟩ := store4 ho5 rfl (.slice A l.length k) (.int .i64 (Ix.i64 n1)) (.int .i64 (Ix.i64 n2)) (.int .i64 (Ix.i64 n3))
 obtain ⟨w6, hw6⟩ : ∃ w6, w6 = (((w5.setCell ⟨ob, 0, none⟩ (.slice A l.length k)).setCell ⟨ob, 1, none⟩ (.int .i64 (Ix.i64 n1))).setCell ⟨ob, 2, none⟩ (.int .i64 (Ix.i64 n2))).setCell ⟨ob, 3, none⟩ (.int .i64 (Ix.i64 n3)) := ⟨_, rfl⟩
 rw [← hw6] at hr6 hg6 ⊢
 refine hK _ _ (fun _ => trivial) ?_
 clear hK K0
 refine wpAnyT_done (by kernel_rfl) ?_ _
 refine only_mk ?_
 have hb01 := HB1.out.size
 have hR6 := hS6.grown hg6 (fun r e => by
  obtain rfl : ob = r := Option.some.inj e
  refine ⟨by omega, fun hs => ?_, by have := H1.out.bel.size; have := hS6.lo; omega⟩
  have := hS6.own.lt ob hs
  have h0 := (hS6.own.2)
  rcases h0 with ⟨e0, -⟩ | ⟨g, cap, cur, e0, -, hgc, -⟩
  · rw [e0] at hs; cases hs
  · rw [e0] at hs
    cases hs
    rw [ho5] at hgc
    cases hgc)
 obtain ⟨A2, k2, e2, hL6⟩ := lrow_own (row_kept hown hg6 (fun r e hs => by
  cases e
  have := (hown.lt ob hs).1
  omega))
 cases e2
 have hG6 : U.grownBy w6 (some rb) := by
  rw [HOB.out] at hg6
  exact grown_beyond (grown_trans (grown_of_below HB1.out) hg5) hg6 (fun r e => by cases e; exact Nat.le_refl _)
 have HFIN := Lib.hid (And.intro hL6 (And.intro hR6 hG6))
 have HR6 := Lib.hid hr6
 clear hR6 hL6 hG6 hr6 hg6 hw6 x0 x1 x2 x3 f0 f1 f2 f3 hS6 hg5 ho5 hown HL HN1 HN2 HN3 HO1
 go_wp2_with fail
 refine bodyPost_ret ?_ rfl ⟨A, k, rfl, HFIN.out⟩
 exact results_cell_row rfl _ _ ob 59 _ (0, 0) _ rfl HR6.out Tryz.underlying59 rfl entry_size
end Go.Proofs.YtliobahnekohmaaGreat
