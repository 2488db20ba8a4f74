/-
  The reader's entry of generation 3: the walk.
-/
import Derived.Test.YtliobahnekohmaaGreatIzC
namespace Go.Proofs.YtliobahnekohmaaGreat
open Go.RowKit
theorem Rdr.putLast {w U : World} {rb : Nat} {c : Ix.Cu} {S : List ByteArray} {sv : Value} {la en : Int} (h : Rdr w U rb c S sv la en) (x : Int) : Rdr w (U.setCell ⟨rb, 3, none⟩ (.int .i64 x)) rb c S sv x en ∧ U.grownBy (U.setCell ⟨rb, 3, none⟩ (.int .i64 x)) (some rb) := by
 have hc := heap_setCell_same U rb 3 _ _ (.int .i64 x) h.cur
 have hg := grown_setCell U rb 3 (.int .i64 x)
 exact ⟨⟨hc, row_kept h.own hg (fun r e hs => by cases e; exact h.apart hs rfl), h.bel.grown hg h.bel.size (fun r e => by cases e; exact h.lo), h.lo, h.room⟩, hg⟩
theorem Rdr.putEnd {w U : World} {rb : Nat} {c : Ix.Cu} {S : List ByteArray} {sv : Value} {la en : Int} (h : Rdr w U rb c S sv la en) (x : Int) : Rdr w (U.setCell ⟨rb, 4, none⟩ (.int .i64 x)) rb c S sv la x ∧ U.grownBy (U.setCell ⟨rb, 4, none⟩ (.int .i64 x)) (some rb) := by
 have hc := heap_setCell_same U rb 4 _ _ (.int .i64 x) h.cur
 have hg := grown_setCell U rb 4 (.int .i64 x)
 exact ⟨⟨hc, row_kept h.own hg (fun r e hs => by cases e; exact h.apart hs rfl), h.bel.grown hg h.bel.size (fun r e => by cases e; exact h.lo), h.lo, h.room⟩, hg⟩
theorem Ix.small_lt (c : Ix.Cu) : c.small.1 < 18446744073709551616 := by
 unfold Ix.Cu.small Ix.Cu.go Num.curV
 show (if _ then 0 else (Fr.num c.s).1) < _
 split
 · decide
 · exact Fr.num_lt c.s
structure Rb3 (w U0 U : World) (rb ob eb : Nat) (c : Ix.Cu) (S : List ByteArray) (sv : Value) (la en : Int) (v : Value) (l : List Lab) (C : Array Value) : Prop where
 rd : Rdr w U rb c S sv la en
 own : U.ownsRow (U0.heap.size + 1) 37 2 v l.length (l.flatMap labC)
 gr : U0.grownBy U (some rb)
 lt : rb < U0.heap.size
 ob_ : ob = U0.heap.size
 eb_ : ob < eb
 oc : U.heap[ob]? = some (.cells zeroE 59 (0, 0))
 ec : U.heap[eb]? = some (.cells C 59 (0, 0))
section
variable {w U0 U V : World} {rb ob eb : Nat} {c d : Ix.Cu} {S : List ByteArray} {sv v : Value} {la en : Int} {l : List Lab} {C : Array Value}
theorem Rb3.step (h : Rb3 w U0 U rb ob eb c S sv la en v l C) {la2 en2 : Int} (hr : Rdr w V rb d S sv la2 en2) (hg : U.grownBy V (some rb)) : Rb3 w U0 V rb ob eb d S sv la2 en2 v l C := by
 have h1 := h.lt; have h2 := h.ob_; have h3 := h.eb_
 exact ⟨hr, row_kept h.own hg (fun r e hs => by cases e; have := (h.own.lt rb hs).1; omega), grown_trans h.gr hg, h1, h2, h3, grown_keep h.oc hg (by omega), grown_keep h.ec hg (by omega)⟩
theorem Rb3.drew (h : Rb3 w U0 U rb ob eb c S sv la en v l C) : Rb3 w U0 U.drew rb ob eb c S sv la en v l C :=
 ⟨h.rd.later (Below.refl _ _).drew, h.own, grown_drew h.gr, h.lt, h.ob_, h.eb_, h.oc, h.ec⟩
theorem Rb3.put (h : Rb3 w U0 U rb ob eb c S sv la en v l C) (i : Nat) (x : Value) : Rb3 w U0 (U.setCell ⟨eb, i, none⟩ x) rb ob eb c S sv la en v l (C.setIfInBounds i x) := by
 have h1 := h.lt; have h2 := h.ob_; have h3 := h.eb_
 have hg := grown_setCell U eb i x
 have he := heap_setCell_same U eb i _ _ x h.ec
 have hne : ∀ {base e n : Nat} {y : Value} {k : Nat} {xs : List Value}, U.ownsRow base e k y n xs → e ≠ 59 → y.ownBlock ≠ some eb := fun {base e n y k xs} ho hT hs => by
  rcases ho.2 with ⟨e0, -⟩ | ⟨g, cap, cur, e0, -, hgc, -⟩
  · rw [e0] at hs; cases hs
  · rw [e0] at hs
    cases hs
    rw [h.ec] at hgc
    cases hgc
    exact hT rfl
 refine ⟨h.rd.grown hg (fun r e => ?_), row_kept h.own hg (fun r e => by cases e; exact hne h.own (by decide)), grown_beyond h.gr hg (fun r e => by cases e; omega), h1, h2, h3, grown_keep h.oc hg (by omega), he⟩
 obtain rfl : eb = r := Option.some.inj e
 exact ⟨by omega, hne h.rd.own (by decide), by have := h.rd.lo; omega⟩
end
set_option maxRecDepth 100000 in
set_option maxHeartbeats 8000000 in
theorem rthird {w U : World} {rb : Nat} {c : Ix.Cu} {S : List ByteArray} {sv : Value} {la en : Int} (h : Rdr w U rb c S sv la en) (hS : S.length ≤ 1000) :
 Calls Tryz.prog 95 #[.pointer (some ⟨rb, 0, none⟩)] U (EntOut w U rb (Ix.rd3 S la en c).1 (Ix.rd3 S la en c).2.2.2 S sv (Ix.rd3 S la en c).2.1 (Ix.rd3 S la en c).2.2.1) := by
 have hr : Ix.rd3 S la en c = (⟨(Ix.labels S c).1, IntKind.i64.wrap (la + Num.zag (Ix.labels S c).2.small.1), IntKind.i64.wrap (en + Num.zag (Ix.labels S c).2.small.2.small.1), Ix.i64 (Ix.labels S c).2.small.2.small.2.small.1⟩, IntKind.i64.wrap (la + Num.zag (Ix.labels S c).2.small.1), IntKind.i64.wrap (IntKind.i64.wrap (en + Num.zag (Ix.labels S c).2.small.2.small.1) + Ix.i64 (Ix.labels S c).2.small.2.small.2.small.1), (Ix.labels S c).2.small.2.small.2.small.2) := rfl
 have hlt := h.lt
 obtain ⟨w1, hw1⟩ : ∃ w1, w1 = U.alloc (.cells zeroE 59) := ⟨_, rfl⟩
 have hb1 : Below U.heap.size U w1 := by rw [hw1]; exact (Below.refl _ _).alloc (Nat.le_refl _) _
 have ho1 : w1.heap[U.heap.size]? = some (.cells zeroE 59 (0, 0)) := by rw [hw1]; exact heap_alloc_new U _
 have HO1 := Lib.hid ho1; have HB1 := Lib.hid hb1
 have HZ1 : Hid (w1.heap.size = U.heap.size + 1) := Lib.hid (by rw [hw1, World.size_alloc])
 have HL := Lib.hid (rlabels (h.later hb1) hS)
 generalize Ix.labels S c = x0 at *
 obtain ⟨l, c1⟩ := x0
 simp only at HL hr
 have HN1 := Lib.hid (fun U1 (hU : Rdr w U1 rb c1 S sv la en) => rsmall hU)
 have HM1 := Lib.hid (Ix.small_lt c1)
 generalize c1.small = x1 at *
 obtain ⟨n1, c2⟩ := x1
 simp only at HN1 HM1 hr
 have hg1 : ∃ la1, IntKind.i64.wrap (la + Num.zag n1) = la1 := ⟨_, rfl⟩
 obtain ⟨la1, g1⟩ := hg1
 rw [g1] at hr
 have HN2 := Lib.hid (fun U1 (hU : Rdr w U1 rb c2 S sv la en) => rsmall hU)
 have HM2 := Lib.hid (Ix.small_lt c2)
 generalize c2.small = x2 at *
 obtain ⟨n2, c3⟩ := x2
 simp only at HN2 HM2 hr
 have hg2 : ∃ of, IntKind.i64.wrap (en + Num.zag n2) = of := ⟨_, rfl⟩
 obtain ⟨of, g2⟩ := hg2
 rw [g2] at hr
 have HN3 := Lib.hid (fun U1 (hU : Rdr w U1 rb c3 S sv la en) => rsmall hU)
 generalize c3.small = x3 at *
 obtain ⟨n3, c4⟩ := x3
 simp only at HN3 hr
 have g3 : IntKind.i64.wrap (n3 : Int) = Ix.i64 n3 := rfl
 generalize Ix.i64 n3 = le at *
 have hg4 : ∃ en1, IntKind.i64.wrap (of + le) = en1 := ⟨_, rfl⟩
 obtain ⟨en1, g4⟩ := hg4
 rw [g4] at hr
 rw [hr]
 have HZA1 := Lib.hid (fun W => Zag_any n1 HM1 W); have HZA2 := Lib.hid (fun W => Zag_any n2 HM2 W)
 generalize Num.zag n1 = z1 at *
 generalize Num.zag n2 = z2 at *
 clear hr h hb1 ho1
 unfold zeroE at hw1
 go_enter Tryz.func95, Tryz.ntmps95
 go_upto_region 1 with fail
 rw [← hw1]
 clear hw1
 obtain ⟨ob, hob⟩ : ∃ ob, ob = U.heap.size := ⟨_, rfl⟩
 rw [← hob] at HO1 ⊢
 have HOB := Lib.hid hob
 clear hob
 go_wp2_with fail
 refine HL.out.mono ?_; rintro e w2 ⟨v, rfl, hlb⟩
 obtain ⟨A, k, hv, -⟩ := lrow_own hlb.own
 have hown := hlb.own
 rw [hv] at hown
 obtain ⟨w3, hw3⟩ : ∃ w3, w3 = w2.alloc (.cells #[.slice A l.length k, .int .i64 0, .int .i64 0, .int .i64 0] 59) := ⟨_, rfl⟩
 have hb3 : Below w2.heap.size w2 w3 := by rw [hw3]; exact (Below.refl _ _).alloc (Nat.le_refl _) _
 have he3 : w3.heap[w2.heap.size]? = some (.cells #[.slice A l.length k, .int .i64 0, .int .i64 0, .int .i64 0] 59 (0, 0)) := by rw [hw3]; exact heap_alloc_new w2 _
 have hz1 := HZ1.out
 have hobe := HOB.out
 have H3 : Hid (Rb3 w U w3 rb ob w2.heap.size c1 S sv la en (.slice A l.length k) l #[.slice A l.length k, .int .i64 0, .int .i64 0, .int .i64 0]) := Lib.hid
  ⟨hlb.rd.later hb3, by rw [← hz1]; exact row_far hown hb3, grown_trans (grown_trans (grown_of_below HB1.out) hlb.gr) (grown_of_below hb3), hlt, hobe, by have := hlb.gr.size; omega,
   heap_keep (grown_keep HO1.out hlb.gr (by omega)) hb3, he3⟩
 subst hv
 clear hlb hown hb3 he3 HL hz1 hobe
 go_upto_region 2 with fail
 rw [← hw3]
 clear hw3
 obtain ⟨eb, heb⟩ : ∃ eb, eb = w2.heap.size := ⟨_, rfl⟩
 rw [← heb] at H3 ⊢
 clear heb
 refine plain_robD [(0, some 8), (1, some 9), (2, some 10), (3, some 11), (4, some 12), (5, some 13), (6, some 14), (7, some 15), (8, some 16), (9, some 17), (10, some 18)] [11] (fun _ _ => True) (fun δ V => Rb3 w U V rb ob eb (if δ 7 = true then c2 else c1) S sv la en (.slice A l.length k) l #[.slice A l.length k, .int .i64 0, .int .i64 0, .int .i64 0]) [(0, .pointer (some ⟨rb, 0, none⟩)), (1, .pointer (some ⟨rb, 0, none⟩)), (2, .pointer (some ⟨rb, 3, none⟩)), (3, .int .i64 la), (4, .pointer (some ⟨rb, 0, none⟩)), (5, .pointer (some ⟨rb, 0, none⟩)), (6, .pointer (some ⟨rb, 0, none⟩)), (7, .int .u64 (n1 : Int)), (8, .int .i64 z1), (9, .int .i64 la1), (10, .pointer (some ⟨eb, 1, none⟩))] [] 1 (by kernel_rfl) (by kernel_rfl) (by kernel_rfl) (H3.out.drew) ?_ ?_ ?_
 · intro p hp; cases hp
 · refine ⟨⟨_, rfl, fun ν δ U hU h00 h1 h2 hp => ?_⟩, ?_⟩
   · simp only [putsν, Act.put, List.setIfInBounds_toArray, List.set_cons_zero, List.set_cons_succ]
     dsimp only at hU
     exact Yld.value (.pointer (some ⟨rb, 0, none⟩)) U (by kernel_rfl) (by go_simp) ⟨trivial, hU, Fx.fixed rfl rfl⟩
   refine ⟨⟨_, rfl, fun ν δ U hU h00 h1 h2 hp => ?_⟩, ?_⟩
   · simp only [putsν, Act.put, List.setIfInBounds_toArray, List.set_cons_zero, List.set_cons_succ]
     have e0 := (hp 0 (by kernel_rfl) (by kernel_rfl)).val _ rfl
     simp only [e0]
     dsimp only at hU
     exact Yld.value (.pointer (some ⟨rb, 0, none⟩)) U (by kernel_rfl) (by go_simp) ⟨trivial, hU, Fx.fixed rfl rfl⟩
   refine ⟨⟨_, rfl, fun ν δ U hU h00 h1 h2 hp => ?_⟩, ?_⟩
   · simp only [putsν, Act.put, List.setIfInBounds_toArray, List.set_cons_zero, List.set_cons_succ]
     have e1 := (hp 1 (by kernel_rfl) (by kernel_rfl)).val _ rfl
     simp only [e1]
     dsimp only at hU
     exact Yld.value (.pointer (some ⟨rb, 3, none⟩)) U (by kernel_rfl) (by go_simp) ⟨trivial, hU, Fx.fixed rfl rfl⟩
   refine ⟨⟨_, rfl, fun ν δ U hU h00 h1 h2 hp => ?_⟩, ?_⟩
   · simp only [putsν, Act.put, List.setIfInBounds_toArray, List.set_cons_zero, List.set_cons_succ]
     have e2 := (hp 2 (by kernel_rfl) (by kernel_rfl)).val _ rfl
     simp only [e2]
     dsimp only at hU
     exact Yld.value (.int .i64 la) U (by kernel_rfl) (by have h0 : U.cell? ⟨rb, 3, none⟩ = some (.int .i64 la) := hU.rd.cells.2.2.2.1; go_simp) ⟨trivial, hU, Fx.fixed rfl rfl⟩
   refine ⟨⟨_, rfl, fun ν δ U hU h00 h1 h2 hp => ?_⟩, ?_⟩
   · simp only [putsν, Act.put, List.setIfInBounds_toArray, List.set_cons_zero, List.set_cons_succ]
     dsimp only at hU
     exact Yld.value (.pointer (some ⟨rb, 0, none⟩)) U (by kernel_rfl) (by go_simp) ⟨trivial, hU, Fx.fixed rfl rfl⟩
   refine ⟨⟨_, rfl, fun ν δ U hU h00 h1 h2 hp => ?_⟩, ?_⟩
   · simp only [putsν, Act.put, List.setIfInBounds_toArray, List.set_cons_zero, List.set_cons_succ]
     have e4 := (hp 4 (by kernel_rfl) (by kernel_rfl)).val _ rfl
     simp only [e4]
     dsimp only at hU
     exact Yld.value (.pointer (some ⟨rb, 0, none⟩)) U (by kernel_rfl) (by go_simp) ⟨trivial, hU, Fx.fixed rfl rfl⟩
   refine ⟨⟨_, rfl, fun ν δ U hU h00 h1 h2 hp => ?_⟩, ?_⟩
   · simp only [putsν, Act.put, List.setIfInBounds_toArray, List.set_cons_zero, List.set_cons_succ]
     have e5 := (hp 5 (by kernel_rfl) (by kernel_rfl)).val _ rfl
     simp only [e5]
     dsimp only at hU
     exact Yld.value (.pointer (some ⟨rb, 0, none⟩)) U (by kernel_rfl) (by go_simp) ⟨trivial, hU, Fx.fixed rfl rfl⟩
   refine ⟨⟨_, rfl, fun ν δ U hU h00 h1 h2 hp => ?_⟩, ?_⟩
   · simp only [putsν, Act.put, List.setIfInBounds_toArray, List.set_cons_zero, List.set_cons_succ]
     have e6 := (hp 6 (by kernel_rfl) (by kernel_rfl)).val _ rfl
     simp only [e6]
     dsimp only at hU
     refine Yld.call 92 #[.pointer (some ⟨rb, 0, none⟩)] (by kernel_rfl) (by go_simp) ?_
     have hcall := HN1.out U (by have hc := hU.rd; rw [h00] at hc; exact hc)
     refine hcall.mono ?_
     rintro e V ⟨rfl, hc, hg⟩; exact ⟨_, rfl, trivial, by simpa using hU.step hc hg, Fx.fixed rfl rfl⟩
   refine ⟨⟨_, rfl, fun ν δ U hU h00 h1 h2 hp => ?_⟩, ?_⟩
   · simp only [putsν, Act.put, List.setIfInBounds_toArray, List.set_cons_zero, List.set_cons_succ]
     have e7 := (hp 7 (by kernel_rfl) (by kernel_rfl)).val _ rfl
     simp only [e7]
     dsimp only at hU
     refine Yld.call 130 #[.int .u64 (n1 : Int)] (by kernel_rfl) (by go_simp) ?_
     have hcall := HZA1.out U
     refine hcall.mono ?_
     rintro e V ⟨rfl, rfl⟩; exact ⟨_, rfl, trivial, hU, Fx.fixed rfl rfl⟩
   refine ⟨⟨_, rfl, fun ν δ U hU h00 h1 h2 hp => ?_⟩, ?_⟩
   · simp only [putsν, Act.put, List.setIfInBounds_toArray, List.set_cons_zero, List.set_cons_succ]
     have e3 := (hp 3 (by kernel_rfl) (by kernel_rfl)).val _ rfl
     have e8 := (hp 8 (by kernel_rfl) (by kernel_rfl)).val _ rfl
     simp only [e3, e8]
     dsimp only at hU
     exact Yld.value (.int .i64 la1) U (by kernel_rfl) (by go_simp) ⟨trivial, hU, Fx.fixed rfl rfl⟩
   refine ⟨⟨_, rfl, fun ν δ U hU h00 h1 h2 hp => ?_⟩, ?_⟩
   · simp only [putsν, Act.put, List.setIfInBounds_toArray, List.set_cons_zero, List.set_cons_succ]
     dsimp only at hU
     exact Yld.value (.pointer (some ⟨eb, 1, none⟩)) U (by kernel_rfl) (by go_simp) ⟨trivial, hU, Fx.fixed rfl rfl⟩
   trivial
 intro ν δ w4 hS4 hd hf
 have e0 := (hf 0 (by kernel_rfl)).val _ rfl
 have e1 := (hf 1 (by kernel_rfl)).val _ rfl
 have e2 := (hf 2 (by kernel_rfl)).val _ rfl
 have e3 := (hf 3 (by kernel_rfl)).val _ rfl
 have e4 := (hf 4 (by kernel_rfl)).val _ rfl
 have e5 := (hf 5 (by kernel_rfl)).val _ rfl
 have e6 := (hf 6 (by kernel_rfl)).val _ rfl
 have e7 := (hf 7 (by kernel_rfl)).val _ rfl
 have e8 := (hf 8 (by kernel_rfl)).val _ rfl
 have e9 := (hf 9 (by kernel_rfl)).val _ rfl
 have e10 := (hf 10 (by kernel_rfl)).val _ rfl
 simp only [putsν, Act.put, List.setIfInBounds_toArray, List.set_cons_zero, List.set_cons_succ, e0, e1, e2, e3, e4, e5, e6, e7, e8, e9, e10]
 clear hf e0 e1 e2 e3 e4 e5 e6 e7 e8 e9 e10
 rw [hd 7 (by kernel_rfl)] at hS4
 clear hd H3
 simp only [if_true] at hS4
 have f1 := frozen_of_row _ _ 1 _ _ hS4.ec; have x1 := cell_of_row _ _ 1 _ _ _ hS4.ec
 simp only [List.getElem?_toArray, List.getElem?_cons_zero, List.getElem?_cons_succ] at x1
 refine wpAnyT_one (i := 11) (by kernel_rfl) rfl (by kernel_rfl) ?_
 intro K0 hK
 unfold Oper.wp
 go_simp
 have hS5 := hS4.put 1 (.int .i64 la1)
 have hE5 : (#[.slice A l.length k, .int .i64 0, .int .i64 0, .int .i64 0] : Array Value).setIfInBounds 1 (.int .i64 la1) = #[.slice A l.length k, .int .i64 la1, .int .i64 0, .int .i64 0] := rfl
 rw [hE5] at hS5
 obtain ⟨w5, hw5⟩ : ∃ w5, w5 = w4.setCell ⟨eb, 1, none⟩ (.int .i64 la1) := ⟨_, rfl⟩
 rw [← hw5] at hS5 ⊢
 refine hK _ _ (fun _ => trivial) ?_
 clear hK K0
 clear hw5 hS4 f1 x1 hE5
 refine wpAnyT_done (by kernel_rfl) ?_ _
 refine only_mk ?_
 have H5 := Lib.hid hS5
 clear hS5
 go_upto_region 3 with fail
 refine plain_robD [(0, some 19), (1, some 20), (2, some 21), (3, some 22), (4, some 23), (5, some 24), (6, some 25), (7, some 26), (8, some 27), (9, some 28), (10, some 4)] [] (fun _ _ => True) (fun δ V => Rb3 w U V rb ob eb (if δ 7 = true then c3 else c2) S sv la en (.slice A l.length k) l #[.slice A l.length k, .int .i64 la1, .int .i64 0, .int .i64 0]) [(0, .pointer (some ⟨rb, 0, none⟩)), (1, .pointer (some ⟨rb, 0, none⟩)), (2, .pointer (some ⟨rb, 4, none⟩)), (3, .int .i64 en), (4, .pointer (some ⟨rb, 0, none⟩)), (5, .pointer (some ⟨rb, 0, none⟩)), (6, .pointer (some ⟨rb, 0, none⟩)), (7, .int .u64 (n2 : Int)), (8, .int .i64 z2), (9, .int .i64 of), (10, .int .i64 of)] [] 0 (by kernel_rfl) (by kernel_rfl) (by kernel_rfl) (H5.out.drew) ?_ ?_ ?_
 · intro p hp; cases hp
 · refine ⟨⟨_, rfl, fun ν δ U hU h00 h1 h2 hp => ?_⟩, ?_⟩
   · simp only [putsν, Act.put, List.setIfInBounds_toArray, List.set_cons_zero, List.set_cons_succ]
     dsimp only at hU
     exact Yld.value (.pointer (some ⟨rb, 0, none⟩)) U (by kernel_rfl) (by go_simp) ⟨trivial, hU, Fx.fixed rfl rfl⟩
   refine ⟨⟨_, rfl, fun ν δ U hU h00 h1 h2 hp => ?_⟩, ?_⟩
   · simp only [putsν, Act.put, List.setIfInBounds_toArray, List.set_cons_zero, List.set_cons_succ]
     have e0 := (hp 0 (by kernel_rfl) (by kernel_rfl)).val _ rfl
     simp only [e0]
     dsimp only at hU
     exact Yld.value (.pointer (some ⟨rb, 0, none⟩)) U (by kernel_rfl) (by go_simp) ⟨trivial, hU, Fx.fixed rfl rfl⟩
   refine ⟨⟨_, rfl, fun ν δ U hU h00 h1 h2 hp => ?_⟩, ?_⟩
   · simp only [putsν, Act.put, List.setIfInBounds_toArray, List.set_cons_zero, List.set_cons_succ]
     have e1 := (hp 1 (by kernel_rfl) (by kernel_rfl)).val _ rfl
     simp only [e1]
     dsimp only at hU
     exact Yld.value (.pointer (some ⟨rb, 4, none⟩)) U (by kernel_rfl) (by go_simp) ⟨trivial, hU, Fx.fixed rfl rfl⟩
   refine ⟨⟨_, rfl, fun ν δ U hU h00 h1 h2 hp => ?_⟩, ?_⟩
   · simp only [putsν, Act.put, List.setIfInBounds_toArray, List.set_cons_zero, List.set_cons_succ]
     have e2 := (hp 2 (by kernel_rfl) (by kernel_rfl)).val _ rfl
     simp only [e2]
     dsimp only at hU
     exact Yld.value (.int .i64 en) U (by kernel_rfl) (by have h0 : U.cell? ⟨rb, 4, none⟩ = some (.int .i64 en) := hU.rd.cells.2.2.2.2; go_simp) ⟨trivial, hU, Fx.fixed rfl rfl⟩
   refine ⟨⟨_, rfl, fun ν δ U hU h00 h1 h2 hp => ?_⟩, ?_⟩
   · simp only [putsν, Act.put, List.setIfInBounds_toArray, List.set_cons_zero, List.set_cons_succ]
     dsimp only at hU
     exact Yld.value (.pointer (some ⟨rb, 0, none⟩)) U (by kernel_rfl) (by go_simp) ⟨trivial, hU, Fx.fixed rfl rfl⟩
   refine ⟨⟨_, rfl, fun ν δ U hU h00 h1 h2 hp => ?_⟩, ?_⟩
   · simp only [putsν, Act.put, List.setIfInBounds_toArray, List.set_cons_zero, List.set_cons_succ]
     have e4 := (hp 4 (by kernel_rfl) (by kernel_rfl)).val _ rfl
     simp only [e4]
     dsimp only at hU
     exact Yld.value (.pointer (some ⟨rb, 0, none⟩)) U (by kernel_rfl) (by go_simp) ⟨trivial, hU, Fx.fixed rfl rfl⟩
   refine ⟨⟨_, rfl, fun ν δ U hU h00 h1 h2 hp => ?_⟩, ?_⟩
   · simp only [putsν, Act.put, List.setIfInBounds_toArray, List.set_cons_zero, List.set_cons_succ]
     have e5 := (hp 5 (by kernel_rfl) (by kernel_rfl)).val _ rfl
     simp only [e5]
     dsimp only at hU
     exact Yld.value (.pointer (some ⟨rb, 0, none⟩)) U (by kernel_rfl) (by go_simp) ⟨trivial, hU, Fx.fixed rfl rfl⟩
   refine ⟨⟨_, rfl, fun ν δ U hU h00 h1 h2 hp => ?_⟩, ?_⟩
   · simp only [putsν, Act.put, List.setIfInBounds_toArray, List.set_cons_zero, List.set_cons_succ]
     have e6 := (hp 6 (by kernel_rfl) (by kernel_rfl)).val _ rfl
     simp only [e6]
     dsimp only at hU
     refine Yld.call 92 #[.pointer (some ⟨rb, 0, none⟩)] (by kernel_rfl) (by go_simp) ?_
     have hcall := HN2.out U (by have hc := hU.rd; rw [h00] at hc; exact hc)
     refine hcall.mono ?_
     rintro e V ⟨rfl, hc, hg⟩; exact ⟨_, rfl, trivial, by simpa using hU.step hc hg, Fx.fixed rfl rfl⟩
   refine ⟨⟨_, rfl, fun ν δ U hU h00 h1 h2 hp => ?_⟩, ?_⟩
   · simp only [putsν, Act.put, List.setIfInBounds_toArray, List.set_cons_zero, List.set_cons_succ]
     have e7 := (hp 7 (by kernel_rfl) (by kernel_rfl)).val _ rfl
     simp only [e7]
     dsimp only at hU
     refine Yld.call 130 #[.int .u64 (n2 : Int)] (by kernel_rfl) (by go_simp) ?_
     have hcall := HZA2.out U
     refine hcall.mono ?_
     rintro e V ⟨rfl, rfl⟩; exact ⟨_, rfl, trivial, hU, Fx.fixed rfl rfl⟩
   refine ⟨⟨_, rfl, fun ν δ U hU h00 h1 h2 hp => ?_⟩, ?_⟩
   · simp only [putsν, Act.put, List.setIfInBounds_toArray, List.set_cons_zero, List.set_cons_succ]
     have e3 := (hp 3 (by kernel_rfl) (by kernel_rfl)).val _ rfl
     have e8 := (hp 8 (by kernel_rfl) (by kernel_rfl)).val _ rfl
     simp only [e3, e8]
     dsimp only at hU
     exact Yld.value (.int .i64 of) U (by kernel_rfl) (by go_simp) ⟨trivial, hU, Fx.fixed rfl rfl⟩
   refine ⟨⟨_, rfl, fun ν δ U hU h00 h1 h2 hp => ?_⟩, ?_⟩
   · simp only [putsν, Act.put, List.setIfInBounds_toArray, List.set_cons_zero, List.set_cons_succ]
     have e9 := (hp 9 (by kernel_rfl) (by kernel_rfl)).val _ rfl
     simp only [e9]
     dsimp only at hU
     exact Yld.value (.int .i64 of) U (by kernel_rfl) (by go_simp) ⟨trivial, hU, Fx.fixed rfl rfl⟩
   trivial
 intro ν δ w6 hS6 hd hf
 have e0 := (hf 0 (by kernel_rfl)).val _ rfl
 have e1 := (hf 1 (by kernel_rfl)).val _ rfl
 have e2 := (hf 2 (by kernel_rfl)).val _ rfl
 have e3 := (hf 3 (by kernel_rfl)).val _ rfl
 have e4 := (hf 4 (by kernel_rfl)).val _ rfl
 have e5 := (hf 5 (by kernel_rfl)).val _ rfl
 have e6 := (hf 6 (by kernel_rfl)).val _ rfl
 have e7 := (hf 7 (by kernel_rfl)).val _ rfl
 have e8 := (hf 8 (by kernel_rfl)).val _ rfl
 have e9 := (hf 9 (by kernel_rfl)).val _ rfl
 have e10 := (hf 10 (by kernel_rfl)).val _ rfl
 simp only [putsν, Act.put, List.setIfInBounds_toArray, List.set_cons_zero, List.set_cons_succ, e0, e1, e2, e3, e4, e5, e6, e7, e8, e9, e10]
 clear hf e0 e1 e2 e3 e4 e5 e6 e7 e8 e9 e10
 rw [hd 7 (by kernel_rfl)] at hS6
 clear hd H5
 simp only [if_true] at hS6
 refine wpAnyT_done (by kernel_rfl) ?_ _
 refine only_mk ?_
 have HC3 := Lib.hid (HN3.out w6 hS6.rd)
 have H6 := Lib.hid hS6
 clear hS6 HN1 HN2 HN3 HZA1 HZA2 HM1 HM2
 go_wp2_with fail
 refine HC3.out.mono ?_; rintro e w7 ⟨rfl, h1, h2⟩
 have hS7 := H6.out.step h1 h2
 have x2 := cell_of_row _ _ 2 _ _ _ hS7.ec; have x3 := cell_of_row _ _ 3 _ _ _ hS7.ec
 have f2 := frozen_of_row _ _ 2 _ _ hS7.ec; have f3 := frozen_of_row _ _ 3 _ _ hS7.ec
 simp only [List.getElem?_toArray, List.getElem?_cons_zero, List.getElem?_cons_succ] at x2 x3
 have H8 := Lib.hid ((hS7.put 2 (.int .i64 of)).put 3 (.int .i64 le))
 clear h1 h2 HC3 H6 hS7
 go_upto_region 5 with fail
 obtain ⟨w8, hw8⟩ : ∃ w8, w8 = (w7.setCell ⟨eb, 2, none⟩ (.int .i64 of)).setCell ⟨eb, 3, none⟩ (.int .i64 le) := ⟨_, rfl⟩
 rw [← hw8] at H8 ⊢
 have hS8 : Rb3 w U w8 rb ob eb c4 S sv la en (.slice A l.length k) l #[.slice A l.length k, .int .i64 la1, .int .i64 of, .int .i64 le] := H8.out
 have H9 := Lib.hid hS8
 clear hw8 hS8 x2 x3 f2 f3 H8
 refine plain_robD [(0, some 37), (1, some 38), (2, some 39), (3, some 40), (4, some 41), (5, some 42), (6, some 43), (7, some 44), (8, some 45), (9, some 46), (10, none), (11, some 47), (12, some 48), (13, none)] [] (fun _ _ => True) (fun δ V => Rb3 w U V rb ob eb c4 S sv (if δ 10 = true then la1 else la) (if δ 13 = true then en1 else en) (.slice A l.length k) l #[.slice A l.length k, .int .i64 la1, .int .i64 of, .int .i64 le]) [(0, .pointer (some ⟨rb, 0, none⟩)), (1, .pointer (some ⟨rb, 0, none⟩)), (2, .pointer (some ⟨eb, 1, none⟩)), (3, .int .i64 la1), (4, .int .i64 of), (5, .pointer (some ⟨eb, 3, none⟩)), (6, .int .i64 le), (7, .int .i64 en1), (8, .pointer (some ⟨rb, 0, none⟩)), (9, .pointer (some ⟨rb, 3, none⟩)), (10, undef), (11, .pointer (some ⟨rb, 0, none⟩)), (12, .pointer (some ⟨rb, 4, none⟩)), (13, undef)] [] 0 (by kernel_rfl) (by kernel_rfl) (by kernel_rfl) (H9.out.drew) ?_ ?_ ?_
 · intro p hp; cases hp
 · refine ⟨⟨_, rfl, fun ν δ U hU h00 h1 h2 hp => ?_⟩, ?_⟩
   · simp only [putsν, Act.put, List.setIfInBounds_toArray, List.set_cons_zero, List.set_cons_succ]
     dsimp only at hU
     exact Yld.value (.pointer (some ⟨rb, 0, none⟩)) U (by kernel_rfl) (by go_simp) ⟨trivial, hU, Fx.fixed rfl rfl⟩
   refine ⟨⟨_, rfl, fun ν δ U hU h00 h1 h2 hp => ?_⟩, ?_⟩
   · simp only [putsν, Act.put, List.setIfInBounds_toArray, List.set_cons_zero, List.set_cons_succ]
     dsimp only at hU
     exact Yld.value (.pointer (some ⟨rb, 0, none⟩)) U (by kernel_rfl) (by go_simp) ⟨trivial, hU, Fx.fixed rfl rfl⟩
   refine ⟨⟨_, rfl, fun ν δ U hU h00 h1 h2 hp => ?_⟩, ?_⟩
   · simp only [putsν, Act.put, List.setIfInBounds_toArray, List.set_cons_zero, List.set_cons_succ]
     dsimp only at hU
     exact Yld.value (.pointer (some ⟨eb, 1, none⟩)) U (by kernel_rfl) (by go_simp) ⟨trivial, hU, Fx.fixed rfl rfl⟩
   refine ⟨⟨_, rfl, fun ν δ U hU h00 h1 h2 hp => ?_⟩, ?_⟩
   · simp only [putsν, Act.put, List.setIfInBounds_toArray, List.set_cons_zero, List.set_cons_succ]
     have e2 := (hp 2 (by kernel_rfl) (by kernel_rfl)).val _ rfl
     simp only [e2]
     dsimp only at hU
     exact Yld.value (.int .i64 la1) U (by kernel_rfl) (by have h0 : U.cell? ⟨eb, 1, none⟩ = some (.int .i64 la1) := (by have h9 := cell_of_row _ _ 1 _ _ _ hU.ec; simpa using h9); go_simp) ⟨trivial, hU, Fx.fixed rfl rfl⟩
   refine ⟨⟨_, rfl, fun ν δ U hU h00 h1 h2 hp => ?_⟩, ?_⟩
   · simp only [putsν, Act.put, List.setIfInBounds_toArray, List.set_cons_zero, List.set_cons_succ]
     dsimp only at hU
     exact Yld.value (.int .i64 of) U (by kernel_rfl) (by go_simp) ⟨trivial, hU, Fx.fixed rfl rfl⟩
   refine ⟨⟨_, rfl, fun ν δ U hU h00 h1 h2 hp => ?_⟩, ?_⟩
   · simp only [putsν, Act.put, List.setIfInBounds_toArray, List.set_cons_zero, List.set_cons_succ]
     dsimp only at hU
     exact Yld.value (.pointer (some ⟨eb, 3, none⟩)) U (by kernel_rfl) (by go_simp) ⟨trivial, hU, Fx.fixed rfl rfl⟩
   refine ⟨⟨_, rfl, fun ν δ U hU h00 h1 h2 hp => ?_⟩, ?_⟩
   · simp only [putsν, Act.put, List.setIfInBounds_toArray, List.set_cons_zero, List.set_cons_succ]
     have e5 := (hp 5 (by kernel_rfl) (by kernel_rfl)).val _ rfl
     simp only [e5]
     dsimp only at hU
     exact Yld.value (.int .i64 le) U (by kernel_rfl) (by have h0 : U.cell? ⟨eb, 3, none⟩ = some (.int .i64 le) := (by have h9 := cell_of_row _ _ 3 _ _ _ hU.ec; simpa using h9); go_simp) ⟨trivial, hU, Fx.fixed rfl rfl⟩
   refine ⟨⟨_, rfl, fun ν δ U hU h00 h1 h2 hp => ?_⟩, ?_⟩
   · simp only [putsν, Act.put, List.setIfInBounds_toArray, List.set_cons_zero, List.set_cons_succ]
     have e4 := (hp 4 (by kernel_rfl) (by kernel_rfl)).val _ rfl
     have e6 := (hp 6 (by kernel_rfl) (by kernel_rfl)).val _ rfl
     simp only [e4, e6]
     dsimp only at hU
     exact Yld.value (.int .i64 en1) U (by kernel_rfl) (by go_simp) ⟨trivial, hU, Fx.fixed rfl rfl⟩
   refine ⟨⟨_, rfl, fun ν δ U hU h00 h1 h2 hp => ?_⟩, ?_⟩
   · simp only [putsν, Act.put, List.setIfInBounds_toArray, List.set_cons_zero, List.set_cons_succ]
     have e0 := (hp 0 (by kernel_rfl) (by kernel_rfl)).val _ rfl
     simp only [e0]
     dsimp only at hU
     exact Yld.value (.pointer (some ⟨rb, 0, none⟩)) U (by kernel_rfl) (by go_simp) ⟨trivial, hU, Fx.fixed rfl rfl⟩
   refine ⟨⟨_, rfl, fun ν δ U hU h00 h1 h2 hp => ?_⟩, ?_⟩
   · simp only [putsν, Act.put, List.setIfInBounds_toArray, List.set_cons_zero, List.set_cons_succ]
     have e8 := (hp 8 (by kernel_rfl) (by kernel_rfl)).val _ rfl
     simp only [e8]
     dsimp only at hU
     exact Yld.value (.pointer (some ⟨rb, 3, none⟩)) U (by kernel_rfl) (by go_simp) ⟨trivial, hU, Fx.fixed rfl rfl⟩
   refine ⟨⟨_, rfl, fun ν δ U hU h00 h1 h2 hp => ?_⟩, ?_⟩
   · simp only [putsν, Act.put, List.setIfInBounds_toArray, List.set_cons_zero, List.set_cons_succ]
     have e3 := (hp 3 (by kernel_rfl) (by kernel_rfl)).val _ rfl
     have e9 := (hp 9 (by kernel_rfl) (by kernel_rfl)).val _ rfl
     simp only [e3, e9]
     dsimp only at hU
     have hp := hU.rd.putLast la1
     have x9 := hU.rd.cells.2.2.2.1
     have f9 := hU.rd.free 3
     exact Yld.store (U.setCell ⟨rb, 3, none⟩ (.int .i64 la1)) (by kernel_rfl) (by go_simp) ⟨trivial, by simpa using hU.step hp.1 hp.2, Fx.fixed rfl rfl⟩
   refine ⟨⟨_, rfl, fun ν δ U hU h00 h1 h2 hp => ?_⟩, ?_⟩
   · simp only [putsν, Act.put, List.setIfInBounds_toArray, List.set_cons_zero, List.set_cons_succ]
     have e1 := (hp 1 (by kernel_rfl) (by kernel_rfl)).val _ rfl
     simp only [e1]
     dsimp only at hU
     exact Yld.value (.pointer (some ⟨rb, 0, none⟩)) U (by kernel_rfl) (by go_simp) ⟨trivial, hU, Fx.fixed rfl rfl⟩
   refine ⟨⟨_, rfl, fun ν δ U hU h00 h1 h2 hp => ?_⟩, ?_⟩
   · simp only [putsν, Act.put, List.setIfInBounds_toArray, List.set_cons_zero, List.set_cons_succ]
     have e11 := (hp 11 (by kernel_rfl) (by kernel_rfl)).val _ rfl
     simp only [e11]
     dsimp only at hU
     exact Yld.value (.pointer (some ⟨rb, 4, none⟩)) U (by kernel_rfl) (by go_simp) ⟨trivial, hU, Fx.fixed rfl rfl⟩
   refine ⟨⟨_, rfl, fun ν δ U hU h00 h1 h2 hp => ?_⟩, ?_⟩
   · simp only [putsν, Act.put, List.setIfInBounds_toArray, List.set_cons_zero, List.set_cons_succ]
     have e7 := (hp 7 (by kernel_rfl) (by kernel_rfl)).val _ rfl
     have e12 := (hp 12 (by kernel_rfl) (by kernel_rfl)).val _ rfl
     simp only [e7, e12]
     dsimp only at hU
     have hp := hU.rd.putEnd en1
     have x9 := hU.rd.cells.2.2.2.2
     have f9 := hU.rd.free 4
     exact Yld.store (U.setCell ⟨rb, 4, none⟩ (.int .i64 en1)) (by kernel_rfl) (by go_simp) ⟨trivial, by simpa using hU.step hp.1 hp.2, Fx.fixed rfl rfl⟩
   trivial
 intro ν δ w10 hS10 hd hf
 have e0 := (hf 0 (by kernel_rfl)).val _ rfl
 have e1 := (hf 1 (by kernel_rfl)).val _ rfl
 have e2 := (hf 2 (by kernel_rfl)).val _ rfl
 have e3 := (hf 3 (by kernel_rfl)).val _ rfl
 have e4 := (hf 4 (by kernel_rfl)).val _ rfl
 have e5 := (hf 5 (by kernel_rfl)).val _ rfl
 have e6 := (hf 6 (by kernel_rfl)).val _ rfl
 have e7 := (hf 7 (by kernel_rfl)).val _ rfl
 have e8 := (hf 8 (by kernel_rfl)).val _ rfl
 have e9 := (hf 9 (by kernel_rfl)).val _ rfl
 have e11 := (hf 11 (by kernel_rfl)).val _ rfl
 have e12 := (hf 12 (by kernel_rfl)).val _ rfl
 simp only [putsν, Act.put, List.setIfInBounds_toArray, List.set_cons_zero, List.set_cons_succ, e0, e1, e2, e3, e4, e5, e6, e7, e8, e9, e11, e12]
 clear hf e0 e1 e2 e3 e4 e5 e6 e7 e8 e9 e11 e12
 rw [hd 10 (by kernel_rfl), hd 13 (by kernel_rfl)] at hS10
 clear hd H9
 simp only [if_true] at hS10
 refine wpAnyT_done (by kernel_rfl) ?_ _
 refine only_mk ?_
 have o0 := cell_of_row _ _ 0 _ _ _ hS10.oc; have o1 := cell_of_row _ _ 1 _ _ _ hS10.oc; have o2 := cell_of_row _ _ 2 _ _ _ hS10.oc; have o3 := cell_of_row _ _ 3 _ _ _ hS10.oc
 have f0 := frozen_of_row _ _ 0 _ _ hS10.oc; have f1 := frozen_of_row _ _ 1 _ _ hS10.oc; have f2 := frozen_of_row _ _ 2 _ _ hS10.oc; have f3 := frozen_of_row _ _ 3 _ _ hS10.oc
 have x0 := cell_of_row _ _ 0 _ _ _ hS10.ec; have x1 := cell_of_row _ _ 1 _ _ _ hS10.ec; have x2 := cell_of_row _ _ 2 _ _ _ hS10.ec; have x3 := cell_of_row _ _ 3 _ _ _ hS10.ec
 unfold zeroE at o0 o1 o2 o3
 simp only [List.getElem?_toArray, List.getElem?_cons_zero, List.getElem?_cons_succ] at o0 o1 o2 o3 x0 x1 x2 x3
 obtain ⟨hr11, hg11⟩ := store4 hS10.oc rfl (.slice A l.length k) (.int .i64 la1) (.int .i64 of) (.int .i64 le)
 have hFIN : LRow ((((w10.setCell ⟨ob, 0, none⟩ (.slice A l.length k)).setCell ⟨ob, 1, none⟩ (.int .i64 la1)).setCell ⟨ob, 2, none⟩ (.int .i64 of)).setCell ⟨ob, 3, none⟩ (.int .i64 le)) A l ∧ Rdr w ((((w10.setCell ⟨ob, 0, none⟩ (.slice A l.length k)).setCell ⟨ob, 1, none⟩ (.int .i64 la1)).setCell ⟨ob, 2, none⟩ (.int .i64 of)).setCell ⟨ob, 3, none⟩ (.int .i64 le)) rb c4 S sv la1 en1 ∧ U.grownBy ((((w10.setCell ⟨ob, 0, none⟩ (.slice A l.length k)).setCell ⟨ob, 1, none⟩ (.int .i64 la1)).setCell ⟨ob, 2, none⟩ (.int .i64 of)).setCell ⟨ob, 3, none⟩ (.int .i64 le)) (some rb) := by
  have q1 := hS10.lt; have q2 := hS10.ob_
  have hno : ∀ {base e n : Nat} {y : Value} {k : Nat} {xs : List Value}, w10.ownsRow base e k y n xs → e ≠ 59 → y.ownBlock ≠ some ob := fun {base e n y k xs} ho hT hs => by
   rcases ho.2 with ⟨e0, -⟩ | ⟨g, cap, cur, e0, -, hgc, -⟩
   · rw [e0] at hs; cases hs
   · rw [e0] at hs
     cases hs
     rw [hS10.oc] at hgc
     cases hgc
     exact hT rfl
  obtain ⟨A2, k2, e2, hL⟩ := lrow_own (row_kept hS10.own hg11 (fun r e => by cases e; exact hno hS10.own (by decide)))
  cases e2
  refine ⟨hL, hS10.rd.grown hg11 (fun r e => ?_), grown_beyond hS10.gr hg11 (fun r e => by cases e; omega)⟩
  obtain rfl : ob = r := Option.some.inj e
  exact ⟨by omega, hno hS10.rd.own (by decide), by have := hS10.rd.lo; omega⟩
 have HFIN := Lib.hid hFIN
 have HR11 := Lib.hid hr11
 clear hS10 hr11 hg11 hFIN
 go_wp2_with fail
 refine bodyPost_ret ?_ rfl ⟨A, k, rfl, HFIN.out⟩
 exact results_cell_row rfl _ _ ob 59 _ (0, 0) _ rfl HR11.out Tryz.underlying59 rfl entry_size
end Go.Proofs.YtliobahnekohmaaGreat
