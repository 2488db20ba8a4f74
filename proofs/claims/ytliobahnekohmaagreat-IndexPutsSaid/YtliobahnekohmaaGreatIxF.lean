/-
  Entries in generation 1: the walk.
-/
import Derived.Test.YtliobahnekohmaaGreatIzA
import Derived.Test.YtliobahnekohmaaGreatRob
namespace Go.Proofs.YtliobahnekohmaaGreat
open Go.RowKit
theorem byte_back (w : World) (b : Nat) (g : Int) (hc : w.heap[b]? = some (.cells #[.int .u8 (g % 256)] 5 (0, 0))) :
 (convert 63 9 (.slice (some ⟨b, 0, none⟩) 1 1)).run Tryz.prog w = .ok (.string (Ix.byte g)) w :=
 run_convert_bytes_arg (P := Tryz.prog) w 63 5 Tryz.underlying63 Tryz.underlying5 b 0 1 1 [g % 256] rfl (fun i hi => by
  rw [Nat.zero_add, cell_of_row w b i _ _ _ hc]
  match i, hi with
  | 0, _ => rfl) 9 Tryz.underlying9
def Wr (U : World) (base b mb : Nat) (T : ByteArray) : Prop := WrAt U base b mb T.data.toList
theorem text_any (base b mb : Nat) (T s : ByteArray) (w : World) (h : Wr w base b mb T) (hlen : T.size + s.size ≤ 1099511627776) (hBw : base ≤ w.heap.size) :
 Calls Tryz.prog 61 #[.pointer (some ⟨b, 0, none⟩), .string s] w fun e w' => e = .returned (.tuple #[]) ∧ Wr w' base b mb (T ++ s) ∧ Wrote base w w' := by
 refine (wText_any base b mb T.data.toList s w h (by rw [Array.length_toList]; exact hlen) hBw).mono ?_
 rintro e w' ⟨rfl, h1, h2⟩
 exact ⟨rfl, by unfold Wr; rw [Crc.data_append]; exact h1, h2⟩
theorem smalls_any (base b mb : Nat) (T : ByteArray) (A : Option Addr) (c n : Nat) (ns : List Nat) (w : World) (h : Wr w base b mb T) (hlen : T.size ≤ 1000000) (hnl : n = ns.length) (hn : ns.length ≤ 1000) (hns : ∀ n ∈ ns, n < 18446744073709551616) (hBw : base ≤ w.heap.size) (hA : Row 1 (nx ns) w A ns.length) (hAB : ∀ ad, A = some ad → ∃ cs fr, w.heap[ad.block]? = some (.cells cs 103 fr)) :
 Calls Tryz.prog 64 #[.pointer (some ⟨b, 0, none⟩), .slice A n c] w fun e w' => e = .returned (.tuple #[]) ∧ Wr w' base b mb (T ++ smalls ns) ∧ Wrote base w w' := by
 subst hnl
 refine (wSmall_any base b mb T.data.toList A c ns w h (by rw [Array.length_toList]; exact hlen) hn hns hBw hA hAB).mono ?_
 rintro e w' ⟨rfl, h1, h2⟩
 exact ⟨rfl, by unfold Wr; rw [Crc.data_append]; exact h1, h2⟩
theorem Wr.later {U V : World} {base b mb : Nat} {T : ByteArray} (h : Wr U base b mb T) (hb : Below U.heap.size U V) : Wr V base b mb T := WrAt.later h hb
structure EGood (w0 : World) (A : Option Addr) (n : Nat) (q : Nat → EAt) : Prop where
 ents : EntsIn w0 A n q
 few : n ≤ 20
 labs : ∀ i, i < n → (q i).e.l.length ≤ 6
 short : ∀ i, i < n → ∀ j, j < (q i).e.l.length → (La.at_ (q i).e.l j).1.size ≤ 48 ∧ (La.at_ (q i).e.l j).2.size ≤ 48
 last : ∀ i, i < n → 0 ≤ (q i).e.last ∧ (q i).e.last ≤ 1125899906842624
 off : ∀ i, i < n → 0 ≤ (q i).e.off ∧ (q i).e.off ≤ 1073741824
 len : ∀ i, i < n → 0 ≤ (q i).e.len ∧ (q i).e.len ≤ 1073741824
namespace Ix
theorem ents_snoc (f : Ent → ByteArray) (e : Ent) : ∀ L, ents f (L ++ [e]) = ents f L ++ f e
 | [] => by show f e ++ ByteArray.empty = ByteArray.empty ++ f e; rw [ByteArray.append_empty, ByteArray.empty_append]
 | x :: L => by show f x ++ ents f (L ++ [e]) = (f x ++ ents f L) ++ f e; rw [ents_snoc f e L, ByteArray.append_assoc]
theorem fixB_snoc (x : Lab) : ∀ l, fixB (l ++ [x]) = fixB l ++ (Num.fixedB x.1 12 ++ Num.fixedB x.2 12)
 | [] => by show (Num.fixedB x.1 12 ++ Num.fixedB x.2 12) ++ ByteArray.empty = ByteArray.empty ++ _; rw [ByteArray.append_empty, ByteArray.empty_append]
 | y :: l => by show (Num.fixedB y.1 12 ++ Num.fixedB y.2 12) ++ fixB (l ++ [x]) = ((Num.fixedB y.1 12 ++ Num.fixedB y.2 12) ++ fixB l) ++ _; rw [fixB_snoc x l]; simp only [ByteArray.append_assoc]
theorem fixB_size : ∀ l, (fixB l).size = 26 * l.length
 | [] => rfl
 | y :: l => by
  show ((Num.fixedB y.1 12 ++ Num.fixedB y.2 12) ++ fixB l).size = _
  rw [ByteArray.size_append, ByteArray.size_append, Num.fixedB_size, Num.fixedB_size, fixB_size l, List.length_cons]; omega
theorem wide_len (n : Nat) : (Num.wideB n).size = 8 := by rw [Lib.size_eq]; exact Num.le_length n 8
theorem one1_size (e : Ent) : (one1 e).size = 25 + 26 * e.l.length := by
 unfold one1
 simp only [ByteArray.size_append, byte_size, fixB_size, wide_len]
 omega
theorem ents1_size (q : Nat → EAt) {n : Nat} (h : ∀ i, i < n → (q i).e.l.length ≤ 6) : ∀ k, k ≤ n → (ents one1 (entL q k)).size ≤ 200 * k
 | 0, _ => Nat.le_refl _
 | k + 1, hk => by
  have ih := ents1_size q h k (by omega)
  have h1 := h k (by omega)
  rw [entL_succ, ents_snoc, ByteArray.size_append, one1_size]
  omega
theorem fixB_take (l : List Lab) {j : Nat} (hj : j < l.length) : fixB (l.take (j + 1)) = fixB (l.take j) ++ (Num.fixedB (La.at_ l j).1 12 ++ Num.fixedB (La.at_ l j).2 12) := by
 have e : La.at_ l j = l[j] := by unfold La.at_; simp [List.getD, hj]
 rw [List.take_add_one, List.getElem?_eq_getElem hj, e]
 exact fixB_snoc _ _
end Ix
theorem fixed12 (s : ByteArray) (hs : s.size ≤ 48) (U : World) : Calls Tryz.prog 63 #[.string s, .int .i64 12] U fun e w' => e = .returned (.string (Num.fixedB s 12)) ∧ Below U.heap.size U w' := Fixed_any s (by unfold maxLen; omega) 12 U
theorem wide64 (n : Int) (h : 0 ≤ n ∧ n ≤ 1125899906842624) (U : World) : Calls Tryz.prog 62 #[.int .u64 n] U fun e w' => e = .returned (.string (Num.wideB (Ix.u64 n))) ∧ Below U.heap.size U w' := by
 have e : ((Ix.u64 n : Nat) : Int) = n := by rw [Ix.u64_nat h]; omega
 have := Wide_any (Ix.u64 n) U
 rw [e] at this
 exact this
set_option maxRecDepth 100000 in
set_option maxHeartbeats 8000000 in
theorem first_any (w0 : World) (A : Option Addr) (n c : Nat) (q : Nat → EAt) (b mb : Nat) (w : World) (h : EGood w0 A n q) (hw0 : Below w0.heap.size w0 w) (hw : Wr w w0.heap.size b mb ByteArray.empty) :
 Calls Tryz.prog 30 #[.pointer (some ⟨b, 0, none⟩), .slice A n c] w fun e w' => e = .returned (.tuple #[]) ∧ Wr w' w0.heap.size b mb (Num.wideB n ++ Ix.ents Ix.one1 (entL q n)) ∧ Wrote w0.heap.size w w' := by
 have HA := Lib.hid h; have HW0 := Lib.hid hw0
 have hn := h.few
 have HWD := Lib.hid (fun U => wide64 (n : Int) (by omega) U)
 have e0 : Ix.u64 (n : Int) = n := by rw [Ix.u64_nat (by omega)]; omega
 rw [e0] at HWD
 have HTX := Lib.hid (fun U (hU : Below w.heap.size w U) => text_any w0.heap.size b mb ByteArray.empty (Num.wideB n) U (hw.later hU) (by rw [Ix.wide_len]; decide) (by have := hw0.size; have := hU.size; omega))
 have e1 : ByteArray.empty ++ Num.wideB n = Num.wideB n := ByteArray.empty_append
 rw [e1] at HTX
 have hz0 := Ix.wide_len n
 have HES := Lib.hid (Ix.ents1_size q h.labs); have HEN := Lib.hid (fun k => Ix.ents_snoc Ix.one1 (q k).e (entL q k))
 generalize Num.wideB n = T0 at *
 have HBS := Lib.hid hw0.size
 clear h hw0 hw e0 e1
 go_enter Tryz.func30, Tryz.ntmps30
 go_wp2_with fail
 refine (HWD.out _).mono ?_; rintro e w1 ⟨rfl, hb1⟩
 have HTX := Lib.hid (HTX.out w1 hb1); have HB1 := Lib.hid (Wrote.below (base := w0.heap.size) hb1 HBS.out)
 clear hb1 HWD
 go_wp2_with fail
 refine HTX.out.mono ?_; rintro e w2 ⟨rfl, hw2, hr2⟩
 have HW2 := Lib.hid hw2; have HR2 := Lib.hid (HB1.out.trans hr2)
 clear hw2 hr2 HTX HB1
 go_wp2_with fail
 go_loopw [16] (fun i wr => ∃ k : Nat, k ≤ n ∧ i = .int .i64 k ∧ Wr wr w0.heap.size b mb (T0 ++ Ix.ents Ix.one1 (entL q k)) ∧ Wrote w0.heap.size w wr) (fun i _ => n - (intOf i).toNat)
 case atStart => exact ⟨0, by omega, rfl, by show Wr _ _ _ _ (T0 ++ ByteArray.empty); rw [ByteArray.append_empty]; exact HW2.out, HR2.out⟩
 case round =>
  obtain ⟨k, hk, rfl, hwr, hwt⟩ := hrel
  have HWR := Lib.hid hwr; have HWT := Lib.hid hwt
  clear hwr hwt
  have i0 : (0 : Int) ≤ (k : Int) := by omega
  by_cases hlt : k < n
  · have i1 : (k : Int) < (n : Int) := by omega
    have dd1 : decide ((k : Int) < (n : Int)) = true := decide_eq_true i1
    have hb0 := HW0.out.trans HWT.out.bel
    obtain ⟨ad, rfl, x0, x1, x2, x3⟩ := HA.out.ents.cells hb0 hlt
    have HLAB := Lib.hid (HA.out.ents.each k hlt).row
    have hl6 := HA.out.labs k hlt
    have HSH := Lib.hid (HA.out.short k hlt)
    have HWL := Lib.hid (wide64 (q k).e.last (HA.out.last k hlt)); have HWO := Lib.hid (wide64 (q k).e.off (by have := HA.out.off k hlt; omega)); have HWE := Lib.hid (wide64 (q k).e.len (by have := HA.out.len k hlt; omega))
    have hu1 : IntKind.u64.wrap (q k).e.last = (q k).e.last := by have := HA.out.last k hlt; simp [IntKind.wrap, IntKind.bits, IntKind.signed]; omega
    have hu2 : IntKind.u64.wrap (q k).e.off = (q k).e.off := by have := HA.out.off k hlt; simp [IntKind.wrap, IntKind.bits, IntKind.signed]; omega
    have hu3 : IntKind.u64.wrap (q k).e.len = (q k).e.len := by have := HA.out.len k hlt; simp [IntKind.wrap, IntKind.bits, IntKind.signed]; omega
    have hone : Ix.one1 (q k).e = Ix.byte (q k).e.l.length ++ Ix.fixB (q k).e.l ++ (Num.wideB (Ix.u64 (q k).e.last) ++ Num.wideB (Ix.u64 (q k).e.off) ++ Num.wideB (Ix.u64 (q k).e.len)) := rfl
    have HSN := Lib.hid (HEN.out k)
    rw [hone] at HSN
    have hes := HES.out k (by omega)
    have zw1 := Ix.wide_len (Ix.u64 (q k).e.last); have zw2 := Ix.wide_len (Ix.u64 (q k).e.off); have zw3 := Ix.wide_len (Ix.u64 (q k).e.len)
    obtain ⟨w5, hw5⟩ : ∃ w5, w5 = wr.alloc (.cells (entC (q k)) 59) := ⟨_, rfl⟩
    have hb5 : Below wr.heap.size wr w5 := by rw [hw5]; exact (Below.refl _ _).alloc (Nat.le_refl _) _
    have hy5 : w5.heap[wr.heap.size]? = some (.cells (entC (q k)) 59 (0, 0)) := by rw [hw5]; exact heap_alloc_new wr _
    unfold entC at hw5 hy5
    obtain ⟨T1, hT1⟩ : ∃ T1, T1 = T0 ++ Ix.ents Ix.one1 (entL q k) := ⟨_, rfl⟩
    have hT1z : T1.size ≤ 5000 := by rw [hT1, ByteArray.size_append]; omega
    rw [← hT1] at HWR
    have HT1 := Lib.hid hT1
    generalize Num.wideB (Ix.u64 (q k).e.last) = g1 at *
    generalize Num.wideB (Ix.u64 (q k).e.off) = g2 at *
    generalize Num.wideB (Ix.u64 (q k).e.len) = g3 at *
    generalize (q k).e.l = l at *
    generalize (q k).A = LA at *
    generalize (q k).e.last = la at *
    generalize (q k).e.off = of at *
    generalize (q k).e.len = le at *
    generalize (q k).c = lc at *
    have y0 := cell_of_row _ _ 0 _ _ _ hy5
    simp only [List.getElem?_toArray, List.getElem?_cons_zero] at y0
    have HY5 := Lib.hid hy5; have HB5 := Lib.hid hb5
    obtain ⟨eb, heb⟩ : ∃ eb, eb = wr.heap.size := ⟨_, rfl⟩
    rw [← heb] at y0 HY5
    -- the byte of how many labels
    have hc6 := heap_alloc_new w5 (.cells #[.int .u8 (l.length : Int)] 5)
    have hb6 : Below w5.heap.size w5 (w5.alloc (.cells #[.int .u8 (l.length : Int)] 5)) := (Below.refl _ _).alloc (Nat.le_refl _) _
    have hl256 : (l.length : Int) % 256 = (l.length : Int) := by omega
    have hcv := byte_back _ _ (l.length : Int) (by rw [hl256]; exact hc6)
    clear hl256
    have HB56 := Lib.hid (below_step hb5 hb6)
    have hbz := Ix.byte_size (l.length : Int)
    have hwsz := HWT.out.size; have hbsz := HBS.out
    have HTX := Lib.hid (text_any w0.heap.size b mb T1 (Ix.byte (l.length : Int)) (w5.alloc (.cells #[.int .u8 (l.length : Int)] 5)) (HWR.out.later HB56.out) (by omega) (by have := HB56.out.size; omega))
    clear hb5 hy5 hb0 hT1 hone hc6 hes
    go_upto_region 4 with fail
    rw [← hw5, ← heb]
    clear hw5 heb x0 x1 x2 x3
    go_wp2_with fail
    refine HTX.out.mono ?_; rintro e w7 ⟨rfl, hw7, hr7⟩
    have HW7 := Lib.hid hw7; have HR7 := Lib.hid (HWT.out.trans ((Wrote.below HB56.out (by omega)).trans hr7))
    have hy7 : w7.heap[eb]? = some (.cells #[.slice LA l.length lc, .int .i64 la, .int .i64 of, .int .i64 le] 59 (0, 0)) := hr7.block (heap_keep HY5.out hb6) (by decide)
    have y0 := cell_of_row _ _ 0 _ _ _ hy7
    simp only [List.getElem?_toArray, List.getElem?_cons_zero] at y0
    have HY7 := Lib.hid hy7
    clear hw7 hr7 hy7 hb6 hcv HTX HB56 HB5 HWR HWT HY5
    go_wp2_with fail
    clear y0
    go_loopw [31] (fun i wr => ∃ j : Nat, j ≤ l.length ∧ i = .int .i64 j ∧ Wr wr w0.heap.size b mb (T1 ++ (Ix.byte l.length ++ Ix.fixB (l.take j))) ∧ Wrote w0.heap.size w wr ∧ wr.heap[eb]? = some (.cells #[.slice LA l.length lc, .int .i64 la, .int .i64 of, .int .i64 le] 59 (0, 0))) (fun i _ => l.length - (intOf i).toNat)
    case atStart => exact ⟨0, by omega, rfl, by show Wr _ _ _ _ (T1 ++ (Ix.byte l.length ++ ByteArray.empty)); rw [ByteArray.append_empty]; exact HW7.out, HR7.out, HY7.out⟩
    case round =>
     obtain ⟨j, hj, rfl, hwr, hwt, hyr⟩ := hrel
     have HWR := Lib.hid hwr; have HWT := Lib.hid hwt; have HYR := Lib.hid hyr
     clear hwr hwt hyr
     have j0 : (0 : Int) ≤ (j : Int) := by omega
     have hfz := Ix.fixB_size (l.take j)
     rw [List.length_take] at hfz
     by_cases hjl : j < l.length
     · have j1 : (j : Int) < (l.length : Int) := by omega
       have dd2 : decide ((j : Int) < (l.length : Int)) = true := decide_eq_true j1
       obtain ⟨lb, rfl, z0, z1⟩ := HLAB.out.at_ (HW0.out.trans HWT.out.bel) hjl
       obtain ⟨hs1, hs2⟩ := HSH.out j hjl
       have HFX := Lib.hid (Ix.fixB_take l hjl)
       have HF1 := Lib.hid (fixed12 (La.at_ l j).1 hs1); have HF2 := Lib.hid (fixed12 (La.at_ l j).2 hs2)
       have zf1 := Num.fixedB_size (La.at_ l j).1 12; have zf2 := Num.fixedB_size (La.at_ l j).2 12
       generalize Num.fixedB (La.at_ l j).1 12 = f1 at *
       generalize Num.fixedB (La.at_ l j).2 12 = f2 at *
       generalize (La.at_ l j).1 = s1 at *
       generalize (La.at_ l j).2 = s2 at *
       obtain ⟨w8, hw8⟩ : ∃ w8, w8 = wr.alloc (.cells #[.string s1, .string s2] 37) := ⟨_, rfl⟩
       have hb8 : Below wr.heap.size wr w8 := by rw [hw8]; exact (Below.refl _ _).alloc (Nat.le_refl _) _
       have hy8 : w8.heap[wr.heap.size]? = some (.cells #[.string s1, .string s2] 37 (0, 0)) := by rw [hw8]; exact heap_alloc_new wr _
       obtain ⟨xb, hxb⟩ : ∃ xb, xb = wr.heap.size := ⟨_, rfl⟩
       rw [← hxb] at hy8
       have HY8 := Lib.hid hy8
       have hwsz := HWT.out.size; have hbsz := HBS.out
       have HTX := Lib.hid (fun U (hU : Below w8.heap.size w8 U) => text_any w0.heap.size b mb (T1 ++ (Ix.byte l.length ++ Ix.fixB (l.take j))) (f1 ++ f2) U ((HWR.out.later hb8).later hU) (by simp only [ByteArray.size_append]; omega) (by have := hb8.size; have := hU.size; omega))
       have HB8 := Lib.hid hb8; have HYE := Lib.hid (heap_keep HYR.out hb8)
       have n1 : ¬ 9223372036854775807 < f1.size + f2.size := by omega
       clear hy8 hb8 hs1 hs2
       go_upto_region 8 with fail
       rw [← hw8, ← hxb]
       clear hw8 hxb z0 z1
       refine plain_robJ [(0, some 35), (1, some 36), (2, some 37), (3, some 38), (4, some 39), (5, some 40), (6, some 41), (7, some 42)] [8] (fun U V => Below U.heap.size U V) (fun U => Below w8.heap.size w8 U) [(0, .pointer (some ⟨b, 0, none⟩)), (1, .pointer (some ⟨xb, 0, none⟩)), (2, .string s1), (3, .string f1), (4, .pointer (some ⟨xb, 1, none⟩)), (5, .string s2), (6, .string f2), (7, .string (f1 ++ f2))] [] 1 (by kernel_rfl) (by kernel_rfl) (by kernel_rfl) ((Below.refl _ _).drew) (fun U V h hb => below_step h hb) ?_ ?_ ?_
       · intro p hp; cases hp
       · refine ⟨⟨_, rfl, fun ν U hU hp => ?_⟩, ?_⟩
         · simp only [putsν, Act.put, List.setIfInBounds_toArray, List.set_cons_zero, List.set_cons_succ]
           exact Yld.value (.pointer (some ⟨b, 0, none⟩)) U (by kernel_rfl) (by go_simp) ⟨Below.refl _ _, Fx.fixed rfl rfl⟩
         refine ⟨⟨_, rfl, fun ν U hU hp => ?_⟩, ?_⟩
         · simp only [putsν, Act.put, List.setIfInBounds_toArray, List.set_cons_zero, List.set_cons_succ]
           exact Yld.value (.pointer (some ⟨xb, 0, none⟩)) U (by kernel_rfl) (by go_simp) ⟨Below.refl _ _, Fx.fixed rfl rfl⟩
         refine ⟨⟨_, rfl, fun ν U hU hp => ?_⟩, ?_⟩
         · simp only [putsν, Act.put, List.setIfInBounds_toArray, List.set_cons_zero, List.set_cons_succ]
           have e1 := (hp 1 (by kernel_rfl) (by kernel_rfl)).val _ rfl
           simp only [e1]
           exact Yld.value (.string s1) U (by kernel_rfl) (by have h0 : U.cell? ⟨xb, 0, none⟩ = some (.string s1) := cell_of_row _ _ _ _ _ _ (heap_keep HY8.out hU); go_simp) ⟨Below.refl _ _, Fx.fixed rfl rfl⟩
         refine ⟨⟨_, rfl, fun ν U hU hp => ?_⟩, ?_⟩
         · simp only [putsν, Act.put, List.setIfInBounds_toArray, List.set_cons_zero, List.set_cons_succ]
           have e2 := (hp 2 (by kernel_rfl) (by kernel_rfl)).val _ rfl
           simp only [e2]
           refine Yld.call 63 #[.string s1, .int .i64 12] (by kernel_rfl) (by go_simp) ?_
           have hcall := HF1.out U
           refine hcall.mono ?_
           rintro e V ⟨rfl, hb⟩; exact ⟨_, rfl, hb, Fx.fixed rfl rfl⟩
         refine ⟨⟨_, rfl, fun ν U hU hp => ?_⟩, ?_⟩
         · simp only [putsν, Act.put, List.setIfInBounds_toArray, List.set_cons_zero, List.set_cons_succ]
           exact Yld.value (.pointer (some ⟨xb, 1, none⟩)) U (by kernel_rfl) (by go_simp) ⟨Below.refl _ _, Fx.fixed rfl rfl⟩
         refine ⟨⟨_, rfl, fun ν U hU hp => ?_⟩, ?_⟩
         · simp only [putsν, Act.put, List.setIfInBounds_toArray, List.set_cons_zero, List.set_cons_succ]
           have e4 := (hp 4 (by kernel_rfl) (by kernel_rfl)).val _ rfl
           simp only [e4]
           exact Yld.value (.string s2) U (by kernel_rfl) (by have h0 : U.cell? ⟨xb, 1, none⟩ = some (.string s2) := cell_of_row _ _ _ _ _ _ (heap_keep HY8.out hU); go_simp) ⟨Below.refl _ _, Fx.fixed rfl rfl⟩
         refine ⟨⟨_, rfl, fun ν U hU hp => ?_⟩, ?_⟩
         · simp only [putsν, Act.put, List.setIfInBounds_toArray, List.set_cons_zero, List.set_cons_succ]
           have e5 := (hp 5 (by kernel_rfl) (by kernel_rfl)).val _ rfl
           simp only [e5]
           refine Yld.call 63 #[.string s2, .int .i64 12] (by kernel_rfl) (by go_simp) ?_
           have hcall := HF2.out U
           refine hcall.mono ?_
           rintro e V ⟨rfl, hb⟩; exact ⟨_, rfl, hb, Fx.fixed rfl rfl⟩
         refine ⟨⟨_, rfl, fun ν U hU hp => ?_⟩, ?_⟩
         · simp only [putsν, Act.put, List.setIfInBounds_toArray, List.set_cons_zero, List.set_cons_succ]
           have e3 := (hp 3 (by kernel_rfl) (by kernel_rfl)).val _ rfl
           have e6 := (hp 6 (by kernel_rfl) (by kernel_rfl)).val _ rfl
           simp only [e3, e6]
           exact Yld.value (.string (f1 ++ f2)) U (by kernel_rfl) (by go_simp) ⟨Below.refl _ _, Fx.fixed rfl rfl⟩
         trivial
       intro ν w9 hS9 hf
       have e0 := (hf 0 (by kernel_rfl)).val _ rfl
       have e1 := (hf 1 (by kernel_rfl)).val _ rfl
       have e2 := (hf 2 (by kernel_rfl)).val _ rfl
       have e3 := (hf 3 (by kernel_rfl)).val _ rfl
       have e4 := (hf 4 (by kernel_rfl)).val _ rfl
       have e5 := (hf 5 (by kernel_rfl)).val _ rfl
       have e6 := (hf 6 (by kernel_rfl)).val _ rfl
       have e7 := (hf 7 (by kernel_rfl)).val _ rfl
       simp only [putsν, Act.put, List.setIfInBounds_toArray, List.set_cons_zero, List.set_cons_succ, e0, e1, e2, e3, e4, e5, e6, e7]
       clear hf e0 e1 e2 e3 e4 e5 e6 e7
       refine wpAnyT_one (i := 8) (by kernel_rfl) rfl (by kernel_rfl) ?_
       intro K0 hK
       unfold Oper.wp
       go_simp
       refine (HTX.out w9 hS9).mono ?_; rintro e w10 ⟨rfl, hw10, hr10⟩
       have HW10 := Lib.hid hw10; have HR10 := Lib.hid (HWT.out.trans ((Wrote.below (below_step HB8.out hS9) (by omega)).trans hr10))
       have HY10 := Lib.hid (hr10.block (heap_keep HYE.out hS9) (by decide))
       clear hw10 hr10 hS9 HTX
       refine hK _ _ (fun _ => trivial) ?_
       clear hK K0
       refine wpAnyT_done (by kernel_rfl) ?_ _
       refine only_mk ?_
       go_wp2_with fail
       go_roundw
       case rel => exact ⟨j + 1, by omega, by go_num, by rw [HFX.out]; have h10 := HW10.out; simp only [ByteArray.append_assoc] at h10 ⊢; exact h10, HR10.out, HY10.out⟩
       case measure => simp [intOf]; omega
     · obtain rfl : j = l.length := by omega
       have dd2 : decide ((l.length : Int) < (l.length : Int)) = false := decide_eq_false (by omega)
       have hwsz := HWT.out.size; have hbsz := HBS.out
       have htk : l.take l.length = l := List.take_length
       rw [htk] at HWR hfz
       have HTX := Lib.hid (fun U (hU : Below wr.heap.size wr U) => text_any w0.heap.size b mb (T1 ++ (Ix.byte l.length ++ Ix.fixB l)) (g1 ++ g2 ++ g3) U (HWR.out.later hU) (by simp only [ByteArray.size_append]; omega) (by have := hU.size; omega))
       have n1 : ¬ 9223372036854775807 < g1.size + g2.size := by omega
       have n2 : ¬ 9223372036854775807 < (g1 ++ g2).size + g3.size := by rw [ByteArray.size_append]; omega
       have n3 : ¬ 9223372036854775807 < g1.size + g2.size + g3.size := by omega
       clear htk
       go_upto_region 10 with fail
       refine plain_robJ [(0, some 45), (1, some 46), (2, some 47), (3, some 48), (4, some 49), (5, some 50), (6, some 51), (7, some 52), (8, some 53), (9, some 54), (10, some 55), (11, some 56), (12, some 57), (13, some 58), (14, some 59)] [15] (fun U V => Below U.heap.size U V) (fun U => Below wr.heap.size wr U) [(0, .pointer (some ⟨b, 0, none⟩)), (1, .pointer (some ⟨eb, 1, none⟩)), (2, .int .i64 la), (3, .int .u64 la), (4, .string g1), (5, .pointer (some ⟨eb, 2, none⟩)), (6, .int .i64 of), (7, .int .u64 of), (8, .string g2), (9, .string (g1 ++ g2)), (10, .pointer (some ⟨eb, 3, none⟩)), (11, .int .i64 le), (12, .int .u64 le), (13, .string g3), (14, .string (g1 ++ g2 ++ g3))] [] 1 (by kernel_rfl) (by kernel_rfl) (by kernel_rfl) ((Below.refl _ _).drew) (fun U V h hb => below_step h hb) ?_ ?_ ?_
       · intro p hp; cases hp
       · refine ⟨⟨_, rfl, fun ν U hU hp => ?_⟩, ?_⟩
         · simp only [putsν, Act.put, List.setIfInBounds_toArray, List.set_cons_zero, List.set_cons_succ]
           exact Yld.value (.pointer (some ⟨b, 0, none⟩)) U (by kernel_rfl) (by go_simp) ⟨Below.refl _ _, Fx.fixed rfl rfl⟩
         refine ⟨⟨_, rfl, fun ν U hU hp => ?_⟩, ?_⟩
         · simp only [putsν, Act.put, List.setIfInBounds_toArray, List.set_cons_zero, List.set_cons_succ]
           exact Yld.value (.pointer (some ⟨eb, 1, none⟩)) U (by kernel_rfl) (by go_simp) ⟨Below.refl _ _, Fx.fixed rfl rfl⟩
         refine ⟨⟨_, rfl, fun ν U hU hp => ?_⟩, ?_⟩
         · simp only [putsν, Act.put, List.setIfInBounds_toArray, List.set_cons_zero, List.set_cons_succ]
           have e1 := (hp 1 (by kernel_rfl) (by kernel_rfl)).val _ rfl
           simp only [e1]
           exact Yld.value (.int .i64 la) U (by kernel_rfl) (by have h0 : U.cell? ⟨eb, 1, none⟩ = some (.int .i64 la) := cell_of_row _ _ _ _ _ _ (heap_keep HYR.out hU); go_simp) ⟨Below.refl _ _, Fx.fixed rfl rfl⟩
         refine ⟨⟨_, rfl, fun ν U hU hp => ?_⟩, ?_⟩
         · simp only [putsν, Act.put, List.setIfInBounds_toArray, List.set_cons_zero, List.set_cons_succ]
           have e2 := (hp 2 (by kernel_rfl) (by kernel_rfl)).val _ rfl
           simp only [e2]
           exact Yld.value (.int .u64 la) U (by kernel_rfl) (by go_simp) ⟨Below.refl _ _, Fx.fixed rfl rfl⟩
         refine ⟨⟨_, rfl, fun ν U hU hp => ?_⟩, ?_⟩
         · simp only [putsν, Act.put, List.setIfInBounds_toArray, List.set_cons_zero, List.set_cons_succ]
           have e3 := (hp 3 (by kernel_rfl) (by kernel_rfl)).val _ rfl
           simp only [e3]
           refine Yld.call 62 #[.int .u64 la] (by kernel_rfl) (by go_simp) ?_
           have hcall := HWL.out U
           refine hcall.mono ?_
           rintro e V ⟨rfl, hb⟩; exact ⟨_, rfl, hb, Fx.fixed rfl rfl⟩
         refine ⟨⟨_, rfl, fun ν U hU hp => ?_⟩, ?_⟩
         · simp only [putsν, Act.put, List.setIfInBounds_toArray, List.set_cons_zero, List.set_cons_succ]
           exact Yld.value (.pointer (some ⟨eb, 2, none⟩)) U (by kernel_rfl) (by go_simp) ⟨Below.refl _ _, Fx.fixed rfl rfl⟩
         refine ⟨⟨_, rfl, fun ν U hU hp => ?_⟩, ?_⟩
         · simp only [putsν, Act.put, List.setIfInBounds_toArray, List.set_cons_zero, List.set_cons_succ]
           have e5 := (hp 5 (by kernel_rfl) (by kernel_rfl)).val _ rfl
           simp only [e5]
           exact Yld.value (.int .i64 of) U (by kernel_rfl) (by have h0 : U.cell? ⟨eb, 2, none⟩ = some (.int .i64 of) := cell_of_row _ _ _ _ _ _ (heap_keep HYR.out hU); go_simp) ⟨Below.refl _ _, Fx.fixed rfl rfl⟩
         refine ⟨⟨_, rfl, fun ν U hU hp => ?_⟩, ?_⟩
         · simp only [putsν, Act.put, List.setIfInBounds_toArray, List.set_cons_zero, List.set_cons_succ]
           have e6 := (hp 6 (by kernel_rfl) (by kernel_rfl)).val _ rfl
           simp only [e6]
           exact Yld.value (.int .u64 of) U (by kernel_rfl) (by go_simp) ⟨Below.refl _ _, Fx.fixed rfl rfl⟩
         refine ⟨⟨_, rfl, fun ν U hU hp => ?_⟩, ?_⟩
         · simp only [putsν, Act.put, List.setIfInBounds_toArray, List.set_cons_zero, List.set_cons_succ]
           have e7 := (hp 7 (by kernel_rfl) (by kernel_rfl)).val _ rfl
           simp only [e7]
           refine Yld.call 62 #[.int .u64 of] (by kernel_rfl) (by go_simp) ?_
           have hcall := HWO.out U
           refine hcall.mono ?_
           rintro e V ⟨rfl, hb⟩; exact ⟨_, rfl, hb, Fx.fixed rfl rfl⟩
         refine ⟨⟨_, rfl, fun ν U hU hp => ?_⟩, ?_⟩
         · simp only [putsν, Act.put, List.setIfInBounds_toArray, List.set_cons_zero, List.set_cons_succ]
           have e4 := (hp 4 (by kernel_rfl) (by kernel_rfl)).val _ rfl
           have e8 := (hp 8 (by kernel_rfl) (by kernel_rfl)).val _ rfl
           simp only [e4, e8]
           exact Yld.value (.string (g1 ++ g2)) U (by kernel_rfl) (by go_simp) ⟨Below.refl _ _, Fx.fixed rfl rfl⟩
         refine ⟨⟨_, rfl, fun ν U hU hp => ?_⟩, ?_⟩
         · simp only [putsν, Act.put, List.setIfInBounds_toArray, List.set_cons_zero, List.set_cons_succ]
           exact Yld.value (.pointer (some ⟨eb, 3, none⟩)) U (by kernel_rfl) (by go_simp) ⟨Below.refl _ _, Fx.fixed rfl rfl⟩
         refine ⟨⟨_, rfl, fun ν U hU hp => ?_⟩, ?_⟩
         · simp only [putsν, Act.put, List.setIfInBounds_toArray, List.set_cons_zero, List.set_cons_succ]
           have e10 := (hp 10 (by kernel_rfl) (by kernel_rfl)).val _ rfl
           simp only [e10]
           exact Yld.value (.int .i64 le) U (by kernel_rfl) (by have h0 : U.cell? ⟨eb, 3, none⟩ = some (.int .i64 le) := cell_of_row _ _ _ _ _ _ (heap_keep HYR.out hU); go_simp) ⟨Below.refl _ _, Fx.fixed rfl rfl⟩
         refine ⟨⟨_, rfl, fun ν U hU hp => ?_⟩, ?_⟩
         · simp only [putsν, Act.put, List.setIfInBounds_toArray, List.set_cons_zero, List.set_cons_succ]
           have e11 := (hp 11 (by kernel_rfl) (by kernel_rfl)).val _ rfl
           simp only [e11]
           exact Yld.value (.int .u64 le) U (by kernel_rfl) (by go_simp) ⟨Below.refl _ _, Fx.fixed rfl rfl⟩
         refine ⟨⟨_, rfl, fun ν U hU hp => ?_⟩, ?_⟩
         · simp only [putsν, Act.put, List.setIfInBounds_toArray, List.set_cons_zero, List.set_cons_succ]
           have e12 := (hp 12 (by kernel_rfl) (by kernel_rfl)).val _ rfl
           simp only [e12]
           refine Yld.call 62 #[.int .u64 le] (by kernel_rfl) (by go_simp) ?_
           have hcall := HWE.out U
           refine hcall.mono ?_
           rintro e V ⟨rfl, hb⟩; exact ⟨_, rfl, hb, Fx.fixed rfl rfl⟩
         refine ⟨⟨_, rfl, fun ν U hU hp => ?_⟩, ?_⟩
         · simp only [putsν, Act.put, List.setIfInBounds_toArray, List.set_cons_zero, List.set_cons_succ]
           have e9 := (hp 9 (by kernel_rfl) (by kernel_rfl)).val _ rfl
           have e13 := (hp 13 (by kernel_rfl) (by kernel_rfl)).val _ rfl
           simp only [e9, e13]
           exact Yld.value (.string (g1 ++ g2 ++ g3)) U (by kernel_rfl) (by go_simp) ⟨Below.refl _ _, Fx.fixed rfl rfl⟩
         trivial
       intro ν w9 hS9 hf
       have e0 := (hf 0 (by kernel_rfl)).val _ rfl
       have e1 := (hf 1 (by kernel_rfl)).val _ rfl
       have e2 := (hf 2 (by kernel_rfl)).val _ rfl
       have e3 := (hf 3 (by kernel_rfl)).val _ rfl
       have e4 := (hf 4 (by kernel_rfl)).val _ rfl
       have e5 := (hf 5 (by kernel_rfl)).val _ rfl
       have e6 := (hf 6 (by kernel_rfl)).val _ rfl
       have e7 := (hf 7 (by kernel_rfl)).val _ rfl
       have e8 := (hf 8 (by kernel_rfl)).val _ rfl
       have e9 := (hf 9 (by kernel_rfl)).val _ rfl
       have e10 := (hf 10 (by kernel_rfl)).val _ rfl
       have e11 := (hf 11 (by kernel_rfl)).val _ rfl
       have e12 := (hf 12 (by kernel_rfl)).val _ rfl
       have e13 := (hf 13 (by kernel_rfl)).val _ rfl
       have e14 := (hf 14 (by kernel_rfl)).val _ rfl
       simp only [putsν, Act.put, List.setIfInBounds_toArray, List.set_cons_zero, List.set_cons_succ, e0, e1, e2, e3, e4, e5, e6, e7, e8, e9, e10, e11, e12, e13, e14]
       clear hf e0 e1 e2 e3 e4 e5 e6 e7 e8 e9 e10 e11 e12 e13 e14
       refine wpAnyT_one (i := 15) (by kernel_rfl) rfl (by kernel_rfl) ?_
       intro K0 hK
       unfold Oper.wp
       go_simp
       refine (HTX.out w9 hS9).mono ?_; rintro e w10 ⟨rfl, hw10, hr10⟩
       have HW10 := Lib.hid hw10; have HR10 := Lib.hid (HWT.out.trans ((Wrote.below hS9 (by omega)).trans hr10))
       clear hw10 hr10 hS9 HTX n1 n2 n3
       refine hK _ _ (fun _ => trivial) ?_
       clear hK K0
       refine wpAnyT_done (by kernel_rfl) ?_ _
       refine only_mk ?_
       go_wp2_with fail
       go_roundw
       case rel => exact ⟨k + 1, by omega, by go_num, by rw [entL_succ, HSN.out]; have h10 := HW10.out; rw [HT1.out] at h10; simp only [ByteArray.append_assoc] at h10 ⊢; exact h10, HR10.out⟩
       case measure => simp [intOf]; omega
  · obtain rfl : k = n := by omega
    have dd1 : decide ((k : Int) < (k : Int)) = false := decide_eq_false (by omega)
    go_wp2_with fail
    go_end0
    exact ⟨rfl, HWR.out, HWT.out⟩
end Go.Proofs.YtliobahnekohmaaGreat
