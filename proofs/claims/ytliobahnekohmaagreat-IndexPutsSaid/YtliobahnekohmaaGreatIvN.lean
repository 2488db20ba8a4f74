/-
  The document's entries in generation 3: the walk.
-/
import Derived.Test.YtliobahnekohmaaGreatIvM
import Derived.Test.YtliobahnekohmaaGreatIvD
import Derived.Test.YtliobahnekohmaaGreatIvL
import Derived.Test.YtliobahnekohmaaGreatIxK
import Derived.Test.YtliobahnekohmaaGreatIvK
namespace Go.Proofs.YtliobahnekohmaaGreat
open Go.RowKit
theorem sel_from (b : Nat → Bool) (n m : Nat) (hm : m < (Ma.sel b n).length) : ((Ma.sel b n).take m).getLast?.getD 0 ≤ (Ma.sel b n).getD m 0 := by
 have hp : (Ma.sel b n).Pairwise (· < ·) := (List.pairwise_lt_range (n := n)).filter _
 generalize Ma.sel b n = P at *
 cases m with
 | zero => exact Nat.zero_le _
 | succ j =>
  have e : P.take (j + 1) = P.take j ++ [P[j]] := by rw [List.take_add_one, List.getElem?_eq_getElem (by omega)]; rfl
  rw [e, List.getLast?_concat, List.getD_eq_getElem?_getD, List.getElem?_eq_getElem hm]
  exact Nat.le_of_lt (List.pairwise_iff_getElem.1 hp j (j + 1) (by omega) hm (by omega))
theorem sel_small (b : Nat → Bool) (n m : Nat) (hm : m < (Ma.sel b n).length) : (Ma.sel b n).getD m 0 < n := by
 rw [List.getD_eq_getElem?_getD, List.getElem?_eq_getElem hm]
 have h := List.getElem_mem hm
 unfold Ma.sel at h
 exact List.mem_range.1 (List.mem_filter.1 h).1
theorem last_succ (P : List Nat) {k : Nat} (hk : k < P.length) : (P.take (k + 1)).getLast?.getD 0 = P.getD k 0 := by
 have e : P.take (k + 1) = P.take k ++ [P[k]] := by rw [List.take_add_one, List.getElem?_eq_getElem hk]; rfl
 rw [e, List.getLast?_concat, List.getD_eq_getElem?_getD, List.getElem?_eq_getElem hk]
theorem diffs_take (P : List Nat) {k : Nat} (hk : k < P.length) : Ix.diffsB 0 (P.take (k + 1)) = Ix.diffsB 0 (P.take k) ++ Num.smallB (P.getD k 0 - (P.take k).getLast?.getD 0) := by
 have e : P.take (k + 1) = P.take k ++ [P.getD k 0] := by rw [List.take_add_one, List.getElem?_eq_getElem hk, List.getD_eq_getElem?_getD, List.getElem?_eq_getElem hk]; rfl
 rw [e]
 exact Ix.diffs_snoc _ _ _
theorem posts_take (q : Nat → EAt) (n : Nat) (K : List Lab) {k : Nat} (hk : k < K.length) : Ix.postsB (entL q n) (K.take (k + 1)) = Ix.postsB (entL q n) (K.take k) ++ (Num.smallB (Ma.sel (hasE q (La.at_ K k)) n).length ++ Ix.diffsB 0 (Ma.sel (hasE q (La.at_ K k)) n)) := by
 rw [take_lab K hk, Ix.postsB_snoc]
 unfold Ix.postB
 rw [Ix.posts_sel]
theorem LSl.at_ {w U : World} {B : Option Addr} {d : Nat} {K : List Lab} (h : LSl w B d K) (hb : Below w.heap.size w U) {k : Nat} (hk : k < K.length) : ∃ ad, B = some ad ∧ U.cell? (ad.add (k * 2)) = some (.string (La.at_ K k).1) ∧ U.cell? ⟨(ad.add (k * 2)).block, (ad.add (k * 2)).off + 1, none⟩ = some (.string (La.at_ K k).2) := by
 obtain ⟨ad, e, g00, g11⟩ := h.row.at_ hb hk
 exact ⟨ad, e, g00 (by decide), g11 1 (by decide) (by decide)⟩
theorem rzig_any (n : Int) (hn : -9223372036854775808 ≤ n ∧ n ≤ 9223372036854775807) (U : World) : Calls Tryz.prog 78 #[.int .i64 n] U fun e V => e = .returned (.int .u64 ((Num.zig n : Nat) : Int)) ∧ Below U.heap.size U V := (rZig_any n (Lib.hid hn) U).mono fun e V h => by
 first | exact h | (obtain ⟨rfl, rfl⟩ := h; exact ⟨rfl, Below.refl _ _⟩) | (obtain ⟨rfl, h2⟩ := h; exact ⟨rfl, h2⟩)
theorem four_set {w : World} {b : Nat} {T : TypeId} {c0 c1 c2 c3 : Value} (h : w.heap[b]? = some (.cells #[c0, c1, c2, c3] T (0, 0))) (v0 v1 v2 v3 : Value) {base : Nat} (hb : base ≤ b) :
 ((((w.setCell ⟨b, 0, none⟩ v0).setCell ⟨b, 1, none⟩ v1).setCell ⟨b, 2, none⟩ v2).setCell ⟨b, 3, none⟩ v3).heap[b]? = some (.cells #[v0, v1, v2, v3] T (0, 0)) ∧ Below base w ((((w.setCell ⟨b, 0, none⟩ v0).setCell ⟨b, 1, none⟩ v1).setCell ⟨b, 2, none⟩ v2).setCell ⟨b, 3, none⟩ v3) := by
 refine ⟨?_, (((Below.refl base w).setCell hb v0).setCell hb v1 |>.setCell hb v2).setCell hb v3⟩
 have h1 := heap_setCell_same w b 0 _ T v0 h
 have h2 := heap_setCell_same _ b 1 _ T v1 h1
 have h3 := heap_setCell_same _ b 2 _ T v2 h2
 exact heap_setCell_same _ b 3 _ T v3 h3
set_option maxRecDepth 100000 in
set_option maxHeartbeats 32000000 in
theorem rmore3_any (A : Option Addr) (n c : Nat) (q : Nat → EAt) (w : World) (h : EGood w A n q) :
 Calls Tryz.prog 36 #[.slice A n c, .int .i64 3] w fun e w' => e = .returned (.string (Num.smallB (Ix.syms (entL q n)).length ++ Ix.symsB true ByteArray.empty (Ix.syms (entL q n)) ++ (Num.smallB n ++ Ix.ents3 (Ix.syms (entL q n)) 0 0 (entL q n) ++ Ix.postsB (entL q n) (Ix.labAll (entL q n))))) ∧ Below w.heap.size w w' := by
 have HA := Lib.hid h
 have hn := h.few
 have HSY := Lib.hid (rSymbols_any A n c q w h.ents (by omega))
 have HG := Lib.hid (sgood h)
 obtain ⟨S, hS⟩ : ∃ S, S = Ix.syms (entL q n) := ⟨_, rfl⟩
 rw [← hS] at HSY HG ⊢
 have hs240 := HG.out.few
 have HES := Lib.hid (Ix.ents3_bound S q h.labs); have HEN := Lib.hid (fun k => Ix.ents3_snoc S (q k).e (entL q k) 0 0)
 have HKL : Hid ((Ix.labAll (entL q n)).length ≤ 120) := Lib.hid (by
  rw [labAll_length]
  have h8 := Ix.firsts_length ((entL q n).flatMap (·.l))
  have h9 := seen_bound q h.labs n (Nat.le_refl n)
  omega)
 clear h hS
 go_enter Tryz.func36, Tryz.ntmps36
 go_wp2_with fail
 refine HSY.out.mono ?_; rintro e w1 ⟨B, d, rfl, hts, hb1⟩
 have HTS1 := Lib.hid hts; have HB1 := Lib.hid hb1
 have HC := Lib.hid (rsmall12_any S.length (by omega) w1)
 clear hts hb1 HSY
 go_wp2_with fail
 refine HC.out.mono ?_; rintro e w2 ⟨rfl, hb2⟩
 have HB2 := Lib.hid (below_step HB1.out hb2); have HTS := Lib.hid (HTS1.out.later hb2)
 clear hb2 HC HTS1 HB1
 have hz0 := Fr.small_le S.length
 generalize hT0 : Num.smallB S.length = T0 at *
 have HT0 := Lib.hid hT0
 clear hT0
 go_wp2_with fail
 go_loopw [6, 7, 8, 9] (fun v z i _ wr => ∃ k : Nat, k ≤ S.length ∧ i = .int .i64 k ∧ v = .string (T0 ++ Ix.symsB true ByteArray.empty (S.take k)) ∧ z = .string (ahead S k) ∧ Below w2.heap.size w2 wr) (fun _ _ i _ _ => S.length - (intOf i).toNat)
 case atStart => exact ⟨0, by omega, rfl, by show Value.string T0 = .string (T0 ++ ByteArray.empty); rw [ByteArray.append_empty], rfl, Below.refl _ _⟩
 case round =>
  obtain ⟨k, hk, rfl, rfl, rfl, hbr⟩ := hrel
  have HBR := Lib.hid hbr
  clear hbr
  have i0 : (0 : Int) ≤ (k : Int) := by omega
  have hsy := Ix.syms3_size (S.take k) ByteArray.empty (fun x hx => HG.out.short x (List.mem_of_mem_take hx))
  rw [List.length_take] at hsy
  by_cases hlt : k < S.length
  · have i1 : (k : Int) < (S.length : Int) := by omega
    have dd1 : decide ((k : Int) < (S.length : Int)) = true := decide_eq_true i1
    obtain ⟨ad, rfl, x0⟩ := HTS.out.at_ HBR.out hlt
    have hzk := HG.out.short _ (sym_mem hlt)
    have hza := ahead_size S HG.out.short k (by omega)
    have hsh := Ix.shared_le (ahead S k) (S.getD k ByteArray.empty)
    have HTK : Hid (Ix.symsB true ByteArray.empty (S.take (k + 1)) = Ix.symsB true ByteArray.empty (S.take k) ++ (Num.smallB (Ix.shared (ahead S k) (S.getD k ByteArray.empty)) ++ Fr.txt ((S.getD k ByteArray.empty).extract (Ix.shared (ahead S k) (S.getD k ByteArray.empty)) (S.getD k ByteArray.empty).size))) := Lib.hid (by rw [syms_take true S hlt]; rfl)
    have HAS := Lib.hid (ahead_succ S hlt)
    have HCM := Lib.hid (rcommon_any (ahead S k) (S.getD k ByteArray.empty) (by omega) (by omega) wr)
    generalize ahead S k = a at *
    generalize S.getD k ByteArray.empty = s at *
    generalize Ix.shared a s = p at *
    have HTX := Lib.hid (fun U => rtext_txt (s.extract p s.size) (by rw [ByteArray.size_extract]; omega) U)
    have HSM := Lib.hid (fun U => rsmall12_any p (by omega) U)
    have hftz := Fr.txt_size (s.extract p s.size)
    have hsl := Fr.small_le (s.extract p s.size).size
    have hez : (s.extract p s.size).size = s.size - p := by rw [ByteArray.size_extract]; omega
    have hpz := Fr.small_le p
    generalize Fr.txt (s.extract p s.size) = tx at *
    generalize Num.smallB p = f1 at *
    have hp1 : (p : Int) ≤ (s.size : Int) := by omega
    have hp0 : (0 : Int) ≤ (p : Int) := by omega
    obtain ⟨T1, hT1⟩ : ∃ T1, T1 = T0 ++ Ix.symsB true ByteArray.empty (S.take k) := ⟨_, rfl⟩
    have n1 : ¬ 9223372036854775807 < T1.size + f1.size := by rw [hT1, ByteArray.size_append]; omega
    have n2 : ¬ 9223372036854775807 < (T1 ++ f1).size + tx.size := by rw [ByteArray.size_append, hT1, ByteArray.size_append]; omega
    have n3 : ¬ 9223372036854775807 < T1.size + f1.size + tx.size := by rw [hT1, ByteArray.size_append]; omega
    rw [← hT1]
    have HT1 := Lib.hid hT1
    clear hT1 hsy hftz hsl hez
    go_wp2_with fail
    refine HCM.out.mono ?_; rintro e w5 ⟨rfl, hb5⟩
    have HB5 := Lib.hid (below_step HBR.out hb5)
    have x5 := keep_at2 x0 hb5
    have HX5 := Lib.hid x5
    clear hb5 HCM x0
    go_upto_region 10 with fail
    clear x5
    refine plain_robJ [(0, some 45), (1, some 46), (2, some 47), (3, some 48), (4, some 49), (5, some 50), (6, some 51), (7, some 52), (8, some 53), (9, some 54), (10, some 55), (11, some 56)] [12] (fun U V => Below U.heap.size U V) (fun U => Below w5.heap.size w5 U) [(0, .string T1), (1, .int .i64 (p : Int)), (2, .string f1), (3, .string (T1 ++ f1)), (4, .slice (some ad) S.length d), (5, .int .i64 (k : Int)), (6, .pointer (some (ad.add k))), (7, .string s), (8, .int .i64 (p : Int)), (9, .string (s.extract p s.size)), (10, .string tx), (11, .string (T1 ++ f1 ++ tx))] [] 1 (by kernel_rfl) (by kernel_rfl) (by kernel_rfl) ((Below.refl _ _).drew) (fun U V h hb => h.trans (hb.mono h.size)) ?_ ?_ ?_
    · intro p hp; cases hp
    · refine ⟨⟨_, rfl, fun ν U hU hp => ?_⟩, ?_⟩
      · simp only [putsν, Act.put, List.setIfInBounds_toArray, List.set_cons_zero, List.set_cons_succ]
        exact Yld.value (.string T1) U (by kernel_rfl) (by go_simp) ⟨Below.refl _ _, Fx.fixed rfl rfl⟩
      refine ⟨⟨_, rfl, fun ν U hU hp => ?_⟩, ?_⟩
      · simp only [putsν, Act.put, List.setIfInBounds_toArray, List.set_cons_zero, List.set_cons_succ]
        exact Yld.value (.int .i64 (p : Int)) U (by kernel_rfl) (by go_simp) ⟨Below.refl _ _, Fx.fixed rfl rfl⟩
      refine ⟨⟨_, rfl, fun ν U hU hp => ?_⟩, ?_⟩
      · simp only [putsν, Act.put, List.setIfInBounds_toArray, List.set_cons_zero, List.set_cons_succ]
        have e1 := (hp 1 (by kernel_rfl) (by kernel_rfl)).val _ rfl
        simp only [e1]
        refine Yld.call 73 #[.int .i64 (p : Int)] (by kernel_rfl) (by go_simp) ?_
        have hcall := HSM.out U
        refine hcall.mono ?_
        rintro e V ⟨rfl, hb⟩; exact ⟨_, rfl, hb, Fx.fixed rfl rfl⟩
      refine ⟨⟨_, rfl, fun ν U hU hp => ?_⟩, ?_⟩
      · simp only [putsν, Act.put, List.setIfInBounds_toArray, List.set_cons_zero, List.set_cons_succ]
        have e0 := (hp 0 (by kernel_rfl) (by kernel_rfl)).val _ rfl
        have e2 := (hp 2 (by kernel_rfl) (by kernel_rfl)).val _ rfl
        simp only [e0, e2]
        exact Yld.value (.string (T1 ++ f1)) U (by kernel_rfl) (by go_simp) ⟨Below.refl _ _, Fx.fixed rfl rfl⟩
      refine ⟨⟨_, rfl, fun ν U hU hp => ?_⟩, ?_⟩
      · simp only [putsν, Act.put, List.setIfInBounds_toArray, List.set_cons_zero, List.set_cons_succ]
        exact Yld.value (.slice (some ad) S.length d) U (by kernel_rfl) (by go_simp) ⟨Below.refl _ _, Fx.fixed rfl rfl⟩
      refine ⟨⟨_, rfl, fun ν U hU hp => ?_⟩, ?_⟩
      · simp only [putsν, Act.put, List.setIfInBounds_toArray, List.set_cons_zero, List.set_cons_succ]
        exact Yld.value (.int .i64 (k : Int)) U (by kernel_rfl) (by go_simp) ⟨Below.refl _ _, Fx.fixed rfl rfl⟩
      refine ⟨⟨_, rfl, fun ν U hU hp => ?_⟩, ?_⟩
      · simp only [putsν, Act.put, List.setIfInBounds_toArray, List.set_cons_zero, List.set_cons_succ]
        have e4 := (hp 4 (by kernel_rfl) (by kernel_rfl)).val _ rfl
        have e5 := (hp 5 (by kernel_rfl) (by kernel_rfl)).val _ rfl
        simp only [e4, e5]
        exact Yld.value (.pointer (some (ad.add k))) U (by kernel_rfl) (by go_simp) ⟨Below.refl _ _, Fx.fixed rfl rfl⟩
      refine ⟨⟨_, rfl, fun ν U hU hp => ?_⟩, ?_⟩
      · simp only [putsν, Act.put, List.setIfInBounds_toArray, List.set_cons_zero, List.set_cons_succ]
        have e6 := (hp 6 (by kernel_rfl) (by kernel_rfl)).val _ rfl
        simp only [e6]
        exact Yld.value (.string s) U (by kernel_rfl) (by have h0 := keep_at2 HX5.out hU; go_simp) ⟨Below.refl _ _, Fx.fixed rfl rfl⟩
      refine ⟨⟨_, rfl, fun ν U hU hp => ?_⟩, ?_⟩
      · simp only [putsν, Act.put, List.setIfInBounds_toArray, List.set_cons_zero, List.set_cons_succ]
        exact Yld.value (.int .i64 (p : Int)) U (by kernel_rfl) (by go_simp) ⟨Below.refl _ _, Fx.fixed rfl rfl⟩
      refine ⟨⟨_, rfl, fun ν U hU hp => ?_⟩, ?_⟩
      · simp only [putsν, Act.put, List.setIfInBounds_toArray, List.set_cons_zero, List.set_cons_succ]
        have e7 := (hp 7 (by kernel_rfl) (by kernel_rfl)).val _ rfl
        have e8 := (hp 8 (by kernel_rfl) (by kernel_rfl)).val _ rfl
        simp only [e7, e8]
        exact Yld.value (.string (s.extract p s.size)) U (by kernel_rfl) (by go_simp) ⟨Below.refl _ _, Fx.fixed rfl rfl⟩
      refine ⟨⟨_, rfl, fun ν U hU hp => ?_⟩, ?_⟩
      · simp only [putsν, Act.put, List.setIfInBounds_toArray, List.set_cons_zero, List.set_cons_succ]
        have e9 := (hp 9 (by kernel_rfl) (by kernel_rfl)).val _ rfl
        simp only [e9]
        refine Yld.call 74 #[.string (s.extract p s.size)] (by kernel_rfl) (by go_simp) ?_
        have hcall := HTX.out U
        refine hcall.mono ?_
        rintro e V ⟨rfl, hb⟩; exact ⟨_, rfl, hb, Fx.fixed rfl rfl⟩
      refine ⟨⟨_, rfl, fun ν U hU hp => ?_⟩, ?_⟩
      · simp only [putsν, Act.put, List.setIfInBounds_toArray, List.set_cons_zero, List.set_cons_succ]
        have e3 := (hp 3 (by kernel_rfl) (by kernel_rfl)).val _ rfl
        have e10 := (hp 10 (by kernel_rfl) (by kernel_rfl)).val _ rfl
        simp only [e3, e10]
        exact Yld.value (.string (T1 ++ f1 ++ tx)) U (by kernel_rfl) (by go_simp) ⟨Below.refl _ _, Fx.fixed rfl rfl⟩
      trivial
    intro ν w6 hS6 hf
    have e0 := (hf 0 (by kernel_rfl)).val _ rfl
    have e1 := (hf 1 (by kernel_rfl)).val _ rfl
    have e2 := (hf 2 (by kernel_rfl)).val _ rfl
    have e3 := (hf 3 (by kernel_rfl)).val _ rfl
    have e4 := (hf 4 (by kernel_rfl)).val _ rfl
    have e5 := (hf 5 (by kernel_rfl)).val _ rfl
    have e6 := (hf 6 (by kernel_rfl)).val _ rfl
    have e7 := (hf 7 (by kernel_rfl)).val _ rfl
    have e8 := (hf 8 (by kernel_rfl)).val _ rfl
    have e9 := (hf 9 (by kernel_rfl)).val _ rfl
    have e10 := (hf 10 (by kernel_rfl)).val _ rfl
    have e11 := (hf 11 (by kernel_rfl)).val _ rfl
    simp only [putsν, Act.put, List.setIfInBounds_toArray, List.set_cons_zero, List.set_cons_succ, e0, e1, e2, e3, e4, e5, e6, e7, e8, e9, e10, e11]
    clear hf e0 e1 e2 e3 e4 e5 e6 e7 e8 e9 e10 e11
    refine wpAnyT_one (i := 12) (by kernel_rfl) rfl (by kernel_rfl) ?_
    intro K0 hK
    unfold Oper.wp
    go_simp
    have x6 := keep_at2 HX5.out hS6
    have HB6 := Lib.hid (below_step HB5.out hS6)
    clear hS6
    refine hK _ _ (fun _ => trivial) ?_
    clear hK K0
    refine wpAnyT_done (by kernel_rfl) ?_ _
    refine only_mk ?_
    go_wp2_with fail
    go_roundw
    case rel => exact ⟨k + 1, by omega, by go_num, by rw [HTK.out, HT1.out]; simp only [ByteArray.append_assoc], by rw [HAS.out], HB6.out⟩
    case measure => simp [intOf]; omega
  · obtain rfl : k = S.length := by omega
    have dd1 : decide ((S.length : Int) < (S.length : Int)) = false := decide_eq_false (by omega)
    have htk : S.take S.length = S := List.take_length
    rw [htk] at hsy ⊢
    obtain ⟨T1, hT1⟩ : ∃ T1, T1 = T0 ++ Ix.symsB true ByteArray.empty S := ⟨_, rfl⟩
    have hT1z : T1.size ≤ 20000 := by rw [hT1, ByteArray.size_append]; omega
    rw [← hT1]
    have HT1 := Lib.hid hT1
    have HTS3 := Lib.hid (HTS.out.later HBR.out); have HB3 := Lib.hid (below_step HB2.out HBR.out)
    have HC := Lib.hid (rsmall12_any n (by omega) wr)
    have hz1 := Fr.small_le n
    have hcat : ¬ 9223372036854775807 < T1.size + (Num.smallB n).size := by omega
    clear hT1 htk hsy HTS HBR HB2
    generalize ahead S S.length = aS at *
    go_wp2_with fail
    refine HC.out.mono ?_; rintro e w3 ⟨rfl, hb3⟩
    have HTS := Lib.hid (HTS3.out.later hb3); have HB3 := Lib.hid (below_step HB3.out hb3)
    clear hb3 HC HTS3
    obtain ⟨w4, hw4⟩ : ∃ w4, w4 = w3.alloc (.cells #[.slice none 0 0, .int .i64 0, .int .i64 0, .int .i64 0] 77) := ⟨_, rfl⟩
    have hb4 : Below w3.heap.size w3 w4 := by rw [hw4]; exact (Below.refl _ _).alloc (Nat.le_refl _) _
    have hy4 : w4.heap[w3.heap.size]? = some (.cells #[.slice none 0 0, .int .i64 0, .int .i64 0, .int .i64 0] 77 (0, 0)) := by rw [hw4]; exact heap_alloc_new w3 _
    have HB4 := Lib.hid hb4; have HY4 := Lib.hid hy4
    obtain ⟨ab, hab⟩ : ∃ ab, ab = w3.heap.size := ⟨_, rfl⟩
    rw [← hab] at HY4
    have HAB : Hid (w3.heap.size ≤ ab) := Lib.hid (by omega)
    clear hb4 hy4
    go_upto_region 14 with fail
    rw [← hw4, ← hab]
    clear hw4 hab
    obtain ⟨T2, hT2⟩ : ∃ T2, T2 = T1 ++ Num.smallB n := ⟨_, rfl⟩
    have hT2z : T2.size ≤ 20010 := by rw [hT2, ByteArray.size_append]; omega
    rw [← hT2]
    have HT2 := Lib.hid hT2
    clear hT2 hcat hz1
    go_wp2_with fail
    go_loopw [6, 11, 12, 13] (fun v i _ _ wr => ∃ (k : Nat) (v0 : Value) (ao al : Int), k ≤ n ∧ i = .int .i64 k ∧ v = .string (T2 ++ Ix.ents3 S 0 0 (entL q k)) ∧ Below w3.heap.size w3 wr ∧ wr.heap[ab]? = some (.cells #[v0, .int .i64 (Ix.lastOf 0 (entL q k)), .int .i64 ao, .int .i64 al] 77 (0, 0)) ∧ ao + al = Ix.endOf 0 (entL q k) ∧ (0 ≤ ao ∧ ao ≤ 1073741824) ∧ (0 ≤ al ∧ al ≤ 1073741824)) (fun _ i _ _ _ => n - (intOf i).toNat)
    case atStart => exact ⟨0, _, 0, 0, Nat.zero_le _, rfl, by show Value.string T2 = .string (T2 ++ ByteArray.empty); rw [ByteArray.append_empty], HB4.out, HY4.out, rfl, by decide, by decide⟩
    case round =>
     obtain ⟨k, v0, ao, al, hk, rfl, rfl, hbl, hay, hae, hao, hal⟩ := hrel
     have HBL := Lib.hid hbl; have HAY := Lib.hid hay
     clear hbl dd1 hay HB4 HY4
     have i0 : (0 : Int) ≤ (k : Int) := by omega
     have hes := HES.out k hk
     obtain ⟨T5, hT5⟩ : ∃ T5, T5 = T2 ++ Ix.ents3 S 0 0 (entL q k) := ⟨_, rfl⟩
     have hT5z : T5.size ≤ 24000 := by rw [hT5, ByteArray.size_append]; omega
     rw [← hT5]
     have HT5 := Lib.hid hT5
     clear hT5 hes
     by_cases hlt : k < n
     · have i1 : (k : Int) < (n : Int) := by omega
       have dd1 : decide ((k : Int) < (n : Int)) = true := decide_eq_true i1
       have hb0 := HB3.out.trans (HBL.out.mono HB3.out.size)
       obtain ⟨ad, rfl, x0, x1, x2, x3⟩ := HA.out.ents.cells hb0 hlt
       have hl6 := HA.out.labs k hlt
       have r1 := HA.out.last k hlt; have r2 := HA.out.off k hlt; have r3 := HA.out.len k hlt
       have r4 := last_in q HA.out.last (k := k) (by omega)
       have HSN := Lib.hid (HEN.out k)
       have HLN := Lib.hid (Ix.lastOf_snoc (q k).e (entL q k) 0); have HON := Lib.hid (Ix.endOf_snoc (q k).e (entL q k) 0)
       rw [← hae] at HSN
       generalize Ix.lastOf 0 (entL q k) = a1 at *
       obtain ⟨w5, hw5⟩ : ∃ w5, w5 = wr.alloc (.cells (entC (q k)) 77) := ⟨_, rfl⟩
       have hb5 : Below wr.heap.size wr w5 := by rw [hw5]; exact (Below.refl _ _).alloc (Nat.le_refl _) _
       have hy5 : w5.heap[wr.heap.size]? = some (.cells (entC (q k)) 77 (0, 0)) := by rw [hw5]; exact heap_alloc_new wr _
       have HB5 := Lib.hid (below_step HBL.out hb5)
       have HAY5 := Lib.hid (heap_keep HAY.out hb5)
       have HLAB := Lib.hid (((HA.out.ents.each k hlt).row.later hb0).later hb5)
       have HMEM := Lib.hid (HG.out.mem k hlt)
       have hone : Ix.one3 S a1 (ao + al) (q k).e = Num.smallB (q k).e.l.length ++ Ix.labsB S (q k).e.l ++ (Num.smallB (Num.zig ((q k).e.last - a1)) ++ Num.smallB (Num.zig ((q k).e.off - (ao + al))) ++ Num.smallB (Ix.u64 (q k).e.len)) := rfl
       rw [hone] at HSN
       have hof : (q k).e.off - (ao + al) = (q k).e.off - ao - al := by omega
       rw [hof] at HSN
       have HZ1 := Lib.hid (fun U => rzig_any ((q k).e.last - a1) (by omega) U); have HZ2 := Lib.hid (fun U => rzig_any ((q k).e.off - ao - al) (by omega) U)
       have hzl1 := Num.zig_lt ((q k).e.last - a1) (by omega) (by omega); have hzl2 := Num.zig_lt ((q k).e.off - ao - al) (by omega) (by omega)
       have hw1 : IntKind.i64.wrap ((q k).e.last - a1) = (q k).e.last - a1 := IntWalk.i64_in _ (by omega)
       have hw2 : IntKind.i64.wrap ((q k).e.off - ao) = (q k).e.off - ao := IntWalk.i64_in _ (by omega)
       have hw3 : IntKind.i64.wrap ((q k).e.off - ao - al) = (q k).e.off - ao - al := IntWalk.i64_in _ (by omega)
       have HFIN4 : Hid ((0 ≤ (q k).e.off ∧ (q k).e.off ≤ 1073741824) ∧ (0 ≤ (q k).e.len ∧ (q k).e.len ≤ 1073741824)) := Lib.hid ⟨r2, r3⟩
       obtain ⟨zz1, hz1q⟩ : ∃ zz1, zz1 = (q k).e.last - a1 := ⟨_, rfl⟩
       rw [← hz1q] at hw1 HZ1 hzl1 HSN
       have HZ1Q := Lib.hid hz1q.symm
       clear hz1q
       obtain ⟨zo, hzo⟩ : ∃ zo, zo = (q k).e.off - ao := ⟨_, rfl⟩
       rw [← hzo] at hw2 hw3 HZ2 hzl2 HSN
       obtain ⟨zz2, hzz2⟩ : ∃ zz2, zz2 = zo - al := ⟨_, rfl⟩
       rw [← hzz2] at hw3 HZ2 hzl2 HSN
       have HZO := Lib.hid hzo; have HZZ := Lib.hid hzz2
       have HF1 := Lib.hid (fun U => rSmall_any (Num.zig zz1) (Lib.hid hzl1) U); have HF2 := Lib.hid (fun U => rSmall_any (Num.zig zz2) (Lib.hid hzl2) U); have HF3 := Lib.hid (fun U => rsmall_i64 (q k).e.len r3 U)
       have zf1 := Fr.small_le (Num.zig zz1); have zf2 := Fr.small_le (Num.zig zz2); have zf3 := Fr.small_le (Ix.u64 (q k).e.len)
       have HC0 := Lib.hid (fun U => rsmall12_any (q k).e.l.length (by omega) U)
       have hz0 := Fr.small_le (q k).e.l.length
       unfold entC at hw5 hy5
       have y0 := cell_of_row _ _ 0 _ _ _ hy5
       simp only [List.getElem?_toArray, List.getElem?_cons_zero] at y0
       obtain ⟨eb, heb⟩ : ∃ eb, eb = wr.heap.size := ⟨_, rfl⟩
       rw [← heb] at y0 hy5
       have HY5 := Lib.hid hy5
       clear hb5 hy5 hb0 hone hzo hzz2 hof r1 r2 r3 r4 hzl1 hzl2
       generalize Num.smallB (Num.zig zz1) = g1 at *
       generalize Num.smallB (Num.zig zz2) = g2 at *
       generalize Num.smallB (Ix.u64 (q k).e.len) = g3 at *
       generalize Num.zig zz1 = zn1 at *
       generalize Num.zig zz2 = zn2 at *
       generalize (q k).e.l = l at *
       generalize (q k).A = LA at *
       generalize (q k).e.last = la at *
       generalize (q k).e.off = of at *
       generalize (q k).e.len = le at *
       generalize (q k).c = lc at *
       generalize hL0 : Num.smallB l.length = L0 at *
       have HL0 := Lib.hid hL0
       have hs1 : IntKind.i64.wrap (la - a1) = zz1 := by rw [HZ1Q.out]; exact hw1
       have hs2 : IntKind.i64.wrap (of - ao) = zo := by rw [← HZO.out]; exact hw2
       have hs3 : IntKind.i64.wrap (zo - al) = zz2 := by rw [← HZZ.out]; exact hw3
       have HAE := Lib.hid hae; have HAO := Lib.hid hao; have HAL := Lib.hid hal
       clear hL0 hae hao hal
       have hcat : ¬ 9223372036854775807 < T5.size + L0.size := by omega
       go_upto_region 18 with fail
       rw [← hw5, ← heb]
       clear hw5 x0 x1 x2 x3
       have HEB := Lib.hid heb
       clear heb
       go_wp2_with fail
       refine (HC0.out _).mono ?_; rintro e w6 ⟨rfl, hb6⟩
       have HBW := Lib.hid (below_step HB5.out hb6); have HY6 := Lib.hid (heap_keep HY5.out hb6); have HAY6 := Lib.hid (heap_keep HAY5.out hb6)
       have HLAB := Lib.hid (HLAB.out.later hb6)
       have HTS := Lib.hid (HTS.out.later HBW.out)
       clear hb6 HC0 y0 HY5 HB5 HAY5
       go_upto_region 19 with fail
       obtain ⟨T3, hT3⟩ : ∃ T3, T3 = T5 ++ L0 := ⟨_, rfl⟩
       have hT3z : T3.size ≤ 24010 := by rw [hT3, ByteArray.size_append]; omega
       rw [← hT3]
       have HT3 := Lib.hid hT3
       clear hT3 hcat
       go_wp2_with fail
       go_loopw [6, 13] (fun v i wr => ∃ j : Nat, j ≤ l.length ∧ i = .int .i64 j ∧ v = .string (T3 ++ Ix.labsB S (l.take j)) ∧ Below w6.heap.size w6 wr ∧ wr.heap[eb]? = some (.cells #[.slice LA l.length lc, .int .i64 la, .int .i64 of, .int .i64 le] 77 (0, 0))) (fun _ i _ => l.length - (intOf i).toNat)
       case atStart => exact ⟨0, by omega, rfl, by show Value.string T3 = .string (T3 ++ ByteArray.empty); rw [ByteArray.append_empty], Below.refl _ _, HY6.out⟩
       case round =>
        obtain ⟨j, hj, rfl, rfl, hbr, hyr⟩ := hrel
        have HBR := Lib.hid hbr; have HYR := Lib.hid hyr
        clear hbr hyr
        have j0 : (0 : Int) ≤ (j : Int) := by omega
        have hfz := Ix.labsB_size S (l.take j)
        rw [List.length_take] at hfz
        have y0 := cell_of_row _ _ 0 _ _ _ HYR.out
        simp only [List.getElem?_toArray, List.getElem?_cons_zero] at y0
        by_cases hjl : j < l.length
        · have j1 : (j : Int) < (l.length : Int) := by omega
          have dd2 : decide ((j : Int) < (l.length : Int)) = true := decide_eq_true j1
          obtain ⟨lb, rfl, z0, z1⟩ := HLAB.out.at_ HBR.out hjl
          have HZ0 := Lib.hid z0; have HZ1 := Lib.hid z1
          clear z0 z1
          have HFX := Lib.hid (Ix.labsB_take S l hjl)
          obtain ⟨hm1, hm2⟩ := HMEM.out j hjl
          have HP1 := Lib.hid (fun U (hU : Below wr.heap.size wr U) => rplace_any B d S (La.at_ l j).1 (by omega) hm1 U (HTS.out.row.later (below_step HBR.out hU)))
          have HP2 := Lib.hid (fun U (hU : Below wr.heap.size wr U) => rplace_any B d S (La.at_ l j).2 (by omega) hm2 U (HTS.out.row.later (below_step HBR.out hU)))
          have hp1 := (Ix.place_lt hm1).1; have hp2 := (Ix.place_lt hm2).1
          have zf1 := Fr.small_le (Ix.place S (La.at_ l j).1); have zf2 := Fr.small_le (Ix.place S (La.at_ l j).2)
          have HF1 := Lib.hid (fun U => rsmall12_any (Ix.place S (La.at_ l j).1) (by omega) U); have HF2 := Lib.hid (fun U => rsmall12_any (Ix.place S (La.at_ l j).2) (by omega) U)
          generalize Ix.place S (La.at_ l j).1 = p1 at *
          generalize Ix.place S (La.at_ l j).2 = p2 at *
          generalize Num.smallB p1 = f1 at *
          generalize Num.smallB p2 = f2 at *
          generalize (La.at_ l j).1 = s1 at *
          generalize (La.at_ l j).2 = s2 at *
          obtain ⟨T4, hT4⟩ : ∃ T4, T4 = T3 ++ Ix.labsB S (l.take j) := ⟨_, rfl⟩
          have hT4z : T4.size ≤ 30000 := by rw [hT4, ByteArray.size_append]; omega
          rw [← hT4]
          have HT4 := Lib.hid hT4
          clear hT4 hm1 hm2
          have n1 : ¬ 9223372036854775807 < T4.size + f1.size := by omega
          have n2 : ¬ 9223372036854775807 < (T4 ++ f1).size + f2.size := by rw [ByteArray.size_append]; omega
          have n3 : ¬ 9223372036854775807 < T4.size + f1.size + f2.size := by omega
          go_upto_region 22 with fail
          clear y0
          refine plain_robJ [(0, some 90), (1, some 91), (2, some 92), (3, some 93), (4, some 94), (5, some 95), (6, some 96), (7, some 97), (8, some 98), (9, some 99), (10, some 100), (11, some 101), (12, some 102), (13, some 103), (14, some 104), (15, some 105), (16, some 106), (17, some 107), (18, some 108), (19, some 109), (20, some 110)] [21] (fun U V => Below U.heap.size U V) (fun U => Below wr.heap.size wr U) [(0, .string T4), (1, .slice B S.length d), (2, .pointer (some ⟨eb, 0, none⟩)), (3, .slice (some lb) l.length lc), (4, .int .i64 (j : Int)), (5, .pointer (some (lb.add (j * 2)))), (6, .pointer (some (lb.add (j * 2)))), (7, .string s1), (8, .int .i64 (p1 : Int)), (9, .string f1), (10, .string (T4 ++ f1)), (11, .slice B S.length d), (12, .pointer (some ⟨eb, 0, none⟩)), (13, .slice (some lb) l.length lc), (14, .int .i64 (j : Int)), (15, .pointer (some (lb.add (j * 2)))), (16, .pointer (some ⟨(lb.add (j * 2)).block, (lb.add (j * 2)).off + 1, none⟩)), (17, .string s2), (18, .int .i64 (p2 : Int)), (19, .string f2), (20, .string (T4 ++ f1 ++ f2))] [] 1 (by kernel_rfl) (by kernel_rfl) (by kernel_rfl) ((Below.refl _ _).drew) (fun U V h hb => h.trans (hb.mono h.size)) ?_ ?_ ?_
          · intro p hp; cases hp
          · refine ⟨⟨_, rfl, fun ν U hU hp => ?_⟩, ?_⟩
            · simp only [putsν, Act.put, List.setIfInBounds_toArray, List.set_cons_zero, List.set_cons_succ]
              exact Yld.value (.string T4) U (by kernel_rfl) (by go_simp) ⟨Below.refl _ _, Fx.fixed rfl rfl⟩
            refine ⟨⟨_, rfl, fun ν U hU hp => ?_⟩, ?_⟩
            · simp only [putsν, Act.put, List.setIfInBounds_toArray, List.set_cons_zero, List.set_cons_succ]
              exact Yld.value (.slice B S.length d) U (by kernel_rfl) (by go_simp) ⟨Below.refl _ _, Fx.fixed rfl rfl⟩
            refine ⟨⟨_, rfl, fun ν U hU hp => ?_⟩, ?_⟩
            · simp only [putsν, Act.put, List.setIfInBounds_toArray, List.set_cons_zero, List.set_cons_succ]
              exact Yld.value (.pointer (some ⟨eb, 0, none⟩)) U (by kernel_rfl) (by go_simp) ⟨Below.refl _ _, Fx.fixed rfl rfl⟩
            refine ⟨⟨_, rfl, fun ν U hU hp => ?_⟩, ?_⟩
            · simp only [putsν, Act.put, List.setIfInBounds_toArray, List.set_cons_zero, List.set_cons_succ]
              have e2 := (hp 2 (by kernel_rfl) (by kernel_rfl)).val _ rfl
              simp only [e2]
              exact Yld.value (.slice (some lb) l.length lc) U (by kernel_rfl) (by have h0 : U.cell? ⟨eb, 0, none⟩ = some (.slice (some lb) l.length lc) := cell_of_row _ _ _ _ _ _ (heap_keep HYR.out hU); go_simp) ⟨Below.refl _ _, Fx.fixed rfl rfl⟩
            refine ⟨⟨_, rfl, fun ν U hU hp => ?_⟩, ?_⟩
            · simp only [putsν, Act.put, List.setIfInBounds_toArray, List.set_cons_zero, List.set_cons_succ]
              exact Yld.value (.int .i64 (j : Int)) U (by kernel_rfl) (by go_simp) ⟨Below.refl _ _, Fx.fixed rfl rfl⟩
            refine ⟨⟨_, rfl, fun ν U hU hp => ?_⟩, ?_⟩
            · simp only [putsν, Act.put, List.setIfInBounds_toArray, List.set_cons_zero, List.set_cons_succ]
              have e3 := (hp 3 (by kernel_rfl) (by kernel_rfl)).val _ rfl
              have e4 := (hp 4 (by kernel_rfl) (by kernel_rfl)).val _ rfl
              simp only [e3, e4]
              exact Yld.value (.pointer (some (lb.add (j * 2)))) U (by kernel_rfl) (by go_simp) ⟨Below.refl _ _, Fx.fixed rfl rfl⟩
            refine ⟨⟨_, rfl, fun ν U hU hp => ?_⟩, ?_⟩
            · simp only [putsν, Act.put, List.setIfInBounds_toArray, List.set_cons_zero, List.set_cons_succ]
              have e5 := (hp 5 (by kernel_rfl) (by kernel_rfl)).val _ rfl
              simp only [e5]
              exact Yld.value (.pointer (some (lb.add (j * 2)))) U (by kernel_rfl) (by go_simp) ⟨Below.refl _ _, Fx.fixed rfl rfl⟩
            refine ⟨⟨_, rfl, fun ν U hU hp => ?_⟩, ?_⟩
            · simp only [putsν, Act.put, List.setIfInBounds_toArray, List.set_cons_zero, List.set_cons_succ]
              have e6 := (hp 6 (by kernel_rfl) (by kernel_rfl)).val _ rfl
              simp only [e6]
              exact Yld.value (.string s1) U (by kernel_rfl) (by have h0 := keep_at2 HZ0.out hU; go_simp) ⟨Below.refl _ _, Fx.fixed rfl rfl⟩
            refine ⟨⟨_, rfl, fun ν U hU hp => ?_⟩, ?_⟩
            · simp only [putsν, Act.put, List.setIfInBounds_toArray, List.set_cons_zero, List.set_cons_succ]
              have e1 := (hp 1 (by kernel_rfl) (by kernel_rfl)).val _ rfl
              have e7 := (hp 7 (by kernel_rfl) (by kernel_rfl)).val _ rfl
              simp only [e1, e7]
              refine Yld.call 76 #[.slice B S.length d, .string s1] (by kernel_rfl) (by go_simp) ?_
              have hcall := HP1.out U hU
              refine hcall.mono ?_
              rintro e V ⟨rfl, hb⟩; exact ⟨_, rfl, hb, Fx.fixed rfl rfl⟩
            refine ⟨⟨_, rfl, fun ν U hU hp => ?_⟩, ?_⟩
            · simp only [putsν, Act.put, List.setIfInBounds_toArray, List.set_cons_zero, List.set_cons_succ]
              have e8 := (hp 8 (by kernel_rfl) (by kernel_rfl)).val _ rfl
              simp only [e8]
              refine Yld.call 73 #[.int .i64 (p1 : Int)] (by kernel_rfl) (by go_simp) ?_
              have hcall := HF1.out U
              refine hcall.mono ?_
              rintro e V ⟨rfl, hb⟩; exact ⟨_, rfl, hb, Fx.fixed rfl rfl⟩
            refine ⟨⟨_, rfl, fun ν U hU hp => ?_⟩, ?_⟩
            · simp only [putsν, Act.put, List.setIfInBounds_toArray, List.set_cons_zero, List.set_cons_succ]
              have e0 := (hp 0 (by kernel_rfl) (by kernel_rfl)).val _ rfl
              have e9 := (hp 9 (by kernel_rfl) (by kernel_rfl)).val _ rfl
              simp only [e0, e9]
              exact Yld.value (.string (T4 ++ f1)) U (by kernel_rfl) (by go_simp) ⟨Below.refl _ _, Fx.fixed rfl rfl⟩
            refine ⟨⟨_, rfl, fun ν U hU hp => ?_⟩, ?_⟩
            · simp only [putsν, Act.put, List.setIfInBounds_toArray, List.set_cons_zero, List.set_cons_succ]
              exact Yld.value (.slice B S.length d) U (by kernel_rfl) (by go_simp) ⟨Below.refl _ _, Fx.fixed rfl rfl⟩
            refine ⟨⟨_, rfl, fun ν U hU hp => ?_⟩, ?_⟩
            · simp only [putsν, Act.put, List.setIfInBounds_toArray, List.set_cons_zero, List.set_cons_succ]
              exact Yld.value (.pointer (some ⟨eb, 0, none⟩)) U (by kernel_rfl) (by go_simp) ⟨Below.refl _ _, Fx.fixed rfl rfl⟩
            refine ⟨⟨_, rfl, fun ν U hU hp => ?_⟩, ?_⟩
            · simp only [putsν, Act.put, List.setIfInBounds_toArray, List.set_cons_zero, List.set_cons_succ]
              have e12 := (hp 12 (by kernel_rfl) (by kernel_rfl)).val _ rfl
              simp only [e12]
              exact Yld.value (.slice (some lb) l.length lc) U (by kernel_rfl) (by have h0 : U.cell? ⟨eb, 0, none⟩ = some (.slice (some lb) l.length lc) := cell_of_row _ _ _ _ _ _ (heap_keep HYR.out hU); go_simp) ⟨Below.refl _ _, Fx.fixed rfl rfl⟩
            refine ⟨⟨_, rfl, fun ν U hU hp => ?_⟩, ?_⟩
            · simp only [putsν, Act.put, List.setIfInBounds_toArray, List.set_cons_zero, List.set_cons_succ]
              exact Yld.value (.int .i64 (j : Int)) U (by kernel_rfl) (by go_simp) ⟨Below.refl _ _, Fx.fixed rfl rfl⟩
            refine ⟨⟨_, rfl, fun ν U hU hp => ?_⟩, ?_⟩
            · simp only [putsν, Act.put, List.setIfInBounds_toArray, List.set_cons_zero, List.set_cons_succ]
              have e13 := (hp 13 (by kernel_rfl) (by kernel_rfl)).val _ rfl
              have e14 := (hp 14 (by kernel_rfl) (by kernel_rfl)).val _ rfl
              simp only [e13, e14]
              exact Yld.value (.pointer (some (lb.add (j * 2)))) U (by kernel_rfl) (by go_simp) ⟨Below.refl _ _, Fx.fixed rfl rfl⟩
            refine ⟨⟨_, rfl, fun ν U hU hp => ?_⟩, ?_⟩
            · simp only [putsν, Act.put, List.setIfInBounds_toArray, List.set_cons_zero, List.set_cons_succ]
              have e15 := (hp 15 (by kernel_rfl) (by kernel_rfl)).val _ rfl
              simp only [e15]
              exact Yld.value (.pointer (some ⟨(lb.add (j * 2)).block, (lb.add (j * 2)).off + 1, none⟩)) U (by kernel_rfl) (by go_simp) ⟨Below.refl _ _, Fx.fixed rfl rfl⟩
            refine ⟨⟨_, rfl, fun ν U hU hp => ?_⟩, ?_⟩
            · simp only [putsν, Act.put, List.setIfInBounds_toArray, List.set_cons_zero, List.set_cons_succ]
              have e16 := (hp 16 (by kernel_rfl) (by kernel_rfl)).val _ rfl
              simp only [e16]
              exact Yld.value (.string s2) U (by kernel_rfl) (by have h0 := keep_at2 HZ1.out hU; go_simp) ⟨Below.refl _ _, Fx.fixed rfl rfl⟩
            refine ⟨⟨_, rfl, fun ν U hU hp => ?_⟩, ?_⟩
            · simp only [putsν, Act.put, List.setIfInBounds_toArray, List.set_cons_zero, List.set_cons_succ]
              have e11 := (hp 11 (by kernel_rfl) (by kernel_rfl)).val _ rfl
              have e17 := (hp 17 (by kernel_rfl) (by kernel_rfl)).val _ rfl
              simp only [e11, e17]
              refine Yld.call 76 #[.slice B S.length d, .string s2] (by kernel_rfl) (by go_simp) ?_
              have hcall := HP2.out U hU
              refine hcall.mono ?_
              rintro e V ⟨rfl, hb⟩; exact ⟨_, rfl, hb, Fx.fixed rfl rfl⟩
            refine ⟨⟨_, rfl, fun ν U hU hp => ?_⟩, ?_⟩
            · simp only [putsν, Act.put, List.setIfInBounds_toArray, List.set_cons_zero, List.set_cons_succ]
              have e18 := (hp 18 (by kernel_rfl) (by kernel_rfl)).val _ rfl
              simp only [e18]
              refine Yld.call 73 #[.int .i64 (p2 : Int)] (by kernel_rfl) (by go_simp) ?_
              have hcall := HF2.out U
              refine hcall.mono ?_
              rintro e V ⟨rfl, hb⟩; exact ⟨_, rfl, hb, Fx.fixed rfl rfl⟩
            refine ⟨⟨_, rfl, fun ν U hU hp => ?_⟩, ?_⟩
            · simp only [putsν, Act.put, List.setIfInBounds_toArray, List.set_cons_zero, List.set_cons_succ]
              have e10 := (hp 10 (by kernel_rfl) (by kernel_rfl)).val _ rfl
              have e19 := (hp 19 (by kernel_rfl) (by kernel_rfl)).val _ rfl
              simp only [e10, e19]
              exact Yld.value (.string (T4 ++ f1 ++ f2)) U (by kernel_rfl) (by go_simp) ⟨Below.refl _ _, Fx.fixed rfl rfl⟩
            trivial
          intro ν w9 hS9 hf
          have e0 := (hf 0 (by kernel_rfl)).val _ rfl
          have e1 := (hf 1 (by kernel_rfl)).val _ rfl
          have e2 := (hf 2 (by kernel_rfl)).val _ rfl
          have e3 := (hf 3 (by kernel_rfl)).val _ rfl
          have e4 := (hf 4 (by kernel_rfl)).val _ rfl
          have e5 := (hf 5 (by kernel_rfl)).val _ rfl
          have e6 := (hf 6 (by kernel_rfl)).val _ rfl
          have e7 := (hf 7 (by kernel_rfl)).val _ rfl
          have e8 := (hf 8 (by kernel_rfl)).val _ rfl
          have e9 := (hf 9 (by kernel_rfl)).val _ rfl
          have e10 := (hf 10 (by kernel_rfl)).val _ rfl
          have e11 := (hf 11 (by kernel_rfl)).val _ rfl
          have e12 := (hf 12 (by kernel_rfl)).val _ rfl
          have e13 := (hf 13 (by kernel_rfl)).val _ rfl
          have e14 := (hf 14 (by kernel_rfl)).val _ rfl
          have e15 := (hf 15 (by kernel_rfl)).val _ rfl
          have e16 := (hf 16 (by kernel_rfl)).val _ rfl
          have e17 := (hf 17 (by kernel_rfl)).val _ rfl
          have e18 := (hf 18 (by kernel_rfl)).val _ rfl
          have e19 := (hf 19 (by kernel_rfl)).val _ rfl
          have e20 := (hf 20 (by kernel_rfl)).val _ rfl
          simp only [putsν, Act.put, List.setIfInBounds_toArray, List.set_cons_zero, List.set_cons_succ, e0, e1, e2, e3, e4, e5, e6, e7, e8, e9, e10, e11, e12, e13, e14, e15, e16, e17, e18, e19, e20]
          clear hf e0 e1 e2 e3 e4 e5 e6 e7 e8 e9 e10 e11 e12 e13 e14 e15 e16 e17 e18 e19 e20
          refine wpAnyT_one (i := 21) (by kernel_rfl) rfl (by kernel_rfl) ?_
          intro K0 hK
          unfold Oper.wp
          go_simp
          have HY9 := Lib.hid (heap_keep HYR.out hS9)
          have HB9 := Lib.hid (below_step HBR.out hS9)
          clear hS9
          refine hK _ _ (fun _ => trivial) ?_
          clear hK K0
          refine wpAnyT_done (by kernel_rfl) ?_ _
          refine only_mk ?_
          go_wp2_with fail
          go_roundw
          case rel => exact ⟨j + 1, by omega, by go_num, by rw [HFX.out, HT4.out]; simp only [ByteArray.append_assoc], HB9.out, HY9.out⟩
          case measure => simp [intOf]; omega
        · obtain rfl : j = l.length := by omega
          have dd2 : decide ((l.length : Int) < (l.length : Int)) = false := decide_eq_false (by omega)
          have htk : l.take l.length = l := List.take_length
          rw [htk] at hfz ⊢
          obtain ⟨T4, hT4⟩ : ∃ T4, T4 = T3 ++ Ix.labsB S l := ⟨_, rfl⟩
          have hT4z : T4.size ≤ 30000 := by rw [hT4, ByteArray.size_append]; omega
          rw [← hT4]
          have HT4 := Lib.hid hT4
          clear hT4 htk
          have n1 : ¬ 9223372036854775807 < T4.size + g1.size := by omega
          have n2 : ¬ 9223372036854775807 < (T4 ++ g1).size + g2.size := by rw [ByteArray.size_append]; omega
          have n3 : ¬ 9223372036854775807 < (T4 ++ g1 ++ g2).size + g3.size := by rw [ByteArray.size_append, ByteArray.size_append]; omega
          have n4 : ¬ 9223372036854775807 < T4.size + g1.size + g2.size := by omega
          have n5 : ¬ 9223372036854775807 < T4.size + g1.size + g2.size + g3.size := by omega
          have HAYR := Lib.hid (heap_keep HAY6.out HBR.out)
          go_upto_region 25 with fail
          clear y0
          refine plain_robJ [(0, some 127), (1, some 128), (2, some 129), (3, some 130), (4, some 131), (5, some 132), (6, some 133), (7, some 134), (8, some 135), (9, some 136), (10, some 137), (11, some 138), (12, some 139), (13, some 140), (14, some 141), (15, some 142), (16, some 143), (17, some 144), (18, some 145), (19, some 146), (20, some 147), (21, some 148), (22, some 149), (23, some 150)] [24] (fun U V => Below U.heap.size U V) (fun U => Below wr.heap.size wr U) [(0, .string T4), (1, .pointer (some ⟨eb, 1, none⟩)), (2, .int .i64 la), (3, .pointer (some ⟨ab, 1, none⟩)), (4, .int .i64 a1), (5, .int .i64 zz1), (6, .int .u64 (zn1 : Int)), (7, .string g1), (8, .string (T4 ++ g1)), (9, .pointer (some ⟨eb, 2, none⟩)), (10, .int .i64 of), (11, .pointer (some ⟨ab, 2, none⟩)), (12, .int .i64 ao), (13, .int .i64 zo), (14, .pointer (some ⟨ab, 3, none⟩)), (15, .int .i64 al), (16, .int .i64 zz2), (17, .int .u64 (zn2 : Int)), (18, .string g2), (19, .string (T4 ++ g1 ++ g2)), (20, .pointer (some ⟨eb, 3, none⟩)), (21, .int .i64 le), (22, .string g3), (23, .string (T4 ++ g1 ++ g2 ++ g3))] [] 1 (by kernel_rfl) (by kernel_rfl) (by kernel_rfl) ((Below.refl _ _).drew) (fun U V h hb => h.trans (hb.mono h.size)) ?_ ?_ ?_
          · intro p hp; cases hp
          · refine ⟨⟨_, rfl, fun ν U hU hp => ?_⟩, ?_⟩
            · simp only [putsν, Act.put, List.setIfInBounds_toArray, List.set_cons_zero, List.set_cons_succ]
              exact Yld.value (.string T4) U (by kernel_rfl) (by go_simp) ⟨Below.refl _ _, Fx.fixed rfl rfl⟩
            refine ⟨⟨_, rfl, fun ν U hU hp => ?_⟩, ?_⟩
            · simp only [putsν, Act.put, List.setIfInBounds_toArray, List.set_cons_zero, List.set_cons_succ]
              exact Yld.value (.pointer (some ⟨eb, 1, none⟩)) U (by kernel_rfl) (by go_simp) ⟨Below.refl _ _, Fx.fixed rfl rfl⟩
            refine ⟨⟨_, rfl, fun ν U hU hp => ?_⟩, ?_⟩
            · simp only [putsν, Act.put, List.setIfInBounds_toArray, List.set_cons_zero, List.set_cons_succ]
              have e1 := (hp 1 (by kernel_rfl) (by kernel_rfl)).val _ rfl
              simp only [e1]
              exact Yld.value (.int .i64 la) U (by kernel_rfl) (by have h0 : U.cell? ⟨eb, 1, none⟩ = some (.int .i64 la) := cell_of_row _ _ _ _ _ _ (heap_keep HYR.out hU); go_simp) ⟨Below.refl _ _, Fx.fixed rfl rfl⟩
            refine ⟨⟨_, rfl, fun ν U hU hp => ?_⟩, ?_⟩
            · simp only [putsν, Act.put, List.setIfInBounds_toArray, List.set_cons_zero, List.set_cons_succ]
              exact Yld.value (.pointer (some ⟨ab, 1, none⟩)) U (by kernel_rfl) (by go_simp) ⟨Below.refl _ _, Fx.fixed rfl rfl⟩
            refine ⟨⟨_, rfl, fun ν U hU hp => ?_⟩, ?_⟩
            · simp only [putsν, Act.put, List.setIfInBounds_toArray, List.set_cons_zero, List.set_cons_succ]
              have e3 := (hp 3 (by kernel_rfl) (by kernel_rfl)).val _ rfl
              simp only [e3]
              exact Yld.value (.int .i64 a1) U (by kernel_rfl) (by have h0 : U.cell? ⟨ab, 1, none⟩ = some (.int .i64 a1) := cell_of_row _ _ _ _ _ _ (heap_keep HAYR.out hU); go_simp) ⟨Below.refl _ _, Fx.fixed rfl rfl⟩
            refine ⟨⟨_, rfl, fun ν U hU hp => ?_⟩, ?_⟩
            · simp only [putsν, Act.put, List.setIfInBounds_toArray, List.set_cons_zero, List.set_cons_succ]
              have e2 := (hp 2 (by kernel_rfl) (by kernel_rfl)).val _ rfl
              have e4 := (hp 4 (by kernel_rfl) (by kernel_rfl)).val _ rfl
              simp only [e2, e4]
              exact Yld.value (.int .i64 zz1) U (by kernel_rfl) (by go_simp) ⟨Below.refl _ _, Fx.fixed rfl rfl⟩
            refine ⟨⟨_, rfl, fun ν U hU hp => ?_⟩, ?_⟩
            · simp only [putsν, Act.put, List.setIfInBounds_toArray, List.set_cons_zero, List.set_cons_succ]
              have e5 := (hp 5 (by kernel_rfl) (by kernel_rfl)).val _ rfl
              simp only [e5]
              refine Yld.call 78 #[.int .i64 zz1] (by kernel_rfl) (by go_simp) ?_
              have hcall := HZ1.out U
              refine hcall.mono ?_
              rintro e V ⟨rfl, hb⟩; exact ⟨_, rfl, hb, Fx.fixed rfl rfl⟩
            refine ⟨⟨_, rfl, fun ν U hU hp => ?_⟩, ?_⟩
            · simp only [putsν, Act.put, List.setIfInBounds_toArray, List.set_cons_zero, List.set_cons_succ]
              have e6 := (hp 6 (by kernel_rfl) (by kernel_rfl)).val _ rfl
              simp only [e6]
              refine Yld.call 77 #[.int .u64 (zn1 : Int)] (by kernel_rfl) (by go_simp) ?_
              have hcall := HF1.out U
              refine hcall.mono ?_
              rintro e V ⟨rfl, hb⟩; exact ⟨_, rfl, hb, Fx.fixed rfl rfl⟩
            refine ⟨⟨_, rfl, fun ν U hU hp => ?_⟩, ?_⟩
            · simp only [putsν, Act.put, List.setIfInBounds_toArray, List.set_cons_zero, List.set_cons_succ]
              have e0 := (hp 0 (by kernel_rfl) (by kernel_rfl)).val _ rfl
              have e7 := (hp 7 (by kernel_rfl) (by kernel_rfl)).val _ rfl
              simp only [e0, e7]
              exact Yld.value (.string (T4 ++ g1)) U (by kernel_rfl) (by go_simp) ⟨Below.refl _ _, Fx.fixed rfl rfl⟩
            refine ⟨⟨_, rfl, fun ν U hU hp => ?_⟩, ?_⟩
            · simp only [putsν, Act.put, List.setIfInBounds_toArray, List.set_cons_zero, List.set_cons_succ]
              exact Yld.value (.pointer (some ⟨eb, 2, none⟩)) U (by kernel_rfl) (by go_simp) ⟨Below.refl _ _, Fx.fixed rfl rfl⟩
            refine ⟨⟨_, rfl, fun ν U hU hp => ?_⟩, ?_⟩
            · simp only [putsν, Act.put, List.setIfInBounds_toArray, List.set_cons_zero, List.set_cons_succ]
              have e9 := (hp 9 (by kernel_rfl) (by kernel_rfl)).val _ rfl
              simp only [e9]
              exact Yld.value (.int .i64 of) U (by kernel_rfl) (by have h0 : U.cell? ⟨eb, 2, none⟩ = some (.int .i64 of) := cell_of_row _ _ _ _ _ _ (heap_keep HYR.out hU); go_simp) ⟨Below.refl _ _, Fx.fixed rfl rfl⟩
            refine ⟨⟨_, rfl, fun ν U hU hp => ?_⟩, ?_⟩
            · simp only [putsν, Act.put, List.setIfInBounds_toArray, List.set_cons_zero, List.set_cons_succ]
              exact Yld.value (.pointer (some ⟨ab, 2, none⟩)) U (by kernel_rfl) (by go_simp) ⟨Below.refl _ _, Fx.fixed rfl rfl⟩
            refine ⟨⟨_, rfl, fun ν U hU hp => ?_⟩, ?_⟩
            · simp only [putsν, Act.put, List.setIfInBounds_toArray, List.set_cons_zero, List.set_cons_succ]
              have e11 := (hp 11 (by kernel_rfl) (by kernel_rfl)).val _ rfl
              simp only [e11]
              exact Yld.value (.int .i64 ao) U (by kernel_rfl) (by have h0 : U.cell? ⟨ab, 2, none⟩ = some (.int .i64 ao) := cell_of_row _ _ _ _ _ _ (heap_keep HAYR.out hU); go_simp) ⟨Below.refl _ _, Fx.fixed rfl rfl⟩
            refine ⟨⟨_, rfl, fun ν U hU hp => ?_⟩, ?_⟩
            · simp only [putsν, Act.put, List.setIfInBounds_toArray, List.set_cons_zero, List.set_cons_succ]
              have e10 := (hp 10 (by kernel_rfl) (by kernel_rfl)).val _ rfl
              have e12 := (hp 12 (by kernel_rfl) (by kernel_rfl)).val _ rfl
              simp only [e10, e12]
              exact Yld.value (.int .i64 zo) U (by kernel_rfl) (by go_simp) ⟨Below.refl _ _, Fx.fixed rfl rfl⟩
            refine ⟨⟨_, rfl, fun ν U hU hp => ?_⟩, ?_⟩
            · simp only [putsν, Act.put, List.setIfInBounds_toArray, List.set_cons_zero, List.set_cons_succ]
              exact Yld.value (.pointer (some ⟨ab, 3, none⟩)) U (by kernel_rfl) (by go_simp) ⟨Below.refl _ _, Fx.fixed rfl rfl⟩
            refine ⟨⟨_, rfl, fun ν U hU hp => ?_⟩, ?_⟩
            · simp only [putsν, Act.put, List.setIfInBounds_toArray, List.set_cons_zero, List.set_cons_succ]
              have e14 := (hp 14 (by kernel_rfl) (by kernel_rfl)).val _ rfl
              simp only [e14]
              exact Yld.value (.int .i64 al) U (by kernel_rfl) (by have h0 : U.cell? ⟨ab, 3, none⟩ = some (.int .i64 al) := cell_of_row _ _ _ _ _ _ (heap_keep HAYR.out hU); go_simp) ⟨Below.refl _ _, Fx.fixed rfl rfl⟩
            refine ⟨⟨_, rfl, fun ν U hU hp => ?_⟩, ?_⟩
            · simp only [putsν, Act.put, List.setIfInBounds_toArray, List.set_cons_zero, List.set_cons_succ]
              have e13 := (hp 13 (by kernel_rfl) (by kernel_rfl)).val _ rfl
              have e15 := (hp 15 (by kernel_rfl) (by kernel_rfl)).val _ rfl
              simp only [e13, e15]
              exact Yld.value (.int .i64 zz2) U (by kernel_rfl) (by go_simp) ⟨Below.refl _ _, Fx.fixed rfl rfl⟩
            refine ⟨⟨_, rfl, fun ν U hU hp => ?_⟩, ?_⟩
            · simp only [putsν, Act.put, List.setIfInBounds_toArray, List.set_cons_zero, List.set_cons_succ]
              have e16 := (hp 16 (by kernel_rfl) (by kernel_rfl)).val _ rfl
              simp only [e16]
              refine Yld.call 78 #[.int .i64 zz2] (by kernel_rfl) (by go_simp) ?_
              have hcall := HZ2.out U
              refine hcall.mono ?_
              rintro e V ⟨rfl, hb⟩; exact ⟨_, rfl, hb, Fx.fixed rfl rfl⟩
            refine ⟨⟨_, rfl, fun ν U hU hp => ?_⟩, ?_⟩
            · simp only [putsν, Act.put, List.setIfInBounds_toArray, List.set_cons_zero, List.set_cons_succ]
              have e17 := (hp 17 (by kernel_rfl) (by kernel_rfl)).val _ rfl
              simp only [e17]
              refine Yld.call 77 #[.int .u64 (zn2 : Int)] (by kernel_rfl) (by go_simp) ?_
              have hcall := HF2.out U
              refine hcall.mono ?_
              rintro e V ⟨rfl, hb⟩; exact ⟨_, rfl, hb, Fx.fixed rfl rfl⟩
            refine ⟨⟨_, rfl, fun ν U hU hp => ?_⟩, ?_⟩
            · simp only [putsν, Act.put, List.setIfInBounds_toArray, List.set_cons_zero, List.set_cons_succ]
              have e8 := (hp 8 (by kernel_rfl) (by kernel_rfl)).val _ rfl
              have e18 := (hp 18 (by kernel_rfl) (by kernel_rfl)).val _ rfl
              simp only [e8, e18]
              exact Yld.value (.string (T4 ++ g1 ++ g2)) U (by kernel_rfl) (by go_simp) ⟨Below.refl _ _, Fx.fixed rfl rfl⟩
            refine ⟨⟨_, rfl, fun ν U hU hp => ?_⟩, ?_⟩
            · simp only [putsν, Act.put, List.setIfInBounds_toArray, List.set_cons_zero, List.set_cons_succ]
              exact Yld.value (.pointer (some ⟨eb, 3, none⟩)) U (by kernel_rfl) (by go_simp) ⟨Below.refl _ _, Fx.fixed rfl rfl⟩
            refine ⟨⟨_, rfl, fun ν U hU hp => ?_⟩, ?_⟩
            · simp only [putsν, Act.put, List.setIfInBounds_toArray, List.set_cons_zero, List.set_cons_succ]
              have e20 := (hp 20 (by kernel_rfl) (by kernel_rfl)).val _ rfl
              simp only [e20]
              exact Yld.value (.int .i64 le) U (by kernel_rfl) (by have h0 : U.cell? ⟨eb, 3, none⟩ = some (.int .i64 le) := cell_of_row _ _ _ _ _ _ (heap_keep HYR.out hU); go_simp) ⟨Below.refl _ _, Fx.fixed rfl rfl⟩
            refine ⟨⟨_, rfl, fun ν U hU hp => ?_⟩, ?_⟩
            · simp only [putsν, Act.put, List.setIfInBounds_toArray, List.set_cons_zero, List.set_cons_succ]
              have e21 := (hp 21 (by kernel_rfl) (by kernel_rfl)).val _ rfl
              simp only [e21]
              refine Yld.call 73 #[.int .i64 le] (by kernel_rfl) (by go_simp) ?_
              have hcall := HF3.out U
              refine hcall.mono ?_
              rintro e V ⟨rfl, hb⟩; exact ⟨_, rfl, hb, Fx.fixed rfl rfl⟩
            refine ⟨⟨_, rfl, fun ν U hU hp => ?_⟩, ?_⟩
            · simp only [putsν, Act.put, List.setIfInBounds_toArray, List.set_cons_zero, List.set_cons_succ]
              have e19 := (hp 19 (by kernel_rfl) (by kernel_rfl)).val _ rfl
              have e22 := (hp 22 (by kernel_rfl) (by kernel_rfl)).val _ rfl
              simp only [e19, e22]
              exact Yld.value (.string (T4 ++ g1 ++ g2 ++ g3)) U (by kernel_rfl) (by go_simp) ⟨Below.refl _ _, Fx.fixed rfl rfl⟩
            trivial
          intro ν w9 hS9 hf
          have e0 := (hf 0 (by kernel_rfl)).val _ rfl
          have e1 := (hf 1 (by kernel_rfl)).val _ rfl
          have e2 := (hf 2 (by kernel_rfl)).val _ rfl
          have e3 := (hf 3 (by kernel_rfl)).val _ rfl
          have e4 := (hf 4 (by kernel_rfl)).val _ rfl
          have e5 := (hf 5 (by kernel_rfl)).val _ rfl
          have e6 := (hf 6 (by kernel_rfl)).val _ rfl
          have e7 := (hf 7 (by kernel_rfl)).val _ rfl
          have e8 := (hf 8 (by kernel_rfl)).val _ rfl
          have e9 := (hf 9 (by kernel_rfl)).val _ rfl
          have e10 := (hf 10 (by kernel_rfl)).val _ rfl
          have e11 := (hf 11 (by kernel_rfl)).val _ rfl
          have e12 := (hf 12 (by kernel_rfl)).val _ rfl
          have e13 := (hf 13 (by kernel_rfl)).val _ rfl
          have e14 := (hf 14 (by kernel_rfl)).val _ rfl
          have e15 := (hf 15 (by kernel_rfl)).val _ rfl
          have e16 := (hf 16 (by kernel_rfl)).val _ rfl
          have e17 := (hf 17 (by kernel_rfl)).val _ rfl
          have e18 := (hf 18 (by kernel_rfl)).val _ rfl
          have e19 := (hf 19 (by kernel_rfl)).val _ rfl
          have e20 := (hf 20 (by kernel_rfl)).val _ rfl
          have e21 := (hf 21 (by kernel_rfl)).val _ rfl
          have e22 := (hf 22 (by kernel_rfl)).val _ rfl
          have e23 := (hf 23 (by kernel_rfl)).val _ rfl
          simp only [putsν, Act.put, List.setIfInBounds_toArray, List.set_cons_zero, List.set_cons_succ, e0, e1, e2, e3, e4, e5, e6, e7, e8, e9, e10, e11, e12, e13, e14, e15, e16, e17, e18, e19, e20, e21, e22, e23]
          clear hf e0 e1 e2 e3 e4 e5 e6 e7 e8 e9 e10 e11 e12 e13 e14 e15 e16 e17 e18 e19 e20 e21 e22 e23
          refine wpAnyT_one (i := 24) (by kernel_rfl) rfl (by kernel_rfl) ?_
          intro K0 hK
          unfold Oper.wp
          go_simp
          have HB9 := Lib.hid (below_step HBW.out (below_step HBR.out hS9))
          have hay9 := heap_keep HAYR.out hS9; have hey9 := heap_keep HYR.out hS9
          have HST := Lib.hid (four_set hay9 (.slice LA l.length lc) (.int .i64 la) (.int .i64 of) (.int .i64 le) HAB.out)
          have e0 := cell_of_row _ _ 0 _ _ _ hey9; have e1 := cell_of_row _ _ 1 _ _ _ hey9; have e2 := cell_of_row _ _ 2 _ _ _ hey9; have e3 := cell_of_row _ _ 3 _ _ _ hey9
          have a0 := cell_of_row _ _ 0 _ _ _ hay9; have b1 := cell_of_row _ _ 1 _ _ _ hay9; have b2 := cell_of_row _ _ 2 _ _ _ hay9; have b3 := cell_of_row _ _ 3 _ _ _ hay9
          have fz0 := frozen_of_row _ _ 0 _ _ hay9; have fz1 := frozen_of_row _ _ 1 _ _ hay9; have fz2 := frozen_of_row _ _ 2 _ _ hay9; have fz3 := frozen_of_row _ _ 3 _ _ hay9
          simp only [List.getElem?_toArray, List.getElem?_cons_zero, List.getElem?_cons_succ] at e0 e1 e2 e3 a0 b1 b2 b3
          clear hS9 hay9 hey9
          refine hK _ _ (fun _ => trivial) ?_
          clear hK K0
          refine wpAnyT_done (by kernel_rfl) ?_ _
          refine only_mk ?_
          go_upto_region 16 with fail
          have hst := HST.out
          clear HST e0 e1 e2 e3 a0 b1 b2 b3 fz0 fz1 fz2 fz3 hs1 hs2 hs3
          generalize (((w9.setCell ⟨ab, 0, none⟩ (.slice LA l.length lc)).setCell ⟨ab, 1, none⟩ (.int .i64 la)).setCell ⟨ab, 2, none⟩ (.int .i64 of)).setCell ⟨ab, 3, none⟩ (.int .i64 le) = w10 at hst ⊢
          have HS10 := Lib.hid hst
          clear hst
          go_wp2_with fail
          go_roundw
          case rel => exact ⟨k + 1, .slice LA l.length lc, of, le, by omega, by go_num, by rw [entL_succ, HSN.out, HT4.out, HT3.out, HT5.out]; simp only [ByteArray.append_assoc], HB9.out.trans HS10.out.2, by rw [entL_succ, HLN.out]; exact HS10.out.1, by rw [entL_succ, HON.out], HFIN4.out.1, HFIN4.out.2⟩
          case measure => simp [intOf]; omega
     · obtain rfl : k = n := by omega
       have dd1 : decide ((k : Int) < (k : Int)) = false := decide_eq_false (Int.lt_irrefl _)
       have hb0 := HB3.out.trans (HBL.out.mono HB3.out.size)
       have HB0 := Lib.hid hb0
       have HLA := Lib.hid (rlabels_any A k c q wr ⟨HA.out.ents.later hb0, HA.out.few, HA.out.labs, HA.out.short, HA.out.last, HA.out.off, HA.out.len⟩)
       have HE := Lib.hid (HA.out.ents.later hb0)
       obtain ⟨K, hK⟩ : ∃ K, K = Ix.labAll (entL q k) := ⟨_, rfl⟩
       rw [← hK] at HLA HKL
       have HKK := Lib.hid hK
       have hk120 := HKL.out
       have hl20 := entL_length q k
       clear hb0 hK HA HEN HES HG HTS HAY hae hao hal
       go_wp2_with fail
       refine HLA.out.mono ?_; rintro e w7 ⟨B7, d7, rfl, hl7, hb7⟩
       have HLS := Lib.hid hl7; have HB7 := Lib.hid (HB0.out.trans (hb7.mono HB0.out.size)); have HE7 := Lib.hid (HE.out.later hb7)
       clear hl7 hb7 HLA HE
       go_wp2_with fail
       clear dd1
       go_loopw [6, 15, 16, 17, 18] (fun v i _ _ _ wr => ∃ m : Nat, m ≤ K.length ∧ i = .int .i64 m ∧ v = .string (T5 ++ Ix.postsB (entL q k) (K.take m)) ∧ Below w7.heap.size w7 wr) (fun _ i _ _ _ _ => K.length - (intOf i).toNat)
       case atStart => exact ⟨0, Nat.zero_le _, rfl, by rw [List.take_zero]; show Value.string T5 = .string (T5 ++ ByteArray.empty); rw [ByteArray.append_empty], Below.refl _ _⟩
       case round =>
        obtain ⟨m, hm, rfl, rfl, hbr⟩ := hrel
        have HBR := Lib.hid hbr
        clear hbr
        have m0 : (0 : Int) ≤ (m : Int) := by omega
        have hps := Ix.postsB_size (entL q k) (by omega) (K.take m)
        rw [List.length_take] at hps
        by_cases hml : m < K.length
        · have m1 : (m : Int) < (K.length : Int) := by omega
          have dd2 : decide ((m : Int) < (K.length : Int)) = true := decide_eq_true m1
          obtain ⟨ad2, rfl, g0, g1⟩ := HLS.out.at_ HBR.out hml
          have HTK := Lib.hid (posts_take q k K hml)
          have HPO := Lib.hid (rPostings_any A k c q (La.at_ K m) wr (HE7.out.later HBR.out))
          have hsl := Ma.sel_length (hasE q (La.at_ K m)) k
          have HFR := Lib.hid (sel_from (hasE q (La.at_ K m)) k); have HSZ := Lib.hid (sel_small (hasE q (La.at_ K m)) k)
          obtain ⟨T6, hT6⟩ : ∃ T6, T6 = T5 ++ Ix.postsB (entL q k) (K.take m) := ⟨_, rfl⟩
          have hT6z : T6.size ≤ 50000 := by rw [hT6, ByteArray.size_append]; omega
          rw [← hT6]
          have HT6 := Lib.hid hT6
          clear hT6 hps
          generalize La.at_ K m = x at *
          obtain ⟨x1, x2⟩ := x
          simp only at g0 g1 HPO HTK HFR HSZ hsl
          generalize Ma.sel (hasE q (x1, x2)) k = PP at *
          go_wp2_with fail
          refine HPO.out.mono ?_; rintro e w8 ⟨v8, rfl, ho8, hb8⟩
          obtain ⟨P8, c8, rfl, hr8⟩ := nat_row ho8
          have HC := Lib.hid (rsmall12_any PP.length (by omega) w8)
          have HB8 := Lib.hid (below_step HBR.out hb8)
          have HR8 := Lib.hid hr8
          have hz1 := Fr.small_le PP.length
          clear ho8 hr8 hb8 HPO g0 g1
          generalize Num.smallB PP.length = L1 at *
          have hcat : ¬ 9223372036854775807 < T6.size + L1.size := by omega
          go_wp2_with fail
          refine HC.out.mono ?_; rintro e w9 ⟨rfl, hb9⟩
          have HB9 := Lib.hid (below_step HB8.out hb9); have HR9 := Lib.hid (HR8.out.later hb9)
          clear hb9 HC HB8 HR8
          go_upto_region 35 with fail
          obtain ⟨T7, hT7⟩ : ∃ T7, T7 = T6 ++ L1 := ⟨_, rfl⟩
          have hT7z : T7.size ≤ 50010 := by rw [hT7, ByteArray.size_append]; omega
          rw [← hT7]
          have HT7 := Lib.hid hT7
          clear hT7 hcat hz1
          go_wp2_with fail
          go_loopw [6, 17, 18] (fun v f i wr => ∃ z : Nat, z ≤ PP.length ∧ i = .int .i64 z ∧ v = .string (T7 ++ Ix.diffsB 0 (PP.take z)) ∧ f = .int .i64 (((PP.take z).getLast?.getD 0 : Nat) : Int) ∧ Below w9.heap.size w9 wr) (fun _ _ i _ => PP.length - (intOf i).toNat)
          case atStart => exact ⟨0, Nat.zero_le _, rfl, by rw [List.take_zero]; show Value.string T7 = .string (T7 ++ ByteArray.empty); rw [ByteArray.append_empty], by rw [List.take_zero]; rfl, Below.refl _ _⟩
          case round =>
           obtain ⟨z, hz, rfl, rfl, rfl, hbq⟩ := hrel
           have HBQ := Lib.hid hbq
           clear hbq
           have z0 : (0 : Int) ≤ (z : Int) := by omega
           have hds := Ix.diffs_size (PP.take z) 0
           rw [List.length_take] at hds
           by_cases hzl : z < PP.length
           · have z1 : (z : Int) < (PP.length : Int) := by omega
             have dd3 : decide ((z : Int) < (PP.length : Int)) = true := decide_eq_true z1
             obtain ⟨ad3, rfl, c0, -⟩ := HR9.out.at_ HBQ.out hzl
             have x0 : wr.cell? (ad3.add z) = some (.int .i64 ((PP.getD z 0 : Nat) : Int)) := by have h1 := c0 (by decide); rw [Nat.mul_one] at h1; exact h1
             have HDT := Lib.hid (diffs_take PP hzl); have HLS2 := Lib.hid (last_succ PP hzl)
             have hfr := HFR.out z hzl; have hsz := HSZ.out z hzl
             obtain ⟨T8, hT8⟩ : ∃ T8, T8 = T7 ++ Ix.diffsB 0 (PP.take z) := ⟨_, rfl⟩
             have hT8z : T8.size ≤ 60000 := by rw [hT8, ByteArray.size_append]; omega
             rw [← hT8]
             have HT8 := Lib.hid hT8
             clear hT8 hds c0
             generalize (PP.take z).getLast?.getD 0 = fr at *
             generalize PP.getD z 0 = pz at *
             obtain ⟨dd, hdd⟩ : ∃ dd, dd = pz - fr := ⟨_, rfl⟩
             rw [← hdd] at HDT
             have hsub : IntKind.i64.wrap ((pz : Int) - (fr : Int)) = (dd : Int) := by rw [IntKind.wrap_i64]; omega
             have HC := Lib.hid (rsmall12_any dd (by omega) wr)
             have hdz := Fr.small_le dd
             clear hdd hfr hsz
             generalize Num.smallB dd = fd at *
             have hcat : ¬ 9223372036854775807 < T8.size + fd.size := by omega
             go_wp2_with fail
             refine HC.out.mono ?_; rintro e w12 ⟨rfl, hb12⟩
             have HB12 := Lib.hid (below_step HBQ.out hb12)
             have x1 := keep_at2 x0 hb12
             clear hb12 HC x0 hsub
             go_wp2_with fail
             go_roundw
             case rel => exact ⟨z + 1, by omega, by go_num, by rw [HDT.out, HT8.out, ByteArray.append_assoc], by rw [HLS2.out], HB12.out⟩
             case measure => simp [intOf]; omega
           · obtain rfl : z = PP.length := by omega
             have dd3 : decide ((PP.length : Int) < (PP.length : Int)) = false := decide_eq_false (Int.lt_irrefl _)
             have htk : PP.take PP.length = PP := List.take_length
             rw [htk]
             obtain ⟨T8, hT8⟩ : ∃ T8, T8 = T7 ++ Ix.diffsB 0 PP := ⟨_, rfl⟩
             rw [← hT8]
             have HT8 := Lib.hid hT8
             have HB12 := Lib.hid (below_step HB9.out HBQ.out)
             clear hT8 htk hds
             generalize PP.getLast?.getD 0 = fr at *
             go_wp2_with fail
             go_roundw
             case rel => exact ⟨m + 1, by omega, by go_num, by rw [HTK.out, HT8.out, HT7.out, HT6.out]; simp only [ByteArray.append_assoc], HB12.out⟩
             case measure => simp [intOf]; omega
        · obtain rfl : m = K.length := by omega
          have dd2 : decide ((K.length : Int) < (K.length : Int)) = false := decide_eq_false (Int.lt_irrefl _)
          have htk : K.take K.length = K := List.take_length
          rw [htk]
          go_wp2_with fail
          go_ret
          rw [← HKK.out]
          exact ⟨by rw [HT5.out, HT2.out, HT1.out, HT0.out]; simp only [ByteArray.append_assoc]; rfl, below_step HB7.out HBR.out⟩
end Go.Proofs.YtliobahnekohmaaGreat
