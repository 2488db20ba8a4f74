/-
  Entries in generation 2: the walk.
-/
import Derived.Test.YtliobahnekohmaaGreatIxH
namespace Go.Proofs.YtliobahnekohmaaGreat
open Go.RowKit
namespace Ix
theorem place_at {S : List ByteArray} (hR : Rising S) {i : Nat} (hi : i < S.length) : place S (S.getD i ByteArray.empty) = i := by
 have hm : S.getD i ByteArray.empty ∈ S := by rw [List.getD_eq_getElem?_getD, List.getElem?_eq_getElem hi]; exact List.getElem_mem hi
 obtain ⟨h1, h2⟩ := place_lt hm
 generalize hp : place S (S.getD i ByteArray.empty) = p at *
 have e1 : S.getD p ByteArray.empty = S[p] := by simp [List.getD, h1]
 have e2 : S.getD i ByteArray.empty = S[i] := by simp [List.getD, hi]
 rw [e1, e2] at h2
 rcases Nat.lt_trichotomy p i with h | h | h
 · have := List.pairwise_iff_getElem.1 hR p i h1 hi h
   rw [h2, La.less_irrefl] at this; cases this
 · exact h
 · have := List.pairwise_iff_getElem.1 hR i p hi h1 h
   rw [h2, La.less_irrefl] at this; cases this
theorem symsB_snoc (sh : Bool) (x : ByteArray) : ∀ (S : List ByteArray) (a : ByteArray), symsB sh a (S ++ [x]) = symsB sh a S ++ (if sh = true then Num.smallB (shared (S.getLast?.getD a) x) ++ Fr.txt (x.extract (shared (S.getLast?.getD a) x) x.size) else Fr.txt x)
 | [], a => by
  show (if sh = true then _ else _) ++ ByteArray.empty = ByteArray.empty ++ _
  rw [ByteArray.append_empty, ByteArray.empty_append]; rfl
 | y :: S, a => by
  have hl : (y :: S).getLast?.getD a = S.getLast?.getD y := by
   cases S with
   | nil => rfl
   | cons z T =>
    rw [List.getLast?_cons_cons]
    cases h : (z :: T).getLast? with
    | none => simp at h
    | some v => rfl
  rw [hl]
  show (if sh = true then _ else _) ++ symsB sh y (S ++ [x]) = ((if sh = true then _ else _) ++ symsB sh y S) ++ _
  rw [symsB_snoc sh x S y]
  simp only [ByteArray.append_assoc]
theorem syms2_size : ∀ (S : List ByteArray) (a : ByteArray), (∀ x ∈ S, x.size ≤ 48) → (symsB false a S).size ≤ 58 * S.length
 | [], _, _ => Nat.le_refl _
 | x :: S, a, h => by
  have ih := syms2_size S x fun y hy => h y (List.mem_cons_of_mem _ hy)
  have h1 := h x (List.mem_cons_self ..)
  have h2 := Fr.small_le x.size
  show (Fr.txt x ++ symsB false x S).size ≤ _
  rw [ByteArray.size_append, Fr.txt_size, List.length_cons]; omega
theorem syms3_size : ∀ (S : List ByteArray) (a : ByteArray), (∀ x ∈ S, x.size ≤ 48) → (symsB true a S).size ≤ 68 * S.length
 | [], _, _ => Nat.le_refl _
 | x :: S, a, h => by
  have ih := syms3_size S x fun y hy => h y (List.mem_cons_of_mem _ hy)
  have h1 := h x (List.mem_cons_self ..)
  have h2 := Fr.small_le (x.extract (shared a x) x.size).size
  have h3 := Fr.small_le (shared a x)
  show ((Num.smallB (shared a x) ++ Fr.txt (x.extract (shared a x) x.size)) ++ symsB true x S).size ≤ _
  rw [ByteArray.size_append, ByteArray.size_append, Fr.txt_size, ByteArray.size_extract, List.length_cons]
  rw [ByteArray.size_extract] at h2
  omega
theorem one2_size (S : List ByteArray) (e : Ent) : (one2 S e).size ≤ 40 + 20 * e.l.length := by
 have h0 := Fr.small_le e.l.length
 have h1 := labsB_size S e.l
 have h2 := Fr.small_le (u64 e.last)
 have h3 := Fr.small_le (u64 e.off)
 have h4 := Fr.small_le (u64 e.len)
 unfold one2
 simp only [ByteArray.size_append]
 omega
theorem ents2_size (S : List ByteArray) (q : Nat → EAt) {n : Nat} (h : ∀ i, i < n → (q i).e.l.length ≤ 6) : ∀ k, k ≤ n → (ents (one2 S) (entL q k)).size ≤ 160 * k
 | 0, _ => Nat.le_refl _
 | k + 1, hk => by
  have ih := ents2_size S q h k (by omega)
  have h1 := h k (by omega)
  have h2 := one2_size S (q k).e
  rw [entL_succ, ents_snoc, ByteArray.size_append]
  omega
end Ix
structure SGood (q : Nat → EAt) (n : Nat) (S : List ByteArray) : Prop where
 rise : Ix.Rising S
 few : S.length ≤ 240
 short : ∀ x ∈ S, x.size ≤ 48
 mem : ∀ i, i < n → ∀ j, j < (q i).e.l.length → (La.at_ (q i).e.l j).1 ∈ S ∧ (La.at_ (q i).e.l j).2 ∈ S
theorem lab_mem {l : List Lab} {x : Lab} (h : x ∈ l) : ∃ j, j < l.length ∧ La.at_ l j = x := by
 obtain ⟨j, hj, rfl⟩ := List.getElem_of_mem h
 exact ⟨j, hj, by unfold La.at_; simp [List.getD, hj]⟩
theorem sgood {w0 : World} {A : Option Addr} {n : Nat} {q : Nat → EAt} (h : EGood w0 A n q) : SGood q n (Ix.syms (entL q n)) := by
 have hmem : ∀ e ∈ entL q n, ∃ i, i < n ∧ e = (q i).e := fun e he => by
  obtain ⟨i, hi, rfl⟩ := List.mem_map.1 he
  exact ⟨i, List.mem_range.1 hi, rfl⟩
 refine ⟨Ix.insAll_rising _, ?_, fun y hy => ?_, fun i hi j hj => ?_⟩
 · have h1 := Ix.insAll_length (Ix.words (entL q n))
   have h2 := Ix.words_length (entL q n) (fun e he => by obtain ⟨i, hi, rfl⟩ := hmem e he; exact h.labs i hi)
   rw [entL_length] at h2
   have := h.few
   unfold Ix.syms
   omega
 · obtain ⟨e, he, x, hx, hxy⟩ := Ix.syms_mem.1 hy
   obtain ⟨i, hi, rfl⟩ := hmem e he
   obtain ⟨j, hj, rfl⟩ := lab_mem hx
   obtain ⟨s1, s2⟩ := h.short i hi j hj
   rcases hxy with rfl | rfl
   · exact s1
   · exact s2
 · have he : (q i).e ∈ entL q n := List.mem_map.2 ⟨i, List.mem_range.2 hi, rfl⟩
   have hx : La.at_ (q i).e.l j ∈ (q i).e.l := by
    have e : La.at_ (q i).e.l j = (q i).e.l[j] := by unfold La.at_; simp [List.getD, hj]
    rw [e]; exact List.getElem_mem hj
   exact ⟨Ix.syms_mem.2 ⟨_, he, _, hx, Or.inl rfl⟩, Ix.syms_mem.2 ⟨_, he, _, hx, Or.inr rfl⟩⟩
theorem placeF_new {S : List ByteArray} (h : Ix.Rising S) {i : Nat} (hi : i < S.length) : placeF S (i + 1) (.string (S.getD i ByteArray.empty)) = some (.int .i64 (i : Int)) := by
 rw [placeF_str, Ix.place_at h hi, if_pos (by omega)]
theorem placeF_old {S : List ByteArray} {i : Nat} (hi : i < S.length) (x : Value) (hx : x ≠ .string (S.getD i ByteArray.empty)) : placeF S (i + 1) x = placeF S i x := by
 cases x <;> try rfl
 rename_i s
 rw [placeF_str, placeF_str]
 by_cases hp : Ix.place S s = i
 · exfalso
   have hs : S.getD i ByteArray.empty = s := by
    have hlt : Ix.place S s < S.length := by omega
    have := List.findIdx_getElem (w := hlt)
    rw [← hp, List.getD_eq_getElem?_getD, List.getElem?_eq_getElem hlt]
    exact of_decide_eq_true this
   exact hx (by rw [hs])
 · by_cases h1 : Ix.place S s < i
   · rw [if_pos h1, if_pos (by omega)]
   · rw [if_neg h1, if_neg (by omega)]
theorem SRow.wrote {base : Nat} {w V : World} {B : Option Addr} {K : List ByteArray} (h : SRow w B K) (hw : Wrote base w V) : SRow V B K := by
 refine ⟨fun hn => ?_, fun hn ad e => ?_⟩
 · obtain ⟨ad, e, hlt, hc⟩ := h.row hn
   obtain ⟨cs, fr, hcs⟩ := h.typ hn ad e
   have hv := hw.block hcs (by decide)
   refine ⟨ad, e, Nat.lt_of_lt_of_le hlt hw.size, fun i hi j hj => ?_⟩
   rw [← hc i hi j hj]
   unfold World.cell?
   rw [addr_block, hv, hcs]
 · obtain ⟨cs, fr, hcs⟩ := h.typ hn ad e
   exact ⟨cs, fr, hw.block hcs (by decide)⟩
theorem cells_mapped {P : Program} {k : TypeId} {w V : World} {mb m : Nat} {F : Value → Option Value} (hm : MapIs P k w mb m F) (hg : w.grownBy V (some mb)) {g : Nat} {cs : Array Value} {T : Nat} {fr : Nat × Nat} (hc : w.heap[g]? = some (.cells cs T fr)) : V.heap[g]? = some (.cells cs T fr) := by
 refine (hg.block g (Array.getElem?_eq_some_iff.1 hc).1 (fun e => ?_)).trans hc
 cases e
 obtain ⟨es, clock, hb, -⟩ := hm
 rw [hb] at hc
 cases hc
theorem SRow.mapped {P : Program} {k : TypeId} {w V : World} {mb m : Nat} {F : Value → Option Value} {B : Option Addr} {K : List ByteArray} (h : SRow w B K) (hm : MapIs P k w mb m F) (hg : w.grownBy V (some mb)) (hs : V.heap.size = w.heap.size) : SRow V B K := by
 refine ⟨fun hn => ?_, fun hn ad e => ?_⟩
 · obtain ⟨ad, e, hlt, hc⟩ := h.row hn
   obtain ⟨cs, fr, hcs⟩ := h.typ hn ad e
   have hv := cells_mapped hm hg hcs
   refine ⟨ad, e, by rw [hs]; exact hlt, fun i hi j hj => ?_⟩
   rw [← hc i hi j hj]
   unfold World.cell?
   rw [addr_block, hv, hcs]
 · obtain ⟨cs, fr, hcs⟩ := h.typ hn ad e
   exact ⟨cs, fr, cells_mapped hm hg hcs⟩
theorem Wr.mapped {P : Program} {k : TypeId} {w V : World} {mb2 m base b mb : Nat} {F : Value → Option Value} {T : ByteArray} (h : Wr w base b mb T) (hm : MapIs P k w mb2 m F) (hg : w.grownBy V (some mb2)) : Wr V base b mb T := by
 obtain ⟨h1, p, v, h2, h3, h4⟩ := h
 refine ⟨h1, p, v, h2, cells_mapped hm hg h3, ?_⟩
 refine ⟨h4.1, ?_⟩
 rcases h4.2 with h0 | ⟨g, cap, cur, rfl, hb, hc, hx⟩
 · exact Or.inl h0
 · exact Or.inr ⟨g, cap, cur, rfl, hb, cells_mapped hm hg hc, hx⟩
structure Sec (w0 w U : World) (b mb : Nat) (S : List ByteArray) (B : Option Addr) (m : Nat) (T : ByteArray) : Prop where
 bel : Below w0.heap.size w U
 wr : Wr U w0.heap.size b mb T
 pl : Places U mb S m
 sy : SRow U B S
 lo : w0.heap.size ≤ mb
theorem Sec.later {w0 w U V : World} {b mb : Nat} {S : List ByteArray} {B : Option Addr} {m : Nat} {T : ByteArray} (h : Sec w0 w U b mb S B m T) (hs : w0.heap.size ≤ U.heap.size) (hb : Below U.heap.size U V) : Sec w0 w V b mb S B m T :=
 ⟨h.bel.trans (hb.mono hs), h.wr.later hb, h.pl.later hb, h.sy.later hb, h.lo⟩
theorem Sec.step {w0 w U V : World} {b mb : Nat} {S : List ByteArray} {B : Option Addr} {m : Nat} {T T2 : ByteArray} (h : Sec w0 w U b mb S B m T) (hw : Wrote w0.heap.size U V) (hr : Wr V w0.heap.size b mb T2) : Sec w0 w V b mb S B m T2 :=
 ⟨h.bel.trans hw.bel, hr, h.pl.wrote hw, h.sy.wrote hw, h.lo⟩
theorem Sec.put {w0 w U : World} {b mb : Nat} {S : List ByteArray} {B : Option Addr} {m : Nat} {T : ByteArray} (h : Sec w0 w U b mb S B m T) (hR : Ix.Rising S) (hm : m < S.length) (hz : (S.getD m ByteArray.empty).size ≤ maxLen) (hs : w0.heap.size ≤ U.heap.size) :
 ∃ V, (Instr.mapUpdate 66 (.map (some mb)) (.string (S.getD m ByteArray.empty)) (.int .i64 (m : Int))).run Tryz.prog U = .ok () V ∧ Sec w0 w V b mb S B (m + 1) T ∧ V.heap.size = U.heap.size := by
 obtain ⟨V, h1, h2, h3, h4⟩ := MapIs.put (t := 66) (e := 3) h.pl wlaw Tryz.underlying66 (wkey hz) (val := .int .i64 (m : Int)) (placeF S (m + 1)) (placeF_new hR hm) (fun x hx => placeF_old hm x hx)
 exact ⟨V, h1, ⟨h.bel.grown h3 (by have := h.bel.size; omega) (fun r e => by cases e; exact h.lo), h.wr.mapped h.pl h3, h2, h.sy.mapped h.pl h3 h4, h.lo⟩, h4⟩
theorem u64w {n : Int} (h : 0 ≤ n ∧ n ≤ 1125899906842624) : IntKind.u64.wrap n = n := by simp [IntKind.wrap, IntKind.bits, IntKind.signed]; omega
theorem u64c {n : Int} (h : 0 ≤ n ∧ n ≤ 1125899906842624) : ((Ix.u64 n : Nat) : Int) = n := by rw [Ix.u64_nat h]; omega
set_option maxRecDepth 100000 in
set_option maxHeartbeats 8000000 in
theorem second_any (w0 : World) (A : Option Addr) (n c : Nat) (q : Nat → EAt) (b mb : Nat) (w : World) (h : EGood w0 A n q) (hw0 : Below w0.heap.size w0 w) (hw : Wr w w0.heap.size b mb ByteArray.empty) (hm : Places w mb (Ix.syms (entL q n)) 0) (hlo : w0.heap.size ≤ mb) :
 Calls Tryz.prog 31 #[.pointer (some ⟨b, 0, none⟩), .slice A n c] w fun e w' => e = .returned (.tuple #[]) ∧ Wr w' w0.heap.size b mb (Num.smallB (Ix.syms (entL q n)).length ++ Ix.symsB false ByteArray.empty (Ix.syms (entL q n)) ++ (Num.smallB n ++ Ix.ents (Ix.one2 (Ix.syms (entL q n))) (entL q n))) ∧ Below w0.heap.size w w' := by
 have HA := Lib.hid h; have HW0 := Lib.hid hw0
 have hn := h.few
 have HSY := Lib.hid (Symbols_any A n c q w (h.ents.later hw0))
 have HG := Lib.hid (sgood h)
 obtain ⟨S, hS⟩ : ∃ S, S = Ix.syms (entL q n) := ⟨_, rfl⟩
 rw [← hS] at HSY HG hm ⊢
 have hs240 := HG.out.few
 have HES := Lib.hid (Ix.ents2_size S q h.labs); have HEN := Lib.hid (fun k => Ix.ents_snoc (Ix.one2 S) (q k).e (entL q k))
 have HBS := Lib.hid hw0.size; have HW := Lib.hid hw; have HM := Lib.hid hm; have HLO := Lib.hid hlo
 clear h hw0 hS hw hm hlo
 go_enter Tryz.func31, Tryz.ntmps31
 go_wp2_with fail
 refine HSY.out.mono ?_; rintro e w1 ⟨B, d, rfl, hsr, hb1⟩
 have HS1 : Hid (Sec w0 w w1 b mb S B 0 ByteArray.empty) := Lib.hid ⟨hb1.mono HBS.out, HW.out.later hb1, HM.out.later hb1, hsr, HLO.out⟩
 have hsz1 := hb1.size
 have hb2 : Below w1.heap.size w1 (w1.alloc (.cells #[.int .u64 (S.length : Int)] 103)) := (Below.refl _ _).alloc (Nat.le_refl _) _
 have HS2 := Lib.hid (HS1.out.later (by have := HBS.out; omega) hb2)
 have HSM := Lib.hid (built_any w0.heap.size b mb ByteArray.empty [S.length] _ w1.heap.size 1 1 (w1.alloc (.cells #[.int .u64 (S.length : Int)] 103)) HS2.out.wr (by decide) rfl (by simp) (fun n hn => by rw [List.mem_singleton.1 hn]; omega) (by have := hb2.size; have := HBS.out; omega) (heap_alloc_new w1 _) (one_cells S.length))
 rw [smalls_one, ByteArray.empty_append] at HSM
 have hu := u64w (n := (S.length : Int)) (by omega)
 clear hsr hb1 hb2 hsz1 HSY HS1 HW HM
 go_wp2_with fail
 refine HSM.out.mono ?_; rintro e w3 ⟨rfl, hw3, hr3⟩
 have HS3 := Lib.hid (HS2.out.step hr3 hw3)
 clear hw3 hr3 HSM HS2 hu
 have hz0 := Fr.small_le S.length
 generalize hT0 : Num.smallB S.length = T0 at *
 have HT0 := Lib.hid hT0
 clear hT0
 go_wp2_with fail
 go_loopw [19] (fun i wr => ∃ k : Nat, k ≤ S.length ∧ i = .int .i64 k ∧ Sec w0 w wr b mb S B k (T0 ++ Ix.symsB false ByteArray.empty (S.take k))) (fun i _ => S.length - (intOf i).toNat)
 case atStart => exact ⟨0, by omega, rfl, by show Sec _ _ _ _ _ _ _ _ (T0 ++ ByteArray.empty); rw [ByteArray.append_empty]; exact HS3.out⟩
 case round =>
  obtain ⟨k, hk, rfl, hsec⟩ := hrel
  have HSE := Lib.hid hsec
  clear hsec
  have i0 : (0 : Int) ≤ (k : Int) := by omega
  by_cases hlt : k < S.length
  · have i1 : (k : Int) < (S.length : Int) := by omega
    have dd1 : decide ((k : Int) < (S.length : Int)) = true := decide_eq_true i1
    obtain ⟨ad, rfl, x0r, -⟩ := HSE.out.sy.row.at_ (Below.refl _ _) hlt
    have x0 : wr.cell? (ad.add k) = some (.string (S.getD k ByteArray.empty)) := by
     have h1 := x0r (by decide)
     rw [Nat.mul_one] at h1
     exact h1
    clear x0r
    have hmemk : S.getD k ByteArray.empty ∈ S := by rw [List.getD_eq_getElem?_getD, List.getElem?_eq_getElem hlt]; exact List.getElem_mem hlt
    have hzk := HG.out.short _ hmemk
    have hws : w0.heap.size ≤ wr.heap.size := by have := HSE.out.bel.size; have := HW0.out.size; omega
    obtain ⟨V, hrun, hsec2, hvs⟩ := HSE.out.put HG.out.rise hlt (by unfold maxLen; omega) hws
    have hq2 := WrAt.map HSE.out.wr
    have HTK : Hid (Ix.symsB false ByteArray.empty (S.take (k + 1)) = Ix.symsB false ByteArray.empty (S.take k) ++ Fr.txt (S.getD k ByteArray.empty)) := Lib.hid (by
     rw [List.take_add_one, List.getElem?_eq_getElem hlt, List.getD_eq_getElem?_getD, List.getElem?_eq_getElem hlt]
     exact Ix.symsB_snoc false _ _ _)
    have hsy := Ix.syms2_size (S.take k) ByteArray.empty (fun x hx => HG.out.short x (List.mem_of_mem_take hx))
    rw [List.length_take] at hsy
    have HTX := Lib.hid (fun U => Text_any (S.getD k ByteArray.empty) (by omega) U)
    have hft : Num.smallB (S.getD k ByteArray.empty).size ++ S.getD k ByteArray.empty = Fr.txt (S.getD k ByteArray.empty) := rfl
    have hftz := Fr.txt_size (S.getD k ByteArray.empty)
    have hsl := Fr.small_le (S.getD k ByteArray.empty).size
    rw [hft] at HTX
    generalize Fr.txt (S.getD k ByteArray.empty) = tx at *
    generalize S.getD k ByteArray.empty = s at *
    have HSV := Lib.hid hsec2
    clear hsec2 hmemk hft
    go_upto_region 6 with fail
    clear hrun x0 hq2
    go_wp2_with fail
    refine (HTX.out V).mono ?_; rintro e w5 ⟨rfl, hb5⟩
    have HS5 := Lib.hid (HSV.out.later (by omega) hb5)
    have HT5 := Lib.hid (text_any w0.heap.size b mb (T0 ++ Ix.symsB false ByteArray.empty (S.take k)) tx w5 HS5.out.wr (by rw [ByteArray.size_append]; omega) (by have := hb5.size; omega))
    clear hb5 HTX HSV hsl
    go_wp2_with fail
    refine HT5.out.mono ?_; rintro e w6 ⟨rfl, hw6, hr6⟩
    have HS6 := Lib.hid (HS5.out.step hr6 hw6)
    clear hw6 hr6 HT5 HS5
    go_wp2_with fail
    go_roundw
    case rel => exact ⟨k + 1, by omega, by go_num, by rw [HTK.out, ← ByteArray.append_assoc]; exact HS6.out⟩
    case measure => simp [intOf]; omega
  · obtain rfl : k = S.length := by omega
    have dd1 : decide ((S.length : Int) < (S.length : Int)) = false := decide_eq_false (by omega)
    have hsec := HSE.out
    rw [List.take_length] at hsec
    have hsy := Ix.syms2_size S ByteArray.empty HG.out.short
    obtain ⟨T1, hT1⟩ : ∃ T1, T1 = T0 ++ Ix.symsB false ByteArray.empty S := ⟨_, rfl⟩
    have hT1z : T1.size ≤ 20000 := by rw [hT1, ByteArray.size_append]; omega
    rw [← hT1] at hsec
    have HT1 := Lib.hid hT1
    have hws : w0.heap.size ≤ wr.heap.size := by have := hsec.bel.size; have := HW0.out.size; omega
    have hb2 : Below wr.heap.size wr (wr.alloc (.cells #[.int .u64 (n : Int)] 103)) := (Below.refl _ _).alloc (Nat.le_refl _) _
    have HS2 := Lib.hid (hsec.later hws hb2)
    have HSM := Lib.hid (built_any w0.heap.size b mb T1 [n] _ wr.heap.size 1 1 (wr.alloc (.cells #[.int .u64 (n : Int)] 103)) HS2.out.wr (by omega) rfl (by simp) (fun n hn => by rw [List.mem_singleton.1 hn]; omega) (by have := hb2.size; omega) (heap_alloc_new wr _) (one_cells n))
    rw [smalls_one] at HSM
    have hu := u64w (n := (n : Int)) (by omega)
    clear hsec hb2 hT1 hsy HSE HS3
    go_wp2_with fail
    refine HSM.out.mono ?_; rintro e w3 ⟨rfl, hw3, hr3⟩
    have HS3 := Lib.hid (HS2.out.step hr3 hw3)
    clear hw3 hr3 HSM HS2 hu
    have hz1 := Fr.small_le n
    generalize hT2 : T1 ++ Num.smallB n = T2 at *
    have hT2z : T2.size ≤ 20010 := by rw [← hT2, ByteArray.size_append]; omega
    have HT2 := Lib.hid hT2
    clear hT2 hz1
    go_wp2_with fail
    go_loopw [43] (fun i wr => ∃ k : Nat, k ≤ n ∧ i = .int .i64 k ∧ Sec w0 w wr b mb S B S.length (T2 ++ Ix.ents (Ix.one2 S) (entL q k))) (fun i _ => n - (intOf i).toNat)
    case atStart => exact ⟨0, by omega, rfl, by show Sec _ _ _ _ _ _ _ _ (T2 ++ ByteArray.empty); rw [ByteArray.append_empty]; exact HS3.out⟩
    case round =>
     obtain ⟨k, hk, rfl, hsec⟩ := hrel
     have HSE := Lib.hid hsec
     clear hsec dd1
     have i0 : (0 : Int) ≤ (k : Int) := by omega
     by_cases hlt : k < n
     · have i1 : (k : Int) < (n : Int) := by omega
       have dd1 : decide ((k : Int) < (n : Int)) = true := decide_eq_true i1
       have hws : w0.heap.size ≤ wr.heap.size := by have := HSE.out.bel.size; have := HW0.out.size; omega
       have hb0 := HW0.out.trans HSE.out.bel
       obtain ⟨ad, rfl, x0, x1, x2, x3⟩ := HA.out.ents.cells hb0 hlt
       have hl6 := HA.out.labs k hlt
       have r1 := HA.out.last k hlt; have r2 := HA.out.off k hlt; have r3 := HA.out.len k hlt
       have hes := HES.out k (by omega)
       have HSN := Lib.hid (HEN.out k)
       obtain ⟨T3, hT3⟩ : ∃ T3, T3 = T2 ++ Ix.ents (Ix.one2 S) (entL q k) := ⟨_, rfl⟩
       have hT3z : T3.size ≤ 24000 := by rw [hT3, ByteArray.size_append]; omega
       rw [← hT3] at HSE
       have HT3 := Lib.hid hT3
       obtain ⟨w5, hw5⟩ : ∃ w5, w5 = wr.alloc (.cells (entC (q k)) 59) := ⟨_, rfl⟩
       have hb5 : Below wr.heap.size wr w5 := by rw [hw5]; exact (Below.refl _ _).alloc (Nat.le_refl _) _
       have hy5 : w5.heap[wr.heap.size]? = some (.cells (entC (q k)) 59 (0, 0)) := by rw [hw5]; exact heap_alloc_new wr _
       have HS5 := Lib.hid (HSE.out.later hws hb5)
       have HLB := Lib.hid (labels_any w0 (q k) b mb S T3 w5 (HA.out.ents.each k hlt).row hl6 (by omega) (HG.out.mem k hlt) (HA.out.short k hlt) (by omega) (hb0.trans (hb5.mono hws)) HS5.out.wr HS5.out.pl)
       have hlbz := Ix.labsB_size S (q k).e.l
       unfold entC at hw5 hy5 HLB
       have y0 := cell_of_row _ _ 0 _ _ _ hy5; have y1 := cell_of_row _ _ 1 _ _ _ hy5; have y2 := cell_of_row _ _ 2 _ _ _ hy5; have y3 := cell_of_row _ _ 3 _ _ _ hy5
       simp only [List.getElem?_toArray, List.getElem?_cons_zero, List.getElem?_cons_succ] at y0 y1 y2 y3
       obtain ⟨eb, heb⟩ : ∃ eb, eb = wr.heap.size := ⟨_, rfl⟩
       rw [← heb] at y0 y1 y2 y3 hy5
       have HY5 := Lib.hid hy5
       have hsn5 := hb5.size
       clear hb0 hT3 hb5 hy5 hes HSE
       go_upto_region 12 with fail
       rw [← hw5, ← heb]
       clear hw5 heb x0 x1 x2 x3
       go_wp2_with fail
       refine HLB.out.mono ?_; rintro e w7 ⟨rfl, hw7, hr7⟩
       have HS7 := Lib.hid (HS5.out.step hr7 hw7)
       have hy7 := hr7.block HY5.out (by decide)
       clear y0 y1 y2 y3
       have y1 := cell_of_row _ _ 1 _ _ _ hy7; have y2 := cell_of_row _ _ 2 _ _ _ hy7; have y3 := cell_of_row _ _ 3 _ _ _ hy7
       simp only [List.getElem?_toArray, List.getElem?_cons_zero, List.getElem?_cons_succ] at y1 y2 y3
       have hsz7 := hr7.size
       have hu1 := u64w r1; have hu2 := u64w (n := (q k).e.off) (by omega); have hu3 := u64w (n := (q k).e.len) (by omega)
       have hc3 := three_u64 (Ix.u64 (q k).e.last) (Ix.u64 (q k).e.off) (Ix.u64 (q k).e.len)
       rw [u64c r1, u64c (n := (q k).e.off) (by omega), u64c (n := (q k).e.len) (by omega)] at hc3
       have hb8 : Below w7.heap.size w7 (w7.alloc (.cells #[.int .u64 (q k).e.last, .int .u64 (q k).e.off, .int .u64 (q k).e.len] 103)) := (Below.refl _ _).alloc (Nat.le_refl _) _
       have HS8 := Lib.hid (HS7.out.later (by omega) hb8)
       have hnl := Fr.small_le (q k).e.l.length
       have HSM := Lib.hid (built_any w0.heap.size b mb (T3 ++ (Num.smallB (q k).e.l.length ++ Ix.labsB S (q k).e.l)) [Ix.u64 (q k).e.last, Ix.u64 (q k).e.off, Ix.u64 (q k).e.len] _ w7.heap.size 3 3 (w7.alloc (.cells #[.int .u64 (q k).e.last, .int .u64 (q k).e.off, .int .u64 (q k).e.len] 103)) HS8.out.wr (by simp only [ByteArray.size_append]; omega) rfl (by simp) (fun n hn => by
        rcases List.mem_cons.1 hn with e | e
        · rw [e]; exact Ix.u64_lt _
        · rcases List.mem_cons.1 e with e | e
          · rw [e]; exact Ix.u64_lt _
          · rw [List.mem_singleton.1 e]; exact Ix.u64_lt _) (by have := hb8.size; omega) (heap_alloc_new w7 _) hc3)
       rw [smalls_three] at HSM
       have hone : Ix.one2 S (q k).e = Num.smallB (q k).e.l.length ++ Ix.labsB S (q k).e.l ++ (Num.smallB (Ix.u64 (q k).e.last) ++ Num.smallB (Ix.u64 (q k).e.off) ++ Num.smallB (Ix.u64 (q k).e.len)) := rfl
       have HONE := Lib.hid hone
       clear hw7 hr7 hy7 hc3 hb8 hone HLB HS7 HS5 HY5
       go_wp2_with fail
       refine HSM.out.mono ?_; rintro e w9 ⟨rfl, hw9, hr9⟩
       have HS9 := Lib.hid (HS8.out.step hr9 hw9)
       clear hw9 hr9 HSM HS8 y1 y2 y3 hu1 hu2 hu3
       go_wp2_with fail
       go_roundw
       case rel => exact ⟨k + 1, by omega, by go_num, by rw [entL_succ, HSN.out, HONE.out]; have h10 := HS9.out; rw [HT3.out] at h10; simp only [ByteArray.append_assoc] at h10 ⊢; exact h10⟩
       case measure => simp [intOf]; omega
     · obtain rfl : k = n := by omega
       have dd2 : decide ((k : Int) < (k : Int)) = false := decide_eq_false (by omega)
       go_wp2_with fail
       go_end0
       have hr := HSE.out.wr
       rw [← HT2.out, HT1.out, ← HT0.out] at hr
       refine ⟨rfl, ?_, HSE.out.bel⟩
       simp only [ByteArray.append_assoc] at hr ⊢
       exact hr
end Go.Proofs.YtliobahnekohmaaGreat
