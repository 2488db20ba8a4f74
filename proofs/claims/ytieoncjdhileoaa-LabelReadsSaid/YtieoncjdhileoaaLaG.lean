/-
  What the functions of package label come to: Read.
-/
import Derived.Test.YtieoncjdhileoaaLaE
import Derived.Test.YtieoncjdhileoaaLaF
import Derived.Test.YtieoncjdhileoaaShelf
namespace Go.Proofs.Ytieoncjdhileoaa
open Go.RowKit
namespace La
/-- a value that is shown, and what stands behind it -/
def word : List UInt8 → List UInt8 → Option (List UInt8 × List UInt8)
  | [], _ => none
  | [c], v => if c = 34 then some (v, []) else none
  | c :: d :: r, v => if c = 92 then word r (v ++ [d]) else if c = 34 then some (v, d :: r) else word (d :: r) (v ++ [c])
theorem word_esc (t : List UInt8) (i : Nat) (v : List UInt8) (h : i + 1 < t.length) (h9 : t[i] = 92) : word (t.drop i) v = word (t.drop (i + 2)) (v ++ [t[i + 1]]) := by
  rw [List.drop_eq_getElem_cons (show i < t.length by omega), List.drop_eq_getElem_cons h, word, if_pos h9]
theorem word_end (t : List UInt8) (i : Nat) (v : List UInt8) (h : i < t.length) (h3 : t[i] = 34) : word (t.drop i) v = some (v, t.drop (i + 1)) := by
  rw [List.drop_eq_getElem_cons h]
  rcases Nat.lt_or_ge (i + 1) t.length with h1 | h1
  · rw [List.drop_eq_getElem_cons h1, word, if_neg (by rw [h3]; decide), if_pos h3]
  · rw [List.drop_eq_nil_of_le h1, word, if_pos h3]
theorem word_one (t : List UInt8) (i : Nat) (v : List UInt8) (h : i < t.length) (h9 : ¬ (t[i] = 92 ∧ i + 1 < t.length)) (h3 : ¬ t[i] = 34) : word (t.drop i) v = word (t.drop (i + 1)) (v ++ [t[i]]) := by
  rw [List.drop_eq_getElem_cons h]
  rcases Nat.lt_or_ge (i + 1) t.length with h1 | h1
  · rw [List.drop_eq_getElem_cons h1, word, if_neg (fun e => h9 ⟨e, h1⟩), if_neg h3]
  · rw [List.drop_eq_nil_of_le h1]; simp [word, h3]
theorem word_no (t : List UInt8) (i : Nat) (v : List UInt8) (h : t.length ≤ i) : word (t.drop i) v = none := by
  rw [List.drop_eq_nil_of_le h, word]
/-- the labels that bytes are shown as -/
def readLoop : Nat → List Lab → List UInt8 → List Lab
  | 0, L, _ => L
  | k + 1, L, r =>
    match word (Lib.cut r [61, 34]).2.1 [] with
    | none => L
    | some (v, t) => readLoop k (L ++ [(⟨(Lib.cut r [61, 34]).1.toArray⟩, ⟨v.toArray⟩)]) (Lib.trimPrefix t [44])
theorem readLoop_succ (k : Nat) (L : List Lab) (r : List UInt8) : readLoop (k + 1) L r = match word (Lib.cut r [61, 34]).2.1 [] with
    | none => L
    | some (v, t) => readLoop k (L ++ [(⟨(Lib.cut r [61, 34]).1.toArray⟩, ⟨v.toArray⟩)]) (Lib.trimPrefix t [44]) := rfl
def readL (s : ByteArray) : List Lab := readLoop 6 [] (Lib.trimPrefix s.data.toList [123])
def read (s : ByteArray) : Option (List Lab) := if rightL (readL s) = true ∧ showB (at_ (readL s)) (readL s).length = s then some (readL s) else none
theorem trim_length (s p : List UInt8) : (Lib.trimPrefix s p).length ≤ s.length := by
  unfold Lib.trimPrefix; split
  · simp
  · exact Nat.le_refl _
theorem cut_length (s p : List UInt8) : (Lib.cut s p).1.length ≤ s.length ∧ (Lib.cut s p).2.1.length ≤ s.length := by
  unfold Lib.cut; split
  · simp; omega
  · simp
theorem size_mk (l : List UInt8) : (⟨l.toArray⟩ : ByteArray).size = l.length := by rw [Lib.size_eq]
theorem right_sizes (L : List Lab) (h : rightL L = true) : L.length ≤ 6 ∧ ∀ i, i < L.length → (at_ L i).1.size ≤ 300 ∧ (at_ L i).2.size ≤ 300 := by
  unfold rightL right at h
  rw [Bool.and_eq_true, decide_eq_true_eq] at h
  refine ⟨h.1.2, fun i hi => ?_⟩
  have := List.all_eq_true.1 h.2 i (List.mem_range.2 hi)
  unfold okAt okName okValue at this
  simp only [Bool.and_eq_true] at this
  obtain ⟨⟨⟨h1, _⟩, h2⟩, _⟩ := this
  have := allB_pos h1; have := allB_pos h2
  omega
end La
theorem info_u8' : (Try.prog.info? 5).map (fun i => (i.zero, i.size, i.bytes)) = some (some (.int .u8 0), 1, 1) := by kernel_rfl

set_option maxRecDepth 100000 in
set_option maxHeartbeats 4000000 in
theorem Read_any (s : ByteArray) (hs : s.size ≤ 100000) (w : World) (m : Int) (hm : w.cell? ⟨0, 0, none⟩ = some (.int .i64 m)) :
    Calls Try.prog 27 #[.string s] w (Labs (La.read s) w) := by
  obtain ⟨i0, hi0, hz0, hz1, hz2⟩ := info_parts info_lab
  obtain ⟨j0, hj0, jz0, jz1, jz2⟩ := info_parts info_u8'
  have HS := Lib.hid hs; clear hs
  have hcut : ∀ (r : ByteArray) (W : World), Below w.heap.size w W → r.size ≤ 100000 → _ := fun r W hW hr => Try.strings_Cut r ⟨#[61, 34]⟩ m W (by omega) ((hW.cell (block_lt_of_cell hm)).trans hm)
  have HCUT := Lib.hid hcut; clear hcut hm
  generalize hR : La.readL s = R
  have hR2 := hR
  unfold La.readL at hR
  have htl := La.trim_length s.data.toList [123]
  have hB0 := Lib.hid (Below.refl w.heap.size w)
  have HR := Lib.hid hR; have HR2 := Lib.hid hR2; clear hR hR2
  go_enter Try.func27, Try.ntmps27
  go_wp2_with fail
  go_step3
  go_wp2_with fail
  refine (Try.strings_CutPrefix s ⟨#[123]⟩ w).mono ?_; rintro e w1 ⟨rfl, hw1⟩; rw [hw1]; clear hw1 w1
  generalize Lib.hasPrefix _ _ = bo
  generalize hr0 : Lib.trimPrefix s.data.toList _ = r0 at *
  go_wp2_with fail
  go_step3
  go_wp2_with fail
  go_loopw [4, 6] (fun r v wr => ∃ (l : List UInt8) (L : List Lab), r = .string ⟨l.toArray⟩ ∧ wr.ownsRow w.heap.size 38 2 v L.length (labCells L) ∧ La.readLoop (6 - L.length) L l = R ∧ L.length ≤ 6 ∧ l.length ≤ s.size ∧ (∀ i, i < L.length → (La.at_ L i).1.size ≤ s.size ∧ (La.at_ L i).2.size ≤ s.size) ∧ Below w.heap.size w wr) (fun _ v _ => 6 - vlen v)
  case atStart => exact ⟨r0, [], rfl, World.ownsRow_nil _ _ _ _, HR.out, by simp, by rw [Lib.size_eq]; exact htl, (fun i hi => by simp at hi), hB0.out⟩
  case round =>
    obtain ⟨l, L, rfl, hown, hrd, hl6, hls, hel, hb⟩ := hrel
    obtain ⟨wo, rfl⟩ : ∃ wo : World, wo = wr := ⟨_, rfl⟩
    have HOWN := Lib.hid hown; have HRD := Lib.hid hrd; have HLS := Lib.hid hls; have HEL := Lib.hid hel; have HB := Lib.hid hb
    obtain ⟨A, c, rfl, hAn, hlc, hrow⟩ := own_lab hown
    have HAN := Lib.hid hAn; have HROW := Lib.hid hrow
    clear hown hrd hls hel hAn hrow
    by_cases hgo : L.length < 6
    · have hstep := La.readLoop_succ (5 - L.length) L l
      rw [show 5 - L.length + 1 = 6 - L.length from by omega, HRD.out] at hstep
      have hcl := La.cut_length l [61, 34]
      have hcr := HCUT.out ⟨l.toArray⟩ wo hb (by rw [La.size_mk]; have := HLS.out; have := HS.out; omega)
      have hll : (⟨l.toArray⟩ : ByteArray).data.toList = l := by simp
      rw [hll] at hcr
      clear hb
      generalize Lib.cut l _ = cu at *
      obtain ⟨nm, T, fd⟩ := cu
      have HST := Lib.hid hstep; have HCR := Lib.hid hcr; have HCL := Lib.hid hcl; clear hstep hcr hcl hll
      go_wp2_with fail
      refine HCR.out.mono ?_; rintro e w3 ⟨rfl, nd, rfl⟩
      have hb3 := below_drewN HB.out nd
      have hk3 := below_drewN (Below.refl wo.heap.size wo) nd
      have hz3 : (wo.drewN nd).heap.size = wo.heap.size := rfl
      generalize wo.drewN nd = w3 at *
      have HB3 := Lib.hid hb3; have HK3 := Lib.hid hk3; have HZ3 := Lib.hid hz3; clear hb3 hk3 hz3
      obtain ⟨tx, htx⟩ : ∃ tx : ByteArray, tx = ⟨T.toArray⟩ := ⟨_, rfl⟩
      rw [← htx]
      have htd : tx.data.toList = T := by rw [htx]
      have hts : tx.size = T.length := by rw [htx, La.size_mk]
      have HTD := Lib.hid htd
      generalize hW : La.word T [] = W at *
      have HW := Lib.hid hW; have HTS := Lib.hid hts; clear htd hts hW htx
      go_wp2_with fail
      have HOWN3 := Lib.hid (HOWN.out)
      go_loopw [4, 6, 10, 11] (fun r u v i ws => ∃ (k : Nat) (x : List UInt8), r = .string ⟨l.toArray⟩ ∧ u = .slice A L.length c ∧ i = .int .i64 k ∧ k ≤ tx.size ∧ ws.ownsRow wo.heap.size 5 1 v x.length (byteVals x) ∧ La.word (T.drop k) x = W ∧ x.length ≤ k ∧ Below wo.heap.size wo ws) (fun _ _ _ i _ => tx.size - (intOf i).toNat)
      case atStart => exact ⟨0, [], rfl, rfl, rfl, Nat.zero_le _, World.ownsRow_nil _ _ _ _, HW.out, Nat.le_refl _, HK3.out⟩
      case round =>
        obtain ⟨k, x, rfl, rfl, rfl, hk, hox, hwx, hxl, hbx⟩ := hrel
        have HOX := Lib.hid hox; have HWX := Lib.hid hwx; have HBX := Lib.hid hbx
        have HOWNR := Lib.hid (HOWN.out.kept (w' := wr) (row := none) ⟨hbx.os, hbx.tape, hbx.output, hbx.size, fun k hk _ => hbx.block k hk⟩ (Classical.em _))
        have HBR := Lib.hid (below_step HB.out hbx)
        have HROWR := Lib.hid (HROW.out.later hbx)
        clear hox hwx hbx
        have htl2 : T.length ≤ 100000 := by have := HCL.out; have := HLS.out; have := HS.out; omega
        by_cases hlt : k < tx.size
        · have i1 : (k : Int) < (tx.size : Int) := by omega
          have e0 : (0 : Int) ≤ (k : Int) := by omega
          have hb1 : x.length + 1 ≤ maxLen := by have := HTS.out; unfold maxLen; omega
          have hb2 : (x.length + 1) * 1 ≤ 140737488355328 := by have := HTS.out; omega
          have B1 := Lib.hid hb1; have B2 := Lib.hid hb2; clear hb1 hb2
          have hb3 : ∀ o, wo.heap.size ≤ (wr.alloc o).heap.size := fun o => by have := HBX.out.size; simp; omega
          have B3 := Lib.hid hb3; clear hb3
          obtain ⟨z, hz⟩ : ∃ z, tx[k] = z := ⟨_, rfl⟩
          have hkT : k < T.length := by have := HTS.out; omega
          have hzT : T[k] = z := by
            have : tx.data.toList[k]'(by have := HTD.out; rw [this]; exact hkT) = tx[k] := rfl
            rw [← hz, ← this]; simp only [HTD.out]
          by_cases h9 : z = 92 ∧ k + 1 < tx.size
          · obtain ⟨rfl, h91⟩ := h9
            have q1 : ((((92 : UInt8).toNat : Nat) : Int) == 92) = true := rfl
            have i2 : (k : Int) + 1 < (tx.size : Int) := by omega
            have i3 : (0 : Int) ≤ (k : Int) + 1 := by omega
            have hws := La.word_esc T k x (by have := HTS.out; omega) hzT
            have hz2 : T[k + 1]'(by have := HTS.out; omega) = tx[k + 1] := by simp only [← HTD.out]; rfl
            rw [hz2, HWX.out] at hws
            have HWS := Lib.hid hws; clear hws hz2
            go_wp2_with (at_builtin; (refine wpList_append_own _ rfl _ _ 42 rfl wo.heap.size 5 j0 (.int .u8 0) 1 1 Try.underlying42 hj0 jz0 jz1 jz2 rfl (by decide) _ _ _ rfl (HOX.out.alloc _) ⟨wr.heap.size, 0, none⟩ 1 1 [.int .u8 (tx[k + 1]).toNat] rfl rfl (cell_one_new _ _ _) (by simp [Value.oneCell']) B1.out B2.out (B3.out _) ?_); intro v5 w5 hown5 hgr5 _; have HOWN5 := Lib.hid hown5; have HB5 := Lib.hid ((HBX.out.alloc HBX.out.size _).grown hgr5 (B3.out _) (fun b hv => (HOX.out.lt b hv).1)); clear hown5 hgr5)
            go_roundw
            case rel =>
              refine ⟨k + 2, x ++ [tx[k + 1]], rfl, rfl, by go_num, by omega, ?_, HWS.out.symm, by rw [List.length_append, List.length_singleton]; omega, HB5.out⟩
              rw [byteVals_append, List.length_append]; exact HOWN5.out
            case measure => simp [intOf]; omega
          · by_cases h3 : z = 34
            · subst h3
              have hws := La.word_end T k x hkT hzT
              rw [HWX.out] at hws
              have q1 : ((((34 : UInt8).toNat : Nat) : Int) == 92) = false := rfl
              have q2 : ((((34 : UInt8).toNat : Nat) : Int) == 34) = true := rfl
              have hcv := own_bytes (P := Try.prog) (src := 42) (dst := 9) x Try.underlying42 Try.underlying5 Try.underlying9 HOX.out
              have hst := HST.out
              rw [hws] at hst
              have HST2 := Lib.hid hst; clear hst hws
              have hc1 : L.length + 1 ≤ maxLen := by unfold maxLen; omega
              have hc2 : (L.length + 1) * 32 ≤ 140737488355328 := by omega
              have hc3 : ∀ o, w.heap.size ≤ (wr.alloc o).heap.size := fun o => by have := HBR.out.size; simp; omega
              have C1 := Lib.hid hc1; have C2 := Lib.hid hc2; have C3 := Lib.hid hc3; clear hc1 hc2 hc3
              go_wp2_with (at_builtin; (refine wpList_append_own _ rfl _ _ 22 rfl w.heap.size 38 i0 (.agg #[.string ByteArray.empty, .string ByteArray.empty]) 2 32 Try.underlying22 hi0 hz0 hz1 hz2 rfl (by decide) _ _ _ rfl (HOWNR.out.alloc _) ⟨wr.heap.size, 0, none⟩ 1 1 [.string ⟨nm.toArray⟩, .string ⟨x.toArray⟩] rfl rfl (cell_two_new _ _ _ _) (by simp [Value.oneCell']) C1.out C2.out (C3.out _) ?_); intro v5 w5 hown5 hgr5 _; have HOWN5 := Lib.hid hown5; have HB5 := Lib.hid ((HBR.out.alloc HBR.out.size _).grown hgr5 (C3.out _) (fun b hv => (HOWNR.out.lt b hv).1)); clear hown5 hgr5)
              refine (Try.strings_CutPrefix (tx.extract (k + 1) tx.size) ⟨#[44]⟩ w5).mono ?_; rintro e w6 ⟨rfl, hw6⟩; rw [hw6]; clear hw6 w6
              have hex : (tx.extract (k + 1) tx.size).data.toList = T.drop (k + 1) := by
                rw [Lib.extract_data, HTD.out, List.take_of_length_le]
                rw [List.length_drop]; have := HTS.out; omega
              rw [hex]
              have HTL := Lib.hid (La.trim_length (T.drop (k + 1)) [44])
              have hdl : (T.drop (k + 1)).length = T.length - (k + 1) := List.length_drop
              have HDL := Lib.hid hdl
              clear hex hdl
              go_wp2_with fail
              go_roundw
              case rel =>
                refine ⟨Lib.trimPrefix (T.drop (k + 1)) [44], L ++ [(⟨nm.toArray⟩, ⟨x.toArray⟩)], rfl, ?_, ?_, by simp; omega, ?_, ?_, HB5.out⟩
                · rw [labCells_append, List.length_append]; exact HOWN5.out
                · rw [List.length_append, List.length_singleton, show 6 - (L.length + 1) = 5 - L.length from by omega]; exact HST2.out.symm
                · have := HTL.out; have := HDL.out; have := HCL.out; have := HLS.out
                  show (Lib.trimPrefix (T.drop (k + 1)) [44]).length ≤ s.size
                  omega
                · intro i hi
                  rw [List.length_append, List.length_singleton] at hi
                  unfold La.at_
                  rcases Nat.lt_or_ge i L.length with h | h
                  · have := HEL.out i h
                    unfold La.at_ at this
                    simpa [List.getD, List.getElem?_append_left h] using this
                  · rw [show i = L.length from by omega]
                    simp only [List.getD, List.getElem?_append_right (Nat.le_refl _), Nat.sub_self, List.getElem?_cons_zero, Option.getD_some]
                    have := HCL.out; have := HLS.out; have := HTS.out
                    have g1 := La.size_mk nm; have g2 := La.size_mk x
                    exact ⟨by show (⟨nm.toArray⟩ : ByteArray).size ≤ _; rw [g1]; have := this; omega, by show (⟨x.toArray⟩ : ByteArray).size ≤ _; rw [g2]; omega⟩
              case measure =>
                obtain ⟨g5, c5, rfl⟩ := ownsRow_succ HOWN5.out
                simp [vlen]; omega
            · have hd : ((((z.toNat : Nat) : Int) == 92) = false) ∨ ((((z.toNat : Nat) : Int) == 92) = true ∧ decide ((k : Int) + 1 < (tx.size : Int)) = false) := by
                by_cases h92 : z = 92
                · right; subst h92; refine ⟨rfl, ?_⟩; simp at h9 ⊢; omega
                · left; simp only [beq_eq_false_iff_ne]; intro e; exact h92 (UInt8.toNat_inj.1 (by have : (92 : UInt8).toNat = 92 := rfl; omega))
              have q2 : (((z.toNat : Nat) : Int) == 34) = false := by
                simp only [beq_eq_false_iff_ne]; intro e; exact h3 (UInt8.toNat_inj.1 (by have : (34 : UInt8).toNat = 34 := rfl; omega))
              have hws := La.word_one T k x hkT (by rw [hzT]; have := HTS.out; rw [← this]; exact h9) (by rw [hzT]; exact h3)
              rw [hzT, HWX.out] at hws
              have HWS := Lib.hid hws; clear hws
              rcases hd with q1 | ⟨q1, q3⟩
              all_goals
                go_wp2_with (at_builtin; (refine wpList_append_own _ rfl _ _ 42 rfl wo.heap.size 5 j0 (.int .u8 0) 1 1 Try.underlying42 hj0 jz0 jz1 jz2 rfl (by decide) _ _ _ rfl (HOX.out.alloc _) ⟨wr.heap.size, 0, none⟩ 1 1 [.int .u8 (z).toNat] rfl rfl (cell_one_new _ _ _) (by simp [Value.oneCell']) B1.out B2.out (B3.out _) ?_); intro v5 w5 hown5 hgr5 _; have HOWN5 := Lib.hid hown5; have HB5 := Lib.hid ((HBX.out.alloc HBX.out.size _).grown hgr5 (B3.out _) (fun b hv => (HOX.out.lt b hv).1)); clear hown5 hgr5)
                go_roundw
                case rel =>
                  refine ⟨k + 1, x ++ [z], rfl, rfl, by go_num, by omega, ?_, HWS.out.symm, by rw [List.length_append, List.length_singleton]; omega, HB5.out⟩
                  rw [byteVals_append, List.length_append]; exact HOWN5.out
                case measure => simp [intOf]; omega
        · have hno := La.word_no T k x (by have := HTS.out; omega)
          have HNO := Lib.hid hno; clear hno
          have hfin : R = L := by
            have e1 := HST.out
            rw [← HWX.out, HNO.out] at e1
            exact e1
          clear HWX HNO
          have hrd2 : La.read s = if La.rightL L = true ∧ La.showB (La.at_ L) L.length = s then some L else none := by
            unfold La.read; rw [HR2.out, hfin]
          have HRD2 := Lib.hid hrd2; clear hrd2 hfin
          have hck := Check_any A L.length c (by unfold maxLen; omega) (La.at_ L) (fun i hi => by have := HEL.out i hi; have := HS.out; exact ⟨by unfold maxLen; omega, by unfold maxLen; omega⟩) wr HROWR.out
          have HCK := Lib.hid hck; clear hck
          go_wp2_with fail
          refine HCK.out.mono ?_; rintro e w5 ⟨rfl, hb5⟩
          have HB5 := Lib.hid (below_step HBR.out hb5); have HR5 := Lib.hid (HROWR.out.later hb5); clear hb5
          cases hrl : La.right (La.at_ L) L.length
          · have e9 : (((La.err false : Nat) : Int) != 0) = true := by decide
            go_wp2_with fail
            go_ret2
            right
            refine ⟨?_, by first | rfl | trivial, HB5.out⟩
            rw [HRD2.out, if_neg]
            rintro ⟨e1, _⟩
            unfold La.rightL at e1
            rw [hrl] at e1; cases e1
          · have e9 : (((La.err true : Nat) : Int) != 0) = false := by decide
            have hsz := La.right_sizes L hrl
            have hsh := Show_any A L.length c (by omega) (La.at_ L) hsz.2 w5 HR5.out
            have HSH := Lib.hid hsh; clear hsh hsz
            by_cases hq : La.showB (La.at_ L) L.length = s
            · have hyes : La.read s = some L := by rw [HRD2.out, if_pos ⟨hrl, hq⟩]
              rw [hq] at HSH
              have HY := Lib.hid hyes; clear hyes
              go_wp2_with fail
              refine HSH.out.mono ?_; rintro e w6 ⟨rfl, hb6⟩
              have HB6 := Lib.hid (below_step HB5.out hb6); have HR6 := Lib.hid (HR5.out.later hb6); clear hb6
              go_wp2_with fail
              go_ret2
              left
              exact ⟨L, A, c, HY.out, rfl, HAN.out, hlc, HR6.out, HB6.out⟩
            · have hno : La.read s = none := by rw [HRD2.out, if_neg (fun e => hq e.2)]
              have HN := Lib.hid hno; clear hno
              generalize La.showB (La.at_ L) L.length = sh at *
              have hq1 : (sh.toList == s.toList) = false := by
                rw [beq_eq_false_iff_ne]; intro e; rw [Lib.toList_data, Lib.toList_data] at e; exact hq (by rw [← Lib.mk_data sh, ← Lib.mk_data s, e])
              clear hq
              go_wp2_with fail
              refine HSH.out.mono ?_; rintro e w6 ⟨rfl, hb6⟩
              have HB6 := Lib.hid (below_step HB5.out hb6); clear hb6
              go_wp2_with fail
              go_ret2
              right
              exact ⟨HN.out, by first | rfl | trivial, HB6.out⟩
    · have hfin : R = L := by
        have e1 := HRD.out
        rw [show 6 - L.length = 0 from by omega] at e1
        exact e1.symm
      have HBR := HB; have HROWR := HROW
      have hrd2 : La.read s = if La.rightL L = true ∧ La.showB (La.at_ L) L.length = s then some L else none := by
        unfold La.read; rw [HR2.out, hfin]
      have HRD2 := Lib.hid hrd2; clear hrd2 hfin
      have hck := Check_any A L.length c (by unfold maxLen; omega) (La.at_ L) (fun i hi => by have := HEL.out i hi; have := HS.out; exact ⟨by unfold maxLen; omega, by unfold maxLen; omega⟩) wo HROWR.out
      have HCK := Lib.hid hck; clear hck
      go_wp2_with fail
      refine HCK.out.mono ?_; rintro e w5 ⟨rfl, hb5⟩
      have HB5 := Lib.hid (below_step HBR.out hb5); have HR5 := Lib.hid (HROWR.out.later hb5); clear hb5
      cases hrl : La.right (La.at_ L) L.length
      · have e9 : (((La.err false : Nat) : Int) != 0) = true := by decide
        go_wp2_with fail
        go_ret2
        right
        refine ⟨?_, by first | rfl | trivial, HB5.out⟩
        rw [HRD2.out, if_neg]
        rintro ⟨e1, _⟩
        unfold La.rightL at e1
        rw [hrl] at e1; cases e1
      · have e9 : (((La.err true : Nat) : Int) != 0) = false := by decide
        have hsz := La.right_sizes L hrl
        have hsh := Show_any A L.length c (by omega) (La.at_ L) hsz.2 w5 HR5.out
        have HSH := Lib.hid hsh; clear hsh hsz
        by_cases hq : La.showB (La.at_ L) L.length = s
        · have hyes : La.read s = some L := by rw [HRD2.out, if_pos ⟨hrl, hq⟩]
          rw [hq] at HSH
          have HY := Lib.hid hyes; clear hyes
          go_wp2_with fail
          refine HSH.out.mono ?_; rintro e w6 ⟨rfl, hb6⟩
          have HB6 := Lib.hid (below_step HB5.out hb6); have HR6 := Lib.hid (HR5.out.later hb6); clear hb6
          go_wp2_with fail
          go_ret2
          left
          exact ⟨L, A, c, HY.out, rfl, HAN.out, hlc, HR6.out, HB6.out⟩
        · have hno : La.read s = none := by rw [HRD2.out, if_neg (fun e => hq e.2)]
          have HN := Lib.hid hno; clear hno
          generalize La.showB (La.at_ L) L.length = sh at *
          have hq1 : (sh.toList == s.toList) = false := by
            rw [beq_eq_false_iff_ne]; intro e; rw [Lib.toList_data, Lib.toList_data] at e; exact hq (by rw [← Lib.mk_data sh, ← Lib.mk_data s, e])
          clear hq
          go_wp2_with fail
          refine HSH.out.mono ?_; rintro e w6 ⟨rfl, hb6⟩
          have HB6 := Lib.hid (below_step HB5.out hb6); clear hb6
          go_wp2_with fail
          go_ret2
          right
          exact ⟨HN.out, by first | rfl | trivial, HB6.out⟩
end Go.Proofs.Ytieoncjdhileoaa
