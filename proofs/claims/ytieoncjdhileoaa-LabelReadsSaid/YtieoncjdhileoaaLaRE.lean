/-
  Labels: what the reference's Read comes to.
-/
import Derived.Test.YtieoncjdhileoaaLaRB
import Derived.Test.YtieoncjdhileoaaLaRD
import Derived.Test.YtieoncjdhileoaaLaZ
namespace Go.Proofs.Ytieoncjdhileoaa
open Go.RowKit
theorem La.rword_length (e : UInt8) : ∀ (l v x r : List UInt8), La.rword e l v = some (x, r) → x.length ≤ v.length + l.length ∧ r.length < l.length
  | [], v, x, r, h => by simp [La.rword] at h
  | [c], v, x, r, h => by
    rw [La.rword] at h
    split at h
    · cases h; simp
    · cases h
  | c :: d :: l, v, x, r, h => by
    rw [La.rword] at h
    split at h
    · cases h; simp
    · split at h
      · have := La.rword_length e l _ x r h
        simp at this ⊢; omega
      · have := La.rword_length e (d :: l) _ x r h
        simp at this ⊢; omega
theorem La.rone_none {r : List UInt8} (h : La.rword 61 r [] = none) : La.rone r = none := by unfold La.rone; rw [h]
theorem La.rone_nil {r n : List UInt8} (h : La.rword 61 r [] = some (n, [])) : La.rone r = none := by unfold La.rone; rw [h]; rfl
theorem La.rone_none2 {r n a : List UInt8} (h : La.rword 61 r [] = some (n, a)) (h2 : La.rword 34 (a.drop 1) [] = none) : La.rone r = none := by
  unfold La.rone; rw [h]
  simp only [h2, ite_self]
theorem La.rone_nil2 {r n a v : List UInt8} (h : La.rword 61 r [] = some (n, a)) (h2 : La.rword 34 (a.drop 1) [] = some (v, [])) : La.rone r = none := by
  unfold La.rone; rw [h]
  simp only [h2, if_true, ite_self]
theorem La.rone_some {r n a v b : List UInt8} (h : La.rword 61 r [] = some (n, a)) (ha : a ≠ []) (h2 : La.rword 34 (a.drop 1) [] = some (v, b)) (hb : b ≠ []) : La.rone r = some ((⟨n.toArray⟩, ⟨v.toArray⟩), b.drop 1) := by
  unfold La.rone; rw [h]
  simp only [if_neg ha, h2, if_neg hb]

set_option maxRecDepth 100000 in
set_option maxHeartbeats 4000000 in
theorem rRead_any (s : ByteArray) (hs : s.size ≤ 300) (w : World) :
    Calls Try.prog 28 #[.string s] w (Labs (La.read s) w) := by
  rw [La.read_rread]
  obtain ⟨i0, hi0, hz0, hz1, hz2⟩ := info_parts info_lab
  have hem := La.isEmpty_eq s
  by_cases h0 : s.size = 0
  · have he : s.toList.isEmpty = true := by rw [hem]; simpa using h0
    have hn : La.rread s = none := by unfold La.rread; rw [if_pos h0]
    have HN := Lib.hid hn
    clear hem h0 hn
    go_enter Try.func28, Try.ntmps28
    go_wp2_with fail
    go_ret2
    right
    exact ⟨HN.out, by first | rfl | trivial, Below.refl _ _⟩
  have he : s.toList.isEmpty = false := by rw [hem]; simpa using h0
  have hrd : La.rread s = match La.rreadLoop 7 [] (s.data.toList.drop 1) with
    | none => none
    | some L => if La.rightL L = true ∧ La.showB (La.at_ L) L.length = s then some L else none := by
    unfold La.rread; rw [if_neg h0]
    cases La.rreadLoop 7 [] (s.data.toList.drop 1) <;> rfl
  generalize hR : La.rreadLoop 7 [] (s.data.toList.drop 1) = R at *
  have j1 : (1 : Int) ≤ (s.size : Int) := by omega
  have HS := Lib.hid hs; have HRD := Lib.hid hrd; have HR := Lib.hid hR; clear hs hrd hR hem h0
  go_enter Try.func28, Try.ntmps28
  go_wp2_with fail
  have hz : (s.extract 1 s.size).size ≤ s.size := by rw [ByteArray.size_extract]; omega
  have HZ := Lib.hid hz; clear hz
  go_loopw [4, 5, 6] (fun v u i wr => ∃ (L : List Lab) (t : ByteArray), wr.ownsRow w.heap.size 38 2 v L.length (labCells L) ∧ u = .string t ∧ i = .int .i64 L.length ∧ La.rreadLoop (7 - L.length) L t.data.toList = R ∧ L.length ≤ 7 ∧ t.size ≤ s.size ∧ (∀ i, i < L.length → (La.at_ L i).1.size ≤ s.size ∧ (La.at_ L i).2.size ≤ s.size) ∧ Below w.heap.size w wr) (fun _ _ i _ => 7 - (intOf i).toNat)
  case atStart => exact ⟨[], s.extract 1 s.size, World.ownsRow_nil _ _ _ _, rfl, rfl, by rw [La.ext_tail]; exact HR.out, by simp, HZ.out, (fun i hi => by simp at hi), Below.refl _ _⟩
  case round =>
    obtain ⟨L, t, hown, rfl, rfl, hof, hl7, hts, hel, hb⟩ := hrel
    have HOWN := Lib.hid hown; have HOF := Lib.hid hof; have HTS := Lib.hid hts; have HEL := Lib.hid hel; have HB := Lib.hid hb
    obtain ⟨A, c, rfl, hAn, hlc, hrow⟩ := own_lab hown
    have HAN := Lib.hid hAn; have HROW := Lib.hid hrow
    clear hown hof hts hel hb hAn hrow
    have htl : t.data.toList.length = t.size := (Lib.size_eq t).symm
    have HTL := Lib.hid htl; clear htl
    by_cases hgo : L.length < 7 ∧ 1 < t.size
    · obtain ⟨g1, g2⟩ := hgo
      have hstep := La.rreadLoop_succ (6 - L.length) L t.data.toList
      rw [show 6 - L.length + 1 = 7 - L.length from by omega, HOF.out, if_neg (by have := HTL.out; omega)] at hstep
      have HST := Lib.hid hstep; clear hstep
      have i1 : (L.length : Int) < 7 := by omega
      have i2 : (1 : Int) < (t.size : Int) := by omega
      have hk1 : ∀ W, Calls Try.prog 47 #[.string t, .int .u8 61] W _ := fun W => rWord_any t (by have := HTS.out; have := HS.out; omega) 61 W
      have hnone : La.rone t.data.toList = none → La.rread s = none := fun h => by
        have h2 := HST.out
        rw [h] at h2
        rw [HRD.out, h2]
      have HNO := Lib.hid hnone; clear hnone
      rcases hw1 : La.rword 61 t.data.toList [] with _ | ⟨n, a⟩
      · rw [hw1] at hk1
        have HK1 := Lib.hid hk1
        have HN2 := Lib.hid (HNO.out (La.rone_none hw1))
        clear hw1 hk1 g1 g2
        go_wp2_with fail
        refine (HK1.out _).mono ?_; rintro e w3 ⟨rfl, hb3⟩
        have HB3 := Lib.hid (below_step HB.out hb3); clear hb3
        simp only [wordOut]
        go_wp2_with fail
        go_ret2
        right
        exact ⟨HN2.out, by first | rfl | trivial, HB3.out⟩
      · rw [hw1] at hk1
        have hq := La.rword_length _ _ _ _ _ hw1
        obtain ⟨N, hN⟩ : ∃ N : ByteArray, N = ⟨n.toArray⟩ := ⟨_, rfl⟩
        obtain ⟨B, hB⟩ : ∃ B : ByteArray, B = ⟨a.toArray⟩ := ⟨_, rfl⟩
        have hNs : N.size = n.length := by rw [hN, La.size_mk]
        have hBs : B.size = a.length := by rw [hB, La.size_mk]
        have hBl : B.data.toList = a := by rw [hB]
        have hNs2 : N.size ≤ t.size := by rw [hNs]; have := HTL.out; have := hq.1; simp at this; omega
        have hBs2 : B.size < t.size := by rw [hBs]; have := HTL.out; have := hq.2; omega
        have hwo : wordOut (some (n, a)) = .tuple #[.string N, .string B, .bool true] := by rw [hN, hB]; rfl
        rw [hwo] at hk1
        have HK1 := Lib.hid hk1
        have hemB := La.isEmpty_eq B
        have HNQ := Lib.hid hN
        clear hk1 hwo hN hB hq hNs
        by_cases ha : B.size = 0
        · have he2 : B.toList.isEmpty = true := by rw [hemB]; simpa using ha
          have ha0 : a = [] := List.eq_nil_of_length_eq_zero (by omega)
          subst ha0
          have HN2 := Lib.hid (HNO.out (La.rone_nil hw1))
          clear hw1 g1 g2 hemB ha hBs hBl hNs2 hBs2
          go_wp2_with fail
          refine (HK1.out _).mono ?_; rintro e w3 ⟨rfl, hb3⟩
          have HB3 := Lib.hid (below_step HB.out hb3); clear hb3
          go_wp2_with fail
          go_ret2
          right
          exact ⟨HN2.out, by first | rfl | trivial, HB3.out⟩
        · have he2 : B.toList.isEmpty = false := by rw [hemB]; simpa using ha
          have ha0 : a ≠ [] := fun h => by rw [h] at hBs; exact ha hBs
          have j2 : (1 : Int) ≤ (B.size : Int) := by omega
          obtain ⟨C, hC⟩ : ∃ C : ByteArray, C = B.extract 1 B.size := ⟨_, rfl⟩
          have hCl : C.data.toList = a.drop 1 := by rw [hC, La.ext_tail, hBl]
          have hCs : C.size ≤ t.size := by rw [hC, ByteArray.size_extract]; omega
          have hk2 : ∀ W, Calls Try.prog 47 #[.string C, .int .u8 34] W _ := fun W => rWord_any C (by have := HTS.out; have := HS.out; omega) 34 W
          rw [hCl] at hk2
          rcases hw2 : La.rword 34 (a.drop 1) [] with _ | ⟨v, b⟩
          · rw [hw2] at hk2
            have HN2 := Lib.hid (HNO.out (La.rone_none2 hw1 hw2))
            have HC := Lib.hid hC
            have HK2 := Lib.hid hk2
            clear hw1 hw2 hk2 g1 g2 hemB ha hBs hBl hNs2 hBs2 hCl hCs ha0 hC
            go_wp2_with fail
            refine (HK1.out _).mono ?_; rintro e w3 ⟨rfl, hb3⟩
            have HB3 := Lib.hid (below_step HB.out hb3); clear hb3
            go_wp2_with fail
            rw [← HC.out]
            refine (HK2.out _).mono ?_; rintro e w4 ⟨rfl, hb4⟩
            have HB4 := Lib.hid (below_step HB3.out hb4); clear hb4
            simp only [wordOut]
            go_wp2_with fail
            go_ret2
            right
            exact ⟨HN2.out, by first | rfl | trivial, HB4.out⟩
          · rw [hw2] at hk2
            have hq := La.rword_length _ _ _ _ _ hw2
            obtain ⟨V, hV⟩ : ∃ V : ByteArray, V = ⟨v.toArray⟩ := ⟨_, rfl⟩
            obtain ⟨D, hD⟩ : ∃ D : ByteArray, D = ⟨b.toArray⟩ := ⟨_, rfl⟩
            have hVs : V.size = v.length := by rw [hV, La.size_mk]
            have hDs : D.size = b.length := by rw [hD, La.size_mk]
            have hDl : D.data.toList = b := by rw [hD]
            have hCs2 : C.size = (a.drop 1).length := by rw [Lib.size_eq, hCl]
            have hVs2 : V.size ≤ t.size := by rw [hVs]; have := hq.1; simp only [List.length_nil] at this; omega
            have hDs2 : D.size < t.size := by rw [hDs]; have := hq.2; omega
            have hwo : wordOut (some (v, b)) = .tuple #[.string V, .string D, .bool true] := by rw [hV, hD]; rfl
            rw [hwo] at hk2
            have HK2 := Lib.hid hk2
            have hemD := La.isEmpty_eq D
            have HVQ := Lib.hid hV
            have HC := Lib.hid hC
            clear hk2 hwo hV hD hq hVs hC hCs2 hCl
            by_cases hb0 : D.size = 0
            · have he3 : D.toList.isEmpty = true := by rw [hemD]; simpa using hb0
              have hb00 : b = [] := List.eq_nil_of_length_eq_zero (by omega)
              subst hb00
              have HN2 := Lib.hid (HNO.out (La.rone_nil2 hw1 hw2))
              clear hw1 hw2 g1 g2 hemB ha hBs hBl hNs2 hBs2 hCs ha0 hemD hb0 hDs hDl hDs2 hVs2
              go_wp2_with fail
              refine (HK1.out _).mono ?_; rintro e w3 ⟨rfl, hb3⟩
              have HB3 := Lib.hid (below_step HB.out hb3); clear hb3
              go_wp2_with fail
              rw [← HC.out]
              refine (HK2.out _).mono ?_; rintro e w4 ⟨rfl, hb4⟩
              have HB4 := Lib.hid (below_step HB3.out hb4); clear hb4
              go_wp2_with fail
              go_ret2
              right
              exact ⟨HN2.out, by first | rfl | trivial, HB4.out⟩
            · have he3 : D.toList.isEmpty = false := by rw [hemD]; simpa using hb0
              have hb00 : b ≠ [] := fun h => by rw [h] at hDs; exact hb0 hDs
              have j3 : (1 : Int) ≤ (D.size : Int) := by omega
              have hst := HST.out
              rw [La.rone_some hw1 ha0 hw2 hb00, ← HNQ.out, ← HVQ.out] at hst
              have HST3 := Lib.hid hst
              have HDL := Lib.hid hDl
              have HSZ := Lib.hid (And.intro hNs2 (And.intro hVs2 hDs2))
              clear hst hw1 hw2 hemB ha hBs hBl hNs2 hBs2 hCs ha0 hemD hb0 hDs hDl hDs2 hVs2 hb00 HST HNQ HVQ HNO
              go_wp2_with fail
              refine (HK1.out _).mono ?_; rintro e w3 ⟨rfl, hb3⟩
              have HB3 := Lib.hid (below_step HB.out hb3)
              have HOWN3 := Lib.hid (own_far3 HOWN.out hb3)
              have HZ3 := Lib.hid (Nat.le_trans HB.out.size hb3.size)
              clear hb3
              go_wp2_with fail
              rw [← HC.out]
              refine (HK2.out _).mono ?_; rintro e w4 ⟨rfl, hb4⟩
              have HB4 := Lib.hid (below_step HB3.out hb4)
              have hown4 := own_far3 HOWN3.out hb4
              have HZ4 := Lib.hid (Nat.le_trans HZ3.out hb4.size)
              have HOWN4 := Lib.hid hown4
              have hb1' : L.length + 1 ≤ maxLen := by unfold maxLen; omega
              have hb2' : (L.length + 1) * 32 ≤ 140737488355328 := by omega
              have hb3' : w.heap.size ≤ (w4.alloc (.cells #[.string N, .string V] 38)).heap.size := by have := HZ4.out; simp; omega
              have B1 := Lib.hid hb1'; have B2 := Lib.hid hb2'; have B3 := Lib.hid hb3'
              clear hb4 hown4 hb1' hb2' hb3'
              go_wp2_with (at_builtin; (refine wpList_append_own _ rfl _ _ 22 rfl w.heap.size 38 i0 (.agg #[.string ByteArray.empty, .string ByteArray.empty]) 2 32 Try.underlying22 hi0 hz0 hz1 hz2 rfl (by decide) _ _ _ rfl (HOWN4.out.alloc _) ⟨w4.heap.size, 0, none⟩ 1 1 [.string N, .string V] rfl rfl (cell_two_new _ _ _ _) (by simp [Value.oneCell']) B1.out B2.out B3.out ?_); intro v5 w5 hown5 hgr5 _; have HOWN5 := Lib.hid hown5; have HG5 := Lib.hid hgr5; clear hown5 hgr5)
              go_roundw
              case rel =>
                have hg5 := HG5.out
                refine ⟨L ++ [(N, V)], D.extract 1 D.size, ?_, rfl, ?_, ?_, by simp; omega, ?_, ?_, ?_⟩
                · rw [labCells_append, List.length_append]; exact HOWN5.out
                · rw [List.length_append]; go_num
                · rw [List.length_append, La.ext_tail, HDL.out, show 7 - (L.length + [(N, V)].length) = 6 - L.length from by rw [List.length_singleton]; omega]; exact HST3.out.symm
                · rw [ByteArray.size_extract]; have := HTS.out; have := HSZ.out; omega
                · intro i hi
                  rw [List.length_append, List.length_singleton] at hi
                  unfold La.at_
                  rcases Nat.lt_or_ge i L.length with h | h
                  · have := HEL.out i h
                    unfold La.at_ at this
                    simpa [List.getD, List.getElem?_append_left h] using this
                  · rw [show i = L.length from by omega]
                    simp only [List.getD, List.getElem?_append_right (Nat.le_refl _), Nat.sub_self, List.getElem?_cons_zero, Option.getD_some]
                    have := HTS.out; have := HSZ.out
                    exact ⟨by omega, by omega⟩
                · exact (HB4.out.alloc HB4.out.size _).grown hg5 (by have := HB4.out.size; simp; omega) (fun b hv => by have := (HOWN4.out.lt b hv).1; omega)
              case measure => simp [intOf]; omega
    · have hfin : La.rreadLoop (7 - L.length) L t.data.toList = some L := by
        by_cases h7 : L.length < 7
        · exact La.rreadLoop_short _ _ _ (by have := HTL.out; omega)
        · rw [show 7 - L.length = 0 from by omega]; rfl
      rw [HOF.out] at hfin
      have hrs := HRD.out
      rw [hfin] at hrs
      have hrs2 : La.rread s = if La.rightL L = true ∧ La.showB (La.at_ L) L.length = s then some L else none := hrs
      have HF := Lib.hid hrs2; clear hrs hrs2 hfin
      have hck := fun W (hW : Below wr.heap.size wr W) => rRight_any A L.length c (by unfold maxLen; omega) (La.at_ L) (fun i hi => by have := HEL.out i hi; have := HS.out; unfold maxLen; exact ⟨by omega, by omega⟩) W (HROW.out.later hW)
      have hsh := fun W (hW : Below wr.heap.size wr W) => rShow_any A L.length c (by omega) (La.at_ L) (fun i hi => by have := HEL.out i hi; have := HS.out; exact ⟨by omega, by omega⟩) W (HROW.out.later hW)
      have hway : (L.length < 7 ∧ t.size ≤ 1) ∨ L.length = 7 := by
        by_cases h7 : L.length < 7
        · left; exact ⟨h7, by omega⟩
        · right; omega
      clear hgo
      have htail : ∀ (e3 : La.right (La.at_ L) L.length = false), La.rread s = none := fun e3 => by
        rw [HF.out, if_neg]; rintro ⟨h, _⟩; unfold La.rightL at h; rw [e3] at h; cases h
      have HTA := Lib.hid htail; clear htail
      cases hrl : La.right (La.at_ L) L.length
      · have hn3 := HTA.out hrl
        have HN3 := Lib.hid hn3
        have HCK0 := Lib.hid (fun W hW => by have := hck W hW; rw [hrl] at this; exact this)
        clear hck hsh hrl hn3 HTA
        rcases hway with ⟨h7, ht1⟩ | h7
        all_goals
          first
            | (have i1 : (L.length : Int) < 7 := by omega
               have i2 : ¬ (1 : Int) < (t.size : Int) := by omega)
            | (have i1 : ¬ (L.length : Int) < 7 := by omega)
          clear h7
          go_wp2_with fail
          refine (HCK0.out _ (Below.refl _ _)).mono ?_; rintro e w5 ⟨rfl, hb5⟩
          have HB5 := Lib.hid (below_step HB.out hb5); have HR5 := Lib.hid (HROW.out.later hb5)
          clear hb5
          go_wp2_with fail
          go_ret2
          right
          exact ⟨HN3.out, by first | rfl | trivial, HB5.out⟩
      · have HCK0 := Lib.hid (fun W hW => by have := hck W hW; rw [hrl] at this; exact this)
        have hwhole : La.showB (La.at_ L) L.length = s → La.rread s = some L := fun h => by rw [HF.out, if_pos ⟨hrl, h⟩]
        have hnone2 : La.showB (La.at_ L) L.length ≠ s → La.rread s = none := fun h => by rw [HF.out, if_neg (fun h2 => h h2.2)]
        have HSH := Lib.hid hsh; have HWH := Lib.hid hwhole; have HNN := Lib.hid hnone2
        clear hck hsh hwhole hnone2 HTA hrl
        generalize La.showB (La.at_ L) L.length = S at *
        by_cases hSs : S = s
        · have hq1 : (S.toList == s.toList) = true := by rw [str_beq]; simpa using hSs
          have HN3 := Lib.hid (HWH.out hSs)
          clear hSs HWH HNN
          rcases hway with ⟨h7, ht1⟩ | h7
          all_goals
            first
              | (have i1 : (L.length : Int) < 7 := by omega
                 have i2 : ¬ (1 : Int) < (t.size : Int) := by omega)
              | (have i1 : ¬ (L.length : Int) < 7 := by omega)
            clear h7
            go_wp2_with fail
            refine (HCK0.out _ (Below.refl _ _)).mono ?_; rintro e w5 ⟨rfl, hb5⟩
            have HB5 := Lib.hid (below_step HB.out hb5); have HB55 := Lib.hid hb5
            clear hb5
            go_wp2_with fail
            refine (HSH.out _ HB55.out).mono ?_; rintro e w6 ⟨rfl, hb6⟩
            have HB6 := Lib.hid (below_step HB5.out hb6); have HR6 := Lib.hid (HROW.out.later (below_step HB55.out hb6))
            clear hb6
            go_wp2_with fail
            go_ret2
            left
            exact ⟨L, A, c, HN3.out, rfl, HAN.out, hlc, HR6.out, HB6.out⟩
        · have hq1 : (S.toList == s.toList) = false := by rw [str_beq]; simpa using hSs
          have HN3 := Lib.hid (HNN.out hSs)
          clear hSs HWH HNN
          rcases hway with ⟨h7, ht1⟩ | h7
          all_goals
            first
              | (have i1 : (L.length : Int) < 7 := by omega
                 have i2 : ¬ (1 : Int) < (t.size : Int) := by omega)
              | (have i1 : ¬ (L.length : Int) < 7 := by omega)
            clear h7
            go_wp2_with fail
            refine (HCK0.out _ (Below.refl _ _)).mono ?_; rintro e w5 ⟨rfl, hb5⟩
            have HB5 := Lib.hid (below_step HB.out hb5); have HB55 := Lib.hid hb5
            clear hb5
            go_wp2_with fail
            refine (HSH.out _ HB55.out).mono ?_; rintro e w6 ⟨rfl, hb6⟩
            have HB6 := Lib.hid (below_step HB5.out hb6)
            clear hb6
            go_wp2_with fail
            go_ret2
            right
            exact ⟨HN3.out, by first | rfl | trivial, HB6.out⟩
end Go.Proofs.Ytieoncjdhileoaa
