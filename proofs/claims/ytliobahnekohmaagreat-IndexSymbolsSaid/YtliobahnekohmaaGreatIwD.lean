/-
  IndexBack: the walk.
-/
import Derived.Test.YtliobahnekohmaaGreatIwC
import Derived.Test.YtliobahnekohmaaGreatIwO
namespace Go.Proofs.YtliobahnekohmaaGreat
open Go.RowKit
theorem put_room {w : World} {A : Option Addr} {n : Nat} {q : Nat → EAt} {g : Int} (h : EntsIn w A n q) : (Ix.put g (entL q n)).1.size ≤ 300000 := by
  by_cases hv : Ix.valid (entL q n) g = 0
  · rw [Ix.put_ok hv]
    have h1 := body_size (g := g) (egood h hv).1
    show (Ix.body g (entL q n) ++ Crc.four _).size ≤ _
    rw [ByteArray.size_append, Crc.four_size]
    omega
  · rw [Ix.put_no hv]; exact Nat.zero_le _
set_option maxRecDepth 100000 in
set_option maxHeartbeats 8000000 in
theorem indexBack_walk {H : Type} {enc : TypeId × Value → H} {r0 : Reach} {b0 : Nat} {v0 : Value} {d0 : DataW H} {p0 : List MemPlace} (w : World)
    (o0 : Value.okWide Tryz.prog w r0 b0 22 v0) (k0 : DataW.Trod enc Tryz.prog w 0 (fun _ => true) true 22 v0 d0 p0)
    (s : ByteArray) (ws : s.size ≤ maxLen) (g : Int) (_wg : (Lit.int .i64 g).wf = true) :
    Calls Tryz.prog 5 #[v0, .string s, .int .i64 g] w fun e w' => e = .returned (.bool true) ∧ Below w.heap.size w w' := by
  obtain ⟨A, n, c, q, rfl, hn, -, hA⟩ := open_ents o0 k0
  clear o0 k0
  have HA := Lib.hid hA
  have HF := Lib.hid (fun U (hU : Below w.heap.size w U) => few_any A n c hn q U (HA.out.later hU))
  have HGS := Lib.hid (fun U => IGet_any s g ws U)
  clear hA
  go_enter Tryz.func5, Tryz.ntmps5
  go_wp2_with fail
  refine (works_any _).mono ?_; rintro e w1 ⟨rfl, hb1⟩
  have HB1 := Lib.hid hb1
  clear hb1
  go_wp2_with fail
  refine (HF.out _ HB1.out).mono ?_; rintro e w2 ⟨rfl, hb2⟩
  have HB2 := Lib.hid (below_step HB1.out hb2)
  clear hb2 HB1 HF
  obtain ⟨f1, hf1⟩ : ∃ f1, f1 = fewR q n := ⟨_, rfl⟩
  rw [← hf1]
  cases f1 with
  | false =>
    clear hf1
    go_wp2_with fail
    go_ret
    exact ⟨rfl, HB2.out⟩
  | true =>
    by_cases hz : 4000 < s.size
    · have dz : decide ((4000 : Int) < (s.size : Int)) = true := decide_eq_true (by omega)
      have dzn : decide (4000 < s.size) = true := decide_eq_true hz
      clear hf1
      go_wp2_with fail
      go_ret
      exact ⟨rfl, HB2.out⟩
    · have dz : decide ((4000 : Int) < (s.size : Int)) = false := decide_eq_false (by omega)
      have dzn : decide (4000 < s.size) = false := decide_eq_false hz
      have hin := (HA.out.in_ hf1.symm).later HB2.out
      have HIN := Lib.hid hin
      have HP := Lib.hid (Put_any A n c q g w2 hin)
      have hroom := put_room (g := g) hin
      have hgp := Ix.get_put (g := g) (L := entL q n)
      have herr := Ix.put_err g (entL q n)
      have hpn := Ix.put_no (g := g) (L := entL q n)
      generalize hLL : entL q n = L at *
      have HLL := Lib.hid hLL
      clear hin hf1 hLL
      generalize Ix.put g L = pt at *
      obtain ⟨t, er⟩ := pt
      simp only at HP hroom hgp herr hpn
      have HGT := Lib.hid (fun U => IGet_any t g (by unfold maxLen; omega) U)
      have HVL := Lib.hid (fun U (hU : Below w2.heap.size w2 U) => Valid_any A n c q g U (HIN.out.later hU))
      rw [HLL.out, ← herr] at HVL
      by_cases hv : er = 0
      · have hg := hgp (by rw [← herr]; exact hv)
        rw [hg] at HGT
        have HSM : Hid (∀ U B kb p, Below w2.heap.size w2 U → EntsIn U B L.length p → entL p L.length = L → Calls Tryz.prog 17 #[.slice A n c, .slice B L.length kb] U fun e w' => e = .returned (.bool true) ∧ Below U.heap.size U w') := Lib.hid (fun U B kb p hU hi he => by
          refine (ISame_any A B n L.length c kb q p U (HIN.out.later hU) hi).mono ?_
          rintro e w' ⟨r, rfl, hr, hb⟩
          have : r = true := hr.2 (by rw [HLL.out, he])
          subst this
          exact ⟨rfl, hb⟩)
        clear hgp hpn hg hroom herr
        subst hv
        go_wp2_with fail
        refine HP.out.mono ?_; rintro e w3 ⟨rfl, hb3⟩
        have HB3 := Lib.hid (below_step HB2.out hb3); have HB23 := Lib.hid hb3
        clear hb3 HP HB2
        go_wp2_with fail
        refine (HGT.out w3).mono ?_; rintro e w4 ⟨B, kb, p, rfl, hin4, hel4, hb4⟩
        have HB4 := Lib.hid (below_step HB3.out hb4); have HB24 := Lib.hid (below_step HB23.out hb4)
        have HCV := Lib.hid (HVL.out w4 HB24.out)
        have HCS := Lib.hid (fun U (hU : Below w4.heap.size w4 U) => HSM.out U B kb p (HB24.out.trans (hU.mono HB24.out.size)) (hin4.later hU) hel4)
        clear hb4 HGT HVL HSM hin4 hel4 HB3 HB23
        generalize L.length = ln at *
        go_wp2_with fail
        refine HCV.out.mono ?_; rintro e w5 ⟨rfl, hb5⟩
        have HB5 := Lib.hid (below_step HB4.out hb5)
        have HC2 := Lib.hid (HCS.out w5 hb5)
        clear hb5 HCV HCS HB4 HB24
        go_wp2_with fail
        refine HC2.out.mono ?_; rintro e w6 ⟨rfl, hb6⟩
        have HB6 := Lib.hid (below_step HB5.out hb6)
        clear hb6 HC2 HB5
        go_wp2_with fail
        refine (HGS.out _).mono ?_; rintro e w7 ⟨B, kb, p, rfl, hin7, hel7, hb7⟩
        have HB7 := Lib.hid (below_step HB6.out hb7)
        clear hb7 HGS HB6
        by_cases he2 : (Ix.get g s).2 = 0
        · have hok := Ix.get_ok he2
          have HPU := Lib.hid (Put_any B (Ix.get g s).1.length kb p g w7 hin7)
          rw [hel7, hok] at HPU
          have hvv : Ix.valid (Ix.get g s).1 g = 0 := by rw [← Ix.put_err, hok]
          have HVA := Lib.hid (fun U (hU : Below w7.heap.size w7 U) => Valid_any B (Ix.get g s).1.length kb p g U (hin7.later hU))
          rw [hel7, hvv] at HVA
          rw [he2]
          clear hin7 hel7 hok hvv he2
          generalize (Ix.get g s).1.length = ln at *
          go_wp2_with fail
          refine HPU.out.mono ?_; rintro e w8 ⟨rfl, hb8⟩
          have HB8 := Lib.hid (below_step HB7.out hb8)
          have HC := Lib.hid (HVA.out w8 hb8)
          clear hb8 HPU HVA HB7
          have b0 : (s.toList == s.toList) = true := beq_self_eq_true _
          go_wp2_with fail
          refine HC.out.mono ?_; rintro e w9 ⟨rfl, hb9⟩
          have HB9 := Lib.hid (below_step HB8.out hb9)
          clear hb9 HC HB8
          go_wp2_with fail
          go_ret
          exact ⟨rfl, HB9.out⟩
        · have hno := Ix.get_no he2
          have d5 : ((Ix.get g s).2 != 0) = true := bne_iff_ne.2 he2
          rw [hno]
          have hl0 : ([] : List Ix.Ent).length = 0 := rfl
          clear hin7 hel7 he2 hno
          generalize (Ix.get g s).2 = e2 at *
          go_wp2_with fail
          go_ret
          exact ⟨rfl, HB7.out⟩
      · have hg := hpn (by rw [← herr]; exact hv)
        have ht : t = ByteArray.empty := (Prod.mk.inj hg).1
        subst ht
        have d1 : (er == 0) = false := beq_eq_false_iff_ne.2 hv
        have d2 : (er != 0) = true := bne_iff_ne.2 hv
        clear hgp hpn hg hroom herr hv
        go_wp2_with fail
        refine HP.out.mono ?_; rintro e w3 ⟨rfl, hb3⟩
        have HB3 := Lib.hid (below_step HB2.out hb3); have HB23 := Lib.hid hb3
        clear hb3 HP HB2
        go_wp2_with fail
        refine (HGT.out w3).mono ?_; rintro e w4 ⟨B, kb, p, rfl, -, -, hb4⟩
        have HB4 := Lib.hid (below_step HB3.out hb4); have HB24 := Lib.hid (below_step HB23.out hb4)
        have HCV := Lib.hid (HVL.out w4 HB24.out)
        clear hb4 HGT HVL HB3 HB23
        generalize (Ix.get g ByteArray.empty).1.length = ln at *
        generalize (Ix.get g ByteArray.empty).2 = e1 at *
        go_wp2_with fail
        refine HCV.out.mono ?_; rintro e w6 ⟨rfl, hb5⟩
        have HB6 := Lib.hid (below_step HB4.out hb5)
        clear hb5 HCV HB4 HB24
        go_wp2_with fail
        refine (HGS.out _).mono ?_; rintro e w7 ⟨B, kb, p, rfl, hin7, hel7, hb7⟩
        have HB7 := Lib.hid (below_step HB6.out hb7)
        clear hb7 HGS HB6
        by_cases he2 : (Ix.get g s).2 = 0
        · have hok := Ix.get_ok he2
          have HPU := Lib.hid (Put_any B (Ix.get g s).1.length kb p g w7 hin7)
          rw [hel7, hok] at HPU
          have hvv : Ix.valid (Ix.get g s).1 g = 0 := by rw [← Ix.put_err, hok]
          have HVA := Lib.hid (fun U (hU : Below w7.heap.size w7 U) => Valid_any B (Ix.get g s).1.length kb p g U (hin7.later hU))
          rw [hel7, hvv] at HVA
          rw [he2]
          clear hin7 hel7 hok hvv he2
          generalize (Ix.get g s).1.length = ln at *
          go_wp2_with fail
          refine HPU.out.mono ?_; rintro e w8 ⟨rfl, hb8⟩
          have HB8 := Lib.hid (below_step HB7.out hb8)
          have HC := Lib.hid (HVA.out w8 hb8)
          clear hb8 HPU HVA HB7
          have b0 : (s.toList == s.toList) = true := beq_self_eq_true _
          go_wp2_with fail
          refine HC.out.mono ?_; rintro e w9 ⟨rfl, hb9⟩
          have HB9 := Lib.hid (below_step HB8.out hb9)
          clear hb9 HC HB8
          go_wp2_with fail
          go_ret
          exact ⟨rfl, HB9.out⟩
        · have hno := Ix.get_no he2
          have d5 : ((Ix.get g s).2 != 0) = true := bne_iff_ne.2 he2
          rw [hno]
          have hl0 : ([] : List Ix.Ent).length = 0 := rfl
          clear hin7 hel7 he2 hno
          generalize (Ix.get g s).2 = e2 at *
          go_wp2_with fail
          go_ret
          exact ⟨rfl, HB7.out⟩
end Go.Proofs.YtliobahnekohmaaGreat
