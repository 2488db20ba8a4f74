import Derived.Test.YtliobahnekohmaaGreatIwA
import Derived.Test.YtliobahnekohmaaGreatNumO
import Derived.Deep.Slices
import Derived.OpenShut
import Derived.ChangeOld
import Derived.Test.YtliobahnekohmaaGreatIwC
/-
  Entries that came in.
-/
namespace Go.Proofs.YtliobahnekohmaaGreat
open Go.RowKit
open Go.ChangeShapes Go.WideShapes Go.Deep
section
variable {H : Type} {enc : TypeId × Value → H} {w : World} {spare : Nat → Bool} {held : Bool}
set_option maxRecDepth 100000 in
theorem labs_of {fuel : Nat} {v : Value} {x : DataW H × List MemPlace} (h : DataW.trod enc Tryz.prog w 0 spare held fuel 57 [v] = some x) :
    ∃ (A : Option Addr) (l : List Lab) (c : Nat), v = .slice A l.length c ∧ l.length ≤ maxLen ∧ (A = none → l.length = 0 ∧ c = 0) ∧ LabRow w A l.length (La.at_ l) := by
  rcases open_slice_pairs Tryz.underlying57 Tryz.underlying37 rfl rfl rfl rfl rfl h with ⟨hcs, _⟩ | ⟨a, len, cap, m, n', V0, V1, D0, D1, P0, P1, hcs, _, hl, hm, hmm, _, hi⟩
  · exact ⟨none, [], 0, (List.cons.inj hcs).1, by simp, fun _ => ⟨rfl, rfl⟩, fun h => absurd h (Nat.lt_irrefl 0)⟩
  · have hlm : len ≤ m := by rw [hmm]; split <;> omega
    have each : ∀ i, i < m → ∃ q : Lab, V0 i = .string q.1 ∧ V1 i = .string q.2 := fun i him => by
      obtain ⟨_, _, g0, g1⟩ := hi i him
      obtain ⟨z0, e0, w0⟩ := text_of_trod Tryz.underlying9 g0
      obtain ⟨z1, e1, w1⟩ := text_of_trod Tryz.underlying9 g1
      exact ⟨(z0, z1), e0, e1⟩
    have : Inhabited Lab := ⟨(ByteArray.empty, ByteArray.empty)⟩
    obtain ⟨q, hq⟩ := choose_lt each
    have hlen : ((List.range len).map q).length = len := by simp
    refine ⟨some a, (List.range len).map q, cap, by rw [hlen]; exact (List.cons.inj hcs).1, by rw [hlen]; exact Nat.le_trans hl hm, (fun h => by cases h), ?_⟩
    rw [hlen]
    intro hn
    refine ⟨a, rfl, ?_, fun i hin => ?_⟩
    · have := block_lt_of_cell (hi 0 (by omega)).1
      rwa [addr_block] at this
    · obtain ⟨g0, g1, _, _⟩ := hi i (by omega)
      obtain ⟨q0, q1⟩ := hq i (by omega)
      rw [q0] at g0; rw [q1] at g1
      have e : La.at_ ((List.range len).map q) i = q i := by unfold La.at_; simp [List.getD, hin]
      rw [e]
      exact ⟨g0, g1⟩
def EAt.cells (x : EAt) : List Value := [.slice x.A x.e.l.length x.c, .int .i64 x.e.last, .int .i64 x.e.off, .int .i64 x.e.len]
structure EAt.Came (w : World) (x : EAt) : Prop where
  labs : LabRow w x.A x.e.l.length (La.at_ x.e.l)
  words : EWords x.e
  len : x.e.l.length ≤ maxLen
set_option maxRecDepth 100000 in
set_option maxHeartbeats 1000000 in
theorem ent_of {fuel : Nat} {cs : List Value} {x : DataW H × List MemPlace} (h : DataW.trod enc Tryz.prog w 0 spare held fuel 59 cs = some x) :
    ∃ o : EAt, cs = o.cells ∧ o.Came w := by
  obtain ⟨xs, k, hk, hxy, hlen, hxl, hf⟩ := DataW.trod_struct Tryz.underlying59 h
  have hc : Tryz.prog.cellsOf 59 = 4 := by kernel_rfl
  rw [hc] at hlen
  match xs, hxl, cs, hlen with
  | [y0, y1, y2, y3], _, [v0, v1, v2, v3], _ =>
    have g0 := hf 0 _ rfl
    have g1 := hf 1 _ rfl
    have g2 := hf 2 _ rfl
    have g3 := hf 3 _ rfl
    have e0 : Tryz.prog.cellsOf 3 = 1 := by kernel_rfl
    have e1 : Tryz.prog.cellsOf 57 = 1 := by kernel_rfl
    have e3 : Tryz.prog.cellsOf 2 = 1 := by kernel_rfl
    simp [e0, e1, e3] at g0 g1 g2 g3
    obtain ⟨A1, l, c1, h1, q1, z1, r1⟩ := labs_of g0
    obtain ⟨a1, h11, _, w1⟩ := DataW.trod_int Tryz.underlying2 g1
    obtain ⟨a2, h2, _, w2⟩ := DataW.trod_int Tryz.underlying3 g2
    obtain ⟨a3, h3, _, w3⟩ := DataW.trod_int Tryz.underlying3 g3
    refine ⟨⟨⟨l, a1, a2, a3⟩, A1, c1⟩, ?_, ⟨r1, ⟨(i64_bd a1 w1).out, (i64_bd a2 w2).out, (i64_bd a3 w3).out⟩, q1⟩⟩
    rw [h1, show v1 = .int .i64 a1 from (List.cons.inj h11).1, show v2 = .int .i64 a2 from (List.cons.inj h2).1, show v3 = .int .i64 a3 from (List.cons.inj h3).1]
    rfl
theorem ex_cells (q : Nat → EAt) (i j : Nat) (hj : j < 4) : (q i).cells[j]? = some (ex q i j) := by
  rcases (show j = 0 ∨ j = 1 ∨ j = 2 ∨ j = 3 by omega) with rfl | rfl | rfl | rfl <;> rfl
set_option maxRecDepth 100000 in
set_option maxHeartbeats 1000000 in
theorem ents_of {fuel : Nat} {v : Value} {x : DataW H × List MemPlace} (hf : DataW.trod enc Tryz.prog w 0 spare held fuel 22 [v] = some x) :
    ∃ (A : Option Addr) (n c : Nat) (q : Nat → EAt), v = .slice A n c ∧ n ≤ maxLen ∧ (A = none → n = 0 ∧ c = 0) ∧ EntsRaw w A n q := by
  rcases open_slice Tryz.underlying22 hf with ⟨hcs, _⟩ | ⟨a, len, cap, m, n', D, Pl, hcs, _, hl, hm, hmm, _, hi⟩
  · obtain rfl := (List.cons.inj hcs).1
    exact ⟨none, 0, 0, fun _ => ⟨⟨[], 0, 0, 0⟩, none, 0⟩, rfl, by simp, fun _ => ⟨rfl, rfl⟩, fun h => absurd h (by omega), fun i hi => absurd hi (by omega), fun i hi => absurd hi (by omega), fun i hi => absurd hi (by omega)⟩
  · obtain rfl := (List.cons.inj hcs).1
    have hc4 : Tryz.prog.cellsOf 59 = 4 := by kernel_rfl
    have hlm : len ≤ m := by rw [hmm]; split <;> omega
    have each : ∀ i, i < m → ∃ q : EAt, (∀ j, j < 4 → w.cell? (a.add (i * 4 + j)) = q.cells[j]?) ∧ q.Came w := fun i him => by
      obtain ⟨cs', h1, h2⟩ := hi i him
      rw [hc4] at h1
      obtain ⟨_, hlen, hcell⟩ := World.cells?_some h1
      obtain ⟨q, rfl, s1⟩ := ent_of h2
      refine ⟨q, fun j hj => ?_, s1⟩
      have e := hcell j (by omega)
      rw [add_add] at e
      rw [e]
    have : Inhabited EAt := ⟨⟨⟨[], 0, 0, 0⟩, none, 0⟩⟩
    obtain ⟨q, hq⟩ := choose_lt each
    refine ⟨some a, len, cap, q, rfl, Nat.le_trans hl hm, (fun h => by cases h), ⟨fun hn => ⟨a, rfl, ?_, fun i hin j hj => ?_⟩, fun i hin => (hq i (by omega)).2.labs, fun i hin => (hq i (by omega)).2.words, fun i hin => (hq i (by omega)).2.len⟩⟩
    · have := block_lt_of_cell ((hq 0 (by omega)).1 0 (by omega))
      rwa [addr_block] at this
    · rw [(hq i (by omega)).1 j hj]
      exact ex_cells q i j hj
set_option maxRecDepth 100000 in
theorem open_ents {r : Reach} {b0 : Nat} {v : Value} {d : DataW H} {p : List MemPlace} (hv : Value.okWide Tryz.prog w r b0 22 v) (h : DataW.Trod enc Tryz.prog w 0 spare held 22 v d p) :
    ∃ (A : Option Addr) (n c : Nat) (q : Nat → EAt), v = .slice A n c ∧ n ≤ maxLen ∧ (A = none → n = 0 ∧ c = 0) ∧ EntsRaw w A n q := by
  obtain ⟨A, n, c, rfl⟩ := okWide_slice Tryz.underlying22 hv
  obtain ⟨fuel, hf⟩ := h
  exact ents_of hf
end
end Go.Proofs.YtliobahnekohmaaGreat
/-
  IndexBack: the walk.
-/
namespace Go.Proofs.YtliobahnekohmaaGreat
open Go.RowKit
theorem put_room {w : World} {A : Option Addr} {n : Nat} {q : Nat → EAt} {g : Int} (h : EntsIn w A n q) : (Ix.put g (entL q n)).1.size ≤ 300000 := by
  by_cases hv : Ix.valid (entL q n) g = 0
  · rw [Ix.put_ok hv]
    have h1 := body_size (g := g) (egood h hv).1
    show (Ix.body g (entL q n) ++ Crc.four _).size ≤ _
    rw [ByteArray.size_append, Crc.four_size]
    omega
  · rw [Ix.put_no hv]; exact Nat.zero_le _
set_option maxRecDepth 100000 in
set_option maxHeartbeats 8000000 in
theorem indexBack_walk {H : Type} {enc : TypeId × Value → H} {r0 : Reach} {b0 : Nat} {v0 : Value} {d0 : DataW H} {p0 : List MemPlace} (w : World)
    (o0 : Value.okWide Tryz.prog w r0 b0 22 v0) (k0 : DataW.Trod enc Tryz.prog w 0 (fun _ => true) true 22 v0 d0 p0)
    (s : ByteArray) (ws : s.size ≤ maxLen) (g : Int) (_wg : (Lit.int .i64 g).wf = true) :
    Calls Tryz.prog 5 #[v0, .string s, .int .i64 g] w fun e w' => e = .returned (.bool true) ∧ Below w.heap.size w w' := by
  obtain ⟨A, n, c, q, rfl, hn, -, hA⟩ := open_ents o0 k0
  clear o0 k0
  have HA := Lib.hid hA
  have HF := Lib.hid (fun U (hU : Below w.heap.size w U) => few_any A n c hn q U (HA.out.later hU))
  have HGS := Lib.hid (fun U => IGet_any s g ws U)
  clear hA
  go_enter Tryz.func5, Tryz.ntmps5
  go_wp2_with fail
  refine (works_any _).mono ?_; rintro e w1 ⟨rfl, hb1⟩
  have HB1 := Lib.hid hb1
  clear hb1
  go_wp2_with fail
  refine (HF.out _ HB1.out).mono ?_; rintro e w2 ⟨rfl, hb2⟩
  have HB2 := Lib.hid (below_step HB1.out hb2)
  clear hb2 HB1 HF
  obtain ⟨f1, hf1⟩ : ∃ f1, f1 = fewR q n := ⟨_, rfl⟩
  rw [← hf1]
  cases f1 with
  | false =>
    clear hf1
    go_wp2_with fail
    go_ret
    exact ⟨rfl, HB2.out⟩
  | true =>
    by_cases hz : 4000 < s.size
    · have dz : decide ((4000 : Int) < (s.size : Int)) = true := decide_eq_true (by omega)
      have dzn : decide (4000 < s.size) = true := decide_eq_true hz
      clear hf1
      go_wp2_with fail
      go_ret
      exact ⟨rfl, HB2.out⟩
    · have dz : decide ((4000 : Int) < (s.size : Int)) = false := decide_eq_false (by omega)
      have dzn : decide (4000 < s.size) = false := decide_eq_false hz
      have hin := (HA.out.in_ hf1.symm).later HB2.out
      have HIN := Lib.hid hin
      have HP := Lib.hid (Put_any A n c q g w2 hin)
      have hroom := put_room (g := g) hin
      have hgp := Ix.get_put (g := g) (L := entL q n)
      have herr := Ix.put_err g (entL q n)
      have hpn := Ix.put_no (g := g) (L := entL q n)
      generalize hLL : entL q n = L at *
      have HLL := Lib.hid hLL
      clear hin hf1 hLL
      generalize Ix.put g L = pt at *
      obtain ⟨t, er⟩ := pt
      simp only at HP hroom hgp herr hpn
      have HGT := Lib.hid (fun U => IGet_any t g (by unfold maxLen; omega) U)
      have HVL := Lib.hid (fun U (hU : Below w2.heap.size w2 U) => Valid_any A n c q g U (HIN.out.later hU))
      rw [HLL.out, ← herr] at HVL
      by_cases hv : er = 0
      · have hg := hgp (by rw [← herr]; exact hv)
        rw [hg] at HGT
        have HSM : Hid (∀ U B kb p, Below w2.heap.size w2 U → EntsIn U B L.length p → entL p L.length = L → Calls Tryz.prog 17 #[.slice A n c, .slice B L.length kb] U fun e w' => e = .returned (.bool true) ∧ Below U.heap.size U w') := Lib.hid (fun U B kb p hU hi he => by
          refine (ISame_any A B n L.length c kb q p U (HIN.out.later hU) hi).mono ?_
          rintro e w' ⟨r, rfl, hr, hb⟩
          have : r = true := hr.2 (by rw [HLL.out, he])
          subst this
          exact ⟨rfl, hb⟩)
        clear hgp hpn hg hroom herr
        subst hv
        go_wp2_with fail
        refine HP.out.mono ?_; rintro e w3 ⟨rfl, hb3⟩
        have HB3 := Lib.hid (below_step HB2.out hb3); have HB23 := Lib.hid hb3
        clear hb3 HP HB2
        go_wp2_with fail
        refine (HGT.out w3).mono ?_; rintro e w4 ⟨B, kb, p, rfl, hin4, hel4, hb4⟩
        have HB4 := Lib.hid (below_step HB3.out hb4); have HB24 := Lib.hid (below_step HB23.out hb4)
        have HCV := Lib.hid (HVL.out w4 HB24.out)
        have HCS := Lib.hid (fun U (hU : Below w4.heap.size w4 U) => HSM.out U B kb p (HB24.out.trans (hU.mono HB24.out.size)) (hin4.later hU) hel4)
        clear hb4 HGT HVL HSM hin4 hel4 HB3 HB23
        generalize L.length = ln at *
        go_wp2_with fail
        refine HCV.out.mono ?_; rintro e w5 ⟨rfl, hb5⟩
        have HB5 := Lib.hid (below_step HB4.out hb5)
        have HC2 := Lib.hid (HCS.out w5 hb5)
        clear hb5 HCV HCS HB4 HB24
        go_wp2_with fail
        refine HC2.out.mono ?_; rintro e w6 ⟨rfl, hb6⟩
        have HB6 := Lib.hid (below_step HB5.out hb6)
        clear hb6 HC2 HB5
        go_wp2_with fail
        refine (HGS.out _).mono ?_; rintro e w7 ⟨B, kb, p, rfl, hin7, hel7, hb7⟩
        have HB7 := Lib.hid (below_step HB6.out hb7)
        clear hb7 HGS HB6
        by_cases he2 : (Ix.get g s).2 = 0
        · have hok := Ix.get_ok he2
          have HPU := Lib.hid (Put_any B (Ix.get g s).1.length kb p g w7 hin7)
          rw [hel7, hok] at HPU
          have hvv : Ix.valid (Ix.get g s).1 g = 0 := by rw [← Ix.put_err, hok]
          have HVA := Lib.hid (fun U (hU : Below w7.heap.size w7 U) => Valid_any B (Ix.get g s).1.length kb p g U (hin7.later hU))
          rw [hel7, hvv] at HVA
          rw [he2]
          clear hin7 hel7 hok hvv he2
          generalize (Ix.get g s).1.length = ln at *
          go_wp2_with fail
          refine HPU.out.mono ?_; rintro e w8 ⟨rfl, hb8⟩
          have HB8 := Lib.hid (below_step HB7.out hb8)
          have HC := Lib.hid (HVA.out w8 hb8)
          clear hb8 HPU HVA HB7
          have b0 : (s.toList == s.toList) = true := beq_self_eq_true _
          go_wp2_with fail
          refine HC.out.mono ?_; rintro e w9 ⟨rfl, hb9⟩
          have HB9 := Lib.hid (below_step HB8.out hb9)
          clear hb9 HC HB8
          go_wp2_with fail
          go_ret
          exact ⟨rfl, HB9.out⟩
        · have hno := Ix.get_no he2
          have d5 : ((Ix.get g s).2 != 0) = true := bne_iff_ne.2 he2
          rw [hno]
          have hl0 : ([] : List Ix.Ent).length = 0 := rfl
          clear hin7 hel7 he2 hno
          generalize (Ix.get g s).2 = e2 at *
          go_wp2_with fail
          go_ret
          exact ⟨rfl, HB7.out⟩
      · have hg := hpn (by rw [← herr]; exact hv)
        have ht : t = ByteArray.empty := (Prod.mk.inj hg).1
        subst ht
        have d1 : (er == 0) = false := beq_eq_false_iff_ne.2 hv
        have d2 : (er != 0) = true := bne_iff_ne.2 hv
        clear hgp hpn hg hroom herr hv
        go_wp2_with fail
        refine HP.out.mono ?_; rintro e w3 ⟨rfl, hb3⟩
        have HB3 := Lib.hid (below_step HB2.out hb3); have HB23 := Lib.hid hb3
        clear hb3 HP HB2
        go_wp2_with fail
        refine (HGT.out w3).mono ?_; rintro e w4 ⟨B, kb, p, rfl, -, -, hb4⟩
        have HB4 := Lib.hid (below_step HB3.out hb4); have HB24 := Lib.hid (below_step HB23.out hb4)
        have HCV := Lib.hid (HVL.out w4 HB24.out)
        clear hb4 HGT HVL HB3 HB23
        generalize (Ix.get g ByteArray.empty).1.length = ln at *
        generalize (Ix.get g ByteArray.empty).2 = e1 at *
        go_wp2_with fail
        refine HCV.out.mono ?_; rintro e w6 ⟨rfl, hb5⟩
        have HB6 := Lib.hid (below_step HB4.out hb5)
        clear hb5 HCV HB4 HB24
        go_wp2_with fail
        refine (HGS.out _).mono ?_; rintro e w7 ⟨B, kb, p, rfl, hin7, hel7, hb7⟩
        have HB7 := Lib.hid (below_step HB6.out hb7)
        clear hb7 HGS HB6
        by_cases he2 : (Ix.get g s).2 = 0
        · have hok := Ix.get_ok he2
          have HPU := Lib.hid (Put_any B (Ix.get g s).1.length kb p g w7 hin7)
          rw [hel7, hok] at HPU
          have hvv : Ix.valid (Ix.get g s).1 g = 0 := by rw [← Ix.put_err, hok]
          have HVA := Lib.hid (fun U (hU : Below w7.heap.size w7 U) => Valid_any B (Ix.get g s).1.length kb p g U (hin7.later hU))
          rw [hel7, hvv] at HVA
          rw [he2]
          clear hin7 hel7 hok hvv he2
          generalize (Ix.get g s).1.length = ln at *
          go_wp2_with fail
          refine HPU.out.mono ?_; rintro e w8 ⟨rfl, hb8⟩
          have HB8 := Lib.hid (below_step HB7.out hb8)
          have HC := Lib.hid (HVA.out w8 hb8)
          clear hb8 HPU HVA HB7
          have b0 : (s.toList == s.toList) = true := beq_self_eq_true _
          go_wp2_with fail
          refine HC.out.mono ?_; rintro e w9 ⟨rfl, hb9⟩
          have HB9 := Lib.hid (below_step HB8.out hb9)
          clear hb9 HC HB8
          go_wp2_with fail
          go_ret
          exact ⟨rfl, HB9.out⟩
        · have hno := Ix.get_no he2
          have d5 : ((Ix.get g s).2 != 0) = true := bne_iff_ne.2 he2
          rw [hno]
          have hl0 : ([] : List Ix.Ent).length = 0 := rfl
          clear hin7 hel7 he2 hno
          generalize (Ix.get g s).2 = e2 at *
          go_wp2_with fail
          go_ret
          exact ⟨rfl, HB7.out⟩
end Go.Proofs.YtliobahnekohmaaGreat
