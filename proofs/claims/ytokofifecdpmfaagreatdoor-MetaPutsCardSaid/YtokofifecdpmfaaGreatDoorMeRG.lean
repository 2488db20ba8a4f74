/-
  What get and read of the document's answer for metas come to.
-/
import Derived.Test.YtokofifecdpmfaaGreatDoorMeRP
import Derived.Test.YtokofifecdpmfaaGreatDoorMeD
namespace Go.Proofs.YtokofifecdpmfaaGreatDoor
open Go.RowKit
namespace Me
theorem empty_dec (r : ByteArray) : decide (r = ByteArray.empty) = r.toList.isEmpty := by
  have h := str_beq r ByteArray.empty
  have h2 : ByteArray.empty.toList = [] := by
    unfold ByteArray.toList ByteArray.toList.loop
    rfl
  rw [← h, h2]
  cases r.toList <;> rfl
theorem rg_wide (s : ByteArray) : rg 1 s = ((if decide (8 ≤ s.size) = true then Num.num (s.data.toList.take 8) else 0), (if decide (8 ≤ s.size) = true then s.extract 8 s.size else s), decide (8 ≤ s.size)) := by
  unfold rg step
  rw [if_pos rfl]
  by_cases h : 8 ≤ s.size <;> simp [h]
theorem rg_small (gen : Int) (h : gen ≠ 1) (s : ByteArray) : rg gen s = ((if (Num.decp 0 0 s.data.toList).2.2 = true then (Num.decp 0 0 s.data.toList).1 else 0), (if (Num.decp 0 0 s.data.toList).2.2 = true then s.extract (Num.decp 0 0 s.data.toList).2.1 s.size else s), (Num.decp 0 0 s.data.toList).2.2) := by
  unfold rg step
  rw [if_neg h]
  cases hd : (Num.decp 0 0 s.data.toList).2.2 <;> simp
theorem rread_parts (s : ByteArray) (gen : Int) (n1 n2 n3 : Nat) (a1 a2 a3 : ByteArray) (p1 p2 p3 : Bool) (h1 : rg gen s = (n1, a1, p1)) (h2 : rg gen a1 = (n2, a2, p2)) (h3 : rg gen a2 = (n3, a3, p3)) :
    rread s gen = if p1 = true ∧ p2 = true ∧ p3 = true ∧ n1 ≤ 999999 ∧ n2 ≤ 999999 ∧ n3 ≤ 40 then
      (match rrest gen n3 [] 0 a3 with
      | some (l, r) => (⟨gen, (n1 : Nat), if gen = 3 then (n1 : Int) - (n2 : Nat) else (n2 : Nat), l⟩, decide (r = ByteArray.empty))
      | none => (zero, false)) else (zero, false) := by
  unfold rread rmeta rfirst
  simp only [h1, h2, h3, Bool.and_eq_true, decide_eq_true_eq, and_assoc]
  by_cases hc : p1 = true ∧ p2 = true ∧ p3 = true ∧ n1 ≤ 999999 ∧ n2 ≤ 999999 ∧ n3 ≤ 40
  · rw [if_pos hc, if_pos hc]; rfl
  · rw [if_neg hc, if_neg hc]
end Me

set_option maxRecDepth 100000 in
set_option maxHeartbeats 400000 in
theorem rget_any (s : ByteArray) (hs : s.size ≤ 1000) (gen : Int) (w : World) :
    Calls Tryz.prog 60 #[.string s, .int .i64 gen] w fun e w' => e = .returned (.tuple #[.int .u64 ((Me.rg gen s).1 : Nat), .string (Me.rg gen s).2.1, .bool (Me.rg gen s).2.2]) ∧ Below w.heap.size w w' := by
  by_cases h1 : gen = 1
  · subst h1
    have HW := Lib.hid (fun W => rGetWide_any s hs W)
    rw [Me.rg_wide s]
    dsimp only
    generalize ((if decide (8 ≤ s.size) = true then Num.num (s.data.toList.take 8) else 0 : Nat)) = n at *
    generalize (if decide (8 ≤ s.size) = true then s.extract 8 s.size else s) = r at *
    generalize decide (8 ≤ s.size) = ok at *
    clear hs
    go_enter Tryz.func60, Tryz.ntmps60
    go_wp2_with fail
    refine (HW.out _).mono ?_; rintro e w2 ⟨rfl, hb2⟩
    have HB2 := Lib.hid hb2; clear hb2
    go_wp2_with fail
    go_ret3
    exact ⟨rfl, HB2.out⟩
  · have HW := Lib.hid (fun W => rGetSmall_any s hs W _ _ _ rfl rfl rfl)
    have d1 : (gen == 1) = false := by simpa using h1
    rw [Me.rg_small gen h1 s]
    dsimp only
    generalize ((if (Num.decp 0 0 s.data.toList).2.2 = true then (Num.decp 0 0 s.data.toList).1 else 0 : Nat)) = n at *
    generalize (if (Num.decp 0 0 s.data.toList).2.2 = true then s.extract (Num.decp 0 0 s.data.toList).2.1 s.size else s) = r at *
    generalize (Num.decp 0 0 s.data.toList).2.2 = ok at *
    clear hs h1
    go_enter Tryz.func60, Tryz.ntmps60
    go_wp2_with fail
    refine (HW.out _).mono ?_; rintro e w2 ⟨rfl, hb2⟩
    have HB2 := Lib.hid hb2; clear hb2
    go_wp2_with fail
    go_ret3
    exact ⟨rfl, HB2.out⟩

set_option maxRecDepth 100000 in
set_option maxHeartbeats 1000000 in
theorem rread_any (s : ByteArray) (hs : s.size ≤ 1000) (gen : Int) (w : World) :
    Calls Tryz.prog 35 #[.string s, .int .i64 gen] w fun e w' => ∃ A c, e = .returned (.tuple #[(Me.rread s gen).1.val A c, .bool (Me.rread s gen).2]) ∧ Ints w' A c (Me.rread s gen).1.bs ∧ (∀ ad, A = some ad → w.heap.size ≤ ad.block) ∧ Below w.heap.size w w' := by
  have hrow : RowIs (w.alloc (.cells #[.int .i64 0, .int .i64 0, .int .i64 0, .slice none 0 0] 30)) w.heap.size (.cells #[.int .i64 0, .int .i64 0, .int .i64 0, .slice none 0 0] 30) := RowIs.one _ _
  have hb1 : Below w.heap.size w (w.alloc (.cells #[.int .i64 0, .int .i64 0, .int .i64 0, .slice none 0 0] 30)) := (Below.refl _ w).alloc (Nat.le_refl _) _
  obtain ⟨⟨n1, a1, p1⟩, e1⟩ : ∃ x, Me.rg gen s = x := ⟨_, rfl⟩
  obtain ⟨⟨n2, a2, p2⟩, e2⟩ : ∃ x, Me.rg gen a1 = x := ⟨_, rfl⟩
  obtain ⟨⟨n3, a3, p3⟩, e3⟩ : ∃ x, Me.rg gen a2 = x := ⟨_, rfl⟩
  have hrd := Me.rread_parts s gen n1 n2 n3 a1 a2 a3 p1 p2 p3 e1 e2 e3
  have z1 := Me.rg_size gen s
  have z2 := Me.rg_size gen a1
  have z3 := Me.rg_size gen a2
  rw [e1] at z1; rw [e2] at z2; rw [e3] at z3
  dsimp only at z1 z2 z3
  have hg1 := fun W => rget_any s hs gen W
  have hg2 := fun W => rget_any a1 (by omega) gen W
  have hg3 := fun W => rget_any a2 (by omega) gen W
  rw [e1] at hg1; rw [e2] at hg2; rw [e3] at hg3
  dsimp only at hg1 hg2 hg3
  have za3 : a3.size ≤ 1000 := by omega
  generalize Me.rread s gen = RD at *
  have hend : ∀ (wr : World) (m : Me.M) (ok : Bool) (A : Option Addr) (cp : Nat) (a : Act), RowIs wr w.heap.size (.cells #[.int .i64 0, .int .i64 0, .int .i64 0, .slice none 0 0] 30) → Below w.heap.size w wr → Ints wr A cp m.bs → (∀ ad, A = some ad → w.heap.size < ad.block) → RD = (m, ok) →
      a.tmps.getD 4 undef = .pointer (some ⟨w.heap.size, 0, none⟩) → a.tmps.getD 5 undef = .bool ok → a.defers = [] →
      bodyPost Tryz.prog Tryz.f35 (fun e w' => ∃ A c, e = .returned (.tuple #[RD.1.val A c, .bool RD.2]) ∧ Ints w' A c RD.1.bs ∧ (∀ ad, A = some ad → w.heap.size ≤ ad.block) ∧ Below w.heap.size w w') .ret a
        ((((wr.setCell ⟨w.heap.size, 0, none⟩ (.int .i64 m.gen)).setCell ⟨w.heap.size, 1, none⟩ (.int .i64 m.next)).setCell ⟨w.heap.size, 2, none⟩ (.int .i64 m.wal)).setCell ⟨w.heap.size, 3, none⟩ (.slice A m.bs.length cp)) := fun wr m ok A cp a h1 h2 h3 h4 h5 h6 h7 h8 => by
    have hgr := grown_four wr w.heap.size (.int .i64 m.gen) (.int .i64 m.next) (.int .i64 m.wal) (.slice A m.bs.length cp)
    have hres := rmeta_four h1 (.int .i64 m.gen) (.int .i64 m.next) (.int .i64 m.wal) (.slice A m.bs.length cp)
    have hin : Ints ((((wr.setCell ⟨w.heap.size, 0, none⟩ (.int .i64 m.gen)).setCell ⟨w.heap.size, 1, none⟩ (.int .i64 m.next)).setCell ⟨w.heap.size, 2, none⟩ (.int .i64 m.wal)).setCell ⟨w.heap.size, 3, none⟩ (.slice A m.bs.length cp)) A cp m.bs := ⟨fun hn => by
      obtain ⟨ad, e, hlt, hc⟩ := h3.row hn
      have hne := h4 ad e
      have hk := hgr.block ad.block hlt (by simp; omega)
      refine ⟨ad, e, by have := hgr.size; omega, fun i hi => ?_⟩
      rw [← hc i hi]
      unfold World.cell?
      rw [addr_add_block, hk], h3.nil, h3.le⟩
    rw [h5]
    refine bodyPost_ret (v := .tuple #[.agg #[.int .i64 m.gen, .int .i64 m.next, .int .i64 m.wal, .slice A m.bs.length cp], .bool ok]) ?_ h8 ⟨A, cp, rfl, hin, fun ad e => Nat.le_of_lt (h4 ad e), h2.grown hgr h2.size (fun r e => by cases e; exact Nat.le_refl _)⟩
    have := results_cell_tmp (P := Tryz.prog) (fn := Tryz.f35) rfl a.tmps _ w.heap.size 30 _ (0, 0) _ h6 hres Tryz.underlying30 rfl rmeta_size
    rw [this, h7]
  have HE := Lib.hid hend; have HR := Lib.hid hrow; have HB := Lib.hid hb1
  have HG1 := Lib.hid hg1; have HG2 := Lib.hid hg2; have HG3 := Lib.hid hg3; have HRD := Lib.hid hrd
  clear hend hrow hb1 hg1 hg2 hg3 hrd e1 e2 e3 z1 z2 z3
  generalize hw1 : w.alloc (.cells #[.int .i64 0, .int .i64 0, .int .i64 0, .slice none 0 0] 30) = w1 at *
  by_cases hok : p1 = true ∧ p2 = true ∧ p3 = true ∧ n1 ≤ 999999 ∧ n2 ≤ 999999 ∧ n3 ≤ 40
  · have hrd := HRD.out
    rw [if_pos hok] at hrd
    obtain ⟨rfl, rfl, rfl, hn1, hn2, hn3⟩ := hok
    have d1 : decide ((999999 : Int) < (n1 : Int)) = false := by simp; omega
    have d2 : decide ((999999 : Int) < (n2 : Int)) = false := by simp; omega
    have d3 : decide ((40 : Int) < (n3 : Int)) = false := by simp; omega
    have c1 : wrap64 (n1 : Int) = n1 := IntWalk.wrap64_in _ ⟨by omega, by omega⟩
    have c2 : wrap64 (n2 : Int) = n2 := IntWalk.wrap64_in _ ⟨by omega, by omega⟩
    have c3 : wrap64 ((n1 : Int) - (n2 : Int)) = (n1 : Int) - (n2 : Int) := IntWalk.wrap64_in _ ⟨by omega, by omega⟩
    have c4 : IntKind.i64.wrap (n1 : Int) = n1 := IntWalk.i64_in _ (by omega)
    have c5 : IntKind.i64.wrap (n2 : Int) = n2 := IntWalk.i64_in _ (by omega)
    have c6 : IntKind.i64.wrap ((n1 : Int) - (n2 : Int)) = (n1 : Int) - (n2 : Int) := IntWalk.i64_in _ (by omega)
    generalize hR : Me.rrest gen n3 [] 0 a3 = R at *
    have HRR := Lib.hid hR; have HRD2 := Lib.hid hrd
    clear hR hrd HRD
    go_enter Tryz.func35, Tryz.ntmps35
    go_wp2_with fail
    refine (HG1.out _).mono ?_; rintro e w2 ⟨rfl, hb2⟩
    have HB2 := Lib.hid (below_step HB.out hb2); have HR2 := Lib.hid (HR.out.keep hb2); clear hb2
    go_wp2_with fail
    refine (HG2.out _).mono ?_; rintro e w3 ⟨rfl, hb3⟩
    have HB3 := Lib.hid (below_step HB2.out hb3); have HR3 := Lib.hid (HR2.out.keep hb3); clear hb3
    go_wp2_with fail
    refine (HG3.out _).mono ?_; rintro e w4 ⟨rfl, hb4⟩
    have HB4 := Lib.hid (below_step HB3.out hb4); have HR4 := Lib.hid (HR3.out.keep hb4); clear hb4
    have HQ5 : Hid (RowIs (w4.alloc (.cells #[.int .i64 gen, .int .i64 n1, .int .i64 n2, .slice none 0 0] 30)) w4.heap.size (.cells #[.int .i64 gen, .int .i64 n1, .int .i64 n2, .slice none 0 0] 30)) := Lib.hid (RowIs.one _ _)
    have hal : Below w4.heap.size w4 (w4.alloc (.cells #[.int .i64 gen, .int .i64 n1, .int .i64 n2, .slice none 0 0] 30)) := (Below.refl _ w4).alloc (Nat.le_refl _) _
    have hgy : w.heap.size < w4.heap.size := (Array.getElem?_eq_some_iff.1 HR4.out).1
    have HB5 := Lib.hid (below_step HB4.out hal); have HR5 := Lib.hid (HR4.out.keep hal)
    clear hal HB4 HR4 HB3 HR3 HB2 HR2 HG1 HG2 HG3
    go_upto_if 73 with fail
    generalize w4.alloc (.cells #[.int .i64 gen, .int .i64 n1, .int .i64 n2, .slice none 0 0] 30) = w5 at *
    generalize w4.heap.size = gy at *
    obtain ⟨w2', hw2⟩ : ∃ v : Int, (if gen = 3 then (n1 : Int) - (n2 : Nat) else (n2 : Nat)) = v := ⟨_, rfl⟩
    have hrd := HRD2.out
    rw [hw2] at hrd
    have HW2 := Lib.hid hw2; have HRD3 := Lib.hid hrd
    clear hw2 hrd HRD2
    obtain ⟨⟨y0, y1, y2, y3⟩, ⟨f0, f1, f2, f3⟩⟩ := rmeta_cells HQ5.out
    go_cut [15] (fun v15 wx => v15 = .pointer (some ⟨gy, 0, none⟩) ∧ RowIs wx gy (.cells #[.int .i64 gen, .int .i64 n1, .int .i64 w2', .slice none 0 0] 30) ∧ RowIs wx w.heap.size (.cells #[.int .i64 0, .int .i64 0, .int .i64 0, .slice none 0 0] 30) ∧ Below w.heap.size w wx)
    case first =>
      have hw2 := HW2.out
      by_cases h3 : gen = 3
      · have g3 : (gen == 3) = true := by simpa using h3
        rw [if_pos h3] at hw2
        have HS := Lib.hid (heap_setCell_same w5 gy 2 _ _ (.int .i64 w2') HQ5.out)
        have hgr := grown_setCell w5 gy 2 (.int .i64 w2')
        have HX := Lib.hid (HB5.out.grown hgr HB5.out.size (fun r e => by cases e; omega))
        have HY := Lib.hid ((hgr.block w.heap.size (Array.getElem?_eq_some_iff.1 HR5.out).1 (by simp; omega)).trans HR5.out)
        clear h3 hgr
        go_wp2_with fail
        go_meet
        exact ⟨rfl, HS.out, HY.out, HX.out⟩
      · have g3 : (gen == 3) = false := by simpa using h3
        rw [if_neg h3] at hw2
        subst hw2
        clear h3
        go_wp2_with fail
        go_meet
        exact ⟨rfl, HQ5.out, HR5.out, HB5.out⟩
    case rest =>
      obtain ⟨rfl, hq6, hr6, hb6⟩ := hcut
      have HQ6 := Lib.hid hq6; have HR6 := Lib.hid hr6; have HB6 := Lib.hid hb6
      clear hq6 hr6 hb6 y0 y1 y2 y3 f0 f1 f2 f3 HQ5 HR5 HB5 c1 c2 c3 c4 c5 c6 d1 d2 d3 HW2
      go_wp2_with fail
      go_loopw [13, 16, 17, 18, 19, 20, 21] (fun v13 v16 v17 _ _ _ _ wr => ∃ (L : List Int) (A : Option Addr) (cp : Nat) (l : Int) (r : ByteArray), v13 = .string r ∧ v16 = .int .i64 l ∧ v17 = .int .u64 (L.length : Nat) ∧ L.length ≤ n3 ∧ Me.rrest gen (n3 - L.length) L l r = R ∧
        RowIs wr gy (.cells #[.int .i64 gen, .int .i64 n1, .int .i64 w2', .slice A L.length cp] 30) ∧ wr.ownsRow (gy + 1) 3 1 (.slice A L.length cp) L.length (ivals L) ∧
        RowIs wr w.heap.size (.cells #[.int .i64 0, .int .i64 0, .int .i64 0, .slice none 0 0] 30) ∧ Below w.heap.size w wr ∧ r.size ≤ 1000) (fun _ _ v17 _ _ _ _ _ => n3 - (intOf v17).toNat)
      case atStart => exact ⟨[], none, 0, 0, a3, rfl, rfl, rfl, by simp, HRR.out, HQ6.out, World.ownsRow_nil _ _ _ _, HR6.out, HB6.out, za3⟩
      case round =>
        obtain ⟨L, A, cp, l, r, rfl, rfl, rfl, hL, hrest, hq, hown, hr, hb, hrz⟩ := hrel
        have HQ := Lib.hid hq; have HO := Lib.hid hown; have HRz := Lib.hid hr; have HBz := Lib.hid hb; have HRE := Lib.hid hrest
        have hgl : gy < wr.heap.size := (Array.getElem?_eq_some_iff.1 hq).1
        clear hq hown hr hb hrest
        by_cases hlt : L.length < n3
        · have i1 : (L.length : Int) < (n3 : Int) := by omega
          have hget := fun W => rget_any r hrz gen W
          have hre := HRE.out
          rw [show n3 - L.length = (n3 - L.length - 1) + 1 by omega, Me.rrest] at hre
          have hav := Me.rg_lt gen r
          have hrz2 := Me.rg_size gen r
          generalize (Me.rg gen r).1 = a at *
          generalize (Me.rg gen r).2.1 = r2 at *
          generalize (Me.rg gen r).2.2 = ok at *
          have HGT := Lib.hid hget; have HRE2 := Lib.hid hre
          clear hget hre HRE
          go_wp2_with fail
          refine (HGT.out _).mono ?_; rintro e w7 ⟨rfl, hb7⟩
          have HQ7 := Lib.hid (HQ.out.keep hb7); have HR7 := Lib.hid (HRz.out.keep hb7); have HB7 := Lib.hid (below_step HBz.out hb7)
          have HO7 : Hid (w7.ownsRow (gy + 1) 3 1 (.slice A L.length cp) L.length (ivals L)) := Lib.hid (own_same2 HO.out (fun g hg => hb7.block g (HO.out.lt g hg).2))
          have hgl7 : gy < w7.heap.size := (Array.getElem?_eq_some_iff.1 HQ7.out).1
          clear hb7 HGT HQ HRz HBz HO hgl
          cases ok
          · have hre := HRE2.out
            rw [if_neg (by simp)] at hre
            subst hre
            obtain ⟨⟨y0, y1, y2, y3⟩, ⟨f0, f1, f2, f3⟩⟩ := rmeta_cells HR7.out
            go_wp2_with fail
            exact HE.out w7 Me.zero false none 0 _ HR7.out HB7.out (Ints.zero _) (fun ad e => by cases e) HRD3.out rfl rfl rfl
          · have hre := HRE2.out
            rw [if_pos rfl] at hre
            obtain ⟨x, hx⟩ : ∃ x, (if gen = 3 then wrap64 (Num.zag a + l) else wrap64 (a : Int)) = x := ⟨_, rfl⟩
            rw [hx] at hre
            have HX := Lib.hid hx; have HRE3 := Lib.hid hre
            clear hre hx HRE2
            go_upto_if 98 with fail
            go_cut [21] (fun v21 wx => v21 = .int .i64 x ∧ w7 = wx)
            case first =>
              have hx := HX.out
              by_cases h3 : gen = 3
              · have g3 : (gen == 3) = true := by simpa using h3
                rw [if_pos h3] at hx
                have HZ := Lib.hid (fun W => rZag_any a (Lib.hid hav) W)
                generalize Num.zag a = z at *
                clear h3
                go_wp2_with fail
                refine (HZ.out _).mono ?_; rintro e w8 ⟨rfl, rfl⟩
                go_wp2_with fail
                go_meet
                exact ⟨by first | rfl | rw [hx], rfl⟩
              · have g3 : (gen == 3) = false := by simpa using h3
                rw [if_neg h3] at hx
                clear h3
                go_wp2_with fail
                go_meet
                exact ⟨by first | rfl | rw [hx], rfl⟩
            case rest =>
              obtain ⟨rfl, rfl⟩ := hcut
              have hal : Below w7.heap.size w7 (w7.alloc (.cells #[.int .i64 x] 3)) := (Below.refl _ w7).alloc (Nat.le_refl _) _
              have HQA := Lib.hid (HQ7.out.keep hal); have HRA := Lib.hid (HR7.out.keep hal); have HBA := Lib.hid (below_step HB7.out hal)
              have HOA := Lib.hid (HO7.out.alloc (.cells #[.int .i64 x] 3))
              have HMK := Lib.hid (ints_made w7 x)
              have hza : gy < (w7.alloc (.cells #[.int .i64 x] 3)).heap.size := by simp; omega
              have hll : (L ++ [x]).length = L.length + 1 := by simp
              have HLL := Lib.hid hll
              have hwk : IntKind.u64.wrap ((L.length : Int) + 1) = ((L.length + 1 : Nat) : Int) := by rw [IntKind.wrap_u64]; omega
              have y3 := (rmeta_cells HQ7.out).1.2.2.2
              have f3 := (rmeta_cells HQ7.out).2.2.2.2
              clear hal HQ7 HR7 HB7 HO7
              have A3 : (w7.alloc (.cells #[.int .i64 x] 3)).cell? ⟨gy, 3, none⟩ = some (.slice A L.length cp) := (rmeta_cells HQA.out).1.2.2.2
              go_wp2_with (at_builtin; (refine wpList_append_ints _ rfl (.tmp 104) (.tmp 106) rfl (gy + 1) (.slice A L.length cp) L.length L rfl HOA.out (some ⟨w7.heap.size, 0, none⟩) 1 [x] 1 rfl rfl HMK.out (L.length + 1) rfl (by omega) (by omega) ?_); intro v8 w8 hown8 hg8; obtain ⟨-, A8, c8, rfl, hI8⟩ := own_irow hown8; have hr8 := (hg8.block gy hza (fun e => by have := (HOA.out.lt gy e.symm).1; omega)).trans HQA.out; have HR8 := Lib.hid hr8; have y8 := (rmeta_cells hr8).1.2.2.2; have f8 := (rmeta_cells hr8).2.2.2.2; have HO8 := Lib.hid hown8; have HG8 := Lib.hid hg8; clear hown8 hg8 hI8 hr8)
              have hra : RowIs w8 w.heap.size _ := (HG8.out.block w.heap.size (Array.getElem?_eq_some_iff.1 HRA.out).1 (fun e => by have := (HOA.out.lt _ e.symm).1; omega)).trans HRA.out
              have hba := HBA.out.grown HG8.out HBA.out.size (fun r e => by have := (HOA.out.lt r e).1; omega)
              have hg9 := grown_setCell w8 gy 3 (.slice A8 (L.length + 1) c8)
              have hrb : RowIs _ w.heap.size _ := (hg9.block w.heap.size (Array.getElem?_eq_some_iff.1 hra).1 (by simp; omega)).trans hra
              have hbb := hba.grown hg9 hba.size (fun r e => by cases e; omega)
              have hr9 := heap_setCell_same w8 gy 3 _ _ (.slice A8 (L.length + 1) c8) HR8.out
              have ho9 : (w8.setCell ⟨gy, 3, none⟩ (.slice A8 (L.length + 1) c8)).ownsRow (gy + 1) 3 1 (.slice A8 (L.length + 1) c8) (L.length + 1) (ivals (L ++ [x])) := own_same2 HO8.out (fun g hg => heap_setCell_other w8 ⟨gy, 3, none⟩ g _ (by have := (HO8.out.lt g hg).1; show g ≠ gy; omega))
              have HRB := Lib.hid hrb; have HBB := Lib.hid hbb; have HR9 := Lib.hid hr9; have HO9 := Lib.hid ho9
              clear hra hba hg9 hrb hbb hr9 ho9
              go_roundw
              case rel =>
                refine ⟨L ++ [x], A8, c8, x, r2, rfl, rfl, by first | (rw [HLL.out]; done) | (rw [HLL.out, ← hwk]; done) | (rw [HLL.out, hwk]; done) | go_num, by rw [HLL.out]; omega, ?_, ?_, ?_, HRB.out, HBB.out, by omega⟩
                · rw [HLL.out, show n3 - (L.length + 1) = n3 - L.length - 1 by omega]; exact HRE3.out
                · rw [HLL.out]; exact HR9.out
                · rw [HLL.out]; exact HO9.out
              case measure => simp [intOf]; omega
        · have hle : L.length = n3 := by omega
          have i1 : ¬ (L.length : Int) < (n3 : Int) := by omega
          have hre := HRE.out
          rw [show n3 - L.length = 0 by omega, Me.rrest] at hre
          subst hre
          have hfr : ∀ ad, A = some ad → w.heap.size < ad.block := fun ad e => by
            subst e
            have := (HO.out.lt ad.block rfl).1
            omega
          obtain ⟨-, A', c', e, hI⟩ := own_irow HO.out
          cases e
          obtain ⟨⟨y0, y1, y2, y3⟩, ⟨f0, f1, f2, f3⟩⟩ := rmeta_cells HRz.out
          obtain ⟨⟨x0, x1, x2, x3⟩, -⟩ := rmeta_cells HQ.out
          have HFR := Lib.hid hfr; have HI := Lib.hid hI
          clear hfr hI hle HO
          go_wp2_with fail
          refine HE.out wr ⟨gen, n1, w2', L⟩ _ A cp _ HRz.out HBz.out HI.out HFR.out ?_ rfl rfl rfl
          refine HRD3.out.trans ?_
          exact congrArg (Prod.mk _) (Me.empty_dec r)
  · have hrd := HRD.out
    rw [if_neg hok] at hrd
    have hd : p1 = false ∨ (p1 = true ∧ p2 = false) ∨ (p1 = true ∧ p2 = true ∧ p3 = false) ∨ (p1 = true ∧ p2 = true ∧ p3 = true ∧ decide ((999999 : Int) < (n1 : Int)) = true) ∨ (p1 = true ∧ p2 = true ∧ p3 = true ∧ decide ((999999 : Int) < (n1 : Int)) = false ∧ decide ((999999 : Int) < (n2 : Int)) = true) ∨ (p1 = true ∧ p2 = true ∧ p3 = true ∧ decide ((999999 : Int) < (n1 : Int)) = false ∧ decide ((999999 : Int) < (n2 : Int)) = false ∧ decide ((40 : Int) < (n3 : Int)) = true) := by
      simp only [decide_eq_true_eq, decide_eq_false_iff_not]
      cases p1
      · simp
      · cases p2
        · simp
        · cases p3
          · simp
          · simp only [true_and] at hok
            simp only [true_and, Bool.true_eq_false, false_or]
            omega
    have HRD2 := Lib.hid hrd
    clear hok hrd HRD za3
    rcases hd with rfl | ⟨rfl, rfl⟩ | ⟨rfl, rfl, rfl⟩ | ⟨rfl, rfl, rfl, d1⟩ | ⟨rfl, rfl, rfl, d1, d2⟩ | ⟨rfl, rfl, rfl, d1, d2, d3⟩
    all_goals
      go_enter Tryz.func35, Tryz.ntmps35
      go_wp2_with fail
      refine (HG1.out _).mono ?_; rintro e w2 ⟨rfl, hb2⟩
      have HB2 := Lib.hid (below_step HB.out hb2); have HR2 := Lib.hid (HR.out.keep hb2); clear hb2
      go_wp2_with fail
      refine (HG2.out _).mono ?_; rintro e w3 ⟨rfl, hb3⟩
      have HB3 := Lib.hid (below_step HB2.out hb3); have HR3 := Lib.hid (HR2.out.keep hb3); clear hb3
      go_wp2_with fail
      refine (HG3.out _).mono ?_; rintro e w4 ⟨rfl, hb4⟩
      have HB4 := Lib.hid (below_step HB3.out hb4); have HR4 := Lib.hid (HR3.out.keep hb4); clear hb4
      obtain ⟨⟨y0, y1, y2, y3⟩, ⟨f0, f1, f2, f3⟩⟩ := rmeta_cells HR4.out
      go_wp2_with fail
      exact HE.out w4 Me.zero false none 0 _ HR4.out HB4.out (Ints.zero _) (fun ad e => by cases e) HRD2.out rfl rfl rfl
end Go.Proofs.YtokofifecdpmfaaGreatDoor
