import Derived.Test.YtokofifecdpmfaaGreatDoorMeRG
import Derived.Test.YtokofifecdpmfaaGreatDoorMeX
/-
  What Get of the document's answer for metas comes to.
-/
namespace Go.Proofs.YtokofifecdpmfaaGreatDoor
open Go.RowKit
namespace Me
theorem rrest_length (gen : Int) : ∀ (k : Nat) (l : List Int) (last : Int) (s : ByteArray) (l2 : List Int) (r : ByteArray), rrest gen k l last s = some (l2, r) → l2.length = l.length + k
  | 0, l, last, s, l2, r, h => by
    rw [rrest] at h
    cases h
    omega
  | k + 1, l, last, s, l2, r, h => by
    rw [rrest] at h
    split at h
    · have := rrest_length gen k _ _ _ _ _ h
      simp only [List.length_append, List.length_cons, List.length_nil] at this
      omega
    · cases h
theorem rread_length (s : ByteArray) (gen : Int) : (rread s gen).1.bs.length ≤ 40 := by
  obtain ⟨⟨n1, a1, p1⟩, e1⟩ : ∃ x, rg gen s = x := ⟨_, rfl⟩
  obtain ⟨⟨n2, a2, p2⟩, e2⟩ : ∃ x, rg gen a1 = x := ⟨_, rfl⟩
  obtain ⟨⟨n3, a3, p3⟩, e3⟩ : ∃ x, rg gen a2 = x := ⟨_, rfl⟩
  rw [rread_parts s gen n1 n2 n3 a1 a2 a3 p1 p2 p3 e1 e2 e3]
  by_cases hc : p1 = true ∧ p2 = true ∧ p3 = true ∧ n1 ≤ 999999 ∧ n2 ≤ 999999 ∧ n3 ≤ 40
  · rw [if_pos hc]
    cases hr : rrest gen n3 [] 0 a3 with
    | none => simp [zero]
    | some x =>
      have := rrest_length gen n3 [] 0 a3 x.1 x.2 hr
      simp only [List.length_nil] at this
      show x.1.length ≤ 40
      omega
  · rw [if_neg hc]; simp [zero]
end Me

set_option maxRecDepth 100000 in
set_option maxHeartbeats 4000000 in
theorem rMGet_any (s : ByteArray) (hs : s.size ≤ 1000) (w : World) :
    Calls Tryz.prog 14 #[.string s] w fun e w' => ∃ A c, e = .returned (.tuple #[(Me.got s).1.val A c, .int .i64 ((Me.got s).2 : Nat)]) ∧ Ints w' A c (Me.got s).1.bs ∧ (∀ ad, A = some ad → w.heap.size ≤ ad.block) ∧ Below w.heap.size w w' := by
  have hrow : RowIs (w.alloc (.cells #[.int .i64 0, .int .i64 0, .int .i64 0, .slice none 0 0] 30)) w.heap.size (.cells #[.int .i64 0, .int .i64 0, .int .i64 0, .slice none 0 0] 30) := RowIs.one _ _
  have hb1 : Below w.heap.size w (w.alloc (.cells #[.int .i64 0, .int .i64 0, .int .i64 0, .slice none 0 0] 30)) := (Below.refl _ w).alloc (Nat.le_refl _) _
  have hgt : Me.got s = Me.rgot s := (Me.rgot_got s).symm
  generalize Me.got s = RD at *
  have hend : ∀ (wr : World) (m : Me.M) (n : Nat) (A : Option Addr) (cp : Nat) (a : Act), RowIs wr w.heap.size (.cells #[.int .i64 0, .int .i64 0, .int .i64 0, .slice none 0 0] 30) → Below w.heap.size w wr → Ints wr A cp m.bs → (∀ ad, A = some ad → w.heap.size < ad.block) → RD = (m, n) →
      a.tmps.getD 2 undef = .pointer (some ⟨w.heap.size, 0, none⟩) → a.tmps.getD 3 undef = .int .i64 (n : Int) → a.defers = [] →
      bodyPost Tryz.prog Tryz.f14 (fun e w' => ∃ A c, e = .returned (.tuple #[RD.1.val A c, .int .i64 (RD.2 : Nat)]) ∧ Ints w' A c RD.1.bs ∧ (∀ ad, A = some ad → w.heap.size ≤ ad.block) ∧ Below w.heap.size w w') .ret a
        ((((wr.setCell ⟨w.heap.size, 0, none⟩ (.int .i64 m.gen)).setCell ⟨w.heap.size, 1, none⟩ (.int .i64 m.next)).setCell ⟨w.heap.size, 2, none⟩ (.int .i64 m.wal)).setCell ⟨w.heap.size, 3, none⟩ (.slice A m.bs.length cp)) := fun wr m n A cp a h1 h2 h3 h4 h5 h6 h7 h8 => by
    have hgr := grown_four wr w.heap.size (.int .i64 m.gen) (.int .i64 m.next) (.int .i64 m.wal) (.slice A m.bs.length cp)
    have hres := rmeta_four h1 (.int .i64 m.gen) (.int .i64 m.next) (.int .i64 m.wal) (.slice A m.bs.length cp)
    have hin : Ints ((((wr.setCell ⟨w.heap.size, 0, none⟩ (.int .i64 m.gen)).setCell ⟨w.heap.size, 1, none⟩ (.int .i64 m.next)).setCell ⟨w.heap.size, 2, none⟩ (.int .i64 m.wal)).setCell ⟨w.heap.size, 3, none⟩ (.slice A m.bs.length cp)) A cp m.bs := ⟨fun hn => by
      obtain ⟨ad, e, hlt, hc⟩ := h3.row hn
      have hne := h4 ad e
      have hk := hgr.block ad.block hlt (by simp; omega)
      refine ⟨ad, e, by have := hgr.size; omega, fun i hi => ?_⟩
      rw [← hc i hi]
      unfold World.cell?
      rw [addr_add_block, hk], h3.nil, h3.le⟩
    rw [h5]
    refine bodyPost_ret (v := .tuple #[.agg #[.int .i64 m.gen, .int .i64 m.next, .int .i64 m.wal, .slice A m.bs.length cp], .int .i64 (n : Int)]) ?_ h8 ⟨A, cp, rfl, hin, fun ad e => Nat.le_of_lt (h4 ad e), h2.grown hgr h2.size (fun r e => by cases e; exact Nat.le_refl _)⟩
    have := results_cell_tmp (P := Tryz.prog) (fn := Tryz.f14) rfl a.tmps _ w.heap.size 30 _ (0, 0) _ h6 hres Tryz.underlying30 rfl rmeta_size
    rw [this, h7]
  have hop : ∀ W, Calls Tryz.prog 33 #[.string s, .string ⟨#[65, 77, 69, 84]⟩] W (Four s Me.amet W) := fun W => rOpen_any s (by unfold maxLen; omega) Me.amet (by decide) W
  unfold Four at hop
  unfold Me.rgot at hgt
  have HE := Lib.hid hend; have HR := Lib.hid hrow; have HB := Lib.hid hb1
  clear hend hrow hb1
  by_cases h0 : (Fr.opened s Me.amet).2.2.2 = 0
  · have hrz := Fr.opened_size s Me.amet
    rw [if_neg (by simpa using h0)] at hgt
    rw [h0] at hop
    clear h0
    generalize (Fr.opened s Me.amet).1 = a1 at *
    generalize (Fr.opened s Me.amet).2.1 = a2 at *
    generalize (Fr.opened s Me.amet).2.2.1 = a3 at *
    have hget := fun W => rFGet_any a3 (by omega) W
    have hbz : (Fr.get a3 1000).1.size ≤ 1000 := by
      by_cases h : (Fr.get a3 1000).2.2 = 0
      · have := (Fr.get_whole a3 _ h).2; omega
      · rw [(Fr.get_not a3 _ h).1]; simp
    generalize (Fr.get a3 1000).1 = b1 at *
    generalize (Fr.get a3 1000).2.1 = b2 at *
    generalize (Fr.get a3 1000).2.2 = sh at *
    have HO := Lib.hid hop; have HGE := Lib.hid hget
    clear hop hget hrz
    by_cases hsh : sh ≠ 0 ∨ b2 ≠ ByteArray.empty
    · rw [if_pos hsh] at hgt
      have hd : ((sh : Int) != 0) = true ∨ (((sh : Int) != 0) = false ∧ b2.toList.isEmpty = false) := by
        rw [← Me.empty_dec]
        rcases Nat.eq_zero_or_pos sh with h | h
        · right
          refine ⟨by simp [h], ?_⟩
          rcases hsh with h2 | h2
          · exact absurd h h2
          · simpa using h2
        · left; rw [bne_iff_ne]; omega
      have HG := Lib.hid hgt
      clear hgt hsh hbz
      generalize hw1 : w.alloc (.cells #[.int .i64 0, .int .i64 0, .int .i64 0, .slice none 0 0] 30) = w1 at *
      rcases hd with d1 | ⟨d1, d2⟩
      all_goals
        go_enter Tryz.func14, Tryz.ntmps14
        go_wp2_with fail
        refine (HO.out _).mono ?_; rintro e w2 ⟨rfl, hb2⟩
        have HB2 := Lib.hid (below_step HB.out hb2); have HR2 := Lib.hid (HR.out.keep hb2); clear hb2
        go_wp2_with fail
        refine (HGE.out _).mono ?_; rintro e w3 ⟨rfl, hb3⟩
        have HB3 := Lib.hid (below_step HB2.out hb3); have HR3 := Lib.hid (HR2.out.keep hb3); clear hb3
        obtain ⟨⟨y0, y1, y2, y3⟩, ⟨f0, f1, f2, f3⟩⟩ := rmeta_cells HR3.out
        go_wp2_with fail
        exact HE.out w3 Me.zero 9 none 0 _ HR3.out HB3.out (Ints.zero _) (fun ad e => by cases e) HG.out rfl rfl rfl
    · rw [if_neg hsh] at hgt
      have hsh0 : sh = 0 := by
        rcases Nat.eq_zero_or_pos sh with h | h
        · exact h
        · exact absurd (.inl (by omega)) hsh
      have hbe : b2.toList.isEmpty = true := by
        rw [← Me.empty_dec]
        simp only [decide_eq_true_eq]
        by_cases h : b2 = ByteArray.empty
        · exact h
        · exact absurd (.inr h) hsh
      subst hsh0
      have hrd := fun W => rread_any b1 hbz (a1 : Nat) W
      have hml := Me.rread_length b1 (a1 : Nat)
      generalize Me.rread b1 (a1 : Nat) = mo at *
      obtain ⟨m, ok⟩ := mo
      dsimp only at hrd hml hgt
      have hpt := fun A c W h => rMPut_any m A c (by omega) W h
      have hpb : (ok = true ∧ Me.valid m = true ∧ Me.bytes m = s) ↔ (ok = true ∧ Me.putE m = 0 ∧ Me.putB m = s) := by
        unfold Me.putE Me.putB
        cases hv : Me.valid m <;> simp
      simp only [hpb] at hgt
      generalize Me.putB m = pb at *
      generalize Me.putE m = pe at *
      have HRD := Lib.hid hrd; have HPT := Lib.hid hpt; have HG := Lib.hid hgt
      clear hrd hpt hgt hpb hbz hsh
      generalize hw1 : w.alloc (.cells #[.int .i64 0, .int .i64 0, .int .i64 0, .slice none 0 0] 30) = w1 at *
      go_enter Tryz.func14, Tryz.ntmps14
      go_wp2_with fail
      refine (HO.out _).mono ?_; rintro e w2 ⟨rfl, hb2⟩
      have HB2 := Lib.hid (below_step HB.out hb2); have HR2 := Lib.hid (HR.out.keep hb2); clear hb2
      go_wp2_with fail
      refine (HGE.out _).mono ?_; rintro e w3 ⟨rfl, hb3⟩
      have HB3 := Lib.hid (below_step HB2.out hb3); have HR3 := Lib.hid (HR2.out.keep hb3); clear hb3
      go_wp2_with fail
      refine (HRD.out _).mono ?_; rintro e w4 ⟨A, c, rfl, hI4, hfr, hb4⟩
      have hlt3 : w.heap.size < w3.heap.size := (Array.getElem?_eq_some_iff.1 HR3.out).1
      have hfr2 : ∀ ad, A = some ad → w.heap.size < ad.block := fun ad e => by have := hfr ad e; omega
      have HB4 := Lib.hid (below_step HB3.out hb4); have HR4 := Lib.hid (HR3.out.keep hb4); have HI4 := Lib.hid hI4; have HFR := Lib.hid hfr2
      clear hb4 hI4 hfr hfr2 hlt3
      rw [show m.val A c = .agg #[.int .i64 m.gen, .int .i64 m.next, .int .i64 m.wal, .slice A m.bs.length c] from rfl]
      have hal : Below w4.heap.size w4 (w4.alloc (.cells #[.int .i64 m.gen, .int .i64 m.next, .int .i64 m.wal, .slice A m.bs.length c] 30)) := (Below.refl _ w4).alloc (Nat.le_refl _) _
      have HM5 : Hid (RMetaAt w4.heap.size m A c (w4.alloc (.cells #[.int .i64 m.gen, .int .i64 m.next, .int .i64 m.wal, .slice A m.bs.length c] 30))) := Lib.hid (heap_alloc_new _ _)
      have HB5 := Lib.hid (below_step HB4.out hal); have HR5 := Lib.hid (HR4.out.keep hal); have HI5 := Lib.hid (HI4.out.later hal)
      clear hal HB4 HR4 HI4 HB3 HR3 HB2 HR2
      go_upto_if 46 with fail
      generalize w4.alloc (.cells #[.int .i64 m.gen, .int .i64 m.next, .int .i64 m.wal, .slice A m.bs.length c] 30) = w5 at *
      generalize w4.heap.size = bm at *
      cases ok
      · have hgt := HG.out
        rw [if_neg (by simp)] at hgt
        have HGT := Lib.hid hgt
        clear hgt
        obtain ⟨⟨y0, y1, y2, y3⟩, ⟨f0, f1, f2, f3⟩⟩ := rmeta_cells HR5.out
        go_wp2_with fail
        exact HE.out w5 Me.zero 9 none 0 _ HR5.out HB5.out (Ints.zero _) (fun ad e => by cases e) HGT.out rfl rfl rfl
      · obtain ⟨c0, c1, c2, c3⟩ := HM5.out.cells
        go_wp2_with fail
        refine (HPT.out A c _ HI5.out).mono ?_; rintro e w6 ⟨rfl, hb6⟩
        have HB6 := Lib.hid (below_step HB5.out hb6); have HR6 := Lib.hid (HR5.out.keep hb6); have HI6 := Lib.hid (HI5.out.later hb6); have HM6 := Lib.hid (HM5.out.later hb6)
        clear hb6 c0 c1 c2 c3
        obtain ⟨c0, c1, c2, c3⟩ := HM6.out.cells
        obtain ⟨⟨y0, y1, y2, y3⟩, ⟨f0, f1, f2, f3⟩⟩ := rmeta_cells HR6.out
        have hbe2 := str_beq pb s
        by_cases hall : pe = 0 ∧ pb = s
        · have hgt := HG.out
          rw [if_pos ⟨trivial, hall⟩] at hgt
          obtain ⟨rfl, hps⟩ := hall
          have d3 : (pb.toList == s.toList) = true := by rw [hbe2]; simpa using hps
          have HGT := Lib.hid hgt
          clear hgt hps hbe2
          go_wp2_with fail
          exact HE.out w6 m 0 A c _ HR6.out HB6.out HI6.out HFR.out HGT.out rfl rfl rfl
        · have hgt := HG.out
          rw [if_neg (fun h => hall h.2)] at hgt
          have hd : ((pe : Int) != 0) = true ∨ (((pe : Int) != 0) = false ∧ (pb.toList == s.toList) = false) := by
            rw [hbe2]
            by_cases h2 : pe = 0
            · right
              refine ⟨by simp [h2], ?_⟩
              simp only [decide_eq_false_iff_not]
              exact fun e => hall ⟨h2, e⟩
            · left; rw [bne_iff_ne]; omega
          have HGT := Lib.hid hgt
          clear hgt hall hbe2
          rcases hd with d1 | ⟨d1, d2⟩
          · go_wp2_with fail
            exact HE.out w6 Me.zero 9 none 0 _ HR6.out HB6.out (Ints.zero _) (fun ad e => by cases e) HGT.out rfl rfl rfl
          · go_wp2_with fail
            exact HE.out w6 Me.zero 9 none 0 _ HR6.out HB6.out (Ints.zero _) (fun ad e => by cases e) HGT.out rfl rfl rfl
  · rw [if_pos h0] at hgt
    have d1 : (((Fr.opened s Me.amet).2.2.2 : Int) != 0) = true := by rw [bne_iff_ne]; omega
    have HG := Lib.hid hgt
    clear hgt h0
    generalize (Fr.opened s Me.amet).1 = a1 at *
    generalize (Fr.opened s Me.amet).2.1 = a2 at *
    generalize (Fr.opened s Me.amet).2.2.1 = a3 at *
    generalize (Fr.opened s Me.amet).2.2.2 = a4 at *
    have HO := Lib.hid hop; clear hop
    generalize hw1 : w.alloc (.cells #[.int .i64 0, .int .i64 0, .int .i64 0, .slice none 0 0] 30) = w1 at *
    go_enter Tryz.func14, Tryz.ntmps14
    go_wp2_with fail
    refine (HO.out _).mono ?_; rintro e w2 ⟨rfl, hb2⟩
    have HB2 := Lib.hid (below_step HB.out hb2); have HR2 := Lib.hid (HR.out.keep hb2); clear hb2
    obtain ⟨⟨y0, y1, y2, y3⟩, ⟨f0, f1, f2, f3⟩⟩ := rmeta_cells HR2.out
    go_wp2_with fail
    exact HE.out w2 Me.zero a4 none 0 _ HR2.out HB2.out (Ints.zero _) (fun ad e => by cases e) HG.out rfl rfl rfl
end Go.Proofs.YtokofifecdpmfaaGreatDoor
/-
  MetaGets: the walk of the law.
-/
namespace Go.Proofs.YtokofifecdpmfaaGreatDoor
open Go.RowKit
/-- what MetaGets holds on to: what it got, twice -/
structure LawGot (w : World) (b1 b2 : Nat) (m n : Me.M) (A B : Option Addr) (c d : Nat) (W : World) : Prop where
  ma : MetaAt b1 m A c W
  mb : RMetaAt b2 n B d W
  ra : Ints W A c m.bs
  rb : Ints W B d n.bs
  bel : Below w.heap.size w W
theorem LawGot.later {w : World} {b1 b2 : Nat} {m n : Me.M} {A B : Option Addr} {c d : Nat} {W W2 : World} (h : LawGot w b1 b2 m n A B c d W) (hb : Below W.heap.size W W2) : LawGot w b1 b2 m n A B c d W2 := ⟨h.ma.later hb, h.mb.later hb, h.ra.later hb, h.rb.later hb, below_step h.bel hb⟩
theorem LawGot.drew {w : World} {b1 b2 : Nat} {m n : Me.M} {A B : Option Addr} {c d : Nat} {W : World} (h : LawGot w b1 b2 m n A B c d W) : LawGot w b1 b2 m n A B c d W.drew := ⟨h.ma, h.mb, ⟨h.ra.row, h.ra.nil, h.ra.le⟩, ⟨h.rb.row, h.rb.nil, h.rb.le⟩, h.bel.drew⟩
theorem LawGot.all {w : World} {b1 b2 : Nat} {m n : Me.M} {A B : Option Addr} {c d : Nat} {W : World} (h : LawGot w b1 b2 m n A B c d W) : W.cell? ⟨b1, 0, none⟩ = some (.int .i64 m.gen) ∧ W.cell? ⟨b1, 1, none⟩ = some (.int .i64 m.next) ∧ W.cell? ⟨b1, 2, none⟩ = some (.int .i64 m.wal) ∧ W.cell? ⟨b1, 3, none⟩ = some (.slice A m.bs.length c) ∧ W.cell? ⟨b2, 0, none⟩ = some (.int .i64 n.gen) ∧ W.cell? ⟨b2, 1, none⟩ = some (.int .i64 n.next) ∧ W.cell? ⟨b2, 2, none⟩ = some (.int .i64 n.wal) ∧ W.cell? ⟨b2, 3, none⟩ = some (.slice B n.bs.length d) ∧ LawGot w b1 b2 m n A B c d W :=
  ⟨h.ma.cells.1, h.ma.cells.2.1, h.ma.cells.2.2.1, h.ma.cells.2.2.2, h.mb.cells.1, h.mb.cells.2.1, h.mb.cells.2.2.1, h.mb.cells.2.2.2, h⟩

set_option maxRecDepth 100000 in
set_option maxHeartbeats 4000000 in
theorem metaGets_walk (w : World) (hE : Env w) (s : ByteArray) (_hs : s.size ≤ maxLen) :
    Calls Tryz.prog 4 #[.string s] w fun e w' => e = .returned (.bool true) ∧ Below w.heap.size w w' := by
  have HWK := Lib.hid (works_any w hE)
  clear hE
  by_cases hl : s.size ≤ 600
  · have d1 : decide ((600 : Int) < (s.size : Int)) = false := by simp; omega
    have hg := fun W => MGet_any s (by omega) W
    have hr := fun W => rMGet_any s (by omega) W
    have hml : (Me.got s).1.bs.length ≤ 700 := by
      by_cases h : (Me.got s).2 = 0
      · have := (Me.valid_okay (Me.got_yes s h).1).2.2.2.2; omega
      · rw [(Me.got_no s h).1]; simp [Me.zero]
    generalize Me.got s = G at *
    obtain ⟨m, k⟩ := G
    dsimp only at hg hr hml
    have hsm := fun W A c B d h1 h2 => rSame_any m m A B c d hml W h1 h2
    rw [(Me.same_iff m m).2 rfl] at hsm
    have HG := Lib.hid hg; have HR := Lib.hid hr; have HRSM := Lib.hid hsm
    have HLM := Lib.hid (fun W A c => LOf_any m A c W)
    clear hg hr hml hsm hl
    go_enter Tryz.func4, Tryz.ntmps4
    go_wp2_with fail
    refine HWK.out.mono ?_; rintro e w2 ⟨rfl, hb2⟩
    have HB2 := Lib.hid hb2; clear hb2
    go_wp2_with fail
    refine (HG.out _).mono ?_; rintro e w3 ⟨A, c, rfl, hI3, -, hb3⟩
    have HB3 := Lib.hid (below_step HB2.out hb3); have HI3 := Lib.hid hI3; clear hb3 hI3
    rw [show m.val A c = .agg #[.int .i64 m.gen, .int .i64 m.next, .int .i64 m.wal, .slice A m.bs.length c] from rfl]
    have hal : Below w3.heap.size w3 (w3.alloc (.cells #[.int .i64 m.gen, .int .i64 m.next, .int .i64 m.wal, .slice A m.bs.length c] 24)) := (Below.refl _ w3).alloc (Nat.le_refl _) _
    have HM4 : Hid (MetaAt w3.heap.size m A c (w3.alloc (.cells #[.int .i64 m.gen, .int .i64 m.next, .int .i64 m.wal, .slice A m.bs.length c] 24))) := Lib.hid (heap_alloc_new _ _)
    have HB4 := Lib.hid (below_step HB3.out hal); have HI4 := Lib.hid (HI3.out.later hal)
    clear hal HB3 HI3 HB2
    go_upto_region 7 with fail
    generalize w3.alloc (.cells #[.int .i64 m.gen, .int .i64 m.next, .int .i64 m.wal, .slice A m.bs.length c] 24) = w4 at *
    generalize w3.heap.size = b1 at *
    go_wp2_with fail
    refine (HR.out _).mono ?_; rintro e w5 ⟨B, d, rfl, hJ5, -, hb5⟩
    have HB5 := Lib.hid (below_step HB4.out hb5); have HI5 := Lib.hid (HI4.out.later hb5); have HM5 := Lib.hid (HM4.out.later hb5); have HJ5 := Lib.hid hJ5; clear hb5 hJ5
    rw [show m.val B d = .agg #[.int .i64 m.gen, .int .i64 m.next, .int .i64 m.wal, .slice B m.bs.length d] from rfl]
    have hal : Below w5.heap.size w5 (w5.alloc (.cells #[.int .i64 m.gen, .int .i64 m.next, .int .i64 m.wal, .slice B m.bs.length d] 30)) := (Below.refl _ w5).alloc (Nat.le_refl _) _
    have hn6 : RMetaAt w5.heap.size m B d (w5.alloc (.cells #[.int .i64 m.gen, .int .i64 m.next, .int .i64 m.wal, .slice B m.bs.length d] 30)) := heap_alloc_new _ _
    have HH6 : Hid (LawGot w b1 w5.heap.size m m A B c d (w5.alloc (.cells #[.int .i64 m.gen, .int .i64 m.next, .int .i64 m.wal, .slice B m.bs.length d] 30))) := Lib.hid ⟨HM5.out.later hal, hn6, HI5.out.later hal, HJ5.out.later hal, below_step HB5.out hal⟩
    clear hal hn6 HB5 HI5 HM5 HJ5 HB4 HI4 HM4
    go_upto_region 8 with fail
    generalize w5.alloc (.cells #[.int .i64 m.gen, .int .i64 m.next, .int .i64 m.wal, .slice B m.bs.length d] 30) = w6 at *
    generalize w5.heap.size = b2 at *
    go_cut [8] (fun v8 wx => v8 = .bool true ∧ LawGot w b1 b2 m m A B c d wx)
    case first =>
      go_region_held3 (fun W => W.cell? ⟨b1, 0, none⟩ = some (.int .i64 m.gen) ∧ W.cell? ⟨b1, 1, none⟩ = some (.int .i64 m.next) ∧ W.cell? ⟨b1, 2, none⟩ = some (.int .i64 m.wal) ∧ W.cell? ⟨b1, 3, none⟩ = some (.slice A m.bs.length c) ∧ W.cell? ⟨b2, 0, none⟩ = some (.int .i64 m.gen) ∧ W.cell? ⟨b2, 1, none⟩ = some (.int .i64 m.next) ∧ W.cell? ⟨b2, 2, none⟩ = some (.int .i64 m.wal) ∧ W.cell? ⟨b2, 3, none⟩ = some (.slice B m.bs.length d) ∧ LawGot w b1 b2 m m A B c d W)
        (first | exact HH6.out.all | exact HH6.out.drew.all | (go_split_ands; exact LawGot.all (by assumption)) | (go_split_ands; exact LawGot.all (LawGot.later (by assumption) hb2)))
        (first | (go_at_call 8; refine (HLM.out _ _ _).mono ?_; rintro e W2 ⟨rfl, hb2⟩) | (go_at_call 10; go_split_ands; refine (HRSM.out _ _ _ _ _ (LawGot.ra (w := w) (b1 := b1) (b2 := b2) (m := m) (n := m) (A := A) (B := B) (c := c) (d := d) (by assumption)) (LawGot.rb (w := w) (b1 := b1) (b2 := b2) (m := m) (n := m) (A := A) (B := B) (c := c) (d := d) (by assumption))).mono ?_; rintro e W2 ⟨rfl, hb2⟩))
      go_wp2_with fail
      go_meet
      go_split_ands
      exact ⟨rfl, by assumption⟩
    case rest =>
      obtain ⟨rfl, hh⟩ := hcut
      have HH9 := Lib.hid hh; clear hh
      go_wp2_with fail
      go_ret
      exact ⟨rfl, HH9.out.bel⟩
  · have d1 : decide ((600 : Int) < (s.size : Int)) = true := by simp; omega
    clear hl
    go_enter Tryz.func4, Tryz.ntmps4
    go_wp2_with fail
    refine HWK.out.mono ?_; rintro e w2 ⟨rfl, hb2⟩
    have HB2 := Lib.hid hb2; clear hb2
    go_wp2_with fail
    go_ret
    exact ⟨rfl, HB2.out⟩
end Go.Proofs.YtokofifecdpmfaaGreatDoor
