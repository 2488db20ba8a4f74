import Derived.Test.YtfibapfehgglhaaGreatDoorPjH
import Derived.Test.YtfibapfehgglhaaGreatDoorPjN
/-
  A file more on a machine of its own; two files: mathematics.
-/
namespace Go.Proofs.YtfibapfehgglhaaGreatDoor
open Go.RowKit
namespace Sf
/-- a machine that lives, and what it has -/
structure Cp (S : St) (g : ByteArray → Option ByteArray) : Prop where
  dead : S.dead = false
  fuse : S.fuse = -1
  at_ : ∀ s, cont S s = g s
theorem Cp.new (room : Int) : Cp (St.new room) fun _ => none := ⟨rfl, rfl, (Has.new room).at_⟩
theorem Cp.step {B N : Nat} {S : St} {g : ByteArray → Option ByteArray} (hok : StOk B N S) (hk : KS S.names) (h : Cp S g) {n b : ByteArray} (hn : isName n = true) (hg : g n = none) (hz : Go.Maps.size S.names < 64) {y : Nat} (hy : ¬ live S.synced S.chg y) (hr : (S.total : Int) + (b.size : Int) ≤ S.room) :
    (S.create n y).2 = 0 ∧ ((S.create n y).1.append n b).2 = 0 ∧ Cp ((S.create n y).1.append n b).1 (fun s => if s = n then some b else g s) ∧ ((S.create n y).1.append n b).1.room = S.room ∧ ((S.create n y).1.append n b).1.total = S.total + b.size := by
  have hl : look S.names n = none := cont_none ((h.at_ n).trans hg)
  have hfr : ∀ s, look S.names s ≠ some y := fun s hs => hy (hok.lives hs)
  have f0 : S.fuse ≠ 0 := by rw [h.fuse]; decide
  have e2 := create_yes y h.dead hn hl hz f0
  rw [e2]
  obtain ⟨T, hT⟩ : ∃ T, T = (S.file y file0).tick.naming (.cre n y) := ⟨_, rfl⟩
  rw [← hT]
  have n2 : T.names = S.names.put (key n) (Sf.hd y) := by rw [hT]; rfl
  have l2 : ∀ s, look T.names s = if s = n then some y else look S.names s := fun s => by
    rw [n2]
    split
    · rename_i e; rw [e]; exact look_put_same hok.nice.tidy.isMap n y
    · rename_i e; exact look_put_other e _
  have d2 : T.dead = false := by rw [hT]; exact h.dead
  have r2 : T.room = S.room := by rw [hT]; rfl
  have F2 : T.F y = file0 := by rw [hT]; exact if_pos rfl
  have F2' : ∀ x, x ≠ y → T.F x = S.F x := fun x hx => by rw [hT]; exact if_neg hx
  have fu2 : T.fuse = -1 := by rw [hT]; exact tick_fuse (S := S) h.fuse
  have ni2 : Nice T.names := by
    rw [n2]
    exact nice_cre (s := n) hok.nice (by unfold isName at hn; simp at hn; omega) hfr hz
  have ks2 : KS T.names := by rw [n2]; exact hk.put n _
  have t2 : T.total = S.total := by
    have := tot_but hok.nice hk ni2 ks2 n (fun s hs => by rw [l2, if_neg hs]) (fun s x _ hx => by rw [F2' x (fun e => hfr s (by rw [← e]; exact hx))])
    rw [szOf_at, szOf_at, hl, l2, if_pos rfl] at this
    simp only [F2] at this
    have z0 : file0.bytes.size = 0 := rfl
    omega
  clear hT
  have hln : look T.names n = some y := by rw [l2, if_pos rfl]
  have e3 := append_yes (b := b) d2 hln (by rw [t2, r2]; exact hr) (by rw [fu2]; decide)
  have htot := (total_append ni2 ks2 n b (by rw [e3])).1
  rw [e3] at htot ⊢
  refine ⟨rfl, rfl, ⟨d2, tick_fuse fu2, fun s => ?_⟩, r2, htot.trans (by rw [t2])⟩
  show (look T.names s).map (fun x => ((T.tick.file y ((T.F y).change (.app b))).F x).bytes) = _
  rw [l2]
  by_cases hs : s = n
  · rw [if_pos hs, if_pos hs]
    show some (if y = y then _ else T.F y : File).bytes = some b
    rw [if_pos rfl, F2]
    show some (ByteArray.empty ++ b) = some b
    rw [ByteArray.empty_append]
  · rw [if_neg hs, if_neg hs, ← h.at_ s]
    unfold cont
    cases hx : look S.names s with
    | none => rfl
    | some x =>
      have hxy : x ≠ y := fun e => hfr s (by rw [hx, e])
      show some (if x = y then _ else T.F x : File).bytes = some (S.F x).bytes
      rw [if_neg hxy, F2' x hxy]
end Sf
namespace Pj
def metaL : List UInt8 := [109, 101, 116, 97]
def walL : List UInt8 := [119, 97, 108, 45, 48, 48, 48, 48, 48, 48]
theorem bs_meta : bs metaL = metaN := rfl
theorem bs_wal : bs walL = walN := rfl
/-- a machine that has a new store's two files -/
structure Two (S : Sf.St) (g : Int) : Prop where
  cp : Sf.Cp S (fun s => if s = walN then some wB else if s = metaN then some (mB g) else none)
theorem Two.keys {S : Sf.St} {g : Int} (h : Two S g) (s : List UInt8) : (Sf.look S.names (bs s)).isSome = true ↔ s ∈ [metaL, walL] := by
  rw [← Sf.cont_is, h.cp.at_]
  constructor
  · intro e
    by_cases h1 : bs s = walN
    · have : s = walL := bs_inj (h1.trans bs_wal.symm)
      simp [this]
    · rw [if_neg h1] at e
      by_cases h2 : bs s = metaN
      · have : s = metaL := bs_inj (h2.trans bs_meta.symm)
        simp [this]
      · rw [if_neg h2] at e; cases e
  · intro e
    simp only [List.mem_cons, List.not_mem_nil, or_false] at e
    rcases e with rfl | rfl
    · rw [bs_meta, if_neg (by decide), if_pos rfl]; rfl
    · rw [bs_wal, if_pos rfl]; rfl
theorem Two.list {B N : Nat} {S : Sf.St} {g : Int} (h : Two S g) (hok : Sf.StOk B N S) (hk : Sf.KS S.names) : Sf.list S.names = [metaL, walL] := by
  rw [Sf.list_eq hok.nice hk (L := [metaL, walL]) (by decide) (h.keys)]
  first | exact List.mergeSort_of_pairwise (by decide) | exact List.mergeSort_of_sorted (by decide) | (simp [List.mergeSort, List.MergeSort.Internal.splitInTwo, List.merge]; decide)
theorem Two.readM {S : Sf.St} {g : Int} (h : Two S g) : S.read metaN = (mB g, 0) := Sf.read_some h.cp.dead ((h.cp.at_ metaN).trans (by rw [if_neg (by decide), if_pos rfl]))
theorem Two.readW {S : Sf.St} {g : Int} (h : Two S g) : S.read walN = (wB, 0) := Sf.read_some h.cp.dead ((h.cp.at_ walN).trans (by rw [if_pos rfl]))
theorem Made.two {S : Sf.St} (h : Made S) : Two S 3 := ⟨h.has.dead, h.fuse, fun s => by
  rw [h.has.at_]
  unfold gM gW Sf.putG
  by_cases h1 : s = walN
  · rw [if_pos h1, if_neg (by rw [h1]; decide), if_neg (by rw [h1]; decide), if_pos h1]
  · rw [if_neg h1]
    by_cases h2 : s = metaN
    · rw [if_pos h2, if_neg h1, if_pos h2]
    · rw [if_neg h2, if_neg h2, if_neg h1]
      split
      · rfl
      · split <;> rfl⟩
theorem total_two {B N : Nat} {S : Sf.St} {g : Int} (h : Two S g) (hok : Sf.StOk B N S) (hk : Sf.KS S.names) : S.total = (mB g).size + wB.size := by
  have hp := Sf.keys_perm hok.nice hk (L := [metaL, walL]) (by decide) h.keys
  have e : S.total = Sf.szOf S S.names metaL + Sf.szOf S S.names walL := by
    unfold Sf.St.total Sf.tot
    rw [(hp.map (Sf.szOf S S.names)).sum_nat]
    simp
  obtain ⟨x, hx, hb⟩ := Sf.cont_some ((h.cp.at_ walN).trans (if_pos rfl))
  obtain ⟨z, hz, hc⟩ := Sf.cont_some ((h.cp.at_ metaN).trans (by rw [if_neg (by decide), if_pos rfl]))
  have e1 := Sf.szOf_at S S.names walN
  have e2 := Sf.szOf_at S S.names metaN
  rw [hx] at e1
  rw [hz] at e2
  simp only [hb] at e1
  simp only [hc] at e2
  rw [e]
  have e3 : Sf.szOf S S.names metaL = (mB g).size := e2
  have e4 : Sf.szOf S S.names walL = wB.size := e1
  rw [e3, e4]
end Pj
end Go.Proofs.YtfibapfehgglhaaGreatDoor
/-
  A machine of its own, without the journal: the walk.
-/
namespace Go.Proofs.YtfibapfehgglhaaGreatDoor
open Go.RowKit
open Pj
namespace Pj
def nmK (k : Nat) : ByteArray := if k = 0 then metaN else walN
def bbK (k : Nat) : ByteArray := if k = 0 then mB 3 else wB
def Gk : Nat → ByteArray → Option ByteArray
  | 0, _ => none
  | k + 1, s => if s = nmK k then some (bbK k) else Gk k s
def totK (k : Nat) : Nat := if k = 0 then 0 else if k = 1 then 18 else 28
theorem nmK_list (k : Nat) (hk : k < 2) : bs ([metaL, walL].getD k []) = nmK k := by
  rcases (show k = 0 ∨ k = 1 by omega) with rfl | rfl <;> rfl
theorem bbK_size (k : Nat) (hk : k < 2) : totK k + (bbK k).size = totK (k + 1) ∧ (bbK k).size ≤ 18 := by
  rcases (show k = 0 ∨ k = 1 by omega) with rfl | rfl
  · show 0 + (mB 3).size = 18 ∧ (mB 3).size ≤ 18
    rw [mB3_size]; decide
  · show 18 + wB.size = 28 ∧ wB.size ≤ 18
    rw [wB_size]; decide
theorem nmK_ok (k : Nat) (hk : k < 2) : Sf.isName (nmK k) = true ∧ (nmK k).size ≤ maxLen ∧ ((nmK k).toList == [106, 111, 117, 114, 110, 97, 108]) = false ∧ Gk k (nmK k) = none := by
  rcases (show k = 0 ∨ k = 1 by omega) with rfl | rfl
  · exact ⟨by decide, by decide, by decide +kernel, rfl⟩
  · exact ⟨by decide, by decide, by decide +kernel, by decide⟩
theorem totK_le (k : Nat) : totK k ≤ 28 := by
  unfold totK; split
  · omega
  · split <;> omega
theorem Gk_other (k : Nat) (hk : k ≤ 2) (s : ByteArray) (h1 : s ≠ metaN) (h2 : s ≠ walN) : Gk k s = none := by
  rcases (show k = 0 ∨ k = 1 ∨ k = 2 by omega) with rfl | rfl | rfl
  · rfl
  · show (if s = metaN then _ else _) = _
    rw [if_neg h1]; rfl
  · show (if s = walN then _ else if s = metaN then _ else _) = _
    rw [if_neg h2, if_neg h1]; rfl
theorem size_gk {B N : Nat} {T : Sf.St} (hok : Sf.StOk B N T) (hks : Sf.KS T.names) {k : Nat} (hk : k ≤ 2) (h : Sf.Cp T (Gk k)) : Go.Maps.size T.names < 64 := by
  refine Nat.lt_of_le_of_lt (Sf.size_le hok.nice hks [metaN, walN] (fun s x hx => ?_)) (by decide)
  by_cases h1 : s = metaN
  · simp [h1]
  · by_cases h2 : s = walN
    · simp [h2]
    · have h3 := (h.at_ s).trans (Gk_other k hk s h1 h2)
      rw [Sf.cont_of hx] at h3; cases h3
end Pj
set_option maxRecDepth 100000 in
set_option maxHeartbeats 4000000 in
theorem withoutJournal_any {W : World} {base fb B N : Nat} {S : Sf.St} {wo : World} (h : Runs W base fb B N S wo) (hB : B ≤ 1000000) (h2 : Two S 3) :
    Calls Tryz.prog 53 #[.pointer (some ⟨fb, 0, none⟩)] wo fun e w' => ∃ gb base2 T, e = .returned (.pointer (some ⟨gb, 0, none⟩)) ∧ Runs wo base2 gb 600 4 T w' ∧ Two T 3 ∧ Below wo.heap.size wo w' := by
  have HR := Lib.hid h
  have hsz := h.size (by omega)
  have htot := total_two h2 h.ok h.keys
  rw [mB3_size, wB_size] at htot
  rw [htot] at hsz
  have HSZ := Lib.hid hsz
  have hll := h2.list h.ok h.keys
  have hli := h.list
  rw [hll] at hli
  have HRD : Hid (∀ k, k < 2 → ∀ U, Below wo.heap.size wo U → Calls Tryz.prog 10 #[.pointer (some ⟨fb, 0, none⟩), .string (nmK k)] U fun e w' => e = .returned (.tuple #[.string (bbK k), .int .i64 0]) ∧ Below U.heap.size U w') := Lib.hid (fun k hk U hU => by
    have hr := (h.far hU).read (nmK k) (nmK_ok k hk).2.1
    have he : S.read (nmK k) = (bbK k, 0) := by
      rcases (show k = 0 ∨ k = 1 by omega) with rfl | rfl
      · exact h2.readM
      · exact h2.readW
    rw [he] at hr
    exact hr)
  have HLI : Hid (∀ U, Below wo.heap.size wo U → Calls Tryz.prog 57 #[.pointer (some ⟨fb, 0, none⟩)] U fun e w' => ∃ A c, e = .returned (.slice A 2 c) ∧ Txs w' U.heap.size (.slice A 2 c) [metaL, walL] ∧ Below U.heap.size U w') := Lib.hid (fun U hU => by
    have hl := (h.far hU).list
    rw [hll] at hl
    exact hl)
  clear h hsz htot hll hli
  go_enter Tryz.func53, Tryz.ntmps53
  go_wp2_with fail
  refine HSZ.out.mono ?_; rintro e w1 ⟨rfl, hb1⟩
  have HB1 := Lib.hid hb1
  clear hb1 HSZ
  have hc28 : (((10 + 18 : Nat) : Nat) : Int) = 28 := rfl
  go_wp2_with fail
  refine (runs_new HB1.out 28 (by decide)).mono ?_; rintro e w2 ⟨gb, rfl, hr2, hb2⟩
  have HB2 := Lib.hid (below_step HB1.out hb2); have HR2 := Lib.hid hr2
  obtain ⟨base2, hbase2⟩ : ∃ base2, base2 = w1.heap.size := ⟨_, rfl⟩
  rw [← hbase2] at HR2
  clear hb2 hr2 hbase2
  go_wp2_with fail
  refine (HLI.out w2 HB2.out).mono ?_; rintro e w3 ⟨A, c, rfl, ht3, hb3⟩
  have HT3 := Lib.hid ht3; have HR3 := Lib.hid (HR2.out.far hb3)
  clear ht3 hb3 HLI HR2 HB1
  go_wp2_with fail
  go_loopw [5, 6, 7, 14] (fun _ _ _ i wq => ∃ (k : Nat) (T : Sf.St), k ≤ 2 ∧ i = .int .i64 k ∧ Runs wo base2 gb (300 * k) (2 * k) T wq ∧ Sf.Cp T (Gk k) ∧ T.room = 28 ∧ T.total = totK k ∧ Moves w3 wq) (fun _ _ _ i _ => 2 - (intOf i).toNat)
  case atStart =>
    refine ⟨0, Sf.St.new 28, Nat.zero_le _, rfl, HR3.out, ⟨rfl, rfl, (Sf.Has.new 28).at_⟩, rfl, ?_, Moves.refl _⟩
    exact Sf.total_zero HR3.out.ok HR3.out.keys (Sf.Has.new 28).at_
  case round =>
    obtain ⟨k, T, hk, rfl, hrT, hcT, hroT, htT, hmT⟩ := hrel
    have HRT := Lib.hid hrT; have HCT := Lib.hid (And.intro hcT (And.intro hroT htT)); have HMT := Lib.hid hmT
    clear hrT hcT hroT htT hmT
    have i0 : (0 : Int) ≤ (k : Int) := Int.natCast_nonneg _
    by_cases hlt : k < 2
    · have i1 : (k : Int) < 2 := by omega
      have d1 : decide ((k : Int) < 2) = true := decide_eq_true i1
      obtain ⟨ad, rfl, c0, -⟩ := ((HT3.out.stays HMT.out.st).row).at_ (Below.refl _ _) (show k < [metaL, walL].length from hlt)
      have x0 : wr.cell? (ad.add k) = some (.string (nmK k)) := by
        have h1 := c0 (by decide)
        rw [Nat.mul_one] at h1
        rw [← nmK_list k hlt]
        exact h1
      obtain ⟨n1, n2, n3, n4⟩ := nmK_ok k hlt
      obtain ⟨q1, q2⟩ := bbK_size k hlt
      have hgk : Gk (k + 1) = fun s => if s = nmK k then some (bbK k) else Gk k s := rfl
      have ht28 := totK_le (k + 1)
      have HST : Hid (∀ y, ¬ Sf.live T.synced T.chg y → (T.create (nmK k) y).2 = 0 ∧ ((T.create (nmK k) y).1.append (nmK k) (bbK k)).2 = 0 ∧ Sf.Cp ((T.create (nmK k) y).1.append (nmK k) (bbK k)).1 (Gk (k + 1)) ∧ ((T.create (nmK k) y).1.append (nmK k) (bbK k)).1.room = T.room ∧ ((T.create (nmK k) y).1.append (nmK k) (bbK k)).1.total = T.total + (bbK k).size) := Lib.hid (fun y hy => by
        rw [hgk]
        exact Sf.Cp.step HRT.out.ok HRT.out.keys HCT.out.1 n1 n4 (size_gk HRT.out.ok HRT.out.keys hk HCT.out.1) hy (by rw [HCT.out.2.1, HCT.out.2.2]; omega))
      have HRK := Lib.hid (HRD.out k hlt wr HRT.out.bel)
      have HQ1 := Lib.hid q1
      clear hgk n1 n4 q1 c0
      generalize nmK k = nm at *
      generalize bbK k = bb at *
      go_wp2_with fail
      refine HRK.out.mono ?_; rintro e w4 ⟨rfl, hb4⟩
      have HR4 := Lib.hid (HRT.out.far hb4); have HM4 := Lib.hid (HMT.out.trans (Moves.below hb4))
      clear hb4 x0 HRK
      go_wp2_with fail
      refine (HR4.out.create (by omega) nm n2).mono ?_; rintro e w5 ⟨y, hy, rfl, hr5, hm5⟩
      have HS := Lib.hid (HST.out y hy)
      have HR5 := Lib.hid hr5; have HM5 := Lib.hid (HM4.out.trans hm5)
      clear hy hr5 hm5 HST HR4 HM4
      generalize T.create nm y = cr at *
      go_wp2_with fail
      refine (HR5.out.append (by omega) (by omega) nm n2 bb (by omega)).mono ?_; rintro e w6 ⟨rfl, hr6, hm6⟩
      have HR6 := Lib.hid hr6; have HM6 := Lib.hid (HM5.out.trans hm6)
      clear hr6 hm6 HR5 HM5
      generalize cr.1.append nm bb = ap at *
      go_wp2_with fail
      go_roundw
      case rel => exact ⟨k + 1, ap.1, hlt, by go_num, HR6.out.mono (by omega) (by omega), HS.out.2.2.1, HS.out.2.2.2.1.trans HCT.out.2.1, HS.out.2.2.2.2.trans (by rw [HCT.out.2.2]; exact HQ1.out), HM6.out⟩
      case measure => simp [intOf]; omega
    · obtain rfl : k = 2 := by omega
      have d1 : decide (((2 : Nat) : Int) < 2) = false := by decide
      go_wp2_with fail
      go_ret
      exact ⟨gb, base2, T, rfl, HRT.out.mono (by omega) (by omega), ⟨⟨HCT.out.1.dead, HCT.out.1.fuse, fun s => HCT.out.1.at_ s⟩⟩, HRT.out.bel⟩
end Go.Proofs.YtfibapfehgglhaaGreatDoor
/-
  What files begin with; a new store, loaded: the walks.
-/
namespace Go.Proofs.YtfibapfehgglhaaGreatDoor
open Go.RowKit
open Pj
set_option maxRecDepth 100000 in
set_option maxHeartbeats 1000000 in
theorem magicM_any (w : World) (hE : Env w) : Calls Tryz.prog 66 #[.string metaN] w fun e w' => e = .returned (.string Me.amet) ∧ Below w.heap.size w w' := by
  have HP := Lib.hid (Parse_any metaN (by decide) w hE)
  have hm : metaN = ⟨#[109, 101, 116, 97]⟩ := rfl
  rw [hm] at HP ⊢
  have ha : Me.amet = ⟨#[65, 77, 69, 84]⟩ := rfl
  have d1 : (([109, 101, 116, 97] : List UInt8) == [109, 101, 116, 97]) = true := rfl
  generalize Me.parse ⟨#[109, 101, 116, 97]⟩ = pp at *
  go_enter Tryz.func66, Tryz.ntmps66
  go_wp2_with fail
  refine HP.out.mono ?_; rintro e w1 ⟨rfl, hb1⟩
  have HB1 := Lib.hid hb1
  clear hb1 HP
  go_wp2_with fail
  go_ret
  exact ⟨rfl, HB1.out⟩
theorem Pj.parse_wal : (Me.parse walN).1 = walK := by decide +kernel
set_option maxRecDepth 100000 in
set_option maxHeartbeats 1000000 in
theorem magicW_any (w : World) (hE : Env w) : Calls Tryz.prog 66 #[.string walN] w fun e w' => e = .returned (.string awal) ∧ Below w.heap.size w w' := by
  have HP := Lib.hid (Parse_any walN (by decide) w hE)
  rw [parse_wal] at HP
  have hm : walK = ⟨#[119, 97, 108]⟩ := rfl
  have hn : walN = ⟨#[119, 97, 108, 45, 48, 48, 48, 48, 48, 48]⟩ := rfl
  rw [hm] at HP
  rw [hn] at HP ⊢
  have ha : awal = ⟨#[65, 87, 65, 76]⟩ := rfl
  have d1 : (([119, 97, 108, 45, 48, 48, 48, 48, 48, 48] : List UInt8) == [109, 101, 116, 97]) = false := rfl
  have d2 : (([119, 97, 108] : List UInt8) == [119, 97, 108]) = true := rfl
  generalize (Me.parse ⟨#[119, 97, 108, 45, 48, 48, 48, 48, 48, 48]⟩).2 = pp at *
  go_enter Tryz.func66, Tryz.ntmps66
  go_wp2_with fail
  refine HP.out.mono ?_; rintro e w1 ⟨rfl, hb1⟩
  have HB1 := Lib.hid hb1
  clear hb1 HP
  go_wp2_with fail
  go_ret
  exact ⟨rfl, HB1.out⟩
namespace Pj
theorem mB3_open : Fr.opened (mB 3) Me.amet = (3, 0, Fr.put (Me.body (m0 3)), 0) := Me.opened_bytes (m0 3) (m0_valid 3 (by omega))
theorem Two.gated {B N : Nat} {S : Sf.St} (h : Two S 3) (hok : Sf.StOk B N S) (hk : Sf.KS S.names) (k : Nat) (hlt : k < (Sf.list S.names).length) : Gated S (fun k => if k = 0 then Me.amet else awal) k := by
  have hl := h.list hok hk
  rw [hl] at hlt
  rcases (show k = 0 ∨ k = 1 by simp at hlt; omega) with rfl | rfl
  · have e : bs ((Sf.list S.names).getD 0 []) = metaN := by rw [hl]; rfl
    constructor
    · intro U hU; rw [e]; exact magicM_any U hU
    · decide +kernel
    · decide
    · rw [e]; decide
    · rw [e, h.readM]; show (mB 3).size ≤ maxLen; rw [mB3_size]; decide
    · rw [e, h.readM]; dsimp only; rw [if_pos rfl, mB3_open]
  · have e : bs ((Sf.list S.names).getD 1 []) = walN := by rw [hl]; rfl
    constructor
    · intro U hU; rw [e]; exact magicW_any U hU
    · decide +kernel
    · decide
    · rw [e]; decide
    · rw [e, h.readW]; show wB.size ≤ maxLen; rw [wB_size]; decide
    · rw [e, h.readW]; dsimp only; rw [if_neg (by decide), wB_open]
def mV (A : Option Addr) (c : Nat) : Array Value := #[.int .i64 3, .int .i64 1, .int .i64 0, .slice A 0 c]
/-- the four results, and what goes into them -/
structure Fin (w0 : World) (b bm b1 b2 bg : Nat) (A : Option Addr) (c : Nat) (d4 d7 : Bool) (U : World) : Prop where
  m : U.heap[bm]? = some (.cells (mV A c) 54 (0, 0))
  s1 : U.heap[b1]? = some (.cells zT 57 (0, 0))
  s2 : U.heap[b2]? = some (.cells zT 57 (0, 0))
  g : U.heap[bg]? = some (.cells seg0 62 (0, 0))
  r0 : U.heap[b]? = some (.cells (if d4 then mV A c else zM) 54 (0, 0))
  r1 : U.heap[b + 1]? = some (.cells zT 57 (0, 0))
  r2 : U.heap[b + 2]? = some (.cells zT 57 (0, 0))
  r3 : U.heap[b + 3]? = some (.cells (if d7 then seg0 else zS) 62 (0, 0))
  bel : Below w0.heap.size w0 U
  le : w0.heap.size ≤ b
  lt : b + 3 < bm ∧ b + 3 < b1 ∧ b + 3 < b2 ∧ b + 3 < bg
theorem Fin.step4 {w0 U : World} {b bm b1 b2 bg : Nat} {A : Option Addr} {c : Nat} {d7 : Bool} (h : Fin w0 b bm b1 b2 bg A c false d7 U) : Fin w0 b bm b1 b2 bg A c true d7 ((((U.setCell ⟨b, 0, none⟩ (.int .i64 3)).setCell ⟨b, 1, none⟩ (.int .i64 1)).setCell ⟨b, 2, none⟩ (.int .i64 0)).setCell ⟨b, 3, none⟩ (.slice A 0 c)) := by
  have hg := grown_four U b (.int .i64 3) (.int .i64 1) (.int .i64 0) (.slice A 0 c)
  have k := h.lt
  have x := h.r0
  have x0 := heap_setCell_same U b 0 _ _ (.int .i64 3) x
  have x1 := heap_setCell_same _ b 1 _ _ (.int .i64 1) x0
  have x2 := heap_setCell_same _ b 2 _ _ (.int .i64 0) x1
  have x3 := heap_setCell_same _ b 3 _ _ (.slice A 0 c) x2
  exact ⟨grown_keep h.m hg (by omega), grown_keep h.s1 hg (by omega), grown_keep h.s2 hg (by omega), grown_keep h.g hg (by omega), x3, grown_keep h.r1 hg (by omega), grown_keep h.r2 hg (by omega), grown_keep h.r3 hg (by omega), h.bel.grown hg h.bel.size (fun r e => by obtain rfl : b = r := Option.some.inj e; exact h.le), h.le, h.lt⟩
theorem Fin.step7 {w0 U : World} {b bm b1 b2 bg : Nat} {A : Option Addr} {c : Nat} {d4 : Bool} (h : Fin w0 b bm b1 b2 bg A c d4 false U) : Fin w0 b bm b1 b2 bg A c d4 true ((((((U.setCell ⟨b + 3, 0, none⟩ (.int .i64 0)).setCell ⟨b + 3, 1, none⟩ (.slice none 0 0)).setCell ⟨b + 3, 2, none⟩ (.int .i64 10)).setCell ⟨b + 3, 3, none⟩ (.bool false)).setCell ⟨b + 3, 4, none⟩ (.int .i64 3)).setCell ⟨b + 3, 5, none⟩ (.slice none 0 0)) := by
  have k := h.lt
  have x := h.r3
  unfold zS at x
  obtain ⟨x6, hg⟩ := store6 x (.int .i64 0) (.slice none 0 0) (.int .i64 10) (.bool false) (.int .i64 3) (.slice none 0 0)
  exact ⟨grown_keep h.m hg (by omega), grown_keep h.s1 hg (by omega), grown_keep h.s2 hg (by omega), grown_keep h.g hg (by omega), grown_keep h.r0 hg (by omega), grown_keep h.r1 hg (by omega), grown_keep h.r2 hg (by omega), x6, h.bel.grown hg h.bel.size (fun r e => by obtain rfl : b + 3 = r := Option.some.inj e; have := h.le; omega), h.le, h.lt⟩
end Pj
theorem load_results {fn : Func} {p1 p2 p3 p4 t : Tmp} (h : fn.results = #[.cell p1 54, .cell p2 57, .cell p3 57, .cell p4 62, .tmp t]) (tmps : Array Value) (w w0 : World) (b bm b1 b2 bg : Nat) (A : Option Addr) (c : Nat) (er : Int) (hz : Fin w0 b bm b1 b2 bg A c true true w)
    (a1 : tmps.getD p1 undef = .pointer (some ⟨b, 0, none⟩)) (a2 : tmps.getD p2 undef = .pointer (some ⟨b + 1, 0, none⟩)) (a3 : tmps.getD p3 undef = .pointer (some ⟨b + 2, 0, none⟩)) (a4 : tmps.getD p4 undef = .pointer (some ⟨b + 3, 0, none⟩)) (a5 : tmps.getD t undef = .int .i64 er) :
    (results fn tmps).run Tryz.prog w = .ok (.tuple #[.agg (mV A c), .agg zT, .agg zT, .agg seg0, .int .i64 er]) w := by
  rw [results_four_tmp h tmps w _ _ _ _ (mV A c) zT zT seg0 _ _ _ _ _ _ _ _ (.struct (Tryz.prog.fieldsOf 54)) (.struct (Tryz.prog.fieldsOf 57)) (.struct (Tryz.prog.fieldsOf 57)) (.struct (Tryz.prog.fieldsOf 62)) a1 a2 a3 a4 hz.r0 hz.r1 hz.r2 hz.r3 (by kernel_rfl) (by kernel_rfl) (by kernel_rfl) (by kernel_rfl) rfl rfl rfl rfl (by kernel_rfl) (by kernel_rfl) (by kernel_rfl) (by kernel_rfl), a5]
end Go.Proofs.YtfibapfehgglhaaGreatDoor
