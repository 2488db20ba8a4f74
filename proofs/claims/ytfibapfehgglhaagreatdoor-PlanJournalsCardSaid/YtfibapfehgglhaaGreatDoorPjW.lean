import Derived.Test.YtfibapfehgglhaaGreatDoorPjV
/-
  A new store, scanned: the walk.
-/
namespace Go.Proofs.YtfibapfehgglhaaGreatDoor
open Go.RowKit
open Pj
/-- a new store's items -/
def Pj.itx (i j : Nat) : Value := if j = 0 then .string (if i = 0 then walN else metaN) else if j = 1 then .int .i64 3 else .int .i64 0
theorem Pj.jread_empty : jread ByteArray.empty = (0, 9) := by decide +kernel
/-- what Load answered, laid -/
def Pj.four (w : World) (A : Option Addr) (c : Nat) : World := (((w.alloc (.cells (mV A c) 54)).alloc (.cells zT 57)).alloc (.cells zT 57)).alloc (.cells seg0 62)
theorem Pj.four_is (w : World) (A : Option Addr) (c : Nat) : Below w.heap.size w (four w A c) ∧ (four w A c).heap[w.heap.size]? = some (.cells (mV A c) 54 (0, 0)) ∧ (four w A c).heap[w.heap.size + 1 + 1]? = some (.cells zT 57 (0, 0)) ∧ (four w A c).heap[w.heap.size + 1 + 1 + 1]? = some (.cells seg0 62 (0, 0)) := by
  obtain ⟨u1, hu1⟩ : ∃ u, u = w.alloc (.cells (mV A c) 54) := ⟨_, rfl⟩
  obtain ⟨u2, hu2⟩ : ∃ u, u = u1.alloc (.cells zT 57) := ⟨_, rfl⟩
  obtain ⟨u3, hu3⟩ : ∃ u, u = u2.alloc (.cells zT 57) := ⟨_, rfl⟩
  obtain ⟨u4, hu4⟩ : ∃ u, u = u3.alloc (.cells seg0 62) := ⟨_, rfl⟩
  have e : four w A c = u4 := by unfold four; rw [hu4, hu3, hu2, hu1]
  have s1 : u1.heap.size = w.heap.size + 1 := by rw [hu1]; simp
  have s2 : u2.heap.size = w.heap.size + 1 + 1 := by rw [hu2, World.size_alloc, s1]
  have s3 : u3.heap.size = w.heap.size + 1 + 1 + 1 := by rw [hu3, World.size_alloc, s2]
  have b1 : Below w.heap.size w u1 := by rw [hu1]; exact (Below.refl _ _).alloc (Nat.le_refl _) _
  have b2 : Below u1.heap.size u1 u2 := by rw [hu2]; exact (Below.refl _ _).alloc (Nat.le_refl _) _
  have b3 : Below u2.heap.size u2 u3 := by rw [hu3]; exact (Below.refl _ _).alloc (Nat.le_refl _) _
  have b4 : Below u3.heap.size u3 u4 := by rw [hu4]; exact (Below.refl _ _).alloc (Nat.le_refl _) _
  have x1 : u1.heap[w.heap.size]? = some (.cells (mV A c) 54 (0, 0)) := by rw [hu1]; exact heap_alloc_new w _
  have x3 : u3.heap[u2.heap.size]? = some (.cells zT 57 (0, 0)) := by rw [hu3]; exact heap_alloc_new u2 _
  have x4 : u4.heap[u3.heap.size]? = some (.cells seg0 62 (0, 0)) := by rw [hu4]; exact heap_alloc_new u3 _
  rw [e]
  rw [s2] at x3
  rw [s3] at x4
  exact ⟨below_step (below_step (below_step b1 b2) b3) b4, heap_keep (heap_keep (heap_keep x1 b2) b3) b4, heap_keep x3 b4, x4⟩
theorem results_two_cell_two {P : Program} {fn : Func} {q1 q2 p t1 t2 : Tmp} {ty : TypeId} (h : fn.results = #[.tmp q1, .tmp q2, .cell p ty, .tmp t1, .tmp t2]) (tmps : Array Value) (w : World) (g : Nat) (u : TypeId) (cs : Array Value) (fr : Nat × Nat) (d : TypeDesc)
    (hp : tmps.getD p undef = .pointer (some ⟨g, 0, none⟩)) (hg : w.heap[g]? = some (.cells cs u fr))
    (hu : P.underlying ty = some d) (hd : (match d with | .struct _ | .array _ _ => true | _ => false) = true) (hi : (P.info? ty).map (·.size) = some cs.size) :
    (results fn tmps).run P w = .ok (.tuple #[tmps.getD q1 undef, tmps.getD q2 undef, .agg cs, tmps.getD t1 undef, tmps.getD t2 undef]) w := by
  have hp' : tmps[p]?.getD undef = .pointer (some ⟨g, 0, none⟩) := by simpa using hp
  simp [results, h, hp', asAddr, run_loadVar_row w g u ty cs fr d hg hu hd hi]
theorem scan_results {fn : Func} {q1 q2 p t1 t2 : Tmp} (h : fn.results = #[.tmp q1, .tmp q2, .cell p 57, .tmp t1, .tmp t2]) (tmps : Array Value) (w : World) (g : Nat) (a b c d : Value) (ha : tmps.getD q1 undef = a) (hp : tmps.getD p undef = .pointer (some ⟨g, 0, none⟩)) (hg : w.heap[g]? = some (.cells zT 57 (0, 0))) (hb : tmps.getD q2 undef = b) (hc : tmps.getD t1 undef = c) (hd : tmps.getD t2 undef = d) :
    (results fn tmps).run Tryz.prog w = .ok (.tuple #[a, b, .agg zT, c, d]) w := by
  subst ha; subst hb; subst hc; subst hd
  exact results_two_cell_two h tmps w g _ zT _ (.struct (Tryz.prog.fieldsOf 57)) hp hg (by kernel_rfl) rfl (by kernel_rfl)
theorem Pj.itx_one (i j : Nat) : (itx i j).oneCell' = true := by
  unfold itx
  split
  · rfl
  · split <;> rfl
theorem infoItem : (Tryz.prog.info? 43).map (fun i => (i.zero, i.size, i.bytes)) = some (some (.agg #[.string ByteArray.empty, .int .i64 0, .int .i64 0]), 3, 32) := by kernel_rfl
set_option maxRecDepth 100000 in
set_option maxHeartbeats 8000000 in
theorem Scan_any {W : World} {base fb B N : Nat} {S : Sf.St} {w : World} (h : Runs W base fb B N S w) (hB : B ≤ 1000000) (hE : Env W) (h2 : Two S 3) :
    Calls Tryz.prog 24 #[.pointer (some ⟨fb, 0, none⟩)] w fun e w' => ∃ I c1 B2 d2, e = .returned (.tuple #[.slice I 2 c1, .slice B2 0 d2, .agg zT, .bool false, .int .i64 0]) ∧ Row 3 itx w' I 2 ∧ Below w.heap.size w w' := by
  obtain ⟨w1, hw1⟩ : ∃ w1, w1 = w.alloc (.cells zT 57) := ⟨_, rfl⟩
  obtain ⟨b1, hb1⟩ : ∃ b1, b1 = w.heap.size := ⟨_, rfl⟩
  have hs1 : Below w.heap.size w w1 := by rw [hw1]; exact (Below.refl _ _).alloc (Nat.le_refl _) _
  have hx1 : w1.heap[b1]? = some (.cells zT 57 (0, 0)) := by rw [hw1, hb1]; exact heap_alloc_new w _
  have HB1 := Lib.hid hs1; have HX1 := Lib.hid hx1; have HR := Lib.hid (h.far hs1)
  have HDD := Lib.hid (Dead_any (h.far hs1).fs)
  rw [h2.cp.dead] at HDD
  have HWJ := Lib.hid (withoutJournal_any (h.far hs1) hB h2)
  have HEW := Lib.hid (hE.later (h.far hs1).bel); have HE0 := Lib.hid (hE.later h.bel); have H2 := Lib.hid h2
  have HRW := Lib.hid (fun U (hU : Below w.heap.size w U) => (h.far hU).read walN (by decide))
  have HRM := Lib.hid (fun U (hU : Below w.heap.size w U) => (h.far hU).read metaN (by decide))
  rw [h2.readW] at HRW
  rw [h2.readM] at HRM
  have HW := Lib.hid (And.intro hw1 hb1)
  have hll := h2.list h.ok h.keys
  have HLI : Hid (∀ U, Below w.heap.size w U → Calls Tryz.prog 57 #[.pointer (some ⟨fb, 0, none⟩)] U fun e w' => ∃ A c, e = .returned (.slice A 2 c) ∧ Txs w' U.heap.size (.slice A 2 c) [metaL, walL] ∧ Below U.heap.size U w') := Lib.hid (fun U hU => by
    have hl := (h.far hU).list
    rw [hll] at hl
    exact hl)
  clear hs1 hx1 hw1 hb1 h hE h2 hll
  go_enter Tryz.func24, Tryz.ntmps24
  go_upto_region 1 with fail
  obtain ⟨hw1, hb1⟩ := HW.out
  unfold zT at hw1
  rw [← hw1, ← hb1]
  clear hw1 hb1 HW
  go_wp2_with fail
  refine HDD.out.mono ?_; rintro e w1 ⟨rfl, rfl⟩
  go_wp2_with fail
  refine HWJ.out.mono ?_; rintro e w2 ⟨gb, base2, T, rfl, hr2, ht2, hb2⟩
  have HB2 := Lib.hid (below_step HB1.out hb2); have HX2 := Lib.hid (heap_keep HX1.out hb2)
  have HLD := Lib.hid (Load2_any hr2 HEW.out ht2)
  clear hr2 ht2 hb2 HWJ HDD
  go_wp2_with fail
  refine HLD.out.mono ?_; rintro e w3 ⟨A, c, rfl, hb3⟩
  have HB3 := Lib.hid (below_step HB2.out hb3); have HX3 := Lib.hid (heap_keep HX2.out hb3)
  clear hb3 HLD
  unfold mV zT seg0
  go_upto_region 6 with fail
  have e4 : ((((w3.alloc (.cells #[.int .i64 3, .int .i64 1, .int .i64 0, .slice A 0 c] 54)).alloc (.cells #[.slice none 0 0, .int .i64 0] 57)).alloc (.cells #[.slice none 0 0, .int .i64 0] 57)).alloc (.cells #[.int .i64 0, .slice none 0 0, .int .i64 10, .bool false, .int .i64 3, .slice none 0 0] 62)) = four w3 A c := rfl
  rw [e4]
  obtain ⟨hb4, hm4, ht4, hg4⟩ := four_is w3 A c
  obtain ⟨bm, hbm⟩ : ∃ bm, bm = w3.heap.size := ⟨_, rfl⟩
  rw [← hbm] at hm4 ht4 hg4 ⊢
  have HLM : Hid (w.heap.size ≤ bm) := Lib.hid (by rw [hbm]; exact HB3.out.size)
  generalize four w3 A c = w4 at hb4 hm4 ht4 hg4 ⊢
  have HB4 := Lib.hid (below_step HB3.out hb4); have HX4 := Lib.hid (heap_keep HX3.out hb4); have HM4 := Lib.hid hm4; have HT4 := Lib.hid ht4; have HG4 := Lib.hid hg4
  unfold mV at hm4
  have y2 := cell_of_row _ _ 2 _ _ _ hm4
  simp only [List.getElem?_toArray, List.getElem?_cons_zero, List.getElem?_cons_succ] at y2
  have HN := Lib.hid (Name_any walK (by decide) 0 w4 (HE0.out.later HB4.out))
  rw [walN_is] at HN
  have hk : walK = ⟨#[119, 97, 108]⟩ := rfl
  rw [hk] at HN
  clear hb4 hm4 ht4 hg4 hbm e4 HB3 HX3 HB2 HX2 hk
  go_wp2_with fail
  refine HN.out.mono ?_; rintro e w5 ⟨rfl, hb5⟩
  have HB5 := Lib.hid (below_step HB4.out hb5); have HX5 := Lib.hid (heap_keep HX4.out hb5); have HT5 := Lib.hid (heap_keep HT4.out hb5); have HG5 := Lib.hid (heap_keep HG4.out hb5); have HM5 := Lib.hid (heap_keep HM4.out hb5)
  clear hb5 HB4 HX4 HT4 HG4 HM4 HN y2
  go_upto_region 9 with fail
  obtain ⟨w6, hw6⟩ : ∃ w6, w6 = w5.alloc (.cells #[.string walN] 9) := ⟨_, rfl⟩
  obtain ⟨sb, hsb⟩ : ∃ sb, sb = w5.heap.size := ⟨_, rfl⟩
  have hs6 : Below w5.heap.size w5 w6 := by rw [hw6]; exact (Below.refl _ _).alloc (Nat.le_refl _) _
  have hx6 : w6.heap[sb]? = some (.cells #[.string walN] 9 (0, 0)) := by rw [hw6, hsb]; exact heap_alloc_new w5 _
  have e6 : w6.heap.size = sb + 1 := by rw [hw6, World.size_alloc, hsb]
  rw [← hw6, ← hsb]
  obtain ⟨w7, hw7⟩ : ∃ w7, w7 = w6.alloc (.cells #[.slice (some ⟨sb, 0, none⟩) 1 1] 34) := ⟨_, rfl⟩
  have hs7 : Below w6.heap.size w6 w7 := by rw [hw7]; exact (Below.refl _ _).alloc (Nat.le_refl _) _
  have hx7 : w7.heap[sb + 1]? = some (.cells #[.slice (some ⟨sb, 0, none⟩) 1 1] 34 (0, 0)) := by rw [hw7, ← e6]; exact heap_alloc_new w6 _
  have HLO : Hid (b1 < sb ∧ bm + 1 + 1 < sb ∧ bm + 1 + 1 + 1 < sb) := Lib.hid (by rw [hsb]; exact ⟨(Array.getElem?_eq_some_iff.1 HX5.out).1, (Array.getElem?_eq_some_iff.1 HT5.out).1, (Array.getElem?_eq_some_iff.1 HG5.out).1⟩)
  have HLS : Hid (w.heap.size ≤ sb) := Lib.hid (by rw [hsb]; exact HB5.out.size)
  rw [← hw7]
  have hb7 := below_step hs6 hs7
  have HB7 := Lib.hid (below_step HB5.out hb7); have HX7 := Lib.hid (heap_keep HX5.out hb7); have HT7 := Lib.hid (heap_keep HT5.out hb7); have HG7 := Lib.hid (heap_keep HG5.out hb7); have HS7 := Lib.hid (heap_keep hx6 hs7); have HN7 := Lib.hid hx7
  have hm7 := heap_keep HM5.out hb7
  unfold mV at hm7
  have y3 := cell_of_row _ _ 3 _ _ _ hm7
  simp only [List.getElem?_toArray, List.getElem?_cons_zero, List.getElem?_cons_succ] at y3
  clear hw6 hsb hs6 hx6 e6 hw7 hs7 hx7 hb7 hm7 HB5 HX5 HT5 HG5 HM5
  go_wp2_with fail
  go_loopw [14, 47] (fun _ i wq => i = .int .i64 0 ∧ wq = w7) (fun _ _ _ => 0)
  case atStart => exact ⟨rfl, rfl⟩
  case round =>
    obtain ⟨rfl, rfl⟩ := hrel
    have hn7 := HN7.out
    have z0 := cell_of_row _ _ 0 _ _ _ hn7; have f0 := frozen_of_row _ _ 0 _ _ hn7
    simp only [List.getElem?_toArray, List.getElem?_cons_zero] at z0
    clear hn7 y3
    obtain ⟨wb, hwb⟩ : ∃ wb, wb = wr.alloc (.cells #[.string ⟨#[109, 101, 116, 97]⟩] 9) := ⟨_, rfl⟩
    obtain ⟨mb, hmb⟩ : ∃ mb, mb = wr.heap.size := ⟨_, rfl⟩
    have hsb : Below wr.heap.size wr wb := by rw [hwb]; exact (Below.refl _ _).alloc (Nat.le_refl _) _
    have hxb : wb.heap[mb]? = some (.cells #[.string (bs metaL)] 9 (0, 0)) := by rw [hwb, hmb]; exact heap_alloc_new wr _
    have hsbx := heap_keep HS7.out hsb
    have HO : Hid (Txs wb sb (.slice (some ⟨sb, 0, none⟩) 1 1) [walL]) := Lib.hid ⟨⟨by simp [rcells], Or.inr ⟨sb, 1, #[.string walN], rfl, Nat.le_refl _, hsbx, Nat.le_refl _, by decide, by simp, by simp [rcells, tx, bs_wal]⟩⟩⟩
    have HBB := Lib.hid (below_step HB7.out hsb); have HXB := Lib.hid (heap_keep HX7.out hsb); have HTB := Lib.hid (heap_keep HT7.out hsb); have HGB := Lib.hid (heap_keep HG7.out hsb); have HNB := Lib.hid (heap_keep HN7.out hsb); have HMB := Lib.hid hxb
    have HLB : Hid (sb ≤ wb.heap.size) := Lib.hid (Nat.le_of_lt (Array.getElem?_eq_some_iff.1 hsbx).1)
    have HWB := Lib.hid (And.intro hwb hmb)
    clear hwb hmb hsb hxb hsbx HB7 HX7 HT7 HG7 HN7 HS7
    go_wp2_with (at_builtin; go_must (obtain ⟨hwb, hmb⟩ := HWB.out; rw [← hwb, ← hmb]; clear hwb hmb HWB; refine wpList_append_text _ rfl _ _ rfl sb _ [walL] rfl HO.out mb metaL (0, 0) rfl HMB.out (by decide) HLB.out ?_; intro A8 c8 w8 ht8 hg8'; have hg8 : wb.grownBy w8 (some sb) := hg8'; clear hg8'; have HT8 := Lib.hid ht8; have HG8 := Lib.hid hg8; have z8 : w8.cell? ⟨sb + 1, 0, none⟩ = some (.slice (some ⟨sb, 0, none⟩) 1 1) := cell_of_row _ _ _ _ _ _ (grown_keep HNB.out hg8 (Nat.succ_ne_self sb)); have f8 := frozen_of_row w8 (sb + 1) 0 _ _ (grown_keep HNB.out hg8 (Nat.succ_ne_self sb)); clear z0 f0 ht8 hg8))
    obtain ⟨w9, hw9⟩ : ∃ w9, w9 = w8.setCell ⟨sb + 1, 0, none⟩ (.slice A8 2 c8) := ⟨_, rfl⟩
    have hg9 : w8.grownBy w9 (some (sb + 1)) := by rw [hw9]; exact grown_setCell w8 (sb + 1) 0 _
    have hne : sb ≠ sb + 1 := (Nat.succ_ne_self sb).symm
    have h8 : Below w.heap.size w w8 := HBB.out.grown HG8.out HBB.out.size (fun r e => by obtain rfl : sb = r := Option.some.inj e; exact HLS.out)
    have h9 : Below w.heap.size w w9 := h8.grown hg9 h8.size (fun r e => by obtain rfl : sb + 1 = r := Option.some.inj e; exact Nat.le_succ_of_le HLS.out)
    have HB9 := Lib.hid h9
    have HT9 : Hid (Txs w9 sb (.slice A8 2 c8) [walL, metaL]) := Lib.hid (HT8.out.kept hg9 (fun r e h => by
      obtain rfl : sb + 1 = r := Option.some.inj e
      exact block_other HT8.out.own (grown_keep HNB.out HG8.out hne.symm) (by decide) h))
    have HR9 := Lib.hid HT9.out.row
    have HV9 : Hid (w9.cell? ⟨sb + 1, 0, none⟩ = some (.slice A8 2 c8)) := Lib.hid (by
      have hx := heap_setCell_same w8 (sb + 1) 0 _ _ (.slice A8 2 c8) (grown_keep HNB.out HG8.out hne.symm)
      rw [← hw9] at hx
      exact cell_of_row _ _ _ _ _ _ hx)
    obtain ⟨l1, l2, l3⟩ := HLO.out
    have HX9 := Lib.hid (grown_keep (grown_keep HXB.out HG8.out (by omega)) hg9 (by omega))
    have HTT9 := Lib.hid (grown_keep (grown_keep HTB.out HG8.out (by omega)) hg9 (by omega))
    have HGG9 := Lib.hid (grown_keep (grown_keep HGB.out HG8.out (by omega)) hg9 (by omega))
    clear l1 l2 l3
    rw [← hw9]
    clear hw9 hg9 hne h8 h9 z8 f8
    go_loopw [15, 17, 18, 19, 62] (fun v _ _ _ i wq => ∃ k : Nat, k ≤ 2 ∧ i = .int .i64 k ∧ wq.ownsRow w9.heap.size 43 3 v k (rcells 3 itx k) ∧ Below w9.heap.size w9 wq) (fun _ _ _ _ i _ => 2 - (intOf i).toNat)
    case atStart => exact ⟨0, by decide, rfl, World.ownsRow_nil _ _ _ _, Below.refl _ _⟩
    case round =>
      obtain ⟨k, hk, rfl, hown, hbl⟩ := hrel
      have HCQ := Lib.hid hbl; have HOQ := Lib.hid hown
      by_cases hlt : k < 2
      · have i0 : (0 : Int) ≤ (k : Int) := Int.natCast_nonneg _
        have i1 : (k : Int) < (2 : Int) := by omega
        have d1 : decide ((k : Int) < (2 : Int)) = true := decide_eq_true i1
        have hK : ∃ (nm s : ByteArray) (T : TypeId), tx [walL, metaL] k 0 = .string nm ∧ (itx k 0 = .string nm ∧ itx k 1 = .int .i64 3 ∧ itx k 2 = .int .i64 0) ∧ (∀ U, Below w.heap.size w U → Calls Tryz.prog 10 #[.pointer (some ⟨fb, 0, none⟩), .string nm] U fun e w' => e = .returned (.tuple #[.string s, .int .i64 0]) ∧ Below U.heap.size U w') ∧ (∀ U, Below w.heap.size w U → Calls Tryz.prog 28 #[.string nm, .string s] U (FileOf T nm s U)) ∧ (∀ U, Calls Tryz.prog 55 #[.iface T (.agg #[.string nm, .string s])] U fun e w' => e = .returned (.agg #[.string nm, .int .i64 3, .int .i64 0]) ∧ Below U.heap.size U w') := by
          rcases (show k = 0 ∨ k = 1 by omega) with rfl | rfl
          · exact ⟨walN, wB, 124, rfl, ⟨rfl, rfl, rfl⟩, fun U hU => HRW.out U hU, fun U hU => fileW_any wB U (HE0.out.later hU), fun U => itemW_any U⟩
          · exact ⟨metaN, mB 3, 125, rfl, ⟨rfl, rfl, rfl⟩, fun U hU => HRM.out U hU, fun U hU => fileM_any (mB 3) U (HE0.out.later hU), fun U => itemM_any U⟩
        obtain ⟨nm, s, T, k1, k2, k3, k4, k5⟩ := hK
        unfold FileOf at k4
        obtain ⟨adn, rfl, xn, -⟩ := HR9.out.at_ hbl hlt
        have yn : wr.cell? (adn.add k) = some (.string nm) := by have := xn (by decide); rw [Nat.mul_one, k1] at this; exact this
        have H2' := Lib.hid k2; have H3 := Lib.hid k3; have H4 := Lib.hid k4; have H5 := Lib.hid k5
        clear xn hbl hown k1 k2 k3 k4 k5
        go_wp2_with fail
        refine (H3.out wr (below_step HB9.out HCQ.out)).mono ?_; rintro e wa ⟨rfl, hba⟩
        have HCA := Lib.hid (below_step HCQ.out hba); have HOA := Lib.hid (row_far HOQ.out hba)
        clear hba HCQ HOQ yn H3
        go_wp2_with fail
        refine (H4.out wa (below_step HB9.out HCA.out)).mono ?_; rintro e wc ⟨rfl, hbc⟩
        have HCC := Lib.hid (below_step HCA.out hbc); have HOC := Lib.hid (row_far HOA.out hbc)
        clear hbc HCA HOA H4
        go_wp2_with fail
        refine (H5.out wc).mono ?_; rintro e wd ⟨rfl, hbd⟩
        have HCD := Lib.hid (below_step HCC.out hbd); have HOD := Lib.hid (row_far HOC.out hbd)
        clear hbd HCC HOC H5
        obtain ⟨we, hwe⟩ : ∃ we, we = wd.alloc (.cells #[.string nm, .int .i64 3, .int .i64 0] 43) := ⟨_, rfl⟩
        obtain ⟨eb, heb⟩ : ∃ eb, eb = wd.heap.size := ⟨_, rfl⟩
        have hse : Below wd.heap.size wd we := by rw [hwe]; exact (Below.refl _ _).alloc (Nat.le_refl _) _
        have hxe : we.heap[eb]? = some (.cells #[.string nm, .int .i64 3, .int .i64 0] 43 (0, 0)) := by rw [hwe, heb]; exact heap_alloc_new wd _
        have HRE : Hid (Row 3 (fun _ j => itx k j) we (some ⟨eb, 0, none⟩) 1) := Lib.hid (row_there 3 _ we eb _ _ _ hxe (fun j hj => by
          rcases (show j = 0 ∨ j = 1 ∨ j = 2 by omega) with rfl | rfl | rfl
          · exact congrArg some H2'.out.1.symm
          · exact congrArg some H2'.out.2.1.symm
          · exact congrArg some H2'.out.2.2.symm))
        have HOE := Lib.hid (row_far HOD.out hse); have HCE := Lib.hid (below_step HCD.out hse)
        have HNE : Hid (∀ (_ j : Nat), (itx k j).oneCell' = true) := Lib.hid (fun _ j => itx_one k j)
        have HZE : Hid (k + 1 ≤ 1000000 ∧ w9.heap.size ≤ we.heap.size) := Lib.hid ⟨by omega, HCE.out.size⟩
        have HWE := Lib.hid (And.intro hwe heb)
        clear hwe heb hse hxe HCD HOD d1
        go_wp2_with (at_builtin; go_must (obtain ⟨hwe, heb⟩ := HWE.out; rw [← hwe, ← heb]; clear hwe heb HWE; refine wpList_append_row_at _ rfl _ _ 33 43 rfl 3 32 (.agg #[.string ByteArray.empty, .int .i64 0, .int .i64 0]) Tryz.underlying33 infoItem rfl (by decide) (by decide) w9.heap.size _ k (rcells 3 itx k) rfl HOE.out ⟨eb, 0, none⟩ 1 1 (fun _ j => itx k j) HNE.out rfl HRE.out HZE.out.1 HZE.out.2 ?_; intro v' wf h1 h2 _; have H1 := Lib.hid h1; have HG := Lib.hid h2; clear h1 h2))
        go_roundw
        case rel =>
          refine ⟨k + 1, by omega, by go_num, ?_, HCE.out.grown HG.out HCE.out.size (fun r e => (HOE.out.lt r e).1)⟩
          have h1 := H1.out
          have e1 : rcells 3 (fun _ j => itx k j) 1 = (List.range 3).map (itx k) := rfl
          rw [e1, ← rcells_succ] at h1
          exact h1
        case measure => simp [intOf]; omega
      · obtain rfl : k = 2 := by omega
        obtain ⟨I, c1, rfl, -, -, -, hri⟩ := own_row hown
        have HRI := Lib.hid hri
        have HHX := Lib.hid (heap_keep HX9.out hbl); have HHT := Lib.hid (heap_keep HTT9.out hbl); have HHG := Lib.hid (heap_keep HGG9.out hbl)
        have HRN := Lib.hid (HR9.out.later hbl); have HVN := Lib.hid (cell_keep HV9.out hbl)
        have HBW := Lib.hid (below_step HB9.out hbl)
        have d1 : decide ((2 : Int) < (2 : Int)) = false := rfl
        clear hbl hown hri hk hlt HCQ HOQ
        go_wp2_with fail
        refine (HLI.out wr HBW.out).mono ?_; rintro e wa ⟨B5, d5, rfl, ht5, hb5⟩
        have HDF := Lib.hid (deleteF_any A8 c8 (sb + 1) wr.heap.size B5 d5 wa (HRN.out.later hb5) (cell_keep HVN.out hb5) ht5)
        have HBA := Lib.hid hb5
        clear ht5 hb5
        go_wp2_with fail
        refine HDF.out.mono ?_; rintro e wb ⟨B2, d2, rfl, hbb⟩
        have hwb : Below wr.heap.size wr wb := HBA.out.trans hbb
        have HX := Lib.hid (heap_keep HHX.out hwb); have HT := Lib.hid (heap_keep HHT.out hwb); have HG := Lib.hid (heap_keep HHG.out hwb); have HI := Lib.hid (HRI.out.later hwb); have HW := Lib.hid (below_step HBW.out hwb)
        clear hbb hwb HDF HBA HHX HHT HHG HRI HBW HRN HVN
        go_upto_region 23 with fail
        refine plain_robD [(0, some 84), (1, some 85), (2, some 86), (3, some 87), (4, some 88), (5, some 2), (6, some 3), (7, none), (8, some 5), (9, some 6)] [] (fun _ _ => True) (fun _ U => Below wb.heap.size wb U) [(0, .slice I 2 c1), (1, .slice B2 0 d2), (2, .agg (zT)), (3, .pointer (some ⟨bm + 1 + 1 + 1, 3, none⟩)), (4, .bool false), (5, .slice I 2 c1), (6, .slice B2 0 d2), (7, undef), (8, .bool false), (9, .int .i64 0)] [] 0 (by kernel_rfl) (by kernel_rfl) (by kernel_rfl) ((Below.refl _ _).drew) ?_ ?_ ?_
        · intro p hp; cases hp
        · refine ⟨⟨_, rfl, fun ν δ U hU h00 h1 h2 hp => ?_⟩, ?_⟩
          · simp only [zr, zx]
            dsimp only at hU
            exact zyD (.slice I 2 c1) ⟨trivial, hU, Fx.fixed rfl rfl⟩
          refine ⟨⟨_, rfl, fun ν δ U hU h00 h1 h2 hp => ?_⟩, ?_⟩
          · simp only [zr, zx]
            dsimp only at hU
            exact zyD (.slice B2 0 d2) ⟨trivial, hU, Fx.fixed rfl rfl⟩
          refine ⟨⟨_, rfl, fun ν δ U hU h00 h1 h2 hp => ?_⟩, ?_⟩
          · simp only [zr, zx]
            dsimp only at hU
            have hx := heap_keep HT.out hU
            unfold zT at hx
            have y0 := cell_of_row _ _ 0 _ _ _ hx
            have y1 := cell_of_row _ _ 1 _ _ _ hx
            simp only [List.getElem?_toArray, List.getElem?_cons_zero, List.getElem?_cons_succ] at y0 y1
            exact Yld.value (.agg (zT)) U (by kernel_rfl) (by unfold zT; go_simp) ⟨trivial, hU, Fx.fixed rfl rfl⟩
          refine ⟨⟨_, rfl, fun ν δ U hU h00 h1 h2 hp => ?_⟩, ?_⟩
          · simp only [zr, zx]
            dsimp only at hU
            exact zyD (.pointer (some ⟨bm + 1 + 1 + 1, 3, none⟩)) ⟨trivial, hU, Fx.fixed rfl rfl⟩
          refine ⟨⟨_, rfl, fun ν δ U hU h00 h1 h2 hp => ?_⟩, ?_⟩
          · simp only [zr, zx, zv hp 3]
            dsimp only at hU
            exact zyD (.bool false) ⟨trivial, hU, Fx.fixed rfl rfl⟩ (h := by have h0 : U.cell? ⟨bm + 1 + 1 + 1, 3, none⟩ = some (.bool false) := cell_of_row _ _ 3 _ _ _ (heap_keep HG.out hU); go_simp)
          refine ⟨⟨_, rfl, fun ν δ U hU h00 h1 h2 hp => ?_⟩, ?_⟩
          · simp only [zr, zx, zv hp 0]
            dsimp only at hU
            exact zyD (.slice I 2 c1) ⟨trivial, hU, Fx.fixed rfl rfl⟩
          refine ⟨⟨_, rfl, fun ν δ U hU h00 h1 h2 hp => ?_⟩, ?_⟩
          · simp only [zr, zx, zv hp 1]
            dsimp only at hU
            exact zyD (.slice B2 0 d2) ⟨trivial, hU, Fx.fixed rfl rfl⟩
          refine ⟨⟨_, rfl, fun ν δ U hU h00 h1 h2 hp => ?_⟩, ?_⟩
          · simp only [zr, zx, zv hp 2]
            dsimp only at hU
            have hx := heap_keep HX.out hU
            have hi := hx
            unfold zT at hx
            have y0 := cell_of_row _ _ 0 _ _ _ hx
            have y1 := cell_of_row _ _ 1 _ _ _ hx
            have f0 := frozen_of_row _ _ 0 _ _ hx
            have f1 := frozen_of_row _ _ 1 _ _ hx
            simp only [List.getElem?_toArray, List.getElem?_cons_zero, List.getElem?_cons_succ] at y0 y1
            exact Yld.store ((U.setCell ⟨b1, 0, none⟩ (.slice none 0 0)).setCell ⟨b1, 1, none⟩ (.int .i64 0)) (by kernel_rfl) (by unfold zT; go_simp) ⟨trivial, by { rw [setCell_id hi rfl, setCell_id hi rfl]; exact hU }, Fx.fixed rfl rfl⟩
          refine ⟨⟨_, rfl, fun ν δ U hU h00 h1 h2 hp => ?_⟩, ?_⟩
          · simp only [zr, zx, zv hp 4]
            dsimp only at hU
            exact zyD (.bool false) ⟨trivial, hU, Fx.fixed rfl rfl⟩
          refine ⟨⟨_, rfl, fun ν δ U hU h00 h1 h2 hp => ?_⟩, ?_⟩
          · simp only [zr, zx]
            dsimp only at hU
            exact zyD (.int .i64 0) ⟨trivial, hU, Fx.fixed rfl rfl⟩
          trivial
        intro ν δ wz hbz hd hf
        simp only [zr, zx, zw hf 0, zw hf 1, zw hf 2, zw hf 3, zw hf 4, zw hf 5, zw hf 6, zw hf 8, zw hf 9]
        clear hf
        refine wpAnyT_done (by kernel_rfl) ?_ _
        refine only_mk ?_
        have HZ := Lib.hid hbz
        clear hbz hd
        go_wp2_with fail
        exact bodyPost_ret (scan_results rfl _ _ b1 _ _ _ _ rfl rfl (heap_keep HX.out HZ.out) rfl rfl rfl) rfl ⟨I, c1, B2, d2, rfl, HI.out.later HZ.out, below_step HW.out HZ.out⟩
end Go.Proofs.YtfibapfehgglhaaGreatDoor
