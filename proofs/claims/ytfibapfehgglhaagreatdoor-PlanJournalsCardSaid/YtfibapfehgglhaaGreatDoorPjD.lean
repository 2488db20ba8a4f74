import Derived.Test.YtfibapfehgglhaaGreatDoorPjA
import Derived.Test.YtfibapfehgglhaaGreatDoorMeP
import Derived.Test.YtfibapfehgglhaaGreatDoorMeQ
import Derived.Test.YtfibapfehgglhaaGreatDoorDkO
/-
  A new store, where there is none: the walks of the small functions.
-/
namespace Go.Proofs.YtfibapfehgglhaaGreatDoor
open Go.RowKit
namespace Pj
def metaN : ByteArray := ⟨#[109, 101, 116, 97]⟩
def walK : ByteArray := ⟨#[119, 97, 108]⟩
def walN : ByteArray := ⟨#[119, 97, 108, 45, 48, 48, 48, 48, 48, 48]⟩
theorem walN_is : Me.nameB walK 0 = walN := by decide +kernel
def awal : ByteArray := ⟨#[65, 87, 65, 76]⟩
/-- what a new segment has, and a new meta -/
def wB : ByteArray := Fr.head awal 3 0
theorem wB_size : wB.size = 10 := Fr.head_size awal 3 0
def m0 (g : Int) : Me.M := ⟨g, 1, 0, []⟩
theorem m0_valid (g : Int) (hg : 1 ≤ g ∧ g ≤ 3) : Me.valid (m0 g) = true := by
  rw [Me.valid_iff]
  refine ⟨⟨hg.1, hg.2, by show (0 : Int) ≤ 1; omega, by show (1 : Int) ≤ 999999; omega, Nat.zero_le _⟩, fun i hi => ?_⟩
  obtain rfl : i = 0 := by
    have : i < 1 := hi
    omega
  exact ⟨Int.le_refl 0, by show (0 : Int) < 1; omega, by simp⟩
def mB (g : Int) : ByteArray := Me.bytes (m0 g)
theorem mB_size (g : Int) : (mB g).size ≤ 454 := Me.bytes_size (m0 g) (Nat.zero_le _)
end Pj
set_option maxRecDepth 100000 in
theorem walName_any (n : Int) (w : World) (hE : Env w) : Calls Tryz.prog 36 #[.int .i64 n] w fun e w' => e = .returned (.string (Me.nameB Pj.walK n)) ∧ Below w.heap.size w w' := by
  have HC := Lib.hid (Name_any Pj.walK (by decide) n w hE)
  go_enter Tryz.func36, Tryz.ntmps36
  go_wp2_with fail
  refine HC.out.mono ?_; rintro e w1 ⟨rfl, hb1⟩
  have HB1 := Lib.hid hb1
  clear hb1 HC
  go_wp2_with fail
  go_ret
  exact ⟨rfl, HB1.out⟩
set_option maxRecDepth 100000 in
theorem segment_any (b : Nat) (n : Int) (w : World) (hE : Env w) (h3 : w.cell? ⟨b, 3, none⟩ = some (.int .i64 n)) : Calls Tryz.prog 19 #[.pointer (some ⟨b, 0, none⟩)] w fun e w' => e = .returned (.string (Me.nameB Pj.walK n)) ∧ Below w.heap.size w w' := by
  have HC := Lib.hid (walName_any n w hE)
  go_enter Tryz.func19, Tryz.ntmps19
  go_wp2_with fail
  refine HC.out.mono ?_; rintro e w1 ⟨rfl, hb1⟩
  have HB1 := Lib.hid hb1
  clear hb1 HC
  go_wp2_with fail
  go_ret
  exact ⟨rfl, HB1.out⟩
set_option maxRecDepth 100000 in
theorem esweep_any {W : World} {base fb B N : Nat} {S : Sf.St} {wr : World} (h : Runs W base fb B N S wr) (hN : N ≤ 900) (A : Option Addr) (c : Nat) (keep : List (List UInt8)) (hkl : keep.length ≤ 1000) (hk : ∀ U, Below W.heap.size W U → Moves wr U → Row 1 (tx keep) U A keep.length) :
    Calls Tryz.prog 21 #[.pointer (some ⟨fb, 0, none⟩), .slice A keep.length c] wr fun e w' => e = .returned (.int .i64 (S.sweep keep).2.2) ∧ Runs W base fb B (N + 65) (S.sweep keep).1 w' ∧ Moves wr w' := by
  have HC := Lib.hid (Sweep_any h hN A c keep hkl hk)
  clear hk
  generalize (S.sweep keep).2.2 = er at *
  generalize (S.sweep keep).2.1 = n1 at *
  generalize (S.sweep keep).1 = S1 at *
  go_enter Tryz.func21, Tryz.ntmps21
  go_wp2_with fail
  refine HC.out.mono ?_; rintro e w1 ⟨rfl, hr1, hm1⟩
  have HR1 := Lib.hid hr1; have HM1 := Lib.hid hm1
  clear hr1 hm1 HC
  go_wp2_with fail
  go_ret
  exact ⟨rfl, HR1.out, HM1.out⟩
theorem ints_none (w : World) : Ints w none 0 [] := by
  constructor <;> first | exact Nat.le_refl _ | (intro h; exact absurd h (Nat.lt_irrefl 0)) | (intros; trivial) | (unfold maxLen; omega) | simp
set_option maxRecDepth 100000 in
set_option maxHeartbeats 2000000 in
theorem saveMeta_any {W : World} {base fb B N : Nat} {S : Sf.St} {wr : World} (h : Runs W base fb B N S wr) (hN : N ≤ 990) (hB : B ≤ 10000000) (g : Int) (hg : 1 ≤ g ∧ g ≤ 3) (hz : (Pj.mB g).size ≤ 300) :
    Calls Tryz.prog 44 #[.pointer (some ⟨fb, 0, none⟩), .agg #[.int .i64 g, .int .i64 1, .int .i64 0, .slice none 0 0]] wr fun e w' => ∃ y, ((Sf.sv1 S (tmp Pj.metaN)).2 = 0 → ¬ Sf.live (Sf.sv1 S (tmp Pj.metaN)).1.synced (Sf.sv1 S (tmp Pj.metaN)).1.chg y) ∧ e = .returned (.int .i64 (S.save Pj.metaN (Pj.mB g) y).2) ∧ Runs W base fb (B + 300) (N + 7) (S.save Pj.metaN (Pj.mB g) y).1 w' ∧ Moves wr w' := by
  obtain ⟨w1, hw1⟩ : ∃ w1, w1 = wr.alloc (.cells #[.int .i64 g, .int .i64 1, .int .i64 0, .slice none 0 0] 54) := ⟨_, rfl⟩
  have hb1 : Below wr.heap.size wr w1 := by rw [hw1]; exact (Below.refl _ _).alloc (Nat.le_refl _) _
  have hx1 : w1.heap[wr.heap.size]? = some (.cells #[.int .i64 g, .int .i64 1, .int .i64 0, .slice none 0 0] 54 (0, 0)) := by rw [hw1]; exact heap_alloc_new wr _
  have y0 := cell_of_row _ _ 0 _ _ _ hx1; have y1 := cell_of_row _ _ 1 _ _ _ hx1; have y2 := cell_of_row _ _ 2 _ _ _ hx1; have y3 := cell_of_row _ _ 3 _ _ _ hx1
  simp only [List.getElem?_toArray, List.getElem?_cons_zero, List.getElem?_cons_succ] at y0 y1 y2 y3
  have hp := MPut_any (Pj.m0 g) none 0 (Nat.zero_le _) w1 (ints_none w1)
  have e1 : Me.putB (Pj.m0 g) = Pj.mB g := by unfold Me.putB; rw [if_pos (Pj.m0_valid g hg)]; rfl
  have e2 : Me.putE (Pj.m0 g) = 0 := by unfold Me.putE; rw [if_pos (Pj.m0_valid g hg)]
  rw [e1, e2] at hp
  have HP := Lib.hid hp
  have HR1 := Lib.hid (h.far hb1); have HM1 := Lib.hid (Moves.below hb1)
  clear hp hx1 hb1 e1 e2 h
  go_enter Tryz.func44, Tryz.ntmps44
  go_upto_region 1 with fail
  rw [← hw1]
  clear hw1
  go_wp2_with fail
  refine HP.out.mono ?_; rintro e w2 ⟨rfl, hb2⟩
  have HR2 := Lib.hid (HR1.out.far hb2); have HM2 := Lib.hid (Moves.below hb2)
  clear hb2 HP y0 y1 y2 y3
  go_wp2_with fail
  refine (Save_any HR2.out hN hB Pj.metaN (by decide) (Pj.mB g) hz).mono ?_; rintro e w3 ⟨y, hy, rfl, hr3, hm3⟩
  have HY := Lib.hid hy; have HR3 := Lib.hid hr3; have HM3 := Lib.hid hm3
  clear hy hr3 hm3
  generalize hsv : S.save Pj.metaN (Pj.mB g) y = sv at *
  have HSV := Lib.hid hsv
  clear hsv
  go_wp2_with fail
  go_ret
  exact ⟨y, HY.out, by rw [HSV.out]; rfl, by rw [HSV.out]; exact HR3.out, HM1.out.trans (HM2.out.trans HM3.out)⟩
end Go.Proofs.YtfibapfehgglhaaGreatDoor
/-
  A new store: its steps, and what comes of them.
-/
namespace Go.Proofs.YtfibapfehgglhaaGreatDoor
open Go.RowKit
namespace Sf
theorem size_zero {S : St} (hn : Nice S.names) (hk : KS S.names) (h : ∀ s, cont S s = none) : Go.Maps.size S.names = 0 := by
  have := size_le hn hk [] (fun s x hx => by
    have h2 := h s
    rw [cont_of hx] at h2
    cases h2)
  simpa using this
theorem size_one {S : St} (hn : Nice S.names) (hk : KS S.names) (n : ByteArray) (h : ∀ s, s ≠ n → cont S s = none) : Go.Maps.size S.names ≤ 1 :=
  size_le hn hk [n] (fun s x hx => by
    by_cases e : s = n
    · simp [e]
    · have h2 := h s e
      rw [cont_of hx] at h2
      cases h2)
theorem total_zero {B N : Nat} {S : St} (hok : StOk B N S) (hk : KS S.names) (h : ∀ s, cont S s = none) : S.total = 0 := by
  have := total_le hok
  rw [size_zero hok.nice hk h, Nat.zero_mul] at this
  omega
theorem new_list (room : Int) : list (St.new room).names = [] := List.eq_nil_of_length_eq_zero ((list_length _).trans rfl)
theorem new_sweep (room : Int) : (St.new room).sweep [] = (St.new room, 0, 0) := by
  unfold St.sweep
  rw [new_list]; rfl
end Sf
/-- steps in order, up to the first that errs -/
theorem einOrder_any (sb n c : Nat) (hn : n ≤ 100) (fn : Nat → Nat) (fst cap : Nat → Array Value) (I : Nat → World → Prop) (E : Int → World → Prop) (w : World) (h0 : I 0 w)
    (hcell : ∀ i W, i < n → I i W → W.cell? ⟨sb, i, none⟩ = some (.func (.func (fn i)) (fst i) (cap i)))
    (hent : ∀ i, i < n → ∀ args w, (callFunc (fn i) args).run Tryz.prog w = .ok (.enter (fn i) args) w)
    (hstep : ∀ i W, i < n → I i W → Calls Tryz.prog (fn i) (fst i ++ cap i) W fun e w' => ∃ er : Int, e = .returned (.int .i64 er) ∧ if er = 0 then I (i + 1) w' else E er w') :
    Calls Tryz.prog 16 #[.slice (some ⟨sb, 0, none⟩) n c] w fun e w' => ∃ er : Int, e = .returned (.int .i64 er) ∧ if er = 0 then I n w' else E er w' := by
  have HC := Lib.hid hcell; have HE := Lib.hid hent; have HS := Lib.hid hstep
  have H0 := Lib.hid h0
  clear hcell hent hstep h0
  go_enter Tryz.func16, Tryz.ntmps16
  go_wp2_with fail
  go_loopw [4, 5, 8] (fun _ _ i wr => ∃ k : Nat, k ≤ n ∧ i = .int .i64 k ∧ I k wr) (fun _ _ i _ => n - (intOf i).toNat)
  case atStart => exact ⟨0, by omega, rfl, H0.out⟩
  case round =>
    obtain ⟨k, hk, rfl, hi⟩ := hrel
    have HI := Lib.hid hi; clear hi
    by_cases hlt : k < n
    · have i1 : (k : Int) < (n : Int) := by omega
      have i0 : (0 : Int) ≤ (k : Int) := by omega
      have d1 : decide ((k : Int) < (n : Int)) = true := decide_eq_true i1
      have x0 := HC.out k wr hlt HI.out
      have he := HE.out k hlt
      have HCA := Lib.hid (HS.out k wr hlt HI.out)
      generalize fn k = f at *
      generalize fst k = a at *
      generalize cap k = p at *
      have HK1 : Hid (k + 1 ≤ n) := Lib.hid hlt
      go_wp2_with fail
      refine HCA.out.mono ?_; rintro e w3 ⟨er, rfl, hw⟩
      have HW := Lib.hid hw
      clear hw x0 he HCA HI
      by_cases h0 : er = 0
      · subst h0
        have HI3 : Hid (I (k + 1) w3) := Lib.hid (by have := HW.out; rwa [if_pos rfl] at this)
        clear HW
        go_wp2_with fail
        go_roundw
        case rel => exact ⟨k + 1, HK1.out, by go_num, HI3.out⟩
        case measure => simp [intOf]; omega
      · have d2 : (er != 0) = true := by simpa using h0
        have d3 : (er == 0) = false := by simpa using h0
        have d4 : decide (er = 0) = false := decide_eq_false h0
        have HH := Lib.hid h0
        clear h0
        go_wp2_with fail
        go_ret
        exact ⟨er, rfl, by have := HW.out; rw [if_neg HH.out] at this ⊢; exact this⟩
    · obtain rfl : k = n := by omega
      have d1 : decide ((k : Int) < (k : Int)) = false := by simp
      go_wp2_with fail
      go_ret
      exact ⟨0, rfl, by rw [if_pos rfl]; exact HI.out⟩
namespace Pj
def gW : ByteArray → Option ByteArray := Sf.putG (fun _ => none) walN wB
def gM : ByteArray → Option ByteArray := Sf.putG gW metaN (mB 3)
theorem tmp_ne1 : walN ≠ tmp metaN := by decide
theorem mB3_size : (mB 3).size = 18 := by decide +kernel
end Pj
theorem results_tmp_cell_tmp {P : Program} {fn : Func} {q p t : Tmp} {ty : TypeId} (h : fn.results = #[.tmp q, .cell p ty, .tmp t]) (tmps : Array Value) (w : World) (g : Nat) (u : TypeId) (cs : Array Value) (fr : Nat × Nat) (d : TypeDesc)
    (hp : tmps.getD p undef = .pointer (some ⟨g, 0, none⟩)) (hg : w.heap[g]? = some (.cells cs u fr))
    (hu : P.underlying ty = some d) (hd : (match d with | .struct _ | .array _ _ => true | _ => false) = true) (hi : (P.info? ty).map (·.size) = some cs.size) :
    (results fn tmps).run P w = .ok (.tuple #[tmps.getD q undef, .agg cs, tmps.getD t undef]) w := by
  have hp' : tmps[p]?.getD undef = .pointer (some ⟨g, 0, none⟩) := by simpa using hp
  simp [results, h, hp', asAddr, run_loadVar_row w g u ty cs fr d hg hu hd hi]
theorem writer_results {fn : Func} {q p t : Tmp} (h : fn.results = #[.tmp q, .cell p 60, .tmp t]) (tmps : Array Value) (w : World) (g : Nat) (a b u v : Value) (hp : tmps.getD p undef = .pointer (some ⟨g, 0, none⟩)) (hu : tmps.getD q undef = u) (hv : tmps.getD t undef = v) (hg : w.heap[g]? = some (.cells #[a, b] 60 (0, 0))) :
    (results fn tmps).run Tryz.prog w = .ok (.tuple #[u, .agg #[a, b], v]) w := by
  subst hv; subst hu
  exact results_tmp_cell_tmp h tmps w g _ #[a, b] _ (.struct (Tryz.prog.fieldsOf 60)) hp hg (by kernel_rfl) rfl (by kernel_rfl)
theorem wGen3 (w : World) : Calls Tryz.prog 76 #[.int .i64 3] w fun e w' => e = .returned (.bool true) ∧ w' = w := by
  go_enter Tryz.func76, Tryz.ntmps76
  go_wp2_with fail
  go_ret
  exact ⟨rfl, rfl⟩
set_option maxRecDepth 100000 in
set_option maxHeartbeats 1000000 in
theorem Begin3_any (w : World) : Calls Tryz.prog 39 #[.int .i64 3] w fun e w' => e = .returned (.tuple #[.string Pj.wB, .agg #[.int .i64 3, .slice none 0 0], .int .i64 0]) ∧ Below w.heap.size w w' := by
  obtain ⟨wa, hwa⟩ : ∃ wa, wa = w.alloc (.cells #[.int .i64 0, .slice none 0 0] 60) := ⟨_, rfl⟩
  have hb1 : Below w.heap.size w wa := by rw [hwa]; exact (Below.refl _ _).alloc (Nat.le_refl _) _
  have hx1 : wa.heap[w.heap.size]? = some (.cells #[.int .i64 0, .slice none 0 0] 60 (0, 0)) := by rw [hwa]; exact heap_alloc_new w _
  have HB1 := Lib.hid hb1; have HX1 := Lib.hid hx1
  clear hb1 hx1
  have HD := Lib.hid (fun W => Head_any Pj.awal (by decide) 3 0 W)
  have hh : Fr.head Pj.awal 3 0 = Pj.wB := rfl
  rw [hh] at HD
  clear hh
  go_enter Tryz.func39, Tryz.ntmps39
  go_wp2_with fail
  rw [← hwa]
  clear hwa
  refine (wGen3 wa).mono ?_; rintro e w1 ⟨rfl, rfl⟩
  go_wp2_with fail
  refine (HD.out _).mono ?_; rintro e w2 ⟨rfl, hb2⟩
  have HB2 := Lib.hid (below_step HB1.out hb2)
  have HX2 := Lib.hid (heap_keep HX1.out hb2)
  clear hb2
  have f0 := frozen_of_row _ _ 0 _ _ HX2.out
  have f1 := frozen_of_row _ _ 1 _ _ HX2.out
  have c0 := cell_of_row _ _ 0 _ _ _ HX2.out
  have c1 := cell_of_row _ _ 1 _ _ _ HX2.out
  simp only [List.getElem?_toArray, List.getElem?_cons_zero, List.getElem?_cons_succ] at c0 c1
  go_wp2_with fail
  refine bodyPost_ret (writer_results rfl _ _ _ _ _ _ _ rfl rfl rfl (heap_setCell_same _ _ 1 _ _ _ (heap_setCell_same _ _ 0 _ _ _ HX2.out))) rfl ⟨rfl, ?_⟩
  exact (HB2.out.setCell (by show _ ≤ w.heap.size; omega) _).setCell (by show _ ≤ w.heap.size; omega) _
end Go.Proofs.YtfibapfehgglhaaGreatDoor
/-
  A new store is made: the walk.
-/
namespace Go.Proofs.YtfibapfehgglhaaGreatDoor
open Go.RowKit
namespace Pj
/-- a machine with a new store -/
structure Made (S : Sf.St) : Prop where
  has : Sf.Has S gM
  fuse : S.fuse = -1
  room : S.room = 10000
/-- the boxes of what a new store is made with -/
structure Cr (w : World) (fb bf bh bs bp : Nat) : Prop where
  f : w.heap[bf]? = some (.cells #[.pointer (some ⟨fb, 0, none⟩)] 28 (0, 0))
  h : w.heap[bh]? = some (.cells #[.string wB] 9 (0, 0))
  s : w.heap[bs]? = some (.cells #[.pointer (some ⟨fb, 0, none⟩), .int .i64 3, .int .i64 1, .int .i64 0, .slice none 0 0, .slice none 0 0, .int .i64 0, .slice none 0 0, .int .i64 0, .int .i64 3, .slice none 0 0] 68 (0, 0))
  p : w.heap[bp]? = some (.cells #[.pointer (some ⟨bs, 0, none⟩)] 30 (0, 0))
theorem Cr.moves {w w2 : World} {fb bf bh bs bp : Nat} (h : Cr w fb bf bh bs bp) (hm : Moves w w2) : Cr w2 fb bf bh bs bp :=
  ⟨hm.st.block h.f (by decide), hm.st.block h.h (by decide), hm.st.block h.s (by decide), hm.st.block h.p (by decide)⟩
/-- how far a new store is made -/
def At (W wl : World) (base fb B N bf bh bs bp : Nat) (i : Nat) (w : World) : Prop :=
  Cr w fb bf bh bs bp ∧ Moves wl w ∧ ∃ S, Runs W base fb (B + 300 * i) (N + 70 * i) S w ∧ S.fuse = -1 ∧ S.room = 10000 ∧ (if i = 0 then S = Sf.St.new 10000 else if i = 1 then S = Sf.St.new 10000 else if i = 2 then Sf.Has S gW else Sf.Has S gM)
def crFn : Nat → Nat
  | 0 => 40
  | 1 => 41
  | _ => 43
def crCap (bf bh bp : Nat) : Nat → Array Value
  | 0 => #[.pointer (some ⟨bf, 0, none⟩)]
  | 1 => #[.pointer (some ⟨bf, 0, none⟩), .pointer (some ⟨bp, 0, none⟩), .pointer (some ⟨bh, 0, none⟩)]
  | _ => #[.pointer (some ⟨bf, 0, none⟩), .pointer (some ⟨bp, 0, none⟩)]
theorem cr_ent (i : Nat) (hi : i < 3) : ∀ args w, (callFunc (crFn i) args).run Tryz.prog w = .ok (.enter (crFn i) args) w := by
  rcases (show i = 0 ∨ i = 1 ∨ i = 2 by omega) with rfl | rfl | rfl
  · exact enters_of Tryz.func40 (by kernel_rfl) rfl
  · exact enters_of Tryz.func41 (by kernel_rfl) rfl
  · exact enters_of Tryz.func43 (by kernel_rfl) rfl
end Pj
open Pj
section
variable {W wl : World} {base fb B N bf bh bs bp : Nat} {w : World}
theorem walN_ok : Sf.isName walN = true := by decide
theorem metaN_ok : Sf.isName metaN = true := by decide
set_option maxRecDepth 100000 in
set_option maxHeartbeats 1000000 in
theorem create1_any (hN : N ≤ 500) (h : At W wl base fb B N bf bh bs bp 0 w) : Calls Tryz.prog 40 #[.pointer (some ⟨bf, 0, none⟩)] w fun e w' => e = .returned (.int .i64 0) ∧ At W wl base fb B N bf bh bs bp 1 w' := by
  obtain ⟨hc, hm, S, hr, hf, hro, hS⟩ := h
  rw [if_pos rfl] at hS
  subst hS
  have y0 := cell_of_row _ _ 0 _ _ _ hc.f
  simp only [List.getElem?_toArray, List.getElem?_cons_zero] at y0
  have hsw := esweep_any hr (by omega) none 0 [] (by decide) (fun U _ _ h0 => absurd h0 (by decide))
  rw [Sf.new_sweep] at hsw
  have HS := Lib.hid hsw; have HC := Lib.hid hc; have HM := Lib.hid hm
  clear hsw hc hm hr
  go_enter Tryz.func40, Tryz.ntmps40
  go_wp2_with fail
  refine HS.out.mono ?_; rintro e w1 ⟨rfl, hr1, hm1⟩
  have HF : Hid (At W wl base fb B N bf bh bs bp 1 w1) := Lib.hid ⟨HC.out.moves hm1, HM.out.trans hm1, _, hr1.mono (by omega) (by omega), rfl, rfl, by rw [if_neg (by decide), if_pos rfl]⟩
  clear hr1 hm1
  go_wp2_with fail
  go_ret
  exact ⟨rfl, HF.out⟩
set_option maxRecDepth 100000 in
set_option maxHeartbeats 2000000 in
theorem create2_any (hE : Env W) (hN : N ≤ 500) (hB : B ≤ 1000000) (h : At W wl base fb B N bf bh bs bp 1 w) : Calls Tryz.prog 41 #[.pointer (some ⟨bf, 0, none⟩), .pointer (some ⟨bp, 0, none⟩), .pointer (some ⟨bh, 0, none⟩)] w fun e w' => e = .returned (.int .i64 0) ∧ At W wl base fb B N bf bh bs bp 2 w' := by
  obtain ⟨hc, hm, S, hr, hf, hro, hS⟩ := h
  rw [if_neg (by decide), if_pos rfl] at hS
  subst hS
  have y0 := cell_of_row _ _ 0 _ _ _ hc.f; have y1 := cell_of_row _ _ 0 _ _ _ hc.p; have y2 := cell_of_row _ _ 0 _ _ _ hc.h; have y3 := cell_of_row _ _ 3 _ _ _ hc.s
  simp only [List.getElem?_toArray, List.getElem?_cons_zero, List.getElem?_cons_succ] at y0 y1 y2 y3
  have hg : ∀ U, Below w.heap.size w U → Calls Tryz.prog 19 #[.pointer (some ⟨bs, 0, none⟩)] U fun e w' => e = .returned (.string walN) ∧ Below U.heap.size U w' := fun U hU => by
    have h1 := segment_any bs 0 U ((hE.later hr.bel).later hU) (cell_keep y3 hU)
    rw [walN_is] at h1
    exact h1
  have HG := Lib.hid hg; have HC := Lib.hid hc; have HM := Lib.hid hm; have HR := Lib.hid hr
  clear hg hc hm hr y3
  go_enter Tryz.func41, Tryz.ntmps41
  go_wp2_with fail
  have HSV := Lib.hid (fun U (hU : Runs W base fb (B + 300) (N + 70) (Sf.St.new 10000) U) => Save_any hU (by omega) (by omega) walN (by decide) wB (by rw [wB_size]; decide))
  clear y0 y1 y2
  refine plain_T (fun U => Below w.heap.size w U) [4, 5] (by kernel_rfl) ?_
  have HD : Hid (Below w.heap.size w w.drew) := Lib.hid (Below.refl _ _).drew
  generalize w.drew = wd at HD ⊢
  refine zq (S := (fun U => Below w.heap.size w U)) (w := wd) HD.out [0, 1, 3] 3 ?_
  refine zp 4 (.pointer (some ⟨fb, 0, none⟩)) ?_ (hy := fun U hU => (by have h0 := cell_of_row _ _ 0 _ _ _ (heap_keep HC.out.f hU); simp only [List.getElem?_toArray, List.getElem?_cons_zero] at h0; go_simp))
  refine zp 5 (.pointer (some ⟨bs, 0, none⟩)) ?_ (hy := fun U hU => (by have h0 := cell_of_row _ _ 0 _ _ _ (heap_keep HC.out.p hU); simp only [List.getElem?_toArray, List.getElem?_cons_zero] at h0; go_simp))
  refine zp 7 (.string wB) ?_ (hy := fun U hU => (by have h0 := cell_of_row _ _ 0 _ _ _ (heap_keep HC.out.h hU); simp only [List.getElem?_toArray, List.getElem?_cons_zero] at h0; go_simp))
  simp only [zx]
  refine zo 2 ?_
  intro K0 hK
  unfold Oper.wp
  go_simp
  refine (HG.out wd HD.out).mono ?_; rintro e w1 ⟨rfl, hb1⟩
  have HB1 := Lib.hid (below_step HD.out hb1)
  clear hb1 HG HD
  refine hK _ _ (fun _ => HB1.out) ?_
  clear hK K0
  refine zo 4 ?_
  intro K0 hK
  unfold Oper.wp
  go_simp
  refine (HSV.out w1 (HR.out.far HB1.out)).mono ?_; rintro e w2 ⟨y, hy, rfl, hr2, hm2⟩
  have hz := Sf.total_zero HR.out.ok HR.out.keys (Sf.Has.new 10000).at_
  obtain ⟨s1, s2, s3, s4, -⟩ := Sf.has_save HR.out.ok HR.out.keys (Sf.Has.new 10000) rfl (n := walN) (b := wB) walN_ok (by decide) hy (by rw [Sf.size_zero HR.out.ok.nice HR.out.keys (Sf.Has.new 10000).at_]; decide) (by rw [hz, wB_size]; decide)
  have HF : Hid (At W wl base fb B N bf bh bs bp 2 w2) := Lib.hid ⟨HC.out.moves ((Moves.below HB1.out).trans hm2), HM.out.trans ((Moves.below HB1.out).trans hm2), _, hr2.mono (by omega) (by omega), s3, s4, by rw [if_neg (by decide), if_neg (by decide), if_pos rfl]; exact s2⟩
  rw [s1]
  clear hy hr2 hm2 hz s1 s2 s3 s4 HSV HR HM HC
  refine hK _ _ (fun h => absurd h (by decide)) ?_
  clear hK K0
  refine zo 5 ?_
  intro K0 hK
  unfold Oper.wp
  go_simp
  refine hK _ _ (fun h => absurd h (by decide)) ?_
  clear hK K0
  refine wpAnyT_done (by kernel_rfl) ?_ _
  refine only_mk ?_
  go_wp2_with fail
  go_ret
  exact ⟨rfl, HF.out⟩
set_option maxRecDepth 100000 in
set_option maxHeartbeats 2000000 in
theorem create3_any (hN : N ≤ 500) (hB : B ≤ 1000000) (h : At W wl base fb B N bf bh bs bp 2 w) : Calls Tryz.prog 43 #[.pointer (some ⟨bf, 0, none⟩), .pointer (some ⟨bp, 0, none⟩)] w fun e w' => e = .returned (.int .i64 0) ∧ At W wl base fb B N bf bh bs bp 3 w' := by
  obtain ⟨hc, hm, S, hr, hf, hro, hS⟩ := h
  rw [if_neg (by decide), if_neg (by decide), if_pos rfl] at hS
  have HC := Lib.hid hc; have HM := Lib.hid hm; have HR := Lib.hid hr
  have HS : Hid (Sf.Has S gW ∧ S.fuse = -1 ∧ S.room = 10000) := Lib.hid ⟨hS, hf, hro⟩
  clear hc hm hr hf hro hS
  have HSV := Lib.hid (fun U (hU : Runs W base fb (B + 600) (N + 140) S U) => saveMeta_any hU (by omega) (by omega) 3 (by decide) (by rw [mB3_size]; decide))
  go_enter Tryz.func43, Tryz.ntmps43
  go_upto_region 1 with fail
  refine plain_T (fun U => Below w.heap.size w U) [6, 7] (by kernel_rfl) ?_
  have HD : Hid (Below w.heap.size w w.drew) := Lib.hid (Below.refl _ _).drew
  generalize w.drew = wd at HD ⊢
  refine zq (S := (fun U => Below w.heap.size w U)) (w := wd) HD.out [0, 1, 2, 3, 4, 5] 2 ?_
  refine zp 3 (.pointer (some ⟨fb, 0, none⟩)) ?_ (hy := fun U hU => (by have h0 := cell_of_row _ _ 0 _ _ _ (heap_keep HC.out.f hU); simp only [List.getElem?_toArray, List.getElem?_cons_zero] at h0; go_simp))
  refine zp 4 (.pointer (some ⟨bs, 0, none⟩)) ?_ (hy := fun U hU => (by have h0 := cell_of_row _ _ 0 _ _ _ (heap_keep HC.out.p hU); simp only [List.getElem?_toArray, List.getElem?_cons_zero] at h0; go_simp))
  refine zp 5 (.pointer (some ⟨bs, 0, none⟩)) ?_
  refine zp 6 (.pointer (some ⟨bs, 0, none⟩)) ?_
  refine zp 7 (.pointer (some ⟨bs, 1, none⟩)) ?_
  refine zp 8 (.agg #[.int .i64 3, .int .i64 1, .int .i64 0, .slice none 0 0]) ?_ (hy := fun U hU => (by have hy := heap_keep HC.out.s hU; have h1 := cell_of_row _ _ 1 _ _ _ hy; have h2 := cell_of_row _ _ 2 _ _ _ hy; have h3 := cell_of_row _ _ 3 _ _ _ hy; have h4 := cell_of_row _ _ 4 _ _ _ hy; simp only [List.getElem?_toArray, List.getElem?_cons_zero, List.getElem?_cons_succ] at h1 h2 h3 h4; go_simp))
  simp only [zx]
  refine zo 6 ?_
  intro K0 hK
  unfold Oper.wp
  go_simp
  refine (HSV.out wd ((HR.out.far HD.out).mono (by omega) (by omega))).mono ?_; rintro e w2 ⟨y, hy, rfl, hr2, hm2⟩
  have hat := HS.out.1.at_
  have hgw : ∀ s, s ≠ walN → Sf.cont S s = none := fun s hs => (hat s).trans (by unfold gW Sf.putG; rw [if_neg hs]; split <;> rfl)
  have hg1 : Sf.cont S walN = some wB := (hat walN).trans (by unfold gW Sf.putG; rw [if_pos rfl])
  have hz := Sf.total_one HR.out.ok.nice HR.out.keys hg1 hgw
  obtain ⟨s1, s2, s3, s4, -⟩ := Sf.has_save HR.out.ok HR.out.keys HS.out.1 HS.out.2.1 (n := metaN) (b := mB 3) metaN_ok (by decide) hy (Nat.lt_of_le_of_lt (Sf.size_one HR.out.ok.nice HR.out.keys walN hgw) (by decide)) (by rw [hz, wB_size, mB3_size, HS.out.2.2]; decide)
  have HF : Hid (At W wl base fb B N bf bh bs bp 3 w2) := Lib.hid ⟨HC.out.moves ((Moves.below HD.out).trans hm2), HM.out.trans ((Moves.below HD.out).trans hm2), _, hr2.mono (by omega) (by omega), s3, s4.trans HS.out.2.2, by rw [if_neg (by decide), if_neg (by decide), if_neg (by decide)]; exact s2⟩
  rw [s1]
  clear hy hr2 hm2 hz s1 s2 s3 s4 HSV HR HM HC hat hgw hg1 HS
  refine hK _ _ (fun h => absurd h (by decide)) ?_
  clear hK K0
  refine zo 7 ?_
  intro K0 hK
  unfold Oper.wp
  go_simp
  refine hK _ _ (fun h => absurd h (by decide)) ?_
  clear hK K0
  refine wpAnyT_done (by kernel_rfl) ?_ _
  refine only_mk ?_
  go_wp2_with fail
  go_ret
  exact ⟨rfl, HF.out⟩
end
end Go.Proofs.YtfibapfehgglhaaGreatDoor
