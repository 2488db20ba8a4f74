import Derived.Test.YtfibapfehgglhaaGreatDoorDkB
/-
  Save.
-/
namespace Go.Proofs.YtfibapfehgglhaaGreatDoor
open Go.RowKit
namespace Sf
/-- the states on the way -/
def svr (S : St) (t : ByteArray) (b n : ByteArray) (y : Nat) : Nat → St × Int
  | 0 => (S, 0)
  | 1 => sv1 S t
  | 2 => sv2 S t y
  | 3 => sv3 S t y b
  | 4 => sv4 S t y b
  | 5 => sv5 S t y b n
  | _ => sv6 S t y b n
def svu (i : Nat) : Bool := decide (i = 2 ∨ i = 3 ∨ i = 4)
end Sf
/-- between two steps -/
def SaveI (W wl : World) (base fb B N p : Nat) (S : Sf.St) (n b t : ByteArray) (i : Nat) (w : World) : Prop :=
  ∃ y, (Sf.svr S t b n y i).2 = 0 ∧ Runs W base fb (if i ≤ 2 then B else B + 300) (N + i) (Sf.svr S t b n y i).1 w ∧ Kept w fb p n b t 0 (Sf.svu i) ∧ StaysX (p + 5) wl w ∧ wl.heap.size ≤ w.heap.size ∧ (2 ≤ i → ¬ Sf.live (Sf.sv1 S t).1.synced (Sf.sv1 S t).1.chg y)
/-- where one errs, or behind all -/
def SaveE (W wl : World) (base fb B N p : Nat) (S : Sf.St) (n b t : ByteArray) (er : Int) (w : World) : Prop :=
  ∃ y, (Sf.sv6 S t y b n).2 = er ∧ Runs W base fb (B + 300) (N + 6) (Sf.sv6 S t y b n).1 w ∧ Kept w fb p n b t 0 (Sf.und S t y b n) ∧ StaysX (p + 5) wl w ∧ wl.heap.size ≤ w.heap.size ∧ ((Sf.sv1 S t).2 = 0 → ¬ Sf.live (Sf.sv1 S t).1.synced (Sf.sv1 S t).1.chg y)
def saveFn : Nat → Nat
  | 0 => 80
  | 1 => 82
  | 2 => 84
  | 3 => 86
  | 4 => 87
  | _ => 89
def saveFst (fb : Nat) : Nat → Array Value
  | 5 => #[.pointer (some ⟨fb, 0, none⟩)]
  | _ => #[]
def saveCap (p : Nat) : Nat → Array Value
  | 0 => #[.pointer (some ⟨p, 0, none⟩), .pointer (some ⟨p + 4, 0, none⟩)]
  | 1 => #[.pointer (some ⟨p, 0, none⟩), .pointer (some ⟨p + 4, 0, none⟩), .pointer (some ⟨p + 5, 0, none⟩)]
  | 2 => #[.pointer (some ⟨p, 0, none⟩), .pointer (some ⟨p + 4, 0, none⟩), .pointer (some ⟨p + 2, 0, none⟩)]
  | 3 => #[.pointer (some ⟨p, 0, none⟩), .pointer (some ⟨p + 4, 0, none⟩)]
  | 4 => #[.pointer (some ⟨p, 0, none⟩), .pointer (some ⟨p + 4, 0, none⟩), .pointer (some ⟨p + 1, 0, none⟩), .pointer (some ⟨p + 5, 0, none⟩)]
  | _ => #[]
theorem save_ent (i : Nat) (hi : i < 6) : ∀ args w, (callFunc (saveFn i) args).run Tryz.prog w = .ok (.enter (saveFn i) args) w := by
  rcases (show i = 0 ∨ i = 1 ∨ i = 2 ∨ i = 3 ∨ i = 4 ∨ i = 5 by omega) with rfl | rfl | rfl | rfl | rfl | rfl
  · exact enters_of Tryz.func80 (by kernel_rfl) rfl
  · exact enters_of Tryz.func82 (by kernel_rfl) rfl
  · exact enters_of Tryz.func84 (by kernel_rfl) rfl
  · exact enters_of Tryz.func86 (by kernel_rfl) rfl
  · exact enters_of Tryz.func87 (by kernel_rfl) rfl
  · exact enters_of Tryz.func89 (by kernel_rfl) rfl
section
variable {W wl : World} {base fb B N p : Nat} {S : Sf.St} {n b t : ByteArray}
theorem save_step (hN : N ≤ 990) (hB : B ≤ 10000000) (hp : base ≤ p) (ht : t.size ≤ maxLen) (hn : n.size ≤ maxLen) (hb : b.size ≤ 300) (i : Nat) (w : World) (hi : i < 6) (h : SaveI W wl base fb B N p S n b t i w) :
    Calls Tryz.prog (saveFn i) (saveFst fb i ++ saveCap p i) w fun e w' => ∃ er : Int, e = .returned (.int .i64 er) ∧ if er = 0 then SaveI W wl base fb B N p S n b t (i + 1) w' else SaveE W wl base fb B N p S n b t er w' := by
  obtain ⟨y, h0, hr, hk, hx, hz, hfr⟩ := h
  rcases (show i = 0 ∨ i = 1 ∨ i = 2 ∨ i = 3 ∨ i = 4 ∨ i = 5 by omega) with rfl | rfl | rfl | rfl | rfl | rfl
  · refine (save2_any hr hk (by omega) ht).mono ?_
    rintro e w' ⟨rfl, hr2, hk2, hm⟩
    refine ⟨_, rfl, ?_⟩
    have hx2 := hx.trans (hm.st.x (p + 5))
    have hz2 := Nat.le_trans hz hm.sz
    rw [show (Sf.svr S t b n y 0).1 = S from rfl] at hr2 ⊢
    by_cases he : (Sf.sv1 S t).2 = 0
    · rw [if_pos he]
      exact ⟨y, he, hr2, hk2, hx2, hz2, fun h => by omega⟩
    · rw [if_neg he]
      have e2 : Sf.sv2 S t y = Sf.sv1 S t := Sf.bd_no he
      have e3 : Sf.sv3 S t y b = Sf.sv1 S t := (Sf.bd_no (by rw [e2]; exact he)).trans e2
      have e4 : Sf.sv4 S t y b = Sf.sv1 S t := (Sf.bd_no (by rw [e3]; exact he)).trans e3
      have e5 : Sf.sv5 S t y b n = Sf.sv1 S t := (Sf.bd_no (by rw [e4]; exact he)).trans e4
      have e6 : Sf.sv6 S t y b n = Sf.sv1 S t := (Sf.bd_no (by rw [e5]; exact he)).trans e5
      have eu : Sf.und S t y b n = false := by unfold Sf.und; rw [e2, decide_eq_false he]; rfl
      exact ⟨y, by rw [e6], by rw [e6]; exact hr2.mono (Nat.le_add_right _ _) (by omega), by rw [eu]; exact hk2, hx2, hz2, fun h => absurd h he⟩
  · refine (save3_any hr hk hp (by omega) ht).mono ?_
    rintro e w' ⟨z, hzl, rfl, hr2, hk2, hm, hs⟩
    refine ⟨_, rfl, ?_⟩
    have hx2 := hx.trans hs
    have hz2 := Nat.le_trans hz hm
    have e2 : Sf.sv2 S t z = (Sf.sv1 S t).1.create t z := Sf.bd_ok h0
    rw [show Sf.svr S t b n y 1 = Sf.sv1 S t from rfl, ← e2] at hr2 hk2 ⊢
    by_cases he : (Sf.sv2 S t z).2 = 0
    · rw [if_pos he]
      rw [decide_eq_true he] at hk2
      exact ⟨z, he, hr2, hk2, hx2, hz2, fun _ => hzl⟩
    · rw [if_neg he]
      rw [decide_eq_false he] at hk2
      have e3 : Sf.sv3 S t z b = Sf.sv2 S t z := Sf.bd_no he
      have e4 : Sf.sv4 S t z b = Sf.sv2 S t z := (Sf.bd_no (by rw [e3]; exact he)).trans e3
      have e5 : Sf.sv5 S t z b n = Sf.sv2 S t z := (Sf.bd_no (by rw [e4]; exact he)).trans e4
      have e6 : Sf.sv6 S t z b n = Sf.sv2 S t z := (Sf.bd_no (by rw [e5]; exact he)).trans e5
      have eu : Sf.und S t z b n = false := by unfold Sf.und; rw [decide_eq_false he]; rfl
      exact ⟨z, by rw [e6], by rw [e6]; exact hr2.mono (Nat.le_add_right _ _) (by omega), by rw [eu]; exact hk2, hx2, hz2, fun _ => hzl⟩
  · refine (save4_any hr hk (by omega) (by show B ≤ _; omega) ht hb).mono ?_
    rintro e w' ⟨rfl, hr2, hk2, hm⟩
    refine ⟨_, rfl, ?_⟩
    have hx2 := hx.trans (hm.st.x (p + 5))
    have hz2 := Nat.le_trans hz hm.sz
    have e3 : Sf.sv3 S t y b = (Sf.sv2 S t y).1.append t b := Sf.bd_ok h0
    rw [show Sf.svr S t b n y 2 = Sf.sv2 S t y from rfl, ← e3] at hr2 ⊢
    by_cases he : (Sf.sv3 S t y b).2 = 0
    · rw [if_pos he]
      exact ⟨y, he, hr2, hk2, hx2, hz2, fun _ => hfr (by decide)⟩
    · rw [if_neg he]
      have e4 : Sf.sv4 S t y b = Sf.sv3 S t y b := Sf.bd_no he
      have e5 : Sf.sv5 S t y b n = Sf.sv3 S t y b := (Sf.bd_no (by rw [e4]; exact he)).trans e4
      have e6 : Sf.sv6 S t y b n = Sf.sv3 S t y b := (Sf.bd_no (by rw [e5]; exact he)).trans e5
      have eu : Sf.und S t y b n = true := by unfold Sf.und; rw [e5, decide_eq_true (show (Sf.sv2 S t y).2 = 0 from h0), decide_eq_true he]; rfl
      exact ⟨y, by rw [e6], by rw [e6]; exact hr2.mono (Nat.le_refl _) (by omega), by rw [eu]; exact hk2, hx2, hz2, fun _ => hfr (by decide)⟩
  · refine (save5_any hr hk (by omega) ht).mono ?_
    rintro e w' ⟨rfl, hr2, hk2, hm⟩
    refine ⟨_, rfl, ?_⟩
    have hx2 := hx.trans (hm.st.x (p + 5))
    have hz2 := Nat.le_trans hz hm.sz
    have e4 : Sf.sv4 S t y b = (Sf.sv3 S t y b).1.sync t := Sf.bd_ok h0
    rw [show Sf.svr S t b n y 3 = Sf.sv3 S t y b from rfl, ← e4] at hr2 ⊢
    by_cases he : (Sf.sv4 S t y b).2 = 0
    · rw [if_pos he]
      exact ⟨y, he, hr2, hk2, hx2, hz2, fun _ => hfr (by decide)⟩
    · rw [if_neg he]
      have h2 : (Sf.sv2 S t y).2 = 0 := by
        by_cases h2 : (Sf.sv2 S t y).2 = 0
        · exact h2
        · have h3 : (Sf.sv3 S t y b).2 = 0 := h0
          rw [show Sf.sv3 S t y b = Sf.sv2 S t y from Sf.bd_no h2] at h3
          exact h3
      have e5 : Sf.sv5 S t y b n = Sf.sv4 S t y b := Sf.bd_no he
      have e6 : Sf.sv6 S t y b n = Sf.sv4 S t y b := (Sf.bd_no (by rw [e5]; exact he)).trans e5
      have eu : Sf.und S t y b n = true := by unfold Sf.und; rw [e5, decide_eq_true h2, decide_eq_true he]; rfl
      exact ⟨y, by rw [e6], by rw [e6]; exact hr2.mono (Nat.le_refl _) (by omega), by rw [eu]; exact hk2, hx2, hz2, fun _ => hfr (by decide)⟩
  · refine (save6_any hr hk hp (by omega) ht hn).mono ?_
    rintro e w' ⟨rfl, hr2, hk2, hm, hs⟩
    refine ⟨_, rfl, ?_⟩
    have hx2 := hx.trans hs
    have hz2 := Nat.le_trans hz hm
    have e5 : Sf.sv5 S t y b n = (Sf.sv4 S t y b).1.rename t n := Sf.bd_ok h0
    rw [show Sf.svr S t b n y 4 = Sf.sv4 S t y b from rfl, ← e5] at hr2 hk2 ⊢
    by_cases he : (Sf.sv5 S t y b n).2 = 0
    · rw [if_pos he]
      rw [decide_eq_false (show ¬ (Sf.sv5 S t y b n).2 ≠ 0 from fun h => h he)] at hk2
      exact ⟨y, he, hr2, hk2, hx2, hz2, fun _ => hfr (by decide)⟩
    · rw [if_neg he]
      rw [decide_eq_true he] at hk2
      have h3 : (Sf.sv3 S t y b).2 = 0 := by
        by_cases h3 : (Sf.sv3 S t y b).2 = 0
        · exact h3
        · have h4 : (Sf.sv4 S t y b).2 = 0 := h0
          rw [show Sf.sv4 S t y b = Sf.sv3 S t y b from Sf.bd_no h3] at h4
          exact h4
      have h2 : (Sf.sv2 S t y).2 = 0 := by
        by_cases h2 : (Sf.sv2 S t y).2 = 0
        · exact h2
        · rw [show Sf.sv3 S t y b = Sf.sv2 S t y from Sf.bd_no h2] at h3
          exact h3
      have e6 : Sf.sv6 S t y b n = Sf.sv5 S t y b n := Sf.bd_no he
      have eu : Sf.und S t y b n = true := by unfold Sf.und; rw [decide_eq_true h2, decide_eq_true he]; rfl
      exact ⟨y, by rw [e6], by rw [e6]; exact hr2.mono (Nat.le_refl _) (by omega), by rw [eu]; exact hk2, hx2, hz2, fun _ => hfr (by decide)⟩
  · refine (hr.dir (by omega)).mono ?_
    rintro e w' ⟨rfl, hr2, hm⟩
    refine ⟨_, rfl, ?_⟩
    have hx2 := hx.trans (hm.st.x (p + 5))
    have hz2 := Nat.le_trans hz hm.sz
    have hk2 := hk.stays hm.st
    have e6 : Sf.sv6 S t y b n = (Sf.sv5 S t y b n).1.dirDo := Sf.bd_ok h0
    rw [show Sf.svr S t b n y 5 = Sf.sv5 S t y b n from rfl, ← e6] at hr2 ⊢
    by_cases he : (Sf.sv6 S t y b n).2 = 0
    · rw [if_pos he]
      exact ⟨y, he, hr2, hk2, hx2, hz2, fun _ => hfr (by decide)⟩
    · rw [if_neg he]
      have eu : Sf.und S t y b n = false := by
        unfold Sf.und
        rw [decide_eq_false (show ¬ (Sf.sv5 S t y b n).2 ≠ 0 from fun h => h h0), Bool.and_false]
      exact ⟨y, rfl, hr2.mono (Nat.le_refl _) (by omega), by rw [eu]; exact hk2, hx2, hz2, fun _ => hfr (by decide)⟩
/-- behind all steps, or the one that erred -/
theorem save_end {w : World} {er : Int} (h : if er = 0 then SaveI W wl base fb B N p S n b t 6 w else SaveE W wl base fb B N p S n b t er w) : SaveE W wl base fb B N p S n b t er w := by
  split at h
  · rename_i he
    obtain ⟨y, h0, hr, hk, hx, hz, hfr⟩ := h
    have h5 : (Sf.sv5 S t y b n).2 = 0 := by
      by_cases h5 : (Sf.sv5 S t y b n).2 = 0
      · exact h5
      · have h6 : (Sf.sv6 S t y b n).2 = 0 := h0
        rw [show Sf.sv6 S t y b n = Sf.sv5 S t y b n from Sf.bd_no h5] at h6
        exact h6
    have eu : Sf.und S t y b n = false := by
      unfold Sf.und
      rw [decide_eq_false (show ¬ (Sf.sv5 S t y b n).2 ≠ 0 from fun h => h h5), Bool.and_false]
    exact ⟨y, by rw [he]; exact h0, hr, by rw [eu]; exact hk, hx, hz, fun _ => hfr (by decide)⟩
  · exact h
end
/-- what Save lays at first -/
theorem save_laid (wr : World) (fb : Nat) (n b : ByteArray) (F : Array Value) (w : World) (hw : w = ((((((wr.alloc (.cells #[.pointer (some ⟨fb, 0, none⟩)] 28)).alloc (.cells #[.string n] 9)).alloc (.cells #[.string b] 9)).alloc (.cells #[.int .i64 0] 23)).alloc (.cells #[.string (tmp n)] 9)).alloc (.cells #[.bool false] 4)).alloc (.cells F 72)) :
    Kept w fb wr.heap.size n b (tmp n) 0 false ∧ Below wr.heap.size wr w ∧ w.heap[wr.heap.size + 6]? = some (.cells F 72 (0, 0)) := by
  have one : ∀ (U : World) (o : Obj), Below U.heap.size U (U.alloc o) ∧ (U.alloc o).heap.size = U.heap.size + 1 ∧ (∀ cs T, o = .cells cs T → (U.alloc o).heap[U.heap.size]? = some (.cells cs T (0, 0))) := fun U o => ⟨(Below.refl _ _).alloc (Nat.le_refl _) _, by simp, fun cs T e => by subst e; exact heap_alloc_new U _⟩
  subst hw
  obtain ⟨b1, z1, n1⟩ := one wr (.cells #[.pointer (some ⟨fb, 0, none⟩)] 28)
  have n1 := n1 _ _ rfl
  generalize wr.alloc (.cells #[.pointer (some ⟨fb, 0, none⟩)] 28) = w1 at *
  obtain ⟨b2, z2, n2⟩ := one w1 (.cells #[.string n] 9)
  have n2 := n2 _ _ rfl
  generalize w1.alloc (.cells #[.string n] 9) = w2 at *
  obtain ⟨b3, z3, n3⟩ := one w2 (.cells #[.string b] 9)
  have n3 := n3 _ _ rfl
  generalize w2.alloc (.cells #[.string b] 9) = w3 at *
  obtain ⟨b4, z4, n4⟩ := one w3 (.cells #[.int .i64 0] 23)
  have n4 := n4 _ _ rfl
  generalize w3.alloc (.cells #[.int .i64 0] 23) = w4 at *
  obtain ⟨b5, z5, n5⟩ := one w4 (.cells #[.string (tmp n)] 9)
  have n5 := n5 _ _ rfl
  generalize w4.alloc (.cells #[.string (tmp n)] 9) = w5 at *
  obtain ⟨b6, z6, n6⟩ := one w5 (.cells #[.bool false] 4)
  have n6 := n6 _ _ rfl
  generalize w5.alloc (.cells #[.bool false] 4) = w6 at *
  obtain ⟨b7, z7, n7⟩ := one w6 (.cells F 72)
  have n7 := n7 _ _ rfl
  generalize w6.alloc (.cells F 72) = w7 at *
  have c6 := b7
  have c5 := below_step b6 c6
  have c4 := below_step b5 c5
  have c3 := below_step b4 c4
  have c2 := below_step b3 c3
  have c1 := below_step b2 c2
  rw [z1] at n2
  rw [z2, z1] at n3
  rw [z3, z2, z1] at n4
  rw [z4, z3, z2, z1] at n5
  rw [z5, z4, z3, z2, z1] at n6
  rw [z6, z5, z4, z3, z2, z1] at n7
  exact ⟨⟨heap_keep n1 c1, heap_keep n2 c2, heap_keep n3 c3, heap_keep n4 c4, heap_keep n5 c5, heap_keep n6 c6⟩, below_step b1 c1, n7⟩
set_option maxRecDepth 100000 in
set_option maxHeartbeats 2000000 in
theorem Save_any {W : World} {base fb B N : Nat} {S : Sf.St} {wr : World} (h : Runs W base fb B N S wr) (hN : N ≤ 990) (hB : B ≤ 10000000) (n : ByteArray) (hn : n.size ≤ 1000) (b : ByteArray) (hb : b.size ≤ 300) :
    Calls Tryz.prog 42 #[.pointer (some ⟨fb, 0, none⟩), .string n, .string b] wr fun e w' => ∃ y, ((Sf.sv1 S (tmp n)).2 = 0 → ¬ Sf.live (Sf.sv1 S (tmp n)).1.synced (Sf.sv1 S (tmp n)).1.chg y) ∧ e = .returned (.int .i64 (S.save n b y).2) ∧ Runs W base fb (B + 300) (N + 7) (S.save n b y).1 w' ∧ Moves wr w' := by
  have HR := Lib.hid h
  have HT := Lib.hid (fun U => Temp_any n hn U)
  have hmf := run_make_func
  obtain ⟨p, hp⟩ : ∃ p, p = wr.heap.size := ⟨_, rfl⟩
  have hnm : n.size ≤ maxLen := by unfold maxLen; omega
  have htm : (tmp n).size ≤ maxLen := by rw [tmp_size]; unfold maxLen; omega
  have HNM := Lib.hid (And.intro hnm htm)
  clear h hnm htm
  go_enter_defers Tryz.func42, Tryz.ntmps42
  go_wp2_with fail
  refine (HT.out _).mono ?_; rintro e w1 ⟨rfl, rfl⟩
  go_wp2_with fail
  obtain ⟨wl, hwl⟩ : ∃ wl, wl = ((((((wr.alloc (.cells #[.pointer (some ⟨fb, 0, none⟩)] 28)).alloc (.cells #[.string n] 9)).alloc (.cells #[.string b] 9)).alloc (.cells #[.int .i64 0] 23)).alloc (.cells #[.string (tmp n)] 9)).alloc (.cells #[.bool false] 4)).alloc (.cells #[.func (.func (saveFn 0)) (saveFst fb 0) (saveCap p 0), .func (.func (saveFn 1)) (saveFst fb 1) (saveCap p 1), .func (.func (saveFn 2)) (saveFst fb 2) (saveCap p 2), .func (.func (saveFn 3)) (saveFst fb 3) (saveCap p 3), .func (.func (saveFn 4)) (saveFst fb 4) (saveCap p 4), .func (.func (saveFn 5)) (saveFst fb 5) (saveCap p 5)] 72) := ⟨_, rfl⟩
  obtain ⟨hk, hbl, hfn⟩ := save_laid wr fb n b _ wl hwl
  have hwl2 := hwl
  rw [hp] at hwl2
  simp only [saveFn, saveFst, saveCap] at hwl2
  rw [← hp] at hk hfn
  have e4 : wr.heap.size + 4 = wr.heap.size + 1 + 1 + 1 + 1 := rfl
  have e5 : wr.heap.size + 5 = wr.heap.size + 1 + 1 + 1 + 1 + 1 := rfl
  have e2 : wr.heap.size + 2 = wr.heap.size + 1 + 1 := rfl
  rw [e4, e5, e2] at hwl2
  rw [← hwl2, ← hp]
  clear hwl hwl2 e4 e5 e2
  have hi0 : SaveI W wl base fb B N p S n b (tmp n) 0 wl := ⟨0, rfl, HR.out.far hbl, hk, (Stays.refl wl).x _, Nat.le_refl _, fun h => by omega⟩
  have hpb : base ≤ p := by rw [hp]; exact HR.out.hi
  have HST := Lib.hid (Stays.below hbl)
  have HSZ := Lib.hid hbl.size
  refine (inOrder_any (p + 6) 6 6 (by decide) saveFn (saveFst fb) (saveCap p) (SaveI W wl base fb B N p S n b (tmp n)) (SaveE W wl base fb B N p S n b (tmp n)) wl hi0 ?_ save_ent (fun i w hi hh => save_step hN hB hpb HNM.out.2 HNM.out.1 hb i w hi hh)).mono ?_
  · intro i U hi hI
    obtain ⟨y, -, -, -, hx, -, -⟩ := hI
    have hU := hx _ _ _ _ hfn (by omega) (by decide)
    rcases (show i = 0 ∨ i = 1 ∨ i = 2 ∨ i = 3 ∨ i = 4 ∨ i = 5 by omega) with rfl | rfl | rfl | rfl | rfl | rfl <;> exact cell_of_row _ _ _ _ _ _ hU
  rintro e w2 ⟨er, rfl, hend⟩
  obtain ⟨y, he, hr, hk2, hx, hz, hfr⟩ := save_end hend
  clear hend hi0 hfn hk hbl
  have hp2 : W.heap.size ≤ p := by rw [hp]; exact HR.out.bel.size
  have HK3 := Lib.hid (hk2.setE er)
  have HR3 := Lib.hid (hr.setE hk2 hp2 er)
  have hf := hk2.e
  have HX := Lib.hid hx; have HZ := Lib.hid hz
  have HE := Lib.hid he; have HFR := Lib.hid hfr
  clear hr hk2 hx hz he hp2 hpb hfr
  subst hp
  have f0 : w2.frozen? ⟨wr.heap.size + 1 + 1 + 1, 0, none⟩ = false := frozen_of_row _ _ _ _ _ hf
  have k0 : w2.cell? ⟨wr.heap.size + 1 + 1 + 1, 0, none⟩ = some (.int .i64 0) := cell_of_row _ _ _ _ _ _ hf
  clear hf
  go_wp2_with fail
  refine leaves_cons (f := 78) (args := #[.pointer (some ⟨wr.heap.size + 5, 0, none⟩), .pointer (some ⟨wr.heap.size + 3, 0, none⟩), .pointer (some ⟨wr.heap.size, 0, none⟩), .pointer (some ⟨wr.heap.size + 4, 0, none⟩)]) (by simp) (enters_of Tryz.func78 (by kernel_rfl) rfl _ _) ?_
  refine (save1_any .returning HR3.out HK3.out (by omega) HNM.out.2).mono ?_
  rintro e m' w3 ⟨rfl, rfl, hr3, hk3, hm3⟩
  have r0 : w3.cell? ⟨wr.heap.size + 1 + 1 + 1, 0, none⟩ = some (.int .i64 er) := cell_of_row _ _ _ _ _ _ hk3.e
  refine ⟨.int .i64 er, by simp [results, Tryz.results42, go_sem, r0], y, HFR.out, ?_, ?_, ?_, ?_⟩
  · rw [← HE.out]; rfl
  · have e1 : (S.save n b y).1 = (Sf.sv6 S (tmp n) y b n).1.undo (tmp n) (Sf.und S (tmp n) y b n) er := by rw [← HE.out]; rfl
    rw [e1]
    exact hr3
  · refine fun j cs T fr hj a1 a2 a3 a4 => hm3.st j cs T fr ?_ a1 a2 a3 a4
    have hlt := (Array.getElem?_eq_some_iff.1 hj).1
    have h1 := HX.out j cs T fr (HST.out j cs T fr hj a1 a2 a3 a4) (by omega) ⟨a1, a2, a3, a4⟩
    exact grown_keep h1 (grown_setCell w2 (wr.heap.size + 3) 0 (.int .i64 er)) (by omega)
  · exact Nat.le_trans HSZ.out (Nat.le_trans HZ.out (Nat.le_trans (grown_setCell w2 (wr.heap.size + 3) 0 (.int .i64 er)).size hm3.sz))
end Go.Proofs.YtfibapfehgglhaaGreatDoor
