import Derived.Test.YtliobahnekohmaaGreatLaR
import Derived.Test.YtliobahnekohmaaGreatMaL
import Derived.Test.YtliobahnekohmaaGreatMaR
/-
  Few of the laws, and Get.
-/
/-
  What the functions of package match come to: Fits, All.
-/
namespace Go.Proofs.YtliobahnekohmaaGreat
open Go.RowKit
structure Mat where
 k : Int
 n : ByteArray
 v : ByteArray
def Mat.val (m : Mat) : Value := .agg #[.int .i64 m.k, .string m.n, .string m.v]
namespace Ma
def begins (s p : ByteArray) : Bool := decide (p.size ≤ s.size) && decide (s.extract 0 p.size = p)
def fits (m : Mat) (f : Nat → Lab) (n : Nat) : Bool :=
 if m.k = 0 then decide (La.get f m.n n 0 = m.v) else if m.k = 1 then !decide (La.get f m.n n 0 = m.v) else
 if m.k = 2 then begins (La.get f m.n n 0) m.v else if m.k = 3 then decide (0 < (sel (fun i => decide ((f i).1 = m.n)) n).length) else false
end Ma
theorem own_formk {W : World} {base e k n : Nat} {v : Value} {xs : List Value} (h : W.ownsRow base e k v n xs) : ∃ A c, v = .slice A n c := by
 rcases h.2 with ⟨rfl, rfl⟩ | ⟨g, c, cur, rfl, _⟩
 · exact ⟨none, 0, rfl⟩
 · exact ⟨_, _, rfl⟩
theorem hasPrefix_no (s p : ByteArray) (hl : s.size < p.size) (w : World) :
 Calls Tryz.prog 134 #[.string s, .string p] w fun e w' => e = .returned (.bool false) ∧ w = w' := by
 have d0 : decide ((p.size : Int) ≤ (s.size : Int)) = false := by simp; omega
 go_enter Tryz.func134, Tryz.ntmps134
 go_wp2
 go_ret
 exact ⟨rfl, rfl⟩
set_option maxRecDepth 100000 in
set_option maxHeartbeats 400000 in
theorem hasPrefix_yes (s p : ByteArray) (hl : p.size ≤ s.size) (b : Bool) (hb : decide (s.extract 0 p.size = p) = b) (w : World) :
 Calls Tryz.prog 134 #[.string s, .string p] w fun e w' => e = .returned (.bool b) ∧ w = w' := by
 rw [← str_beq] at hb
 go_enter Tryz.func134, Tryz.ntmps134
 go_wp2
 go_ret
 exact ⟨rfl, rfl⟩
theorem begins_any (s p : ByteArray) (w : World) :
 Calls Tryz.prog 134 #[.string s, .string p] w fun e w' => e = .returned (.bool (Ma.begins s p)) ∧ w = w' := by
 unfold Ma.begins
 rcases Nat.lt_or_ge s.size p.size with h | h
 · rw [decide_eq_false (by omega), Bool.false_and]; exact hasPrefix_no s p h w
 · rw [decide_eq_true h, Bool.true_and]; exact hasPrefix_yes s p h _ rfl w
theorem FitsC_any (g : Nat) (name : ByteArray) (x : Lab) (w : World) (hg : w.cell? ⟨g, 1, none⟩ = some (.string name)) :
 Calls Tryz.prog 136 #[.agg #[.string x.1, .string x.2], .pointer (some ⟨g, 0, none⟩)] w fun e w' => e = .returned (.bool (decide (x.1 = name))) ∧ Below w.heap.size w w' := by
 have hb := str_beq x.1 name
 have hne := cell_keep hg ((Below.refl _ _).alloc (Nat.le_refl _) (.cells #[.string x.1, .string x.2] 37))
 go_enter Tryz.func136, Tryz.ntmps136
 go_wp2_with fail
 go_ret
 exact ⟨rfl, (Below.refl _ _).alloc (Nat.le_refl _) _⟩
set_option maxRecDepth 100000 in
set_option maxHeartbeats 1000000 in
theorem Fits_any (m : Mat) (A : Option Addr) (n c : Nat) (hn : n ≤ 1000000) (f : Nat → Lab) (w : World) (hA : LabRow w A n f) :
 Calls Tryz.prog 101 #[m.val, .slice A n c] w fun e w' => e = .returned (.bool (Ma.fits m f n)) ∧ Below w.heap.size w w' := by
 obtain ⟨mk, mn, mv⟩ := m
 have hal : Below w.heap.size w (w.alloc (.cells #[.int .i64 mk, .string mn, .string mv] 55)) := (Below.refl _ _).alloc (Nat.le_refl _) _
 have hrow : (w.alloc (.cells #[.int .i64 mk, .string mn, .string mv] 55)).heap[w.heap.size]? = some (.cells #[.int .i64 mk, .string mn, .string mv] 55 (0, 0)) := heap_alloc_new _ _
 have hlt : w.heap.size < (w.alloc (.cells #[.int .i64 mk, .string mn, .string mv] 55)).heap.size := by simp
 have hA1 := hA.later hal
 have hget := Get_any A n c (by unfold maxLen; omega) f mn _ hA1
 have HAL := Lib.hid hal; have HA1 := Lib.hid hA1; have HG := Lib.hid hget; have HROW := Lib.hid hrow; have HLT := Lib.hid hlt
 clear hal hA1 hget hrow hA hlt
 unfold Mat.val
 go_enter Tryz.func101, Tryz.ntmps101
 have c0 := cell_of_row _ _ 0 _ _ _ HROW.out
 have c1 := cell_of_row _ _ 1 _ _ _ HROW.out
 simp at c0 c1
 go_wp2_with fail
 refine HG.out.mono ?_; rintro e w2 ⟨rfl, hb2⟩
 have HB2 := Lib.hid (HAL.out.trans (hb2.mono (Nat.le_of_lt HLT.out))); have HA2 := Lib.hid (HA1.out.later hb2); have HROW2 := Lib.hid (heap_keep HROW.out hb2)
 clear hb2 c0 c1 HG
 have c0 := cell_of_row _ _ 0 _ _ _ HROW2.out
 have c1 := cell_of_row _ _ 1 _ _ _ HROW2.out
 have c2 := cell_of_row _ _ 2 _ _ _ HROW2.out
 simp at c0 c1 c2
 have hf : Ma.fits ⟨mk, mn, mv⟩ f n = if mk = 0 then decide (La.get f mn n 0 = mv) else if mk = 1 then !decide (La.get f mn n 0 = mv) else
  if mk = 2 then Ma.begins (La.get f mn n 0) mv else if mk = 3 then decide (0 < (Ma.sel (fun i => decide ((f i).1 = mn)) n).length) else false := rfl
 have hbe := begins_any (La.get f mn n 0) mv
 have hsb := str_beq (La.get f mn n 0) mv
 generalize La.get f mn n 0 = gv at *
 have HF := Lib.hid hf; have HBE := Lib.hid hbe; clear hf hbe
 by_cases k0 : mk = 0
 · have e0 : (mk == 0) = true := by simp [k0]
   have HR : Hid (Ma.fits ⟨mk, mn, mv⟩ f n = (gv.toList == mv.toList)) := Lib.hid (by rw [HF.out, if_pos k0, hsb])
   clear k0 hsb
   go_wp2_with fail
   go_ret
   exact ⟨by rw [HR.out]; rfl, HB2.out⟩
 have e0 : (mk == 0) = false := by simp [k0]
 by_cases k1 : mk = 1
 · have e1 : (mk == 1) = true := by simp [k1]
   have HR : Hid (Ma.fits ⟨mk, mn, mv⟩ f n = !(gv.toList == mv.toList)) := Lib.hid (by rw [HF.out, if_neg k0, if_pos k1, hsb])
   clear k0 k1 hsb
   go_wp2_with fail
   go_ret
   exact ⟨by rw [HR.out]; rfl, HB2.out⟩
 have e1 : (mk == 1) = false := by simp [k1]
 by_cases k2 : mk = 2
 · have e2 : (mk == 2) = true := by simp [k2]
   have HR : Hid (Ma.fits ⟨mk, mn, mv⟩ f n = Ma.begins gv mv) := Lib.hid (by rw [HF.out, if_neg k0, if_neg k1, if_pos k2])
   clear k0 k1 k2 hsb
   go_wp2_with fail
   refine (HBE.out _).mono ?_; rintro e w3 ⟨rfl, rfl⟩
   go_wp2_with fail
   go_ret
   exact ⟨by rw [HR.out]; rfl, HB2.out⟩
 have e2 : (mk == 2) = false := by simp [k2]
 by_cases k3 : mk = 3
 · have e3 : (mk == 3) = true := by simp [k3]
   have HR : Hid (Ma.fits ⟨mk, mn, mv⟩ f n = decide (0 < (Ma.sel (fun i => decide ((f i).1 = mn)) n).length)) := Lib.hid (by rw [HF.out, if_neg k0, if_neg k1, if_neg k2, if_pos k3])
   clear k0 k1 k2 k3 hsb
   have hpk := pickL_any A n c hn _ (fun i j => by by_cases h : j = 0 <;> simp [h, Value.oneCell']) 136 #[.pointer (some ⟨w.heap.size, 0, none⟩)] (fun i => decide ((f i).1 = mn))
    (fun args w => enters_of Tryz.func136 (by kernel_rfl) rfl args w) w2 HA2.out.row (fun W hW i hi => FitsC_any w.heap.size mn (f i) W (cell_keep c1 hW))
   have HPK := Lib.hid hpk; clear hpk
   go_wp2_with fail
   refine HPK.out.mono ?_
   rintro e w3 ⟨v, rfl, hown, hb3⟩
   obtain ⟨A3, c3, rfl⟩ := own_formk hown
   have HB3 := Lib.hid (HB2.out.trans (hb3.mono HB2.out.size))
   clear hown hb3
   generalize (Ma.sel (fun i => decide ((f i).1 = mn)) n).length = q at *
   have hq : decide ((0 : Int) < (q : Int)) = decide (0 < q) := by simp
   have HQ := Lib.hid hq; clear hq
   go_wp2_with fail
   go_ret
   exact ⟨by rw [HR.out, ← HQ.out]; rfl, HB3.out⟩
 have e3 : (mk == 3) = false := by simp [k3]
 have HR : Hid (Ma.fits ⟨mk, mn, mv⟩ f n = false) := Lib.hid (by rw [HF.out, if_neg k0, if_neg k1, if_neg k2, if_neg k3])
 clear k0 k1 k2 k3 hsb
 go_wp2_with fail
 go_ret
 exact ⟨by rw [HR.out]; rfl, HB2.out⟩
end Go.Proofs.YtliobahnekohmaaGreat
