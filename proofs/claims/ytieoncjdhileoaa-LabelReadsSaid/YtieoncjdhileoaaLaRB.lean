/-
  Labels: what the reference's Of comes to.
-/
import Derived.Test.YtieoncjdhileoaaLaRA
import Derived.Test.YtieoncjdhileoaaLaY
import Derived.Test.YtieoncjdhileoaaNumXT
namespace Go.Proofs.Ytieoncjdhileoaa
open Go.RowKit
def slen : Value → Nat
  | .string s => s.size
  | _ => 0
/-- what the reference's GetText leaves -/
def La.rest (s : ByteArray) : ByteArray := if Num.xOk 48 s = true then La.nx false s else s
theorem La.rest_ok {s : ByteArray} (h : Num.xOk 48 s = true) : La.rest s = La.nx false s := if_pos h
theorem La.rest_size (s : ByteArray) : (La.rest s).size ≤ s.size := by
  unfold La.rest; split
  · exact La.nx_size _ _
  · exact Nat.le_refl _
theorem La.nx_lt {s : ByteArray} (h : Num.xOk 48 s = true) : (La.nx false s).size < s.size := by
  have e1 := La.txt_back h
  have p1 := La.txt_pos (La.nm false s)
  have hl := congrArg List.length e1
  rw [List.length_append, ← Lib.size_eq, ← Lib.size_eq] at hl
  omega
theorem own_far3 {W W2 : World} {base : Nat} {e : TypeId} {size n : Nat} {v : Value} {xs : List Value} (h : W.ownsRow base e size v n xs) (hb : Below W.heap.size W W2) : W2.ownsRow base e size v n xs :=
  h.kept (row := none) (grown_of_below hb) (Classical.em _)
theorem rText48 (s : ByteArray) (hs : s.size ≤ 300) (w : World) :
    Calls Try.prog 44 #[.string s, .int .i64 48] w fun e w' => e = .returned (.tuple #[.string (La.nm false s), .string (La.rest s), .bool (Num.xOk 48 s)]) ∧ Below w.heap.size w w' := by
  refine rGetText_any s hs 48 (Lib.hid (by omega)) w _ _ _ ?_ ?_ rfl
  · unfold La.nm Num.curV
    by_cases h : Num.xOk 48 s = true
    · simp [h]
    · simp [h]
  · unfold La.rest
    by_cases h : Num.xOk 48 s = true
    · rw [if_pos h, if_pos h, (La.nm_ok h).2.1]
    · rw [if_neg h, if_neg h]
theorem La.rof_zero (k : Nat) (L : List Lab) (s : ByteArray) (h : s.size = 0) : La.rofLoop k L s = some L := by
  cases k with
  | zero => rfl
  | succ k => unfold La.rofLoop; rw [if_pos h]

set_option maxRecDepth 100000 in
set_option maxHeartbeats 2000000 in
theorem rOf_any (s : ByteArray) (hs : s.size ≤ 300) (w : World) :
    Calls Try.prog 26 #[.string s] w (Labs (La.of s) w) := by
  obtain ⟨i0, hi0, hz0, hz1, hz2⟩ := info_parts info_lab
  have hof := La.of_rof s
  generalize hR : La.rofLoop s.size [] s = R at *
  have HS := Lib.hid hs; have HOFS := Lib.hid hof; have HR := Lib.hid hR; clear hs hof hR
  go_enter Try.func26, Try.ntmps26
  go_wp2_with fail
  go_loopw [4, 5] (fun v u wr => ∃ (L : List Lab) (t : ByteArray) (k : Nat), wr.ownsRow w.heap.size 38 2 v L.length (labCells L) ∧ u = .string t ∧ La.rofLoop k L t = R ∧ t.size ≤ k ∧ L.length + t.size ≤ s.size ∧ (∀ i, i < L.length → (La.at_ L i).1.size ≤ s.size ∧ (La.at_ L i).2.size ≤ s.size) ∧ Below w.heap.size w wr) (fun _ u _ => slen u)
  case atStart => exact ⟨[], s, s.size, World.ownsRow_nil _ _ _ _, rfl, HR.out, Nat.le_refl _, by simp, (fun i hi => by simp at hi), Below.refl _ _⟩
  case round =>
    obtain ⟨L, t, k, hown, rfl, hof, htk, hts, hel, hb⟩ := hrel
    have HOWN := Lib.hid hown; have HOF := Lib.hid hof; have HTS := Lib.hid hts; have HEL := Lib.hid hel; have HB := Lib.hid hb; have HTK := Lib.hid htk
    obtain ⟨A, c, rfl, hAn, hlc, hrow⟩ := own_lab hown
    have HAN := Lib.hid hAn; have HROW := Lib.hid hrow
    clear hown hof hts hel hb hAn hrow htk
    have hem := La.isEmpty_eq t
    by_cases hgo : t.size = 0
    · have he : t.toList.isEmpty = true := by rw [hem]; simpa using hgo
      have hfin : some L = R := by rw [← HOF.out, La.rof_zero k L t hgo]
      have hofs : La.of s = if La.right (La.at_ L) L.length = true then some L else none := by
        rw [HOFS.out, ← hfin, Option.filter_some]; rfl
      have HF := Lib.hid hofs; clear hfin hofs hem hgo
      have hck := fun W (hW : Below wr.heap.size wr W) => rRight_any A L.length c (by have := HTS.out; have := HS.out; unfold maxLen; omega) (La.at_ L) (fun i hi => by have := HEL.out i hi; have := HS.out; unfold maxLen; exact ⟨by omega, by omega⟩) W (HROW.out.later hW)
      have HCK := Lib.hid hck; clear hck
      cases hrl : La.right (La.at_ L) L.length
      · have HCK0 := Lib.hid (fun W hW => by have := HCK.out W hW; rw [hrl] at this; exact this)
        clear HCK
        go_wp2_with fail
        refine (HCK0.out _ (Below.refl _ _)).mono ?_; rintro e w5 ⟨rfl, hb5⟩
        have HB5 := Lib.hid (below_step HB.out hb5); have HR5 := Lib.hid (HROW.out.later hb5)
        clear hb5
        go_wp2_with fail
        go_ret2
        right
        exact ⟨by rw [HF.out, if_neg (by rw [hrl]; decide)], by first | rfl | trivial, HB5.out⟩
      · have HCK0 := Lib.hid (fun W hW => by have := HCK.out W hW; rw [hrl] at this; exact this)
        clear HCK
        go_wp2_with fail
        refine (HCK0.out _ (Below.refl _ _)).mono ?_; rintro e w5 ⟨rfl, hb5⟩
        have HB5 := Lib.hid (below_step HB.out hb5); have HR5 := Lib.hid (HROW.out.later hb5)
        clear hb5
        go_wp2_with fail
        go_ret2
        left
        exact ⟨L, A, c, by rw [HF.out, if_pos hrl], rfl, HAN.out, hlc, HR5.out, HB5.out⟩
    · have he : t.toList.isEmpty = false := by rw [hem]; simpa using hgo
      obtain ⟨k, rfl⟩ : ∃ k', k = k' + 1 := ⟨k - 1, by have := HTK.out; omega⟩
      have hstep : La.rofLoop (k + 1) L t = if Num.xOk 48 t = true ∧ Num.xOk 48 (La.nx false t) = true then La.rofLoop k (L ++ [(La.nm false t, La.nm false (La.nx false t))]) (La.nx false (La.nx false t)) else none := by
        rw [La.rofLoop, if_neg hgo]
      rw [HOF.out] at hstep
      have hnone : R = none → La.of s = none := fun h => by rw [HOFS.out, h]; rfl
      have HNO := Lib.hid hnone; have HST := Lib.hid hstep
      have hx1 := La.nm_size false t
      have hx2 := La.rest_size t
      clear hem hgo hnone hstep
      have HK1 := Lib.hid (fun W => rText48 t (by have := HTS.out; have := HS.out; omega) W)
      have HK2 := Lib.hid (fun W => rText48 (La.rest t) (by have := HTS.out; have := HS.out; omega) W)
      rcases hok : Num.xOk 48 t with _ | _
      · have HK1' := Lib.hid (fun W => by have := HK1.out W; rw [hok] at this; exact this)
        have HN2 := Lib.hid (HNO.out (by rw [HST.out, if_neg]; rintro ⟨h, _⟩; rw [hok] at h; cases h))
        clear HK1 hx1 hx2
        generalize La.nm false t = n1 at *
        generalize La.rest t = t1 at *
        generalize La.nm false t1 = n2 at *
        generalize La.rest t1 = t2 at *
        generalize Num.xOk 48 t1 = ok2 at *
        go_wp2_with fail
        refine (HK1'.out _).mono ?_; rintro e w3 ⟨rfl, hb3⟩
        have HB3 := Lib.hid (below_step HB.out hb3); clear hb3
        go_wp2_with fail
        refine (HK2.out _).mono ?_; rintro e w4 ⟨rfl, hb4⟩
        have HB4 := Lib.hid (below_step HB3.out hb4); clear hb4
        go_wp2_with fail
        go_ret2
        right
        exact ⟨HN2.out, by first | rfl | trivial, HB4.out⟩
      · have hre := La.rest_ok hok
        have hlt1 := La.nx_lt hok
        rw [← hre] at hlt1
        have HST2 := Lib.hid (HST.out)
        rw [← hre] at HST2
        have hx3 := La.nm_size false (La.rest t)
        have HK1' := Lib.hid (fun W => by have := HK1.out W; rw [hok] at this; exact this)
        clear HK1 HST
        rcases hok2 : Num.xOk 48 (La.rest t) with _ | _
        · have HK2' := Lib.hid (fun W => by have := HK2.out W; rw [hok2] at this; exact this)
          have HN2 := Lib.hid (HNO.out (by rw [HST2.out, if_neg]; rintro ⟨_, h⟩; rw [hok2] at h; cases h))
          clear HK2 HST2 hx1 hx2 hx3 hre hlt1 hok2
          generalize La.nm false t = n1 at *
          generalize La.rest t = t1 at *
          generalize La.nm false t1 = n2 at *
          generalize La.rest t1 = t2 at *
          go_wp2_with fail
          refine (HK1'.out _).mono ?_; rintro e w3 ⟨rfl, hb3⟩
          have HB3 := Lib.hid (below_step HB.out hb3); clear hb3
          go_wp2_with fail
          refine (HK2'.out _).mono ?_; rintro e w4 ⟨rfl, hb4⟩
          have HB4 := Lib.hid (below_step HB3.out hb4); clear hb4
          go_wp2_with fail
          go_ret2
          right
          exact ⟨HN2.out, by first | rfl | trivial, HB4.out⟩
        · have HK2' := Lib.hid (fun W => by have := HK2.out W; rw [hok2] at this; exact this)
          have hre2 := La.rest_ok hok2
          have hlt2 := La.nx_lt hok2
          rw [← hre2] at hlt2
          have hst3 := HST2.out
          rw [if_pos ⟨hok, hok2⟩, ← hre2] at hst3
          have HST3 := Lib.hid hst3
          clear HK2 HST2 hre hre2 hok2 hst3 hok
          generalize La.nm false t = n1 at *
          generalize La.rest t = t1 at *
          generalize La.nm false t1 = n2 at *
          generalize La.rest t1 = t2 at *
          go_wp2_with fail
          refine (HK1'.out _).mono ?_; rintro e w3 ⟨rfl, hb3⟩
          have HB3 := Lib.hid (below_step HB.out hb3)
          have HOWN3 := Lib.hid (own_far3 HOWN.out hb3)
          have HZ3 := Lib.hid (Nat.le_trans HB.out.size hb3.size)
          clear hb3
          go_wp2_with fail
          refine (HK2'.out _).mono ?_; rintro e w4 ⟨rfl, hb4⟩
          have HB4 := Lib.hid (below_step HB3.out hb4)
          have hown4 := own_far3 HOWN3.out hb4
          have HZ4 := Lib.hid (Nat.le_trans HZ3.out hb4.size)
          have HOWN4 := Lib.hid hown4
          have hb1' : L.length + 1 ≤ maxLen := by have := HTS.out; have := HS.out; unfold maxLen; omega
          have hb2' : (L.length + 1) * 32 ≤ 140737488355328 := by have := HTS.out; have := HS.out; omega
          have hb3' : w.heap.size ≤ (w4.alloc (.cells #[.string n1, .string n2] 38)).heap.size := by have := HZ4.out; simp; omega
          have B1 := Lib.hid hb1'; have B2 := Lib.hid hb2'; have B3 := Lib.hid hb3'
          clear hb4 hown4 hb1' hb2' hb3'
          go_wp2_with (at_builtin; (refine wpList_append_own _ rfl _ _ 22 rfl w.heap.size 38 i0 (.agg #[.string ByteArray.empty, .string ByteArray.empty]) 2 32 Try.underlying22 hi0 hz0 hz1 hz2 rfl (by decide) _ _ _ rfl (HOWN4.out.alloc _) ⟨w4.heap.size, 0, none⟩ 1 1 [.string n1, .string n2] rfl rfl (cell_two_new _ _ _ _) (by simp [Value.oneCell']) B1.out B2.out B3.out ?_); intro v5 w5 hown5 hgr5 _; have HOWN5 := Lib.hid hown5; have HG5 := Lib.hid hgr5; clear hown5 hgr5)
          go_roundw
          case rel =>
            have hg5 := HG5.out
            refine ⟨L ++ [(n1, n2)], t2, k, ?_, rfl, HST3.out.symm, by have := HTK.out; omega, by have := HTS.out; simp; omega, ?_, ?_⟩
            · rw [labCells_append, List.length_append]; exact HOWN5.out
            · intro i hi
              rw [List.length_append, List.length_singleton] at hi
              unfold La.at_
              rcases Nat.lt_or_ge i L.length with h | h
              · have := HEL.out i h
                unfold La.at_ at this
                simpa [List.getD, List.getElem?_append_left h] using this
              · rw [show i = L.length from by omega]
                simp only [List.getD, List.getElem?_append_right (Nat.le_refl _), Nat.sub_self, List.getElem?_cons_zero, Option.getD_some]
                have := HTS.out
                exact ⟨by omega, by omega⟩
            · exact (HB4.out.alloc HB4.out.size _).grown hg5 (by have := HB4.out.size; simp; omega) (fun b hv => by have := (HOWN4.out.lt b hv).1; omega)
          case measure => simp only [slen]; omega
end Go.Proofs.Ytieoncjdhileoaa
