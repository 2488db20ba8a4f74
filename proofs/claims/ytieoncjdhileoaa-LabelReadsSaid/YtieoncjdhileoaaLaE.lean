/-
  What the functions of package label come to: Of.
-/
import Derived.Test.YtieoncjdhileoaaLaD
import Derived.Test.YtieoncjdhileoaaNumG
import Derived.RangeFuncBox
namespace Go.Proofs.Ytieoncjdhileoaa
open Go.RowKit
namespace La
/-- a text of at most 48 bytes that a cursor reads: what it is, what is left, whether it failed -/
def nm (bad : Bool) (s : ByteArray) : ByteArray := Num.curV bad (Num.xOk 48 s) (if Num.xOk 48 s = true then Num.xV s else ByteArray.empty) ByteArray.empty
def nx (bad : Bool) (s : ByteArray) : ByteArray := Num.curV bad (Num.xOk 48 s) (s.extract (if Num.xOk 48 s = true then Num.xN s else 0) s.size) s
def nb (bad : Bool) (s : ByteArray) : Bool := bad || !Num.xOk 48 s
/-- the labels that a cursor reads -/
def ofLoop : Nat → List Lab → ByteArray → Bool → List Lab × ByteArray × Bool
  | 0, L, s, bad => (L, s, bad)
  | k + 1, L, s, bad => if s.size ≠ 0 ∧ bad = false then ofLoop k (L ++ [(nm false s, nm (nb false s) (nx false s))]) (nx (nb false s) (nx false s)) (nb (nb false s) (nx false s)) else (L, s, bad)
def at_ (L : List Lab) (i : Nat) : Lab := L.getD i (ByteArray.empty, ByteArray.empty)
def rightL (L : List Lab) : Bool := right (at_ L) L.length
/-- the labels that bytes are the key of -/
def of (s : ByteArray) : Option (List Lab) :=
  if (ofLoop 6 [] s false).2.1.size = 0 ∧ (ofLoop 6 [] s false).2.2 = false ∧ rightL (ofLoop 6 [] s false).1 = true then some (ofLoop 6 [] s false).1 else none
theorem nx_size (bad : Bool) (s : ByteArray) : (nx bad s).size ≤ s.size := by
  unfold nx Num.curV
  split
  · exact Nat.le_refl _
  · rw [ByteArray.size_extract]; omega
theorem nm_size (bad : Bool) (s : ByteArray) : (nm bad s).size ≤ s.size := by
  unfold nm Num.curV
  split
  · simp
  · split
    · unfold Num.xV; rw [ByteArray.size_extract]; omega
    · simp
end La
def vlen : Value → Nat
  | .slice _ n _ => n
  | _ => 0
theorem info_lab : (Try.prog.info? 38).map (fun i => (i.zero, i.size, i.bytes)) = some (some (.agg #[.string ByteArray.empty, .string ByteArray.empty]), 2, 32) := by kernel_rfl
/-- what Of, or Read, comes to -/
def Labs (o : Option (List Lab)) (w : World) (e : Ending) (w' : World) : Prop :=
  (∃ L A c, o = some L ∧ e = .returned (.tuple #[.slice A L.length c, .bool true]) ∧ (A = none → L.length = 0 ∧ c = 0) ∧ L.length ≤ c ∧ LabRow w' A L.length (La.at_ L) ∧ Below w.heap.size w w') ∨
  (o = none ∧ e = .returned (.tuple #[.slice none 0 0, .bool false]) ∧ Below w.heap.size w w')

theorem cell_two_new (w : World) (a b : Value) (T : TypeId) : ∀ j u, [a, b][j]? = some u → (w.alloc (.cells #[a, b] T)).cell? ((⟨w.heap.size, 0, none⟩ : Addr).add j) = some u := by
  intro j u hu
  rw [Addr.add_lit, Nat.zero_add, cell_of_row _ _ _ _ _ _ (heap_alloc_new w _)]
  rw [← hu]; simp
theorem curText48 (b : Nat) (s : ByteArray) (hs : s.size ≤ maxLen) (bad : Bool) (w : World) (hc : CurAt b s bad w) :
    Calls Try.prog 42 #[.pointer (some ⟨b, 0, none⟩), .int .i64 48] w fun e w' => e = .returned (.string (La.nm bad s)) ∧ CurAt b (La.nx bad s) (La.nb bad s) w' ∧ w.grownBy w' (some b) :=
  curText b s hs bad 48 (Lib.hid (by omega)) w hc

set_option maxRecDepth 100000 in
set_option maxHeartbeats 2000000 in
theorem Of_any (s : ByteArray) (hs : s.size ≤ maxLen) (w : World) :
    Calls Try.prog 25 #[.string s] w (Labs (La.of s) w) := by
  obtain ⟨i0, hi0, hz0, hz1, hz2⟩ := info_parts info_lab
  have HS := Lib.hid hs; clear hs
  have hc0 : CurAt w.heap.size s false (w.alloc (.cells #[.string s, .bool false] 58)) := heap_alloc_new _ _
  have hb0 : Below w.heap.size w (w.alloc (.cells #[.string s, .bool false] 58)) := (Below.refl _ _).alloc (Nat.le_refl _) _
  have hz0' : w.heap.size + 1 ≤ (w.alloc (.cells #[.string s, .bool false] 58)).heap.size := by simp
  generalize hR : La.ofLoop 6 [] s false = R
  have HR := Lib.hid hR; have HC0 := Lib.hid hc0; have HB0 := Lib.hid hb0; have HZ0 := Lib.hid hz0'; clear hR hc0 hb0 hz0'
  go_enter Try.func25, Try.ntmps25
  go_wp2_with fail
  go_loopw [5] (fun v wr => ∃ (L : List Lab) (t : ByteArray) (bad : Bool), wr.ownsRow (w.heap.size + 1) 38 2 v L.length (labCells L) ∧ CurAt w.heap.size t bad wr ∧ La.ofLoop (6 - L.length) L t bad = R ∧ L.length ≤ 6 ∧ t.size ≤ s.size ∧ (∀ i, i < L.length → (La.at_ L i).1.size ≤ s.size ∧ (La.at_ L i).2.size ≤ s.size) ∧ Below w.heap.size w wr ∧ w.heap.size + 1 ≤ wr.heap.size) (fun v _ => 6 - vlen v)
  case atStart => exact ⟨[], s, false, World.ownsRow_nil _ _ _ _, HC0.out, HR.out, by simp, Nat.le_refl _, (fun i hi => by simp at hi), HB0.out, HZ0.out⟩
  case round =>
    obtain ⟨L, t, bad, hown, hcur, hof, hl6, hts, hel, hb, hsz⟩ := hrel
    have HOWN := Lib.hid hown; have HCUR := Lib.hid hcur; have HOF := Lib.hid hof; have HTS := Lib.hid hts; have HEL := Lib.hid hel; have HB := Lib.hid hb
    obtain ⟨A, c, rfl, hAn, hlc, hrow⟩ := own_lab hown
    have HAN := Lib.hid hAn; have HROW := Lib.hid hrow
    obtain ⟨c0, c1, -, -⟩ := hcur.cells
    clear hown hcur hof hts hel hb hAn hrow
    have hem := La.isEmpty_eq t
    by_cases hgo : t.size ≠ 0 ∧ bad = false ∧ L.length < 6
    · obtain ⟨h1, rfl, h3⟩ := hgo
      have he : t.toList.isEmpty = false := by rw [hem]; simpa using h1
      have hstep : La.ofLoop (6 - L.length) L t false = La.ofLoop (6 - (L.length + 1)) (L ++ [(La.nm false t, La.nm (La.nb false t) (La.nx false t))]) (La.nx (La.nb false t) (La.nx false t)) (La.nb (La.nb false t) (La.nx false t)) := by
        rw [show 6 - L.length = (6 - (L.length + 1)) + 1 from by omega, La.ofLoop, if_pos ⟨h1, rfl⟩]
      rw [HOF.out] at hstep
      have HST := Lib.hid hstep
      have hx1 := La.nm_size false t
      have hx2 := La.nx_size false t
      have hx3 := La.nm_size (La.nb false t) (La.nx false t)
      have hx4 := La.nx_size (La.nb false t) (La.nx false t)
      have H1 := Lib.hid h1; clear h1 hem hstep
      generalize hn1 : La.nm false t = n1 at *
      generalize ht1 : La.nx false t = t1 at *
      generalize hb1 : La.nb false t = b1 at *
      generalize hn2 : La.nm b1 t1 = n2 at *
      generalize ht2 : La.nx b1 t1 = t2 at *
      generalize hb2 : La.nb b1 t1 = b2 at *
      have hk1 := fun W hc => curText48 w.heap.size t (by have := HTS.out; have := HS.out; omega) false W hc
      rw [hn1, ht1, hb1] at hk1
      have hk2 := fun W hc => curText48 w.heap.size t1 (by have := HTS.out; have := HS.out; omega) b1 W hc
      rw [hn2, ht2, hb2] at hk2
      have HK1 := Lib.hid hk1; have HK2 := Lib.hid hk2
      clear hk1 hk2 hn1 ht1 hb1 hn2 ht2 hb2
      have hl6' : L.length < 6 := h3
      go_wp2_with fail
      refine (HK1.out _ HCUR.out).mono ?_; rintro e w3 ⟨rfl, hcur3, hg3⟩
      have HOWN3 := Lib.hid (HOWN.out.kept hg3 (by cases hv : (Value.slice A L.length c).ownBlock with
        | none => exact .inl rfl
        | some k => exact .inr (fun e => by have := (HOWN.out.lt k hv).1; cases e; omega)))
      have HB3 := Lib.hid (HB.out.grown hg3 HB.out.size (fun r e => by cases e; exact Nat.le_refl _))
      have HC3 := Lib.hid hcur3
      have HZ3 := Lib.hid (Nat.le_trans hsz hg3.size)
      clear hcur3 hg3 c0 c1
      go_wp2_with fail
      refine (HK2.out _ HC3.out).mono ?_; rintro e w4 ⟨rfl, hcur4, hg4⟩
      have hown4 := HOWN3.out.kept hg4 (by cases hv : (Value.slice A L.length c).ownBlock with
        | none => exact .inl rfl
        | some k => exact .inr (fun e => by have := (HOWN3.out.lt k hv).1; cases e; omega))
      have HB4 := Lib.hid (HB3.out.grown hg4 HB3.out.size (fun r e => by cases e; exact Nat.le_refl _))
      have HC4 := Lib.hid hcur4
      have HZ4 := Lib.hid (Nat.le_trans HZ3.out hg4.size)
      have HOWN4 := Lib.hid hown4
      have hb1' : L.length + 1 ≤ maxLen := by unfold maxLen; omega
      have hb2' : (L.length + 1) * 32 ≤ 140737488355328 := by omega
      have hb3' : w.heap.size + 1 ≤ (w4.alloc (.cells #[.string n1, .string n2] 38)).heap.size := by have := HZ4.out; simp; omega
      have B1 := Lib.hid hb1'; have B2 := Lib.hid hb2'; have B3 := Lib.hid hb3'
      clear hcur4 hg4 hown4 hb1' hb2' hb3'
      go_wp2_with (at_builtin; (refine wpList_append_own _ rfl _ _ 22 rfl (w.heap.size + 1) 38 i0 (.agg #[.string ByteArray.empty, .string ByteArray.empty]) 2 32 Try.underlying22 hi0 hz0 hz1 hz2 rfl (by decide) _ _ _ rfl (HOWN4.out.alloc _) ⟨w4.heap.size, 0, none⟩ 1 1 [.string n1, .string n2] rfl rfl (cell_two_new _ _ _ _) (by simp [Value.oneCell']) B1.out B2.out B3.out ?_); intro v5 w5 hown5 hgr5 _; have HOWN5 := Lib.hid hown5; have HG5 := Lib.hid hgr5; clear hown5 hgr5)
      go_roundw
      case rel =>
        have hg5 := HG5.out
        have hcl : ∀ k, k < w.heap.size + 1 → w5.heap[k]? = w4.heap[k]? := fun k hk => (hg5.block k (by have := HZ4.out; simp; omega) (fun e => by have := (HOWN4.out.lt k e.symm).1; omega)).trans (Below.heap_alloc w4 _ k (by have := HZ4.out; omega))
        refine ⟨L ++ [(n1, n2)], t2, b2, ?_, (hcl _ (by omega)).trans HC4.out, ?_, by simp; omega, by have := HTS.out; omega, ?_, ?_, ?_⟩
        · rw [labCells_append, List.length_append]; exact HOWN5.out
        · rw [List.length_append]; exact HST.out.symm
        · intro i hi
          rw [List.length_append, List.length_singleton] at hi
          unfold La.at_
          rcases Nat.lt_or_ge i L.length with h | h
          · have := HEL.out i h
            unfold La.at_ at this
            simpa [List.getD, List.getElem?_append_left h] using this
          · rw [show i = L.length from by omega]
            simp only [List.getD, List.getElem?_append_right (Nat.le_refl _), Nat.sub_self, List.getElem?_cons_zero, Option.getD_some]
            have := HTS.out
            exact ⟨by omega, by omega⟩
        · exact (HB4.out.alloc HB4.out.size _).grown hg5 (by have := HB4.out.size; simp; omega) (fun b hv => by have := (HOWN4.out.lt b hv).1; omega)
        · have q1 := hg5.size; have q2 := HZ4.out; simp at q1; omega
      case measure => 
        obtain ⟨g5, c5, rfl⟩ := ownsRow_succ HOWN5.out
        simp [vlen]; omega
    · have hfin : La.ofLoop (6 - L.length) L t bad = (L, t, bad) := by
        rcases Nat.lt_or_ge L.length 6 with h | h
        · rw [show 6 - L.length = (5 - L.length) + 1 from by omega, La.ofLoop, if_neg (fun e => hgo ⟨e.1, e.2, h⟩)]
        · rw [show 6 - L.length = 0 from by omega]; rfl
      rw [HOF.out] at hfin
      have hofs : La.of s = if t.size = 0 ∧ bad = false ∧ La.rightL L = true then some L else none := by
        unfold La.of
        rw [HR.out, hfin]
      have HOFS := Lib.hid hofs; clear hfin hofs
      have hway : (t.toList.isEmpty = true) ∨ (t.toList.isEmpty = false ∧ bad = true) ∨ (t.toList.isEmpty = false ∧ bad = false ∧ L.length = 6) := by
        rw [hem]
        by_cases h1 : t.size = 0
        · left; simpa using h1
        · right
          cases bad
          · right
            refine ⟨by simpa using h1, rfl, ?_⟩
            rcases Nat.lt_or_ge L.length 6 with h | h
            · exact absurd ⟨h1, rfl, h⟩ hgo
            · omega
          · left; exact ⟨by simpa using h1, rfl⟩
      have HEM := Lib.hid hem; clear hem hgo
      have hck := fun W (hW : Below wr.heap.size wr W) => Check_any A L.length c (by unfold maxLen; omega) (La.at_ L) (fun i hi => by have := HEL.out i hi; have := HS.out; exact ⟨by omega, by omega⟩) W (HROW.out.later hW)
      have HCK := Lib.hid hck; clear hck
      have hno : (t.toList.isEmpty = false ∨ bad = true) → La.of s = none := fun h => by
        rw [HOFS.out, if_neg]
        rintro ⟨e1, e2, _⟩
        rcases h with h | h
        · rw [HEM.out, e1] at h; simp at h
        · rw [h] at e2; cases e2
      have HNO := Lib.hid hno; clear hno
      rcases hway with he | ⟨he, rfl⟩ | ⟨he, rfl, hL⟩
      · cases bad
        · have ht0 : t.size = 0 := by have h := he; rw [HEM.out] at h; simpa using h
          have HT0 := Lib.hid ht0; clear ht0
          go_wp2_with fail
          refine (curDone w.heap.size t false _ HCUR.out).mono ?_; rintro e w4 ⟨rfl, hb4⟩
          have HB4 := Lib.hid (below_step HB.out hb4); have HR4 := Lib.hid (HROW.out.later hb4)
          rw [he]
          go_wp2_with fail
          refine (HCK.out _ hb4).mono ?_; rintro e w5 ⟨rfl, hb5⟩
          have HB5 := Lib.hid (below_step HB4.out hb5); have HR5 := Lib.hid (HR4.out.later hb5)
          clear hb4 hb5
          cases hrl : La.right (La.at_ L) L.length
          · have e9 : (((La.err false : Nat) : Int) != 0) = true := by decide
            go_wp2_with fail
            go_ret2
            right
            refine ⟨?_, by first | rfl | trivial, HB5.out⟩
            rw [HOFS.out, if_neg]
            rintro ⟨_, _, e3⟩
            unfold La.rightL at e3
            rw [hrl] at e3; cases e3
          · have e9 : (((La.err true : Nat) : Int) != 0) = false := by decide
            go_wp2_with fail
            go_ret2
            left
            refine ⟨L, A, c, ?_, rfl, HAN.out, hlc, HR5.out, HB5.out⟩
            rw [HOFS.out, if_pos]
            exact ⟨HT0.out, by first | rfl | trivial, hrl⟩
        · go_wp2_with fail
          refine (curDone w.heap.size t true _ HCUR.out).mono ?_; rintro e w4 ⟨rfl, hb4⟩
          have HB4 := Lib.hid (below_step HB.out hb4); clear hb4
          rw [he]
          go_wp2_with fail
          go_ret2
          right
          exact ⟨HNO.out (by first | exact .inr rfl | exact .inr trivial), by first | rfl | trivial, HB4.out⟩
      · go_wp2_with fail
        refine (curDone w.heap.size t true _ HCUR.out).mono ?_; rintro e w4 ⟨rfl, hb4⟩
        have HB4 := Lib.hid (below_step HB.out hb4); clear hb4
        rw [he]
        go_wp2_with fail
        go_ret2
        right
        exact ⟨HNO.out (.inl he), by first | rfl | trivial, HB4.out⟩
      · go_wp2_with fail
        refine (curDone w.heap.size t false _ HCUR.out).mono ?_; rintro e w4 ⟨rfl, hb4⟩
        have HB4 := Lib.hid (below_step HB.out hb4); clear hb4
        rw [he]
        go_wp2_with fail
        go_ret2
        right
        exact ⟨HNO.out (.inl he), by first | rfl | trivial, HB4.out⟩
end Go.Proofs.Ytieoncjdhileoaa
