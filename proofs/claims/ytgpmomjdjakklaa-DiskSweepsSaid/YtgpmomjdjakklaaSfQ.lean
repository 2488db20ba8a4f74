/-
  Size: what maps.Values hands on.
-/
import Derived.Test.YtgpmomjdjakklaaSfP
import Derived.Test.YtgpmomjdjakklaaRangeC
import Derived.Sort.MapsRangeIn
import Derived.Sort.KeysCollected
namespace Go.Proofs.Ytgpmomjdjakklaa
open Go.RowKit Go.Maps
attribute [local go_sem] Oper.semAt_some
def bs (k : List UInt8) : ByteArray := ⟨k.toArray⟩
theorem key_bs (k : List UInt8) : Sf.key (bs k) = .string k := rfl
def valEnc (d : Sf.D) (k : List UInt8) : Array Value := #[ptrV (Sf.look d (bs k))]
def VKeep (bb : Nat) (A B : World) : Prop := KeepsWalks A B ∧ B.heap[bb]? = A.heap[bb]?
theorem names_walks {w w2 : World} {b n : Nat} {d : Sf.D} (h : w.ownsMap Try.prog 9 ptrE b n d) (hk : KeepsWalks w w2) : w2.ownsMap Try.prog 9 ptrE b n d := by
  obtain ⟨es, clock, hb, F, hs, hD⟩ := h
  exact ⟨es, clock, hk.same b _ hb rfl, F, hs, hD⟩
theorem values_any (b : Nat) (w : World) :
    Calls Try.prog 57 #[.map (some b)] w fun e w' => e = .returned (.func (.func 63) #[] #[.pointer (some ⟨w.heap.size, 0, none⟩)]) ∧ w' = w.alloc (.cells #[.map (some b)] 47) := by
  have hmf := run_make_func
  go_enter Try.func57, Try.ntmps57
  go_wp2_with fail
  go_ret
  exact ⟨rfl, rfl⟩
set_option maxRecDepth 100000 in
set_option maxHeartbeats 1000000 in
theorem values_hands {w : World} (bb b : Nat) (d : Sf.D) (hf : Sf.Files d) (hown0 : NamesAt w b d) (hbb : w.heap[bb]? = some (.cells #[.map (some b)] 47 (0, 0))) :
    HandsC Try.prog 63 #[.pointer (some ⟨bb, 0, none⟩)] (valEnc d) (fun ss k => ss.length < Go.Maps.size d ∧ has d (.string k) = true) (fun ss => ss.Perm (strKeys d)) (fun ss k => ss ++ [k]) (VKeep bb) [] w := by
  intro l J W hW hsz hJ hY h0
  have hown := names_walks (NamesAt.exact hown0) hW.1
  have c0 : W.cell? ⟨bb, 0, none⟩ = some (.map (some b)) := cell_of_row _ _ _ _ _ _ (hW.2.trans hbb)
  clear hown0 hW hsz hbb
  refine callsIn_of_wp Try.func63 rfl trivial ?_ rfl
  simp only [Try.ntmps63, List.size_toArray, List.length_cons, List.length_nil, Nat.reduceAdd, Nat.reduceSub, Array.replicate_succ, Array.replicate_zero, List.push_toArray, List.append_toArray, List.nil_append, List.cons_append]
  gi_wp2_with (first
    | (gi_at_range; refine wpListIn_range_own _ rfl _ 47 rfl 9 60 law Try.underlying47 _ b _ _ rfl hown ?_; intro w0 hrg0 hg0 hs0)
    | gi_in)

  gi_loopw [4] (fun _ wr => ∃ (left : Lit → Bool) (cnt : Nat) (ss : List (List UInt8)), wr.ranges Try.prog 9 ptrE b W.heap.size (Go.Maps.size d) d left cnt ∧ ss.length + cnt ≤ Go.Maps.size d ∧ Collected d left ss ∧ J ss wr)
    (fun _ wr => wr.rangeLeft b W.heap.size)
  case atStart =>
    exact ⟨_, _, [], hrg0, by simp, Collected.start d, hJ [] W w0 none h0 hg0 (fun r e => by cases e)⟩
  case round =>
    obtain ⟨left, cnt, ss, hrg, hcs, hC, hJs⟩ := hrel
    gi_wp2_with (first
      | (gi_at_next; refine wpListIn_next_ranges _ rfl _ rfl 9 law ptrE Value.string ptrV (fun key kl hk => by obtain ⟨s, e, -⟩ := str_inv hk; exact ⟨s, e⟩) (fun v y hv => ptrV_inv hv) b W.heap.size _ _ _ _ rfl hrg ?_ ?_)
      | gi_in)
    · intro hc0 hl0
      gi_wp2
      go_end0
      exact ⟨⟨_, rfl⟩, _, hC.perm hown law Try.underlying9 hl0, hJs⟩
    · intro x c kl yd yp w2 cnt2 hkey hlk hv hat hrg2 hlt hg2 hs2 hen
      obtain ⟨s, ex, rfl, -⟩ := str_inv hkey
      obtain ⟨h, hh⟩ : ∃ h, c = some h ∧ Sf.look d s = some h := by
        have hhas : has d (Sf.key s) = true := has_true_of_atKey hat
        obtain ⟨y, h1, h2⟩ := Sf.look_has hf hhas
        have hyd : yd = Sf.hd y := (hat (Sf.hd 0)).symm.trans (h2 _)
        rcases ptrE_inv hv with ⟨z, e1, e2⟩ | ⟨e1, e2⟩
        · have e3 : yd = Sf.hd z := congrArg Prod.fst e2
          have e4 : z = y := by
            have := Sf.hOf_hd z
            rw [← e3, hyd, Sf.hOf_hd] at this
            exact (Option.some.inj this).symm
          subst e4
          refine ⟨z, ?_, h1⟩
          cases c with
          | none => cases e1
          | some q => simp only [ptrV, Option.map_some] at e1; cases e1; rfl
        · have e3 : yd = Sf.nilD := congrArg Prod.fst e2
          rw [hyd] at e3
          cases e3
      obtain ⟨rfl, hlook⟩ := hh
      have hJ2 : J ss w2 := hJ _ wr w2 (some W.heap.size) hJs hg2 (fun r e => by
        cases e
        obtain ⟨o, ho, hw⟩ := hrg.iter_walk
        exact ⟨Nat.le_refl _, o, ho, Obj.not_cells_of_walk hw⟩)
      obtain ⟨fn, tmps, assign, body, hy, hR⟩ := hY ss s.data.toList w2 hJ2 ⟨by omega, has_true_of_atKey hat⟩
      have e5 : valEnc d s.data.toList = #[ptrV (some h)] := by
        show #[ptrV (Sf.look d s)] = _
        rw [hlook]
      rw [e5] at hy
      have HC2 : Hid (Collected d (fun z => left z && !z.sameKey (.string s.data.toList)) (ss ++ [s.data.toList])) := Lib.hid (hC.step hlk hat)
      clear hs2
      gi_wp2
      refine hR.mono ?_
      rintro e W3 ⟨rfl, hJ3, hk3⟩
      gi_wp2
      have hrg3 := hrg2.of_walks hk3.1
      go_roundw
      case rel => exact ⟨_, cnt2, _, hrg3, by simp; omega, HC2.out, hJ3⟩
      case measure => rw [hrg3.left_eq, hrg.left_eq]; exact hlt
end Go.Proofs.Ytgpmomjdjakklaa
