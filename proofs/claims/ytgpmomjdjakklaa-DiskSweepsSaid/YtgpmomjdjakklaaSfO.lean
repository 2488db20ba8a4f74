/-
  The same files, in a map of their own.
-/
import Derived.Test.YtgpmomjdjakklaaSfN
namespace Go.Proofs.Ytgpmomjdjakklaa
open Go.RowKit Go.Maps
theorem run_makeMap_room {P : Program} {t k e : TypeId} (ht : P.underlying t = some (.map k e)) (a : Int) (w : World) : (Instr.makeMap t (some (.int .i64 a))).run P w = .ok (.map (some w.heap.size)) (w.alloc (.map #[] 0)) := by
  simp [Instr.makeMap, run_underlying ht, asInt, asIntOf, Result.andThen]
theorem ptrV_inv {v : Value} {z : DataW Unit × List MemPlace} (h : ptrE v = some z) : ∃ c, v = ptrV c := by
  rcases ptrE_inv h with ⟨x, rfl, -⟩ | ⟨rfl, -⟩
  · exact ⟨some x, rfl⟩
  · exact ⟨none, rfl⟩
theorem str_inv {key : Value} {kl : Lit} (h : keyOf Try.prog 9 key = some kl) : ∃ s : ByteArray, key = .string s ∧ kl = Sf.key s ∧ s.size ≤ maxLen := by
  obtain ⟨s, e1, e2, e3⟩ := Go.WideMaps.string_of_keyOf Try.underlying9 h
  exact ⟨s, e1, e2, e3⟩
set_option maxRecDepth 100000 in
set_option maxHeartbeats 1000000 in
theorem anew_any (b : Nat) (d : Sf.D) (w : World) (hown0 : NamesAt w b d) (hz : Go.Maps.size d ≤ 1000) :
    Calls Try.prog 36 #[.map (some b)] w fun e w' => e = .returned (.map (some w.heap.size)) ∧ NamesAt w' w.heap.size d ∧ Below w.heap.size w w' := by
  have hown := NamesAt.exact hown0
  have hlen := fun ty => hown.len Try.underlying47 ty
  have hmm := fun (a : Int) U => run_makeMap_room (P := Try.prog) Try.underlying47 a U
  have hbl := hown.lt
  have e1 : (w.alloc (.map #[] 0)).heap.size = w.heap.size + 1 := by simp
  clear hown0
  go_enter Try.func36, Try.ntmps36
  go_wp2_with (first
    | (at_range; refine wpList_range_own _ rfl _ 47 rfl 9 60 law Try.underlying47 _ b _ _ rfl (hown.alloc _) ?_; intro w0 hrg0 hg0 hs0)
    | go_in)
  go_frame
  rw [e1] at hrg0 hs0 ⊢
  go_loopw [4, 5] (fun _ _ wr => ∃ (left : Lit → Bool) (cnt : Nat) (Dout : Sf.D), wr.ranges Try.prog 9 ptrE b (w.heap.size + 1) (Go.Maps.size d) d left cnt ∧ cnt ≤ Go.Maps.size d ∧
      wr.ownsMap Try.prog 9 ptrE w.heap.size (Go.Maps.size d - cnt) Dout ∧ Agree Dout d left ∧ Below w.heap.size w wr)
    (fun _ _ wr => wr.rangeLeft b (w.heap.size + 1))
  case atStart =>
    exact ⟨_, _, .map [], hrg0, Nat.le_refl _, ((World.ownsMap_made _ _ _ _).kept hg0 (by simp)).mono (Nat.zero_le _), agree_start d, ((Below.refl _ _).alloc (Nat.le_refl _) _).grown hg0 (by simp) (fun j hj => by cases hj)⟩
  case round =>
    obtain ⟨left, cnt, Dout, hrg, hcs, hout, hA, hnx⟩ := hrel
    go_wp2_with (first
      | (at_next; refine wpList_next_ranges _ rfl _ rfl 9 law ptrE Value.string ptrV (fun key kl hk => by obtain ⟨s, e, -⟩ := str_inv hk; exact ⟨s, e⟩) (fun v y hv => ptrV_inv hv) b (w.heap.size + 1) _ _ _ _ rfl hrg ?_ ?_)
      | go_in)
    · intro hc0 hl0
      go_wp2
      go_ret
      subst hc0
      have e := agree_end hA hl0 (hout.canon law) (hown.canon law)
      subst e
      exact ⟨rfl, hout.mono (by omega), hnx⟩
    · intro x c kl yd yp w1 cnt1 hkey hlx hv hat hrg1 hlt hg1 hs1 hen
      have hout1 := hout.kept hg1 (by simp)
      clear hs1
      go_wp2_with (first
        | (at_mapUpdate; refine wpList_mapUpdate_own _ rfl _ _ _ 47 rfl 9 60 law Try.underlying47 _ w.heap.size _ _ rfl hout1 (by unfold maxLen; omega) _ _ _ rfl rfl hkey _ _ hv ?_; intro w2 hout2 hg2; go_frame)
        | go_in)
      have hrg2 := hrg1.kept hg2 (fun e => absurd (Option.some.inj e) (Nat.ne_of_lt hbl)) (fun e => absurd (Option.some.inj e) (Nat.succ_ne_self _))
      go_roundw
      case rel =>
        exact ⟨_, cnt1, _, hrg2, by omega, hout2.mono (by omega), agree_step hA hout.isMap (by obtain ⟨s, -, rfl, -⟩ := str_inv hkey; exact Sf.key_lit s) hat,
          (hnx.grown hg1 hnx.size (fun j hj => by cases hj; exact Nat.le_succ _)).grown hg2 (Nat.le_trans hnx.size hg1.size) (fun j hj => by cases hj; exact Nat.le_refl _)⟩
      case measure => rw [hrg2.left_eq, hrg.left_eq]; exact hlt
end Go.Proofs.Ytgpmomjdjakklaa
