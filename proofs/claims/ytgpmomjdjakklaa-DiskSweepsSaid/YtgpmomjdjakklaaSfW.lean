/-
  New.
-/
import Derived.Test.YtgpmomjdjakklaaSfV
namespace Go.Proofs.Ytgpmomjdjakklaa
open Go.RowKit Go.Maps
def Sf.St.new (room : Int) : Sf.St := { names := .map [], synced := .map [], chg := [], room := max room 0, steps := 0, fuse := -1, dead := false, F := fun _ => Sf.file0 }
theorem run_makeMap_none {P : Program} {t : TypeId} (w : World) : (Instr.makeMap t none).run P w = .ok (.map (some w.heap.size)) (w.alloc (.map #[] 0)) := by
  simp [Instr.makeMap, Result.andThen]
theorem Sf.look_empty (s : ByteArray) : Sf.look (.map []) s = none := Sf.look_of_not rfl
theorem Sf.nice_empty : Sf.Nice (.map []) :=
  ⟨tidy_empty, (fun k h => by cases h), (fun s t x h => by rw [Sf.look_empty] at h; cases h), (by decide), (fun s h => by cases h)⟩
theorem Sf.new_ok (B N : Nat) (room : Int) (hr : room ≤ 9223372036854775807) : Sf.StOk B N (Sf.St.new room) :=
  ⟨rfl, Sf.nice_empty, (fun x hx => by
    rcases hx with ⟨s, hs⟩ | ⟨c, hc, -⟩
    · rw [show (Sf.St.new room).synced = .map [] from rfl, Sf.look_empty] at hs; cases hs
    · cases hc), Nat.zero_le _, Int.le_refl _, (by show (-1 : Int) ≤ 1073741824; decide), Int.le_refl _, (by show (0 : Int) ≤ (N : Int); omega), (by show 0 ≤ max room 0; omega), (by show max room 0 ≤ _; omega)⟩
set_option maxRecDepth 100000 in
theorem New_any (room : Int) (w : World) :
    Calls Try.prog 9 #[.int .i64 room] w fun e w' => ∃ fb, e = .returned (.pointer (some ⟨fb, 0, none⟩)) ∧ FsAt w' w.heap.size fb (Sf.St.new room) ∧ Below w.heap.size w w' := by
  have HFIN : Hid (∀ w' : World, w' = ((w.alloc (.map #[] 0)).alloc (.map #[] 0)).alloc (.cells #[.map (some w.heap.size), .map (some (w.heap.size + 1)), .slice none 0 0, .int .i64 (max room 0), .int .i64 0, .int .i64 (-1), .bool false] 50) → FsAt w' w.heap.size (w.heap.size + 2) (Sf.St.new room) ∧ Below w.heap.size w w') := Lib.hid (fun w' e => by
    subst e
    have b1 : Below w.heap.size w (w.alloc (.map #[] 0)) := (Below.refl _ _).alloc (Nat.le_refl _) _
    have z1 : (w.alloc (.map #[] 0)).heap.size = w.heap.size + 1 := by simp
    generalize hw1 : w.alloc (.map #[] 0) = w1 at *
    have n1 : NamesAt w1 w.heap.size (.map []) := by rw [← hw1]; exact (World.ownsMap_made _ _ _ _).mono (Nat.zero_le _)
    have b2 : Below w1.heap.size w1 (w1.alloc (.map #[] 0)) := (Below.refl _ _).alloc (Nat.le_refl _) _
    have n2 : NamesAt (w1.alloc (.map #[] 0)) (w.heap.size + 1) (.map []) := by rw [← z1]; exact (World.ownsMap_made _ _ _ _).mono (Nat.zero_le _)
    have z2 : (w1.alloc (.map #[] 0)).heap.size = w.heap.size + 2 := by simp [z1]
    generalize w1.alloc (.map #[] 0) = w2 at *
    have b3 := fun o : Obj => (Below.refl w2.heap.size w2).alloc (Nat.le_refl _) o
    have hb := heap_alloc_new w2 (.cells #[.map (some w.heap.size), .map (some (w.heap.size + 1)), .slice none 0 0, .int .i64 (max room 0), .int .i64 0, .int .i64 (-1), .bool false] 50)
    rw [z2] at hb
    refine ⟨⟨w.heap.size, w.heap.size + 1, .slice none 0 0, fun _ => .slice none 0 0, ⟨by omega, Nat.le_refl _, by omega, by omega, hb, (n1.later b2).later (b3 _), n2.later (b3 _), World.ownsRow_nil _ _ _ _, ?_, ?_⟩⟩, below_step b1 (below_step b2 (b3 _))⟩
    · rintro x (⟨s, hs⟩ | ⟨c, hc, -⟩)
      · rw [show (Sf.St.new room).synced = .map [] from rfl, Sf.look_empty] at hs; cases hs
      · cases hc
    · intro x y _ _ _ r hr
      cases hr)
  have hmm := fun U => run_makeMap_none (P := Try.prog) (t := 47) U
  go_enter Try.func9, Try.ntmps9
  go_wp2_with fail
  go_ret
  exact ⟨_, rfl, HFIN.out _ rfl⟩
end Go.Proofs.Ytgpmomjdjakklaa
