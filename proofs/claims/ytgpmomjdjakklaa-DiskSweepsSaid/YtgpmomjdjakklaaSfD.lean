/-
  The names of a machine, sorted; what is read of a file.
-/
import Derived.Test.YtgpmomjdjakklaaSfC
import Derived.Test.YtgpmomjdjakklaaIter
namespace Go.Proofs.Ytgpmomjdjakklaa
open Go.RowKit Go.Sort
/-- all names, sorted -/
def Sf.list (d : Sf.D) : List (List UInt8) := (strKeys d).mergeSort leB
theorem Sf.list_length (d : Sf.D) : (Sf.list d).length = Go.Maps.size d := by
  unfold Sf.list
  rw [List.length_mergeSort]
  cases d <;> simp [strKeys, Go.Maps.size]
set_option maxHeartbeats 1000000 in
set_option maxRecDepth 100000 in
theorem sorted_any (b : Nat) (d : Sf.D) (w : World) (hown : NamesAt w b d) (hz : Go.Maps.size d ≤ 1000) :
    Calls Try.prog 38 #[.map (some b)] w fun e w' => ∃ v, e = .returned v ∧ w'.ownsRow w.heap.size 9 1 v (Sf.list d).length ((Sf.list d).map encStr) ∧ Below w.heap.size w w' := by
  have hmax : Go.Maps.size d ≤ maxLen := by unfold maxLen; omega
  have hbytes : Go.Maps.size d * 16 ≤ 140737488355328 := by omega
  refine (callsIn_wide (n := 6)).1 ?_
  have hfK : Fence.wide.fn 55 := trivial
  have hfS : Fence.wide.fn 54 := trivial
  refine callsIn_of_wp Try.func38 rfl trivial ?_ rfl
  simp only [Try.ntmps38, List.size_toArray, List.length_cons, List.length_nil, Nat.reduceAdd, Nat.reduceSub, Array.replicate_succ, Array.replicate_zero, List.push_toArray, List.append_toArray, List.nil_append, List.cons_append]
  gi_wp2_with (first
    | (gi_at_call 55; refine (Try.maps_Keys_55 _ _).mono ?_; rintro e w' ⟨rfl, rfl⟩)
    | (gi_at_call 54; refine (Try.slices_Sorted_keys_54_55 b _ d ptrE w hown hmax hbytes).mono ?_; rintro e w' ⟨v, ss, rfl, hS, hrow, hnil, hb⟩))
  go_ret
  have e : ss.mergeSort (fun x y => decide (x ≤ y)) = Sf.list d := mergeSort_of_perm hS
  rw [e] at hrow
  have hl : ss.length = (Sf.list d).length := by rw [← e, List.length_mergeSort]
  rw [hl] at hrow
  exact ⟨v, rfl, ownsRow_base_a hrow (by simp), ((Below.refl _ w).alloc (Nat.le_refl _) _).trans (hb.mono (by simp))⟩
set_option maxRecDepth 100000 in
theorem List_any {w : World} {base fb : Nat} {S : Sf.St} (h : FsAt w base fb S) (hn : Sf.Nice S.names) :
    Calls Try.prog 18 #[.pointer (some ⟨fb, 0, none⟩)] w fun e w' => ∃ v, e = .returned v ∧ w'.ownsRow w.heap.size 9 1 v (Sf.list S.names).length ((Sf.list S.names).map encStr) ∧ Below w.heap.size w w' := by
  obtain ⟨mb, sb, cv, cvs, h⟩ := h
  have c0 : w.cell? ⟨fb, 0, none⟩ = some (.map (some mb)) := cell_of_row _ _ _ _ _ _ h.blk
  have HS := Lib.hid (sorted_any mb S.names w h.nam (Nat.le_trans hn.few (by decide)))
  clear h hn
  go_enter Try.func18, Try.ntmps18
  go_wp2_with fail
  refine HS.out.mono ?_; rintro e w1 ⟨v, rfl, hrow, hb⟩
  go_wp2_with fail
  go_ret
  exact ⟨v, rfl, hrow, hb⟩
/-- what is read of a file -/
def Sf.St.read (S : Sf.St) (s : ByteArray) : ByteArray × Int := match S.find s with
  | (some h, _) => ((S.F h).bytes, 0)
  | (none, e) => (⟨#[]⟩, e)
theorem Sf.find_cases (S : Sf.St) (s : ByteArray) : (∃ x, S.find s = (some x, 0) ∧ S.dead = false ∧ Sf.look S.names s = some x) ∨ (S.find s = (none, 11) ∧ S.dead = false ∧ Sf.look S.names s = none) ∨ (S.find s = (none, 13) ∧ S.dead = true) := by
  unfold Sf.St.find
  cases hd : S.dead
  · cases hl : Sf.look S.names s with
    | none => exact .inr (.inl ⟨rfl, rfl, rfl⟩)
    | some x => exact .inl ⟨x, rfl, rfl, rfl⟩
  · exact .inr (.inr ⟨rfl, rfl⟩)
set_option maxRecDepth 100000 in
theorem Read_any {w : World} {base fb B N : Nat} {S : Sf.St} (h : FsAt w base fb S) (hok : Sf.StOk B N S) (s : ByteArray) (hs : s.size ≤ maxLen) :
    Calls Try.prog 14 #[.pointer (some ⟨fb, 0, none⟩), .string s] w fun e w' => e = .returned (.tuple #[.string (S.read s).1, .int .i64 (S.read s).2]) ∧ Below w.heap.size w w' := by
  have HFI := Lib.hid (find_any h hok.nice s hs)
  rcases Sf.find_cases S s with ⟨x, e, -, hl⟩ | ⟨e, -⟩ | ⟨e, -⟩
  · have er : S.read s = ((S.F x).bytes, 0) := by unfold Sf.St.read; rw [e]
    rw [er]
    simp only [e, ptrV, Option.map_some] at HFI
    obtain ⟨mb, sb, cv, cvs, h⟩ := h
    have x0 : w.cell? ⟨x, 0, none⟩ = some (.string (S.F x).bytes) := cell_of_row _ _ _ _ _ _ (h.fil x (hok.lives hl)).blk
    clear h hok e er hl
    go_enter Try.func14, Try.ntmps14
    go_wp2_with fail
    refine HFI.out.mono ?_; rintro e w1 ⟨rfl, rfl⟩
    go_wp2_with fail
    go_ret2
    exact ⟨rfl, Below.refl _ _⟩
  all_goals
    have er : S.read s = (⟨#[]⟩, (S.find s).2) := by unfold Sf.St.read; rw [e]
    rw [er]
    rw [e]
    simp only [e, ptrV, Option.map_none] at HFI
    clear h hok e er
    go_enter Try.func14, Try.ntmps14
    go_wp2_with fail
    refine HFI.out.mono ?_; rintro e w1 ⟨rfl, rfl⟩
    go_wp2_with fail
    go_ret2
    exact ⟨rfl, Below.refl _ _⟩
end Go.Proofs.Ytgpmomjdjakklaa
