/-
  A file is another one.
-/
import Derived.Test.YtgpmomjdjakklaaSfI
import Derived.Maps.AppendAt
namespace Go.Proofs.Ytgpmomjdjakklaa
open Go.RowKit
/-- a row behind a row of the call's own: where it lies, too -/
theorem wp_append_row_at {o : Oper} {a : Act} {K : Act → World → Prop} {Q : Exit → Act → World → Prop} (w : World) (s y : Operand) (T E : TypeId)
    (ho : o.op = .call { callee := .builtin .append, args := #[s, y], argTypes := #[T, T] })
    (k by_ : Nat) (z : Value) (ht : Try.prog.underlying T = some (.slice E)) (hinfo : (Try.prog.info? E).map (fun i => (i.zero, i.size, i.bytes)) = some (some z, k, by_)) (hzs : z.cells.size = k) (hk : 0 < k) (hby : by_ ≤ 1000)
    (base : Nat) (v : Value) (n0 : Nat) (xs : List Value) (hs : a.eval s = v) (hown : w.ownsRow base E k v n0 xs)
    (ad : Addr) (n c : Nat) (x : Nat → Nat → Value) (hx1 : ∀ i j, (x i j).oneCell' = true) (hy : a.eval y = .slice (some ad) n c) (hA : Row k x w (some ad) n) (hsz : n0 + n ≤ 1000000) (hbase : base ≤ w.heap.size)
    (h : ∀ v' w', w'.ownsRow base E k v' (n0 + n) (xs ++ rcells k x n) → w.grownBy w' v.ownBlock → (v'.ownBlock = v.ownBlock ∨ v'.ownBlock = some w.heap.size) → K (a.put o.dst v') w') : o.wp Try.prog a w K Q := by
  obtain ⟨i0, hi0, hz0, hz1, hz2⟩ := info_parts hinfo
  have hb2 : (n0 + n) * by_ ≤ 1000000 * 1000 := Nat.mul_le_mul hsz hby
  obtain ⟨v', w', hr, h2, h3, -, h5⟩ := run_append_own_at (P := Try.prog) w base T o.type E i0 z k by_ ht hi0 hz0 hz1 hz2 hzs hk v n0 xs hown ad n c (rcells k x n) (rcells_length k x n) (hA.cells hk) (rcells_one hx1 n) (by unfold maxLen; omega) (by omega) hbase
  unfold Oper.wp execOp
  simp only [ho, resolve, invoke, builtin, Sem.run_bind, Sem.run_pure, Result.andThen_ok, List.map_toArray, List.map_cons, List.map_nil, hs, hy, hr]
  exact h v' w' h2 h3 h5
theorem wpList_append_row_at {ops : Array Oper} {rest : List Oper} {o : Oper} {a : Act} {Q : Exit → Act → World → Prop} (w : World) (hgd : o.guard = none) (s y : Operand) (T E : TypeId)
    (ho : o.op = .call { callee := .builtin .append, args := #[s, y], argTypes := #[T, T] })
    (k by_ : Nat) (z : Value) (ht : Try.prog.underlying T = some (.slice E)) (hinfo : (Try.prog.info? E).map (fun i => (i.zero, i.size, i.bytes)) = some (some z, k, by_)) (hzs : z.cells.size = k) (hk : 0 < k) (hby : by_ ≤ 1000)
    (base : Nat) (v : Value) (n0 : Nat) (xs : List Value) (hs : a.eval s = v) (hown : w.ownsRow base E k v n0 xs)
    (ad : Addr) (n c : Nat) (x : Nat → Nat → Value) (hx1 : ∀ i j, (x i j).oneCell' = true) (hy : a.eval y = .slice (some ad) n c) (hA : Row k x w (some ad) n) (hsz : n0 + n ≤ 1000000) (hbase : base ≤ w.heap.size)
    (h : ∀ v' w', w'.ownsRow base E k v' (n0 + n) (xs ++ rcells k x n) → w.grownBy w' v.ownBlock → (v'.ownBlock = v.ownBlock ∨ v'.ownBlock = some w.heap.size) → wpList Try.prog ops Q rest (a.put o.dst v') w') : wpList Try.prog ops Q (o :: rest) a w :=
  wpList_plain hgd fun _ hK => wp_append_row_at w s y T E ho k by_ z ht hinfo hzs hk hby base v n0 xs hs hown ad n c x hx1 hy hA hsz hbase (fun v' w' h1 h2 h3 => hK _ _ (h v' w' h1 h2 h3))
theorem file_other {S : Sf.St} {h k : Nat} {x : Sf.File} (hk : k ≠ h) : (S.file h x).F k = S.F k := if_neg hk
theorem file_same {S : Sf.St} {h : Nat} {x : Sf.File} : (S.file h x).F h = x := if_pos rfl
/-- a file's block is turned, its changes are as they were -/
theorem FsIn.refile {w w2 : World} {base fb : Nat} {S : Sf.St} {L : Nat → Prop} {mb sb : Nat} {cv : Value} {cvs : Nat → Value} (h : FsIn w base fb S L mb sb cv cvs) {x : Nat} (hx : L x) (hg : w.grownBy w2 (some x)) (y : Sf.File) (hc : y.chg = (S.F x).chg)
    (hb : w2.heap[x]? = some (.cells #[.string y.bytes, .string y.synced, cvs x] 66 (0, 0))) : FsIn w2 base fb (S.file x y) L mb sb cv cvs := by
  have hbx := (h.fil x hx).blk
  refine ⟨h.lo, h.lom, h.los, h.ne, grown_keep h.blk hg ?_, h.nam.kept hg (fun e => by cases e; exact names_ne h.nam hbx rfl), h.syn.kept hg (fun e => by cases e; exact names_ne h.syn hbx rfl), row_kept h.row hg (fun r e => by cases e; exact own_ne h.row hbx (by decide)), fun k hk => ?_, h.apart⟩
  · rintro rfl
    rw [h.blk] at hbx
    injection hbx with hbx
    injection hbx with _ hbx
    exact absurd hbx (by decide)
  · by_cases e : k = x
    · subst e
      rw [file_same]
      refine ⟨(h.fil k hk).lo, hb, ?_⟩
      rw [hc]
      exact row_kept (h.fil k hk).row hg (fun r e => by cases e; exact own_ne (h.fil k hk).row hbx (by decide))
    · rw [file_other e]
      exact (h.fil k hk).other hg e (own_ne (h.fil k hk).row hbx (by decide))
/-- a change of a file is told -/
theorem FsIn.filePushed {w w2 : World} {base fb : Nat} {S : Sf.St} {L : Nat → Prop} {mb sb : Nat} {cv : Value} {cvs : Nat → Value} (h : FsIn w base fb S L mb sb cv cvs) {x : Nat} (hx : L x) (hg : w.grownBy w2 (cvs x).ownBlock) (c : Sf.Wr) (cv2 : Value)
    (hr : w2.ownsRow base 88 1 cv2 ((S.F x).chg ++ [c]).length (rcells 1 (wx ((S.F x).chg ++ [c])) ((S.F x).chg ++ [c]).length)) (hl : cv2.ownBlock = (cvs x).ownBlock ∨ cv2.ownBlock = some w.heap.size) :
    FsIn (w2.setCell ⟨x, 2, none⟩ cv2) base fb (S.file x ⟨(S.F x).bytes, (S.F x).synced, (S.F x).chg ++ [c]⟩) L mb sb cv (fun k => if k = x then cv2 else cvs k) := by
  have hfx := h.fil x hx
  have hs := grown_setCell w2 x 2 cv2
  have hbx : w2.heap[x]? = some (.cells #[.string (S.F x).bytes, .string (S.F x).synced, cvs x] 66 (0, 0)) := (hg.block x (Array.getElem?_eq_some_iff.1 hfx.blk).1 (fun e => own_ne hfx.row hfx.blk (by decide) e.symm)).trans hfx.blk
  have hblk : w2.heap[fb]? = some (.cells #[.map (some mb), .map (some sb), cv, .int .i64 S.room, .int .i64 S.steps, .int .i64 S.fuse, .bool S.dead] 50 (0, 0)) := (hg.block fb (Array.getElem?_eq_some_iff.1 h.blk).1 (fun e => own_ne hfx.row h.blk (by decide) e.symm)).trans h.blk
  have hnam : NamesAt w2 mb S.names := h.nam.kept hg (fun e => own_ne_map hfx.row h.nam e.symm)
  have hsyn : NamesAt w2 sb S.synced := h.syn.kept hg (fun e => own_ne_map hfx.row h.syn e.symm)
  have hrow := row_kept h.row hg (fun r e => row_apart h.row hfx.row (by decide) e)
  refine ⟨h.lo, h.lom, h.los, h.ne, grown_keep hblk hs ?_, hnam.kept hs (fun e => by cases e; exact names_ne hnam hbx rfl), hsyn.kept hs (fun e => by cases e; exact names_ne hsyn hbx rfl), row_kept hrow hs (fun r e => by cases e; exact own_ne hrow hbx (by decide)), fun k hk => ?_, ?_⟩
  · rintro rfl
    rw [hblk] at hbx
    injection hbx with hbx
    injection hbx with _ hbx
    exact absurd hbx (by decide)
  · by_cases e : k = x
    · subst e
      rw [file_same, if_pos rfl]
      exact ⟨hfx.lo, heap_setCell_same _ k 2 _ _ cv2 hbx, row_kept hr hs (fun r e => by cases e; exact own_ne hr hbx (by decide))⟩
    · rw [file_other e, if_neg e]
      have hfk := h.fil k hk
      have hbk : w2.heap[k]? = some (.cells #[.string (S.F k).bytes, .string (S.F k).synced, cvs k] 66 (0, 0)) := (hg.block k (Array.getElem?_eq_some_iff.1 hfk.blk).1 (fun e => own_ne hfx.row hfk.blk (by decide) e.symm)).trans hfk.blk
      have hrk := row_kept hfk.row hg (fun r e2 => by
        intro e3
        exact h.apart x k hx hk (fun e4 => e e4.symm) r (e2.symm ▸ rfl) e3)
      exact ⟨hfk.lo, grown_keep hbk hs e, row_kept hrk hs (fun r e => by cases e; exact own_ne hrk hbx (by decide))⟩
  · intro a b ha hb hab r hr2
    have hr2 : (if a = x then cv2 else cvs a).ownBlock = some r := hr2
    show (if b = x then cv2 else cvs b).ownBlock ≠ some r
    have hlt : ∀ k, L k → ∀ q, (cvs k).ownBlock = some q → q < w.heap.size := fun k hk q hq => ((h.fil k hk).row.lt q hq).2
    split
    · rename_i e
      rw [if_neg (fun e2 => hab (e2.trans e.symm))] at hr2
      intro e3
      rcases hl with h1 | h1
      · rw [h1] at e3
        exact h.apart a x ha hx (fun e2 => hab (e2.trans e.symm)) r hr2 e3
      · rw [h1] at e3
        cases e3
        exact absurd (hlt a ha _ hr2) (by omega)
    · rename_i e
      split at hr2
      · rename_i e2
        intro e3
        rcases hl with h1 | h1
        · rw [h1] at hr2
          exact h.apart x b hx hb (fun e4 => e e4.symm) r hr2 e3
        · rw [h1] at hr2
          cases hr2
          exact absurd (hlt b hb _ e3) (by omega)
      · exact h.apart a b ha hb hab r hr2
end Go.Proofs.Ytgpmomjdjakklaa
