/-
  What a machine has, by its names; what saving, crashes, and sweeps make of it.
-/
import Derived.Test.YtgpmomjdjakklaaDkM
namespace Go.Proofs.Ytgpmomjdjakklaa
open Go.RowKit Go.Maps
namespace Sf
theorem StOk.append2 {B N : Nat} {S : St} (h : StOk B N S) (s b : ByteArray) (hb : ∀ x, look S.names s = some x → (S.F x).bytes.size + b.size ≤ B) : StOk B (N + 1) (S.append s b).1 := by
  have h1 := h.mono (Nat.le_refl B) (Nat.le_succ N)
  unfold St.append
  split
  · exact h1
  · split
    · exact h1
    · rename_i x hx
      split
      · exact h1
      · exact h.fileDo ((h.file x (h.lives hx)).change (hb x hx))
theorem create_inv {B N : Nat} {S : St} (hok : StOk B N S) {s : ByteArray} {y : Nat} (h : (S.create s y).2 = 0) : look (S.create s y).1.names s = some y ∧ (S.create s y).1.F y = file0 := by
  unfold St.create at h ⊢
  split at h
  · cases h
  rename_i h1
  rw [if_neg h1]
  split at h
  · cases h
  rename_i h2
  rw [if_neg h2]
  split at h
  · cases h
  rename_i h3
  rw [if_neg h3]
  split at h
  · cases h
  rename_i h4
  rw [if_neg h4]
  unfold St.nameDo at h ⊢
  split at h
  · cases h
  rename_i h5
  rw [if_neg h5]
  exact ⟨look_put_same hok.nice.tidy.isMap s y, if_pos rfl⟩
/-- where one errs, all behind it are as it -/
theorem StOk.save {B N : Nat} {S : St} (h : StOk B N S) (n b : ByteArray) {y : Nat} (hb : b.size ≤ B) (hy : (sv1 S (tmp n)).2 = 0 → ¬ live (sv1 S (tmp n)).1.synced (sv1 S (tmp n)).1.chg y) : StOk B (N + 7) (S.save n b y).1 := by
  obtain ⟨t, ht⟩ : ∃ t, t = tmp n := ⟨_, rfl⟩
  rw [← ht] at hy
  have k1 : StOk B (N + 1) (sv1 S t).1 := by
    unfold sv1
    split
    · exact h.remove t
    · exact h.mono (Nat.le_refl _) (Nat.le_succ _)
  have k2 : StOk B (N + 2) (sv2 S t y).1 ∧ ((sv2 S t y).2 = 0 → look (sv2 S t y).1.names t = some y ∧ (sv2 S t y).1.F y = file0) := by
    by_cases e : (sv1 S t).2 = 0
    · have e2 : sv2 S t y = (sv1 S t).1.create t y := bd_ok e
      rw [e2]
      exact ⟨k1.create t (hy e), fun h0 => create_inv k1 h0⟩
    · have e2 : sv2 S t y = sv1 S t := bd_no e
      rw [e2]
      exact ⟨k1.mono (Nat.le_refl _) (Nat.le_succ _), fun h0 => absurd h0 e⟩
  have k3 : StOk B (N + 3) (sv3 S t y b).1 := by
    by_cases e : (sv2 S t y).2 = 0
    · have e2 : sv3 S t y b = (sv2 S t y).1.append t b := bd_ok e
      rw [e2]
      refine k2.1.append2 t b fun x hx => ?_
      obtain ⟨g1, g2⟩ := k2.2 e
      rw [g1] at hx
      cases hx
      rw [g2]
      show 0 + b.size ≤ B
      omega
    · have e2 : sv3 S t y b = sv2 S t y := bd_no e
      rw [e2]
      exact k2.1.mono (Nat.le_refl _) (Nat.le_succ _)
  have k4 : StOk B (N + 4) (sv4 S t y b).1 := by
    by_cases e : (sv3 S t y b).2 = 0
    · rw [show sv4 S t y b = (sv3 S t y b).1.sync t from bd_ok e]
      exact k3.sync t
    · rw [show sv4 S t y b = sv3 S t y b from bd_no e]
      exact k3.mono (Nat.le_refl _) (Nat.le_succ _)
  have k5 : StOk B (N + 5) (sv5 S t y b n).1 := by
    by_cases e : (sv4 S t y b).2 = 0
    · rw [show sv5 S t y b n = (sv4 S t y b).1.rename t n from bd_ok e]
      exact k4.rename t n
    · rw [show sv5 S t y b n = sv4 S t y b from bd_no e]
      exact k4.mono (Nat.le_refl _) (Nat.le_succ _)
  have k6 : StOk B (N + 6) (sv6 S t y b n).1 := by
    by_cases e : (sv5 S t y b n).2 = 0
    · rw [show sv6 S t y b n = (sv5 S t y b n).1.dirDo from bd_ok e]
      exact k5.dirDo
    · rw [show sv6 S t y b n = sv5 S t y b n from bd_no e]
      exact k5.mono (Nat.le_refl _) (Nat.le_succ _)
  unfold St.save
  rw [← ht]
  unfold St.undo
  show StOk B (N + 7) (if _ then _ else _)
  split
  · exact k6.remove t
  · exact k6.mono (Nat.le_refl _) (Nat.le_succ _)
/-- what a name has -/
def cont (S : St) (s : ByteArray) : Option ByteArray := (look S.names s).map fun x => (S.F x).bytes
theorem cont_some {S : St} {s b : ByteArray} (h : cont S s = some b) : ∃ x, look S.names s = some x ∧ (S.F x).bytes = b := by
  unfold cont at h
  cases hl : look S.names s with
  | none => rw [hl] at h; cases h
  | some x => rw [hl] at h; exact ⟨x, rfl, Option.some.inj h⟩
theorem cont_none {S : St} {s : ByteArray} (h : cont S s = none) : look S.names s = none := by
  unfold cont at h
  cases hl : look S.names s with
  | none => rfl
  | some x => rw [hl] at h; cases h
theorem cont_is (S : St) (s : ByteArray) : (cont S s).isSome = (look S.names s).isSome := by
  unfold cont
  cases look S.names s <;> rfl
theorem cont_of {S : St} {s : ByteArray} {x : Nat} (h : look S.names s = some x) : cont S s = some (S.F x).bytes := by
  unfold cont
  rw [h]; rfl
theorem cont_of_none {S : St} {s : ByteArray} (h : look S.names s = none) : cont S s = none := by
  unfold cont
  rw [h]; rfl
theorem read_some {S : St} (hd : S.dead = false) {s b : ByteArray} (h : cont S s = some b) : S.read s = (b, 0) := by
  obtain ⟨x, hx, e⟩ := cont_some h
  rw [read_of hd hx, e]
theorem read_none {S : St} (hd : S.dead = false) {s : ByteArray} (h : cont S s = none) : S.read s = (⟨#[]⟩, 11) := read_no hd (cont_none h)
/-- a machine on which all is synced -/
structure Has (S : St) (g : ByteArray → Option ByteArray) : Prop where
  dead : S.dead = false
  chg : S.chg = []
  syn : S.synced = S.names
  at_ : ∀ s, cont S s = g s
  wh : ∀ s x, look S.names s = some x → S.F x = whole (S.F x).bytes
theorem Has.whole {S : St} {g : ByteArray → Option ByteArray} (h : Has S g) : Whole S := ⟨h.chg, h.syn, fun s x hx => ⟨_, h.wh s x hx⟩⟩
theorem Has.new (room : Int) : Has (St.new room) fun _ => none := ⟨rfl, rfl, rfl, fun s => cont_of_none (look_empty s), fun s x hx => by rw [show (St.new room).names = .map [] from rfl, look_empty] at hx; cases hx⟩
theorem Has.crash {S : St} {g : ByteArray → Option ByteArray} (h : Has S g) (k : Keep) : Has (S.crash k) g := by
  obtain ⟨h1, h2⟩ := whole_crash h.whole k
  refine ⟨rfl, rfl, rfl, fun s => ?_, fun s x hx => ?_⟩
  · rw [← h.at_ s]
    unfold cont
    rw [h1]
    cases look S.names s with
    | none => rfl
    | some x => show some ((S.crash k).F x).bytes = some (S.F x).bytes; rw [h2]
  · rw [h1] at hx
    rw [h2]
    exact h.wh s x hx
/-- behind any crash all is synced -/
theorem crash_has (T : St) (k : Keep) (hk : KS (T.now k)) : Has (T.crash k) (cont (T.crash k)) := by
  obtain ⟨h1, h2, h3⟩ := crash_whole T k hk
  refine ⟨rfl, h1, h2, fun _ => rfl, fun s x hx => ?_⟩
  obtain ⟨b, hb⟩ := h3 s x hx
  rw [hb]
  rfl
theorem crash_fuse (T : St) (k : Keep) : (T.crash k).fuse = -1 := rfl
/-- fresh, too, of what there was ahead of the first step -/
theorem fresh_of {B N : Nat} {S S1 : St} {t : ByteArray} (hok : StOk B N S) (h1 : At1 S S1 t) {y : Nat} (hy : (sv1 S t).2 = 0 → ¬ live (sv1 S t).1.synced (sv1 S t).1.chg y) : ∀ s, look S.names s ≠ some y := fun s hs => by
  have h2 := hy (by rw [h1.eq])
  rw [h1.eq] at h2
  refine h2 ?_
  obtain ⟨L, hL⟩ := h1.chg
  rcases hok.lives hs with h3 | ⟨c, hc, e⟩
  · exact .inl (by rw [h1.syn]; exact h3)
  · exact .inr ⟨c, by rw [hL]; exact List.mem_append.2 (.inl hc), e⟩
/-- a file has other bytes; the one that is not done is none -/
def putG (g : ByteArray → Option ByteArray) (n b s : ByteArray) : Option ByteArray := if s = n then some b else if s = tmp n then none else g s
theorem Saved.has {S S1 T : St} {n b : ByteArray} {y : Nat} {g : ByteArray → Option ByteArray} (h1 : At1 S S1 (tmp n)) (hS : Has S g) (hy : ∀ s, Sf.look S.names s ≠ some y) (h : Saved S1 T n b y) : Has T (putG g n b) := by
  have hF : ∀ s x, s ≠ n → Sf.look T.names s = some x → x ≠ y ∧ Sf.look S.names s = some x ∧ s ≠ tmp n := fun s x hs hx => by
    rw [h.look, if_neg hs, h1.look] at hx
    split at hx
    · cases hx
    · rename_i hst
      exact ⟨fun e => hy s (by rw [← e]; exact hx), hx, hst⟩
  refine ⟨h.dead, h.chg, h.syn, fun s => ?_, fun s x hx => ?_⟩
  · unfold putG
    by_cases e : s = n
    · rw [if_pos e]
      have hl : Sf.look T.names s = some y := by rw [h.look, if_pos e]
      rw [cont_of hl, h.F]
      rfl
    · rw [if_neg e]
      by_cases e2 : s = tmp n
      · rw [if_pos e2]
        exact cont_of_none (by rw [h.look, if_neg e, h1.look, if_pos e2])
      · rw [if_neg e2, ← hS.at_ s]
        have hl : Sf.look T.names s = Sf.look S.names s := by rw [h.look, if_neg e, h1.look, if_neg e2]
        unfold cont
        rw [hl]
        cases hx : Sf.look S.names s with
        | none => rfl
        | some x =>
          have hxy : x ≠ y := fun e3 => hy s (by rw [← e3]; exact hx)
          show some (T.F x).bytes = some (S.F x).bytes
          rw [h.F' x hxy, h1.F]
  · by_cases e : s = n
    · rw [h.look, if_pos e] at hx
      cases hx
      rw [h.F]
      rfl
    · obtain ⟨hxy, hx2, -⟩ := hF s x e hx
      rw [h.F' x hxy, h1.F]
      exact hS.wh s x hx2
/-- a file is saved, where there is room -/
theorem has_save {B N : Nat} {S : St} {g : ByteArray → Option ByteArray} (hok : StOk B N S) (hk : KS S.names) (h : Has S g) (hf : S.fuse = -1) {n b : ByteArray} (hn1 : isName n = true) (hn2 : n.size ≤ 36) {y : Nat} (hy : (sv1 S (tmp n)).2 = 0 → ¬ live (sv1 S (tmp n)).1.synced (sv1 S (tmp n)).1.chg y) (hz : Go.Maps.size S.names < 64) (hr : (S.total : Int) + (b.size : Int) ≤ S.room) :
    (S.save n b y).2 = 0 ∧ Has (S.save n b y).1 (putG g n b) ∧ (S.save n b y).1.fuse = -1 ∧ (S.save n b y).1.room = S.room ∧ (S.save n b y).1.steps = S.steps + (if (g (tmp n)).isSome = true then 6 else 5) := by
  obtain ⟨S1, h1⟩ := sv1_at hok hk h.dead (tmp n) (.inr (by rw [hf]; decide))
  have hfr := fresh_of hok h1 hy
  rcases save_all h1 hn1 hn2 y hfr hz hr with ⟨a, hs⟩ | ⟨-, hd⟩
  · refine ⟨a, hs.has h1 h hfr, hs.fuse (h1.fuse hf), hs.room.trans h1.room, ?_⟩
    rw [hs.steps, h1.steps, ← h.at_, cont_is]
    split <;> omega
  · exact absurd (h1.fuse hf) hd.fuse
theorem crashTo_one (k : Keep) (d : D) (l : List (List UInt8)) (S : St) {x : Nat} (hw : ∃ b, S.F x = whole b) : ∀ j, (crashTo k d l S j).F x = S.F x
  | 0 => rfl
  | j + 1 => by
    have ih := crashTo_one k d l S hw j
    unfold crashTo
    split
    · rename_i y hy
      show (if x = y then _ else (crashTo k d l S j).F x) = S.F x
      split
      · rename_i e
        subst e
        obtain ⟨b, hb⟩ := hw
        rw [ih, hb, whole_survive]
      · exact ih
    · exact ih
/-- where the machine dies on the way, and crashes, all other files are as they were, and this one is the old one, or the new one -/
theorem died_back {S T : St} {n b : ByteArray} {y : Nat} {g : ByteArray → Option ByteArray} (hS : Has S g) (hn : Nice S.names) (hy : ∀ s, look S.names s ≠ some y) (h : Died S T n b y) (k : Keep) :
    (∀ s, s ≠ n → s ≠ tmp n → cont (T.crash k) s = g s) ∧ (cont (T.crash k) n = g n ∨ cont (T.crash k) n = some b) := by
  have hm := hn.tidy.isMap
  have hnt := tmp_ne n
  have hF : ∀ s x, look S.names s = some x → (T.crash k).F x = S.F x := fun s x hx => by
    have hxy : x ≠ y := fun e => hy s (by rw [← e]; exact hx)
    have e1 := h.F' x hxy
    have e2 : (T.crash k).F x = T.F x := crashTo_one k _ _ T ⟨_, by rw [e1]; exact hS.wh s x hx⟩ _
    rw [e2, e1]
  have hsame : ∀ s, look (T.crash k).names s = look S.names s → cont (T.crash k) s = g s := fun s hl => by
    rw [← hS.at_ s]
    unfold cont
    rw [hl]
    cases hx : look S.names s with
    | none => rfl
    | some x => show some ((T.crash k).F x).bytes = some (S.F x).bytes; rw [hF s x hx]
  have hnow : (T.crash k).names = Sf.names S.names (T.chg.take (share k 0 T.chg.length)) := by
    show Sf.names T.synced _ = _
    rw [h.syn, hS.syn]
  generalize share k 0 T.chg.length = i at hnow
  have hcases : (T.crash k).names = S.names ∨ (T.crash k).names = S.names.put (key (tmp n)) (Sf.hd y) ∨ ((T.crash k).names = ((S.names.put (key (tmp n)) (Sf.hd y)).del (key (tmp n))).put (key n) (Sf.hd y) ∧ T.F y = Sf.whole b) := by
    rcases h.chg with e | e | ⟨e, eF⟩
    · rw [e, hS.chg] at hnow
      left
      rw [hnow]
      simp [Sf.names]
    · rw [e, hS.chg] at hnow
      rcases (show i = 0 ∨ 1 ≤ i by omega) with h0 | h0
      · left; rw [hnow, h0]; rfl
      · right; left
        rw [hnow, List.take_of_length_le (by simp; omega)]
        rfl
    · rw [e, hS.chg] at hnow
      rcases (show i = 0 ∨ i = 1 ∨ 2 ≤ i by omega) with h0 | h0 | h0
      · left; rw [hnow, h0]; rfl
      · right; left; rw [hnow, h0]; rfl
      · right; right
        refine ⟨?_, eF⟩
        rw [hnow, List.take_of_length_le (by simp; omega)]
        show ((S.names.put (key (tmp n)) (Sf.hd y)).del (key (tmp n))).put (key n) (Sf.hd ((look (S.names.put (key (tmp n)) (Sf.hd y)) (tmp n)).getD 0)) = _
        rw [look_put_same hm]
        rfl
  rcases hcases with e | e | ⟨e, eF⟩
  · exact ⟨fun s _ _ => hsame s (by rw [e]), .inl (hsame n (by rw [e]))⟩
  · exact ⟨fun s _ hs => hsame s (by rw [e, look_put_other hs]), .inl (hsame n (by rw [e, look_put_other hnt]))⟩
  · refine ⟨fun s h1 h2 => hsame s (by rw [e, look_put_other h1, look_del_other h2, look_put_other h2]), .inr ?_⟩
    have hl : look (T.crash k).names n = some y := by rw [e]; exact look_put_same ((hm.put _ _).del _) n y
    have e2 : (T.crash k).F y = T.F y := crashTo_one k _ _ T ⟨b, eF⟩ _
    rw [cont_of hl, e2, eF]
    rfl
end Sf
end Go.Proofs.Ytgpmomjdjakklaa
