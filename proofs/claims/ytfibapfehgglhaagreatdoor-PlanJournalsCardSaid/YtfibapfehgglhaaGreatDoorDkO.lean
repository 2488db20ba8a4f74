import Derived.Test.YtfibapfehgglhaaGreatDoorDkM
/-
  What a machine has, by its names; what saving, crashes, and sweeps make of it.
-/
namespace Go.Proofs.YtfibapfehgglhaaGreatDoor
open Go.RowKit Go.Maps
namespace Sf
theorem StOk.append2 {B N : Nat} {S : St} (h : StOk B N S) (s b : ByteArray) (hb : ∀ x, look S.names s = some x → (S.F x).bytes.size + b.size ≤ B) : StOk B (N + 1) (S.append s b).1 := by
  have h1 := h.mono (Nat.le_refl B) (Nat.le_succ N)
  unfold St.append
  split
  · exact h1
  · split
    · exact h1
    · rename_i x hx
      split
      · exact h1
      · exact h.fileDo ((h.file x (h.lives hx)).change (hb x hx))
theorem create_inv {B N : Nat} {S : St} (hok : StOk B N S) {s : ByteArray} {y : Nat} (h : (S.create s y).2 = 0) : look (S.create s y).1.names s = some y ∧ (S.create s y).1.F y = file0 := by
  unfold St.create at h ⊢
  split at h
  · cases h
  rename_i h1
  rw [if_neg h1]
  split at h
  · cases h
  rename_i h2
  rw [if_neg h2]
  split at h
  · cases h
  rename_i h3
  rw [if_neg h3]
  split at h
  · cases h
  rename_i h4
  rw [if_neg h4]
  unfold St.nameDo at h ⊢
  split at h
  · cases h
  rename_i h5
  rw [if_neg h5]
  exact ⟨look_put_same hok.nice.tidy.isMap s y, if_pos rfl⟩
/-- where one errs, all behind it are as it -/
theorem StOk.save {B N : Nat} {S : St} (h : StOk B N S) (n b : ByteArray) {y : Nat} (hb : b.size ≤ B) (hy : (sv1 S (tmp n)).2 = 0 → ¬ live (sv1 S (tmp n)).1.synced (sv1 S (tmp n)).1.chg y) : StOk B (N + 7) (S.save n b y).1 := by
  obtain ⟨t, ht⟩ : ∃ t, t = tmp n := ⟨_, rfl⟩
  rw [← ht] at hy
  have k1 : StOk B (N + 1) (sv1 S t).1 := by
    unfold sv1
    split
    · exact h.remove t
    · exact h.mono (Nat.le_refl _) (Nat.le_succ _)
  have k2 : StOk B (N + 2) (sv2 S t y).1 ∧ ((sv2 S t y).2 = 0 → look (sv2 S t y).1.names t = some y ∧ (sv2 S t y).1.F y = file0) := by
    by_cases e : (sv1 S t).2 = 0
    · have e2 : sv2 S t y = (sv1 S t).1.create t y := bd_ok e
      rw [e2]
      exact ⟨k1.create t (hy e), fun h0 => create_inv k1 h0⟩
    · have e2 : sv2 S t y = sv1 S t := bd_no e
      rw [e2]
      exact ⟨k1.mono (Nat.le_refl _) (Nat.le_succ _), fun h0 => absurd h0 e⟩
  have k3 : StOk B (N + 3) (sv3 S t y b).1 := by
    by_cases e : (sv2 S t y).2 = 0
    · have e2 : sv3 S t y b = (sv2 S t y).1.append t b := bd_ok e
      rw [e2]
      refine k2.1.append2 t b fun x hx => ?_
      obtain ⟨g1, g2⟩ := k2.2 e
      rw [g1] at hx
      cases hx
      rw [g2]
      show 0 + b.size ≤ B
      omega
    · have e2 : sv3 S t y b = sv2 S t y := bd_no e
      rw [e2]
      exact k2.1.mono (Nat.le_refl _) (Nat.le_succ _)
  have k4 : StOk B (N + 4) (sv4 S t y b).1 := by
    by_cases e : (sv3 S t y b).2 = 0
    · rw [show sv4 S t y b = (sv3 S t y b).1.sync t from bd_ok e]
      exact k3.sync t
    · rw [show sv4 S t y b = sv3 S t y b from bd_no e]
      exact k3.mono (Nat.le_refl _) (Nat.le_succ _)
  have k5 : StOk B (N + 5) (sv5 S t y b n).1 := by
    by_cases e : (sv4 S t y b).2 = 0
    · rw [show sv5 S t y b n = (sv4 S t y b).1.rename t n from bd_ok e]
      exact k4.rename t n
    · rw [show sv5 S t y b n = sv4 S t y b from bd_no e]
      exact k4.mono (Nat.le_refl _) (Nat.le_succ _)
  have k6 : StOk B (N + 6) (sv6 S t y b n).1 := by
    by_cases e : (sv5 S t y b n).2 = 0
    · rw [show sv6 S t y b n = (sv5 S t y b n).1.dirDo from bd_ok e]
      exact k5.dirDo
    · rw [show sv6 S t y b n = sv5 S t y b n from bd_no e]
      exact k5.mono (Nat.le_refl _) (Nat.le_succ _)
  unfold St.save
  rw [← ht]
  unfold St.undo
  show StOk B (N + 7) (if _ then _ else _)
  split
  · exact k6.remove t
  · exact k6.mono (Nat.le_refl _) (Nat.le_succ _)
/-- what a name has -/
def cont (S : St) (s : ByteArray) : Option ByteArray := (look S.names s).map fun x => (S.F x).bytes
theorem cont_some {S : St} {s b : ByteArray} (h : cont S s = some b) : ∃ x, look S.names s = some x ∧ (S.F x).bytes = b := by
  unfold cont at h
  cases hl : look S.names s with
  | none => rw [hl] at h; cases h
  | some x => rw [hl] at h; exact ⟨x, rfl, Option.some.inj h⟩
theorem cont_none {S : St} {s : ByteArray} (h : cont S s = none) : look S.names s = none := by
  unfold cont at h
  cases hl : look S.names s with
  | none => rfl
  | some x => rw [hl] at h; cases h
theorem cont_is (S : St) (s : ByteArray) : (cont S s).isSome = (look S.names s).isSome := by
  unfold cont
  cases look S.names s <;> rfl
theorem cont_of {S : St} {s : ByteArray} {x : Nat} (h : look S.names s = some x) : cont S s = some (S.F x).bytes := by
  unfold cont
  rw [h]; rfl
theorem cont_of_none {S : St} {s : ByteArray} (h : look S.names s = none) : cont S s = none := by
  unfold cont
  rw [h]; rfl
theorem read_some {S : St} (hd : S.dead = false) {s b : ByteArray} (h : cont S s = some b) : S.read s = (b, 0) := by
  obtain ⟨x, hx, e⟩ := cont_some h
  rw [read_of hd hx, e]
theorem read_none {S : St} (hd : S.dead = false) {s : ByteArray} (h : cont S s = none) : S.read s = (⟨#[]⟩, 11) := read_no hd (cont_none h)
/-- a machine on which all is synced -/
structure Has (S : St) (g : ByteArray → Option ByteArray) : Prop where
  dead : S.dead = false
  chg : S.chg = []
  syn : S.synced = S.names
  at_ : ∀ s, cont S s = g s
  wh : ∀ s x, look S.names s = some x → S.F x = whole (S.F x).bytes
theorem Has.whole {S : St} {g : ByteArray → Option ByteArray} (h : Has S g) : Whole S := ⟨h.chg, h.syn, fun s x hx => ⟨_, h.wh s x hx⟩⟩
theorem Has.new (room : Int) : Has (St.new room) fun _ => none := ⟨rfl, rfl, rfl, fun s => cont_of_none (look_empty s), fun s x hx => by rw [show (St.new room).names = .map [] from rfl, look_empty] at hx; cases hx⟩
theorem Has.crash {S : St} {g : ByteArray → Option ByteArray} (h : Has S g) (k : Keep) : Has (S.crash k) g := by
  obtain ⟨h1, h2⟩ := whole_crash h.whole k
  refine ⟨rfl, rfl, rfl, fun s => ?_, fun s x hx => ?_⟩
  · rw [← h.at_ s]
    unfold cont
    rw [h1]
    cases look S.names s with
    | none => rfl
    | some x => show some ((S.crash k).F x).bytes = some (S.F x).bytes; rw [h2]
  · rw [h1] at hx
    rw [h2]
    exact h.wh s x hx
/-- behind any crash all is synced -/
theorem crash_has (T : St) (k : Keep) (hk : KS (T.now k)) : Has (T.crash k) (cont (T.crash k)) := by
  obtain ⟨h1, h2, h3⟩ := crash_whole T k hk
  refine ⟨rfl, h1, h2, fun _ => rfl, fun s x hx => ?_⟩
  obtain ⟨b, hb⟩ := h3 s x hx
  rw [hb]
  rfl
theorem crash_fuse (T : St) (k : Keep) : (T.crash k).fuse = -1 := rfl
/-- fresh, too, of what there was ahead of the first step -/
theorem fresh_of {B N : Nat} {S S1 : St} {t : ByteArray} (hok : StOk B N S) (h1 : At1 S S1 t) {y : Nat} (hy : (sv1 S t).2 = 0 → ¬ live (sv1 S t).1.synced (sv1 S t).1.chg y) : ∀ s, look S.names s ≠ some y := fun s hs => by
  have h2 := hy (by rw [h1.eq])
  rw [h1.eq] at h2
  refine h2 ?_
  obtain ⟨L, hL⟩ := h1.chg
  rcases hok.lives hs with h3 | ⟨c, hc, e⟩
  · exact .inl (by rw [h1.syn]; exact h3)
  · exact .inr ⟨c, by rw [hL]; exact List.mem_append.2 (.inl hc), e⟩
/-- a file has other bytes; the one that is not done is none -/
def putG (g : ByteArray → Option ByteArray) (n b s : ByteArray) : Option ByteArray := if s = n then some b else if s = tmp n then none else g s
theorem Saved.has {S S1 T : St} {n b : ByteArray} {y : Nat} {g : ByteArray → Option ByteArray} (h1 : At1 S S1 (tmp n)) (hS : Has S g) (hy : ∀ s, Sf.look S.names s ≠ some y) (h : Saved S1 T n b y) : Has T (putG g n b) := by
  have hF : ∀ s x, s ≠ n → Sf.look T.names s = some x → x ≠ y ∧ Sf.look S.names s = some x ∧ s ≠ tmp n := fun s x hs hx => by
    rw [h.look, if_neg hs, h1.look] at hx
    split at hx
    · cases hx
    · rename_i hst
      exact ⟨fun e => hy s (by rw [← e]; exact hx), hx, hst⟩
  refine ⟨h.dead, h.chg, h.syn, fun s => ?_, fun s x hx => ?_⟩
  · unfold putG
    by_cases e : s = n
    · rw [if_pos e]
      have hl : Sf.look T.names s = some y := by rw [h.look, if_pos e]
      rw [cont_of hl, h.F]
      rfl
    · rw [if_neg e]
      by_cases e2 : s = tmp n
      · rw [if_pos e2]
        exact cont_of_none (by rw [h.look, if_neg e, h1.look, if_pos e2])
      · rw [if_neg e2, ← hS.at_ s]
        have hl : Sf.look T.names s = Sf.look S.names s := by rw [h.look, if_neg e, h1.look, if_neg e2]
        unfold cont
        rw [hl]
        cases hx : Sf.look S.names s with
        | none => rfl
        | some x =>
          have hxy : x ≠ y := fun e3 => hy s (by rw [← e3]; exact hx)
          show some (T.F x).bytes = some (S.F x).bytes
          rw [h.F' x hxy, h1.F]
  · by_cases e : s = n
    · rw [h.look, if_pos e] at hx
      cases hx
      rw [h.F]
      rfl
    · obtain ⟨hxy, hx2, -⟩ := hF s x e hx
      rw [h.F' x hxy, h1.F]
      exact hS.wh s x hx2
/-- a file is saved, where there is room -/
theorem has_save {B N : Nat} {S : St} {g : ByteArray → Option ByteArray} (hok : StOk B N S) (hk : KS S.names) (h : Has S g) (hf : S.fuse = -1) {n b : ByteArray} (hn1 : isName n = true) (hn2 : n.size ≤ 36) {y : Nat} (hy : (sv1 S (tmp n)).2 = 0 → ¬ live (sv1 S (tmp n)).1.synced (sv1 S (tmp n)).1.chg y) (hz : Go.Maps.size S.names < 64) (hr : (S.total : Int) + (b.size : Int) ≤ S.room) :
    (S.save n b y).2 = 0 ∧ Has (S.save n b y).1 (putG g n b) ∧ (S.save n b y).1.fuse = -1 ∧ (S.save n b y).1.room = S.room ∧ (S.save n b y).1.steps = S.steps + (if (g (tmp n)).isSome = true then 6 else 5) := by
  obtain ⟨S1, h1⟩ := sv1_at hok hk h.dead (tmp n) (.inr (by rw [hf]; decide))
  have hfr := fresh_of hok h1 hy
  rcases save_all h1 hn1 hn2 y hfr hz hr with ⟨a, hs⟩ | ⟨-, hd⟩
  · refine ⟨a, hs.has h1 h hfr, hs.fuse (h1.fuse hf), hs.room.trans h1.room, ?_⟩
    rw [hs.steps, h1.steps, ← h.at_, cont_is]
    split <;> omega
  · exact absurd (h1.fuse hf) hd.fuse
theorem crashTo_one (k : Keep) (d : D) (l : List (List UInt8)) (S : St) {x : Nat} (hw : ∃ b, S.F x = whole b) : ∀ j, (crashTo k d l S j).F x = S.F x
  | 0 => rfl
  | j + 1 => by
    have ih := crashTo_one k d l S hw j
    unfold crashTo
    split
    · rename_i y hy
      show (if x = y then _ else (crashTo k d l S j).F x) = S.F x
      split
      · rename_i e
        subst e
        obtain ⟨b, hb⟩ := hw
        rw [ih, hb, whole_survive]
      · exact ih
    · exact ih
/-- where the machine dies on the way, and crashes, all other files are as they were, and this one is the old one, or the new one -/
theorem died_back {S T : St} {n b : ByteArray} {y : Nat} {g : ByteArray → Option ByteArray} (hS : Has S g) (hn : Nice S.names) (hy : ∀ s, look S.names s ≠ some y) (h : Died S T n b y) (k : Keep) :
    (∀ s, s ≠ n → s ≠ tmp n → cont (T.crash k) s = g s) ∧ (cont (T.crash k) n = g n ∨ cont (T.crash k) n = some b) := by
  have hm := hn.tidy.isMap
  have hnt := tmp_ne n
  have hF : ∀ s x, look S.names s = some x → (T.crash k).F x = S.F x := fun s x hx => by
    have hxy : x ≠ y := fun e => hy s (by rw [← e]; exact hx)
    have e1 := h.F' x hxy
    have e2 : (T.crash k).F x = T.F x := crashTo_one k _ _ T ⟨_, by rw [e1]; exact hS.wh s x hx⟩ _
    rw [e2, e1]
  have hsame : ∀ s, look (T.crash k).names s = look S.names s → cont (T.crash k) s = g s := fun s hl => by
    rw [← hS.at_ s]
    unfold cont
    rw [hl]
    cases hx : look S.names s with
    | none => rfl
    | some x => show some ((T.crash k).F x).bytes = some (S.F x).bytes; rw [hF s x hx]
  have hnow : (T.crash k).names = Sf.names S.names (T.chg.take (share k 0 T.chg.length)) := by
    show Sf.names T.synced _ = _
    rw [h.syn, hS.syn]
  generalize share k 0 T.chg.length = i at hnow
  have hcases : (T.crash k).names = S.names ∨ (T.crash k).names = S.names.put (key (tmp n)) (Sf.hd y) ∨ ((T.crash k).names = ((S.names.put (key (tmp n)) (Sf.hd y)).del (key (tmp n))).put (key n) (Sf.hd y) ∧ T.F y = Sf.whole b) := by
    rcases h.chg with e | e | ⟨e, eF⟩
    · rw [e, hS.chg] at hnow
      left
      rw [hnow]
      simp [Sf.names]
    · rw [e, hS.chg] at hnow
      rcases (show i = 0 ∨ 1 ≤ i by omega) with h0 | h0
      · left; rw [hnow, h0]; rfl
      · right; left
        rw [hnow, List.take_of_length_le (by simp; omega)]
        rfl
    · rw [e, hS.chg] at hnow
      rcases (show i = 0 ∨ i = 1 ∨ 2 ≤ i by omega) with h0 | h0 | h0
      · left; rw [hnow, h0]; rfl
      · right; left; rw [hnow, h0]; rfl
      · right; right
        refine ⟨?_, eF⟩
        rw [hnow, List.take_of_length_le (by simp; omega)]
        show ((S.names.put (key (tmp n)) (Sf.hd y)).del (key (tmp n))).put (key n) (Sf.hd ((look (S.names.put (key (tmp n)) (Sf.hd y)) (tmp n)).getD 0)) = _
        rw [look_put_same hm]
        rfl
  rcases hcases with e | e | ⟨e, eF⟩
  · exact ⟨fun s _ _ => hsame s (by rw [e]), .inl (hsame n (by rw [e]))⟩
  · exact ⟨fun s _ hs => hsame s (by rw [e, look_put_other hs]), .inl (hsame n (by rw [e, look_put_other hnt]))⟩
  · refine ⟨fun s h1 h2 => hsame s (by rw [e, look_put_other h1, look_del_other h2, look_put_other h2]), .inr ?_⟩
    have hl : look (T.crash k).names n = some y := by rw [e]; exact look_put_same ((hm.put _ _).del _) n y
    have e2 : (T.crash k).F y = T.F y := crashTo_one k _ _ T ⟨b, eF⟩ _
    rw [cont_of hl, e2, eF]
    rfl
end Sf
end Go.Proofs.YtfibapfehgglhaaGreatDoor
/-
  Repair, and Sweep: mathematics.
-/
namespace Go.Proofs.YtfibapfehgglhaaGreatDoor
open Go.RowKit Go.Maps
namespace Sf
theorem cut_yes {S : St} {s : ByteArray} {n : Int} {x : Nat} (hd : S.dead = false) (hl : look S.names s = some x) (h0 : 0 ≤ n) (h1 : n ≤ ((S.F x).bytes.size : Int)) (hf : S.fuse ≠ 0) : S.cut s n = (S.tick.file x ((S.F x).change (.cut n.toNat)), 0) := by
  unfold St.cut
  rw [hd, hl]
  rw [if_neg (by decide)]
  show (if _ then _ else _) = _
  rw [if_neg (by omega)]
  unfold St.fileDo
  rw [if_neg hf]
theorem cut_arg {S : St} {s : ByteArray} {n : Int} {x : Nat} (hd : S.dead = false) (hl : look S.names s = some x) (h : n < 0 ∨ ((S.F x).bytes.size : Int) < n) : S.cut s n = (S, 1) := by
  unfold St.cut
  rw [hd, hl]
  rw [if_neg (by decide)]
  show (if _ then _ else _) = _
  rw [if_pos h]
def setG (g : ByteArray → Option ByteArray) (n b s : ByteArray) : Option ByteArray := if s = n then some b else g s
/-- a file is repaired -/
theorem has_repair {S : St} {g : ByteArray → Option ByteArray} (h : Has S g) (hn : Nice S.names) (hf : S.fuse = -1) {s b : ByteArray} (hs : g s = some b) (n : Int) :
    ((n < 0 ∨ (b.size : Int) < n) → S.repair s n = (S, 1)) ∧ (0 ≤ n → n ≤ (b.size : Int) → (S.repair s n).2 = 0 ∧ Has (S.repair s n).1 (setG g s (b.extract 0 n.toNat)) ∧ (S.repair s n).1.fuse = -1) := by
  have hc : cont S s = some b := (h.at_ s).trans hs
  have hr := read_some h.dead hc
  obtain ⟨x, hx, hb⟩ := cont_some hc
  have hf0 : S.fuse ≠ 0 := by rw [hf]; decide
  have e1 : S.repair s n = if (0 : Int) = 0 ∧ (b.size : Int) = n then (S, 0) else bd (S.cut s n) fun T => T.sync s := by unfold St.repair; rw [hr]
  refine ⟨fun hout => ?_, fun h0 h1 => ?_⟩
  · rw [e1, if_neg (by omega), cut_arg h.dead hx (by rw [hb]; exact hout)]
    exact bd_no (show (1 : Int) ≠ 0 by decide)
  · by_cases he : (b.size : Int) = n
    · rw [e1, if_pos ⟨rfl, he⟩]
      refine ⟨rfl, ?_, hf⟩
      have ee : b.extract 0 n.toNat = b := by rw [← he]; exact ByteArray.extract_zero_size
      rw [ee]
      have eg : setG g s b = g := by
        funext t
        unfold setG
        split
        · rename_i e; rw [e, hs]
        · rfl
      rw [eg]
      exact h
    · rw [e1, if_neg (fun hh => he hh.2), cut_yes h.dead hx h0 (by rw [hb]; exact h1) hf0]
      rw [bd_ok (r := (S.tick.file x ((S.F x).change (.cut n.toNat)), 0)) rfl]
      obtain ⟨S2, hS2⟩ : ∃ S2, S2 = S.tick.file x ((S.F x).change (.cut n.toNat)) := ⟨_, rfl⟩
      rw [← hS2]
      have n2 : S2.names = S.names := by rw [hS2]; rfl
      have d2 : S2.dead = false := by rw [hS2]; exact h.dead
      have f2 : S2.fuse = -1 := by rw [hS2]; exact tick_fuse hf
      have F2 : (S2.F x).bytes = b.extract 0 n.toNat := by
        rw [hS2, file_same, ← hb]
        rfl
      have F2' : ∀ z, z ≠ x → S2.F z = S.F z := fun z hz => by rw [hS2, file_other hz]; rfl
      have c2 : S2.chg = [] := by rw [hS2]; exact h.chg
      have y2 : S2.synced = S2.names := by rw [hS2]; exact h.syn
      clear hS2
      have e3 := sync_yes (s := s) d2 (by rw [n2]; exact hx) (by rw [f2]; decide)
      rw [e3]
      have F3 : ∀ z, (S2.tick.file x (Sf.whole (S2.F x).bytes)).F z = if z = x then Sf.whole (b.extract 0 n.toNat) else S.F z := fun z => by
        show (if z = x then Sf.whole (S2.F x).bytes else S2.F z) = _
        split
        · rw [F2]
        · rename_i e; exact F2' z e
      refine ⟨rfl, ⟨d2, c2, y2, fun t => ?_, fun t z hz => ?_⟩, tick_fuse f2⟩
      · show Option.map (fun z => ((S2.tick.file x (Sf.whole (S2.F x).bytes)).F z).bytes) (look S2.names t) = _
        rw [n2]
        unfold setG
        by_cases e : t = s
        · rw [if_pos e, e, hx]
          show some ((S2.tick.file x (Sf.whole (S2.F x).bytes)).F x).bytes = _
          rw [F3, if_pos rfl]
          rfl
        · rw [if_neg e, ← h.at_ t]
          unfold cont
          cases ht : look S.names t with
          | none => rfl
          | some z =>
            have hz : z ≠ x := fun e2 => e (hn.inj t s x (by rw [ht, e2]) hx)
            show some ((S2.tick.file x (Sf.whole (S2.F x).bytes)).F z).bytes = some (S.F z).bytes
            rw [F3, if_neg hz]
      · have hz2 : look S.names t = some z := by rw [← n2]; exact hz
        rw [F3]
        split
        · rfl
        · exact h.wh t z hz2
/-- one name alone -/
theorem total_one {S : St} (hn : Nice S.names) (hk : KS S.names) {n : ByteArray} {b : ByteArray} (h : cont S n = some b) (h2 : ∀ s, s ≠ n → cont S s = none) : S.total = b.size := by
  have e := total_split hn hk n.data.toList
  obtain ⟨x, hx, hb⟩ := cont_some h
  rw [szOf_at, hx] at e
  have hf : (strKeys S.names).filter (· != n.data.toList) = [] := by
    rw [List.filter_eq_nil_iff]
    intro k hk2 hne
    have h1 := (mem_keys hk k).1 hk2
    rw [← key_bs, ← look_is hn, ← cont_is, h2 (bs k) (fun e => by
      rw [← e] at hne
      simp [bs] at hne)] at h1
    cases h1
  rw [hf] at e
  simp only [hb] at e
  rw [e]
  rfl
theorem list_one {S : St} (hn : Nice S.names) (hk : KS S.names) {n : ByteArray} (h : ∀ s, (cont S s).isSome = true ↔ s = n) : list S.names = [n.data.toList] := by
  rw [list_eq hn hk (L := [n.data.toList]) (by simp) (fun s => by
    rw [← cont_is, h]
    constructor
    · intro e; rw [← e]; simp [bs]
    · intro e
      have : s = n.data.toList := by simpa using e
      rw [this]; exact bs_data n)]
  simp
/-- where there is no room: as it was -/
theorem save_full {S : St} (hn : Nice S.names) (hk : KS S.names) {g : ByteArray → Option ByteArray} (hS : Has S g) (hf : S.fuse = -1) {n b : ByteArray} (hg : g (tmp n) = none) (hn2 : n.size ≤ 36) {y : Nat} (hy : ∀ s, look S.names s ≠ some y) (hz : Go.Maps.size S.names < 64) (hr : S.room < (S.total : Int) + (b.size : Int)) :
    (S.save n b y).2 = 8 ∧ (S.save n b y).1.dead = false ∧ (∀ s, cont (S.save n b y).1 s = g s) := by
  obtain ⟨t, ht⟩ : ∃ t, t = tmp n := ⟨_, rfl⟩
  have htn : isName t = true := by rw [ht]; exact tmp_name hn2
  have hf0 : S.fuse ≠ 0 := by rw [hf]; decide
  have hlt : look S.names t = none := cont_none ((hS.at_ t).trans (by rw [ht]; exact hg))
  have e1 : sv1 S t = (S, 0) := by unfold sv1; rw [hlt]; rfl
  have e2 : sv2 S t y = ((S.file y file0).tick.naming (.cre t y), 0) := by
    have : sv2 S t y = S.create t y := by unfold sv2; rw [e1]; exact bd_ok rfl
    rw [this]
    exact create_yes y hS.dead htn hlt hz hf0
  obtain ⟨S2, hS2⟩ : ∃ S2, S2 = (S.file y file0).tick.naming (.cre t y) := ⟨_, rfl⟩
  rw [← hS2] at e2
  have n2 : S2.names = S.names.put (key t) (Sf.hd y) := by rw [hS2]; rfl
  have l2 : ∀ s, look S2.names s = if s = t then some y else look S.names s := fun s => by
    rw [n2]
    split
    · rename_i e; rw [e]; exact look_put_same hn.tidy.isMap t y
    · rename_i e; exact look_put_other e _
  have d2 : S2.dead = false := by rw [hS2]; exact hS.dead
  have r2 : S2.room = S.room := by rw [hS2]; rfl
  have F2 : S2.F y = file0 := by rw [hS2]; exact if_pos rfl
  have F2' : ∀ x, x ≠ y → S2.F x = S.F x := fun x hx => by rw [hS2]; exact if_neg hx
  have f2 : S2.fuse = -1 := by rw [hS2]; exact tick_fuse (S := S) hf
  have ni2 : Nice S2.names := by
    rw [n2]
    exact nice_cre (s := t) hn (by unfold isName at htn; simp at htn; omega) hy hz
  have ks2 : KS S2.names := by rw [n2]; exact hk.put t _
  have t2 : S2.total = S.total := by
    have := tot_but hn hk ni2 ks2 t (fun s hs => by rw [l2, if_neg hs]) (fun s x _ hx => by rw [F2' x (fun e => hy s (by rw [← e]; exact hx))])
    rw [szOf_at, szOf_at, hlt, l2, if_pos rfl] at this
    simp only [F2] at this
    have z0 : file0.bytes.size = 0 := rfl
    omega
  clear hS2
  have lt2 : look S2.names t = some y := by rw [l2, if_pos rfl]
  have e3 : sv3 S t y b = (S2, 8) := by
    have : sv3 S t y b = S2.append t b := by unfold sv3; rw [e2]; exact bd_ok rfl
    rw [this]
    exact append_full d2 lt2 (by rw [r2, t2]; exact hr)
  have e4 : sv4 S t y b = (S2, 8) := by unfold sv4; rw [e3]; exact bd_no (show (8 : Int) ≠ 0 by decide)
  have e5 : sv5 S t y b n = (S2, 8) := by unfold sv5; rw [e4]; exact bd_no (show (8 : Int) ≠ 0 by decide)
  have e6 : sv6 S t y b n = (S2, 8) := by unfold sv6; rw [e5]; exact bd_no (show (8 : Int) ≠ 0 by decide)
  have eu : und S t y b n = true := by unfold und; rw [e2, e5]; rfl
  have es : S.save n b y = (S2.tick.naming (.rem t), 8) := by
    unfold St.save
    rw [← ht, e6, eu]
    unfold St.undo
    rw [if_pos (by simp), remove_yes d2 lt2 (by rw [f2]; decide)]
  rw [es]
  refine ⟨rfl, d2, fun s => ?_⟩
  have hl : look (S2.tick.naming (.rem t)).names s = look S.names s := by
    show look (S2.names.del (key t)) s = _
    by_cases e : s = t
    · rw [e, look_del_same, hlt]
    · rw [look_del_other e, l2, if_neg e]
  rw [← hS.at_ s]
  unfold cont
  rw [hl]
  cases hx : look S.names s with
  | none => rfl
  | some x =>
    have hxy : x ≠ y := fun e => hy s (by rw [← e]; exact hx)
    show some (S2.F x).bytes = some (S.F x).bytes
    rw [F2' x hxy]
/-- what a sweep removes, of names that are all there -/
theorem sweep_to (keep : List (List UInt8)) : ∀ (l : List (List UInt8)) (S : St) (c : Nat), S.dead = false → S.fuse = -1 → l.Nodup → (∀ k ∈ l, (look S.names (bs k)).isSome = true) →
    ∃ T, sweepTo keep l S c = (T, c + (l.filter fun k => decide (k ∉ keep)).length, 0) ∧ T.dead = false ∧ T.fuse = -1 ∧ T.F = S.F ∧ (∀ s, look T.names s = if s.data.toList ∈ l ∧ s.data.toList ∉ keep then none else look S.names s) ∧ ((l.filter fun k => decide (k ∉ keep)).length = 0 → T = S)
  | [], S, c, hd, hf, _, _ => ⟨S, rfl, hd, hf, rfl, fun s => by rw [if_neg (fun h => by cases h.1)], fun _ => rfl⟩
  | k :: l, S, c, hd, hf, hn, hall => by
    have hn2 := List.nodup_cons.1 hn
    by_cases hk : k ∈ keep
    · have e : sweepTo keep (k :: l) S c = sweepTo keep l S c := by
        show (if k ∈ keep then _ else _) = _
        rw [if_pos hk]
      have ef : (k :: l).filter (fun k => decide (k ∉ keep)) = l.filter (fun k => decide (k ∉ keep)) := by
        rw [List.filter_cons_of_neg (by simpa using hk)]
      obtain ⟨T, h1, h2, h3, h4, h5, h6⟩ := sweep_to keep l S c hd hf hn2.2 (fun q hq => hall q (List.mem_cons_of_mem _ hq))
      rw [e, ef]
      refine ⟨T, h1, h2, h3, h4, fun s => ?_, h6⟩
      rw [h5]
      by_cases hs : s.data.toList = k
      · rw [hs]
        rw [if_neg (fun h => h.2 hk), if_neg (fun h => h.2 hk)]
      · simp only [List.mem_cons, hs, false_or]
    · obtain ⟨x, hx⟩ := Option.isSome_iff_exists.1 (hall k List.mem_cons_self)
      have hr := remove_yes (a := bs k) hd hx (by rw [hf]; decide)
      have e : sweepTo keep (k :: l) S c = sweepTo keep l (S.tick.naming (.rem (bs k))) (c + 1) := by
        show (if k ∈ keep then _ else if (S.remove (bs k)).2 = 0 then _ else _) = _
        rw [if_neg hk, hr, if_pos rfl]
      have ef : (k :: l).filter (fun k => decide (k ∉ keep)) = k :: l.filter (fun k => decide (k ∉ keep)) := by
        rw [List.filter_cons_of_pos (by simpa using hk)]
      have hlk : ∀ s, look (S.tick.naming (.rem (bs k))).names s = if s = bs k then none else look S.names s := fun s => by
        show look (S.names.del (key (bs k))) s = _
        split
        · rename_i e; rw [e]; exact look_del_same _
        · rename_i e; exact look_del_other e
      have hbk : ∀ q : List UInt8, q ∈ l → bs q ≠ bs k := fun q hq e2 => hn2.1 (bs_inj e2 ▸ hq)
      obtain ⟨T, h1, h2, h3, h4, h5, h6⟩ := sweep_to keep l (S.tick.naming (.rem (bs k))) (c + 1) hd (tick_fuse hf) hn2.2 (fun q hq => by
        rw [hlk, if_neg (hbk q hq)]
        exact hall q (List.mem_cons_of_mem _ hq))
      rw [e, ef]
      refine ⟨T, by rw [h1, List.length_cons]; congr 2; omega, h2, h3, h4, fun s => ?_, fun h => by simp at h⟩
      rw [h5, hlk]
      by_cases hs : s = bs k
      · have hs2 : s.data.toList = k := by rw [hs]; simp [bs]
        have hR : (if s.data.toList ∈ k :: l ∧ s.data.toList ∉ keep then none else look S.names s) = none := by
          rw [hs2]
          exact if_pos ⟨List.mem_cons_self, hk⟩
        rw [hR, if_pos hs]
        split <;> rfl
      · have hs2 : s.data.toList ≠ k := fun e2 => hs (by rw [← e2]; exact (bs_data s).symm)
        rw [if_neg hs]
        simp only [List.mem_cons, hs2, false_or]
theorem leB_trans (a b c : List UInt8) (h1 : leB a b = true) (h2 : leB b c = true) : leB a c = true := by
  simp only [leB, decide_eq_true_eq] at *
  exact List.le_trans h1 h2
theorem leB_total (a b : List UInt8) : (leB a b || leB b a) = true := by
  simp only [leB, Bool.or_eq_true, decide_eq_true_eq]
  exact List.le_total a b
theorem list_sorted (d : D) : (list d).Pairwise fun a b => leB a b = true := List.pairwise_mergeSort leB_trans leB_total _
theorem list_nodup {d : D} (hn : Nice d) (hk : KS d) : (list d).Nodup := (List.mergeSort_perm (strKeys d) leB).nodup_iff.2 (strKeys_nodup hn hk)
theorem mem_list_iff {d : D} (hn : Nice d) (hk : KS d) (s : List UInt8) : s ∈ list d ↔ (look d (bs s)).isSome = true := by
  show s ∈ (strKeys d).mergeSort leB ↔ _
  rw [(List.mergeSort_perm (strKeys d) leB).mem_iff, mem_keys hk, look_is hn, key_bs]
/-- names without some -/
theorem list_without {d e : D} (hn : Nice d) (hk : KS d) (hn2 : Nice e) (hk2 : KS e) (keep : List (List UInt8)) (h : ∀ s, look e s = if s.data.toList ∈ list d ∧ s.data.toList ∉ keep then none else look d s) : list e = (list d).filter fun k => decide (k ∈ keep) := by
  have hl := list_eq hn2 hk2 (L := (list d).filter fun k => decide (k ∈ keep)) ((list_nodup hn hk).filter _) (fun s => by
    have hb : (bs s).data.toList = s := by simp [bs]
    have hm := mem_list_iff hn hk s
    rw [h, hb, List.mem_filter]
    by_cases h1 : s ∈ list d
    · have h3 := hm.1 h1
      by_cases h2 : s ∈ keep
      · rw [if_neg (fun hh => hh.2 h2)]
        simp [h1, h2, h3]
      · rw [if_pos ⟨h1, h2⟩]
        simp [h2]
    · have h3 : ¬ (look d (bs s)).isSome = true := fun hh => h1 (hm.2 hh)
      rw [if_neg (fun hh => h1 hh.1)]
      simp [h1, h3])
  rw [hl]
  exact List.mergeSort_of_pairwise ((list_sorted d).filter _)
end Sf
end Go.Proofs.YtfibapfehgglhaaGreatDoor
