import Derived.Maps.OwnSet
import Derived.Maps.Ext
/-
  Files on a machine that dies: as mathematics.
-/
namespace Go.Proofs.YtfibapfehgglhaaGreatDoor
open Go.Maps
namespace Sf
/-- a change of bytes -/
inductive Wr where
  | app (b : ByteArray)
  | cut (n : Nat)
def Wr.write : Wr → ByteArray → ByteArray
  | .app c, b => b ++ c
  | .cut n, b => b.extract 0 n
/-- it may be made, and no more bytes than B come of it -/
def Wr.ok (B : Nat) : Wr → ByteArray → Prop
  | .app c, b => b.size + c.size ≤ B
  | .cut n, b => n ≤ b.size
def replay (b : ByteArray) (L : List Wr) : ByteArray := L.foldl (fun b c => c.write b) b
def oks (B : Nat) : ByteArray → List Wr → Prop
  | _, [] => True
  | b, c :: L => c.ok B b ∧ oks B (c.write b) L
theorem write_size {B : Nat} {c : Wr} {b : ByteArray} (hb : b.size ≤ B) (h : c.ok B b) : (c.write b).size ≤ B := by
  cases c with
  | app c => unfold Wr.ok at h; unfold Wr.write; rw [ByteArray.size_append]; exact h
  | cut n => unfold Wr.ok at h; unfold Wr.write; rw [ByteArray.size_extract]; omega
theorem replay_snoc (b : ByteArray) (L : List Wr) (c : Wr) : replay b (L ++ [c]) = c.write (replay b L) := by unfold replay; rw [List.foldl_append]; rfl
theorem oks_snoc {B : Nat} {c : Wr} : ∀ (L : List Wr) (b : ByteArray), oks B b L → c.ok B (replay b L) → oks B b (L ++ [c])
  | [], _, _, h => ⟨h, trivial⟩
  | _ :: L, _, h, h2 => ⟨h.1, oks_snoc L _ h.2 h2⟩
theorem Wr.ok.mono {B C : Nat} (hBC : B ≤ C) {c : Wr} {b : ByteArray} (h : c.ok B b) : c.ok C b := by
  cases c with
  | app c => exact Nat.le_trans h hBC
  | cut n => exact h
theorem oks_mono {B C : Nat} (hBC : B ≤ C) : ∀ (L : List Wr) (b : ByteArray), oks B b L → oks C b L
  | [], _, _ => trivial
  | _ :: L, _, h => ⟨h.1.mono hBC, oks_mono hBC L _ h.2⟩
theorem oks_take {B : Nat} : ∀ (L : List Wr) (b : ByteArray) (k : Nat), oks B b L → oks B b (L.take k)
  | [], _, k, _ => by simp [oks]
  | _ :: _, _, 0, _ => trivial
  | _ :: L, _, k + 1, h => ⟨h.1, oks_take L _ k h.2⟩
theorem oks_at {B : Nat} : ∀ (L : List Wr) (b : ByteArray) (k : Nat) (hk : k < L.length), oks B b L → L[k].ok B (replay b (L.take k))
  | _ :: _, _, 0, _, h => h.1
  | _ :: L, b, k + 1, hk, h => by
    have := oks_at L _ k (by simpa using hk) h.2
    simpa [replay] using this
theorem replay_size {B : Nat} : ∀ (L : List Wr) (b : ByteArray), b.size ≤ B → oks B b L → (replay b L).size ≤ B
  | [], _, hb, _ => hb
  | _ :: L, _, hb, h => replay_size L _ (write_size hb h.1) h.2
/-- a file: bytes that are there, what of them is synced, what was changed since -/
structure File where
  bytes : ByteArray
  synced : ByteArray
  chg : List Wr
structure FileOk (B N : Nat) (x : File) : Prop where
  rep : x.bytes = replay x.synced x.chg
  oks : oks B x.synced x.chg
  sz : x.synced.size ≤ B
  few : x.chg.length ≤ N
theorem FileOk.size {B N : Nat} {x : File} (h : FileOk B N x) : x.bytes.size ≤ B := by rw [h.rep]; exact replay_size _ _ h.sz h.oks
theorem FileOk.mono {B C N M : Nat} {x : File} (h : FileOk B N x) (hBC : B ≤ C) (hNM : N ≤ M) : FileOk C M x := ⟨h.rep, oks_mono hBC _ _ h.oks, Nat.le_trans h.sz hBC, Nat.le_trans h.few hNM⟩
def whole (b : ByteArray) : File := ⟨b, b, []⟩
theorem whole_ok {B N : Nat} {b : ByteArray} (h : b.size ≤ B) : FileOk B N (whole b) := ⟨rfl, trivial, h, Nat.zero_le _⟩
def File.change (x : File) (c : Wr) : File := ⟨c.write x.bytes, x.synced, x.chg ++ [c]⟩
theorem FileOk.change {B N : Nat} {x : File} {c : Wr} (h : FileOk B N x) (hc : c.ok B x.bytes) : FileOk B (N + 1) (x.change c) :=
  ⟨by unfold File.change; rw [replay_snoc, ← h.rep], oks_snoc x.chg x.synced h.oks (by rw [← h.rep]; exact hc), h.sz, by unfold File.change; rw [List.length_append, List.length_singleton]; have := h.few; omega⟩
/-- numbers that tell what survives -/
structure Keep where
  g : Nat → Int
  n : Nat
/-- how many of n things survive -/
def share (keep : Keep) (place n : Nat) : Nat :=
  if keep.n = 0 then 0 else if keep.g (place % keep.n) = -9223372036854775808 then 0 else (keep.g (place % keep.n)).natAbs % (n + 1)
theorem share_le (keep : Keep) (place n : Nat) : share keep place n ≤ n := by
  unfold share
  split
  · omega
  · split
    · omega
    · have := Nat.mod_lt (keep.g (place % keep.n)).natAbs (Nat.succ_pos n)
      simp only [Nat.succ_eq_add_one] at this
      omega
theorem share_zero (keep : Keep) (place : Nat) : share keep place 0 = 0 := by have := share_le keep place 0; omega
/-- what survives of a change that is torn -/
def torn (keep : Keep) (place : Nat) : Wr → ByteArray → ByteArray
  | .app c, b => b ++ c.extract 0 (share keep place c.size)
  | .cut _, b => b
def File.survive (x : File) (keep : Keep) (place : Nat) : ByteArray :=
  let n := share keep place x.chg.length
  let b := replay x.synced (x.chg.take n)
  match x.chg[n]? with
  | some c => torn keep (place + 1) c b
  | none => b
theorem torn_size {B : Nat} {c : Wr} {b : ByteArray} (keep : Keep) (place : Nat) (hb : b.size ≤ B) (h : c.ok B b) : (torn keep place c b).size ≤ B := by
  cases c with
  | app c =>
    unfold Wr.ok at h
    unfold torn
    rw [ByteArray.size_append, ByteArray.size_extract]
    omega
  | cut n => exact hb
theorem survive_size {B N : Nat} {x : File} (h : FileOk B N x) (keep : Keep) (place : Nat) : (x.survive keep place).size ≤ B := by
  unfold File.survive
  dsimp only
  have hr := replay_size (x.chg.take (share keep place x.chg.length)) x.synced h.sz (oks_take _ _ _ h.oks)
  split
  · rename_i c hc
    obtain ⟨hk, rfl⟩ := List.getElem?_eq_some_iff.1 hc
    exact torn_size keep _ hr (oks_at _ _ _ hk h.oks)
  · exact hr
theorem whole_survive (b : ByteArray) (keep : Keep) (place : Nat) : (whole b).survive keep place = b := by
  unfold File.survive whole
  simp [replay]

/-! names -/
abbrev D := DataW Unit
def key (s : ByteArray) : Lit := .string s.data.toList
def hd (h : Nat) : D := .lit (.int .i64 h)
def nilD : D := .lit (.bool false)
def hOf : D → Option Nat
  | .lit (.int _ a) => some a.toNat
  | _ => none
theorem hOf_hd (h : Nat) : hOf (hd h) = some h := by simp [hOf, hd]
theorem key_inj {s t : ByteArray} (h : key s = key t) : s = t := by
  unfold key at h
  injection h with h
  exact ByteArray.ext (Array.toList_inj.1 h)
theorem key_lit (s : ByteArray) : WideAt.IsKeyLit (key s) := by trivial
def look (d : D) (s : ByteArray) : Option Nat := if has d (key s) = true then hOf (d.atKey (key s) nilD) else none
/-- every entry is a file -/
def Files (d : D) : Prop := ∀ k, has d k = true → (∃ s, k = key s) ∧ ∃ h, ∀ z, d.atKey k z = hd h
theorem look_has {d : D} (hf : Files d) {s : ByteArray} (h : has d (key s) = true) : ∃ x, look d s = some x ∧ ∀ z, d.atKey (key s) z = hd x := by
  obtain ⟨-, x, hx⟩ := hf _ h
  exact ⟨x, by unfold look; rw [if_pos h, hx, hOf_hd], hx⟩
theorem look_some {d : D} {s : ByteArray} {x : Nat} (h : look d s = some x) : has d (key s) = true := by
  unfold look at h
  split at h
  · assumption
  · cases h
theorem look_none {d : D} (hf : Files d) {s : ByteArray} (h : look d s = none) : has d (key s) = false := by
  cases hh : has d (key s)
  · rfl
  · obtain ⟨x, h1, -⟩ := look_has hf hh
    rw [h] at h1; cases h1
theorem look_of_not {d : D} {s : ByteArray} (h : has d (key s) = false) : look d s = none := by unfold look; rw [h]; rfl
theorem look_put_same {d : D} (hm : IsMap d) (s : ByteArray) (x : Nat) : look (d.put (key s) (hd x)) s = some x := by
  unfold look
  rw [if_pos (has_put_same hm (key_lit s) _), atKey_put_same hm (key_lit s), hOf_hd]
theorem look_put_other {d : D} {s t : ByteArray} (h : t ≠ s) (y : D) : look (d.put (key s) y) t = look d t := by
  have hne : key t ≠ key s := fun e => h (key_inj e)
  unfold look
  rw [has_put_other hne, atKey_put_other hne]
theorem look_del_same {d : D} (s : ByteArray) : look (d.del (key s)) s = none := look_of_not has_del_same
theorem look_del_other {d : D} {s t : ByteArray} (h : t ≠ s) : look (d.del (key s)) t = look d t := by
  have hne : key t ≠ key s := fun e => h (key_inj e)
  unfold look
  rw [has_del_other hne, atKey_del_other hne]
theorem Files.put {d : D} (hf : Files d) (hm : IsMap d) (s : ByteArray) (x : Nat) : Files (d.put (key s) (hd x)) := by
  intro k hk
  by_cases e : k = key s
  · subst e
    exact ⟨⟨s, rfl⟩, x, fun z => atKey_put_same hm (key_lit s) _ z⟩
  · rw [has_put_other e] at hk
    obtain ⟨h1, y, hy⟩ := hf k hk
    exact ⟨h1, y, fun z => by rw [atKey_put_other e]; exact hy z⟩
theorem Files.del {d : D} (hf : Files d) (s : ByteArray) : Files (d.del (key s)) := by
  intro k hk
  by_cases e : k = key s
  · subst e
    rw [has_del_same] at hk; cases hk
  · rw [has_del_other e] at hk
    obtain ⟨h1, y, hy⟩ := hf k hk
    exact ⟨h1, y, fun z => by rw [atKey_del_other e]; exact hy z⟩
/-- a change of names -/
inductive Nm where
  | cre (too : ByteArray) (h : Nat)
  | ren (a b : ByteArray)
  | rem (a : ByteArray)
def Nm.app : Nm → D → D
  | .cre s h, d => d.put (key s) (hd h)
  | .ren a b, d => (d.del (key a)).put (key b) (hd ((look d a).getD 0))
  | .rem a, d => d.del (key a)
def Nm.ok : Nm → D → Prop
  | .cre s _, _ => s.size ≤ 100
  | .ren a b, d => (∃ h, look d a = some h) ∧ b.size ≤ 100
  | .rem a, _ => a.size ≤ 100
def Nm.mk : Nm → Option Nat
  | .cre _ h => some h
  | _ => none
def names (d : D) (L : List Nm) : D := L.foldl (fun d c => c.app d) d
theorem names_snoc (d : D) (L : List Nm) (c : Nm) : names d (L ++ [c]) = c.app (names d L) := by unfold names; rw [List.foldl_append]; rfl
/-- names that may be: each of another file, no more than 64 -/
structure Nice (d : D) : Prop where
  tidy : Tidy d
  files : Files d
  inj : ∀ s t h, look d s = some h → look d t = some h → s = t
  few : Maps.size d ≤ 64
  short : ∀ s, has d (key s) = true → s.size ≤ 100
def hist : D → List Nm → Prop
  | d, [] => Nice d
  | d, c :: L => Nice d ∧ c.ok d ∧ hist (c.app d) L
theorem hist_nice {d : D} {L : List Nm} (h : hist d L) : Nice d := by
  cases L with
  | nil => exact h
  | cons c L => exact h.1
theorem hist_snoc {c : Nm} : ∀ (L : List Nm) (d : D), hist d L → c.ok (names d L) → Nice (c.app (names d L)) → hist d (L ++ [c])
  | [], _, h, h1, h2 => ⟨h, h1, h2⟩
  | _ :: L, _, h, h1, h2 => ⟨h.1, h.2.1, hist_snoc L _ h.2.2 h1 h2⟩
theorem hist_end : ∀ (L : List Nm) (d : D), hist d L → Nice (names d L)
  | [], _, h => h
  | _ :: L, _, h => hist_end L _ h.2.2
theorem hist_take : ∀ (L : List Nm) (d : D) (k : Nat), hist d L → Nice (names d (L.take k))
  | [], d, k, h => by
    have e : names d (([] : List Nm).take k) = d := by cases k <;> rfl
    rw [e]; exact h
  | _ :: _, _, 0, h => h.1
  | _ :: L, _, k + 1, h => hist_take L _ k h.2.2
theorem hist_at : ∀ (L : List Nm) (d : D) (k : Nat) (hk : k < L.length), hist d L → L[k].ok (names d (L.take k))
  | _ :: _, _, 0, _, h => h.2.1
  | _ :: L, d, k + 1, hk, h => by
    have := hist_at L _ k (by simpa using hk) h.2.2
    simpa [names] using this
theorem nice_cre {d : D} (h : Nice d) {s : ByteArray} {x : Nat} (hs : s.size ≤ 100) (hx : ∀ t, look d t ≠ some x) (hf : Maps.size d < 64) : Nice ((Nm.cre s x).app d) := by
  have hm := h.tidy.isMap
  refine ⟨h.tidy.put (key_lit s) _, h.files.put hm s x, ?_, ?_, ?_⟩
  · intro a b y ha hb
    simp only [Nm.app] at ha hb
    by_cases e1 : a = s
    · by_cases e2 : b = s
      · rw [e1, e2]
      · rw [e1, look_put_same hm] at ha
        rw [look_put_other e2] at hb
        cases ha
        exact absurd hb (hx b)
    · by_cases e2 : b = s
      · rw [e2, look_put_same hm] at hb
        rw [look_put_other e1] at ha
        cases hb
        exact absurd ha (hx a)
      · rw [look_put_other e1] at ha
        rw [look_put_other e2] at hb
        exact h.inj a b y ha hb
  · simp only [Nm.app]
    rw [size_put h.tidy]
    split <;> omega
  · intro t ht
    simp only [Nm.app] at ht
    by_cases e : t = s
    · rw [e]; exact hs
    · rw [has_put_other (fun e2 => e (key_inj e2))] at ht
      exact h.short t ht
theorem nice_rem {d : D} (h : Nice d) (s : ByteArray) : Nice ((Nm.rem s).app d) := by
  refine ⟨h.tidy.del _, h.files.del s, ?_, ?_, ?_⟩
  · intro a b y ha hb
    simp only [Nm.app] at ha hb
    by_cases e1 : a = s
    · rw [e1, look_del_same] at ha; cases ha
    · by_cases e2 : b = s
      · rw [e2, look_del_same] at hb; cases hb
      · rw [look_del_other e1] at ha
        rw [look_del_other e2] at hb
        exact h.inj a b y ha hb
  · have := size_del (k := key s) h.tidy
    simp only [Nm.app]
    have := h.few
    omega
  · intro t ht
    simp only [Nm.app] at ht
    by_cases e : t = s
    · rw [e, has_del_same] at ht; cases ht
    · rw [has_del_other (fun e2 => e (key_inj e2))] at ht
      exact h.short t ht
theorem nice_ren {d : D} (h : Nice d) {s t : ByteArray} {x : Nat} (hs : look d s = some x) (ht : t.size ≤ 100) : Nice ((Nm.ren s t).app d) := by
  have hd1 := nice_rem h s
  have hm := hd1.tidy.isMap
  have hne : ∀ a, look ((Nm.rem s).app d) a ≠ some x := by
    intro a ha
    simp only [Nm.app] at ha
    by_cases e : a = s
    · rw [e, look_del_same] at ha; cases ha
    · rw [look_del_other e] at ha
      exact e (h.inj a s x ha hs)
  have hz : Maps.size ((Nm.rem s).app d) < 64 := by
    have h1 := size_del (k := key s) h.tidy
    rw [look_some hs, if_pos rfl] at h1
    simp only [Nm.app]
    have := h.few
    omega
  have e : (Nm.ren s t).app d = ((Nm.rem s).app d).put (key t) (hd x) := by simp only [Nm.app]; rw [hs]; rfl
  rw [e]
  refine ⟨hd1.tidy.put (key_lit t) _, hd1.files.put hm t x, ?_, ?_, ?_⟩
  · intro a b y ha hb
    by_cases e1 : a = t
    · by_cases e2 : b = t
      · rw [e1, e2]
      · rw [e1, look_put_same hm] at ha
        rw [look_put_other e2] at hb
        cases ha
        exact absurd hb (hne b)
    · by_cases e2 : b = t
      · rw [e2, look_put_same hm] at hb
        rw [look_put_other e1] at ha
        cases hb
        exact absurd ha (hne a)
      · rw [look_put_other e1] at ha
        rw [look_put_other e2] at hb
        exact hd1.inj a b y ha hb
  · rw [size_put hd1.tidy]
    split <;> omega
  · intro a ha
    by_cases e : a = t
    · rw [e]; exact ht
    · rw [has_put_other (fun e2 => e (key_inj e2))] at ha
      exact hd1.short a ha
/-- the files that names may come to -/
def live (d : D) (L : List Nm) (h : Nat) : Prop := (∃ s, look d s = some h) ∨ ∃ c ∈ L, c.mk = some h
theorem look_app {d : D} (hm : IsMap d) {c : Nm} (hc : c.ok d) {s : ByteArray} {h : Nat} (hl : look (c.app d) s = some h) : (∃ t, look d t = some h) ∨ c.mk = some h := by
  cases c with
  | cre a x =>
    simp only [Nm.app] at hl
    by_cases e : s = a
    · rw [e, look_put_same hm] at hl
      cases hl
      exact .inr rfl
    · rw [look_put_other e] at hl
      exact .inl ⟨s, hl⟩
  | ren a b =>
    obtain ⟨⟨x, hx⟩, -⟩ := hc
    simp only [Nm.app] at hl
    rw [hx] at hl
    by_cases e : s = b
    · rw [e, look_put_same (hm.del _)] at hl
      cases hl
      exact .inl ⟨a, hx⟩
    · rw [look_put_other e] at hl
      by_cases e2 : s = a
      · rw [e2, look_del_same] at hl; cases hl
      · rw [look_del_other e2] at hl
        exact .inl ⟨s, hl⟩
  | rem a =>
    simp only [Nm.app] at hl
    by_cases e2 : s = a
    · rw [e2, look_del_same] at hl; cases hl
    · rw [look_del_other e2] at hl
      exact .inl ⟨s, hl⟩
theorem live_names : ∀ (L : List Nm) (d : D), hist d L → ∀ s h, look (names d L) s = some h → live d L h
  | [], _, _, s, _, hl => .inl ⟨s, hl⟩
  | c :: L, d, hh, s, h, hl => by
    rcases live_names L (c.app d) hh.2.2 s h hl with ⟨t, ht⟩ | ⟨c2, hc2, e⟩
    · rcases look_app hh.1.tidy.isMap hh.2.1 ht with h1 | h1
      · exact .inl h1
      · exact .inr ⟨c, by simp, h1⟩
    · exact .inr ⟨c2, by simp [hc2], e⟩
theorem live_take {d : D} {L : List Nm} {k h : Nat} (hl : live d (L.take k) h) : live d L h := by
  rcases hl with h1 | ⟨c, hc, e⟩
  · exact .inl h1
  · exact .inr ⟨c, List.mem_of_mem_take hc, e⟩
theorem hist_taken : ∀ (L : List Nm) (d : D) (k : Nat), hist d L → hist d (L.take k)
  | [], _, k, h => by simpa using h
  | _ :: _, _, 0, h => h.1
  | _ :: L, _, k + 1, h => ⟨h.1, h.2.1, hist_taken L _ k h.2.2⟩
/-- a machine -/
structure St where
  names : D
  synced : D
  chg : List Nm
  room : Int
  steps : Int
  fuse : Int
  dead : Bool
  F : Nat → File
/-- one that may be: no file was ever longer than B, no more than N steps were done -/
structure StOk (B N : Nat) (S : St) : Prop where
  nam : S.names = Sf.names S.synced S.chg
  his : hist S.synced S.chg
  file : ∀ h, live S.synced S.chg h → FileOk B N (S.F h)
  few : S.chg.length ≤ N
  f1 : -1 ≤ S.fuse
  f2 : S.fuse ≤ 1073741824
  s1 : 0 ≤ S.steps
  s2 : S.steps ≤ N
  r1 : 0 ≤ S.room
  r2 : S.room ≤ 9223372036854775807
theorem StOk.nice {B N : Nat} {S : St} (h : StOk B N S) : Nice S.names := by rw [h.nam]; exact hist_end _ _ h.his
theorem StOk.lives {B N : Nat} {S : St} (h : StOk B N S) {s : ByteArray} {x : Nat} (hl : look S.names s = some x) : live S.synced S.chg x := by
  rw [h.nam] at hl
  exact live_names _ _ h.his s x hl
theorem StOk.mono {B C N M : Nat} {S : St} (h : StOk B N S) (hB : B ≤ C) (hN : N ≤ M) : StOk C M S :=
  ⟨h.nam, h.his, fun x hx => (h.file x hx).mono hB hN, Nat.le_trans h.few hN, h.f1, h.f2, h.s1, Int.le_trans h.s2 (Int.ofNat_le.2 hN), h.r1, h.r2⟩
/-- a step is taken -/
def St.tick (S : St) : St := { S with steps := S.steps + 1, fuse := if 0 < S.fuse then S.fuse - 1 else S.fuse }
theorem StOk.tick {B N : Nat} {S : St} (h : StOk B N S) : StOk B (N + 1) S.tick := by
  refine ⟨h.nam, h.his, fun x hx => (h.file x hx).mono (Nat.le_refl _) (Nat.le_succ _), Nat.le_trans h.few (Nat.le_succ _), ?_, ?_, ?_, ?_, h.r1, h.r2⟩
  · show -1 ≤ (if 0 < S.fuse then S.fuse - 1 else S.fuse)
    have := h.f1
    split <;> omega
  · show (if 0 < S.fuse then S.fuse - 1 else S.fuse) ≤ 1073741824
    have := h.f2
    split <;> omega
  · show 0 ≤ S.steps + 1
    have := h.s1
    omega
  · show S.steps + 1 ≤ ((N + 1 : Nat) : Int)
    have := h.s2
    omega
/-- a change of names is made -/
def St.naming (S : St) (c : Nm) : St := { S with names := c.app S.names, chg := S.chg ++ [c] }
/-- a file is another one -/
def St.file (S : St) (h : Nat) (x : File) : St := { S with F := fun k => if k = h then x else S.F k }
def St.kill (S : St) : St := { S with dead := true }
end Sf
end Go.Proofs.YtfibapfehgglhaaGreatDoor
