import Derived.Test.YtfibapfehgglhaaGreatDoorDkD
/-
  What saving comes to: mathematics.
-/
namespace Go.Proofs.YtfibapfehgglhaaGreatDoor
open Go.RowKit Go.Maps
namespace Sf
theorem mem_insert {x p : Lit × D} : ∀ l : List (Lit × D), p ∈ DataW.insert x l → p = x ∨ p ∈ l
  | [], h => by
    unfold DataW.insert at h
    exact .inl (List.mem_singleton.1 h)
  | y :: r, h => by
    unfold DataW.insert at h
    split at h
    · rcases List.mem_cons.1 h with h | h
      · exact .inl h
      · exact .inr h
    · rcases List.mem_cons.1 h with h | h
      · exact .inr (by rw [h]; exact List.mem_cons_self)
      · rcases mem_insert r h with h | h
        · exact .inl h
        · exact .inr (List.mem_cons_of_mem _ h)
theorem KS.put {d : D} (h : KS d) (s : ByteArray) (v : D) : KS (d.put (key s) v) := by
  obtain ⟨es, rfl, hs⟩ := h
  refine ⟨_, rfl, fun p hp => ?_⟩
  rcases mem_insert _ hp with h | h
  · rw [h]; exact ⟨_, rfl⟩
  · exact hs p (List.mem_filter.1 h).1
theorem KS.del {d : D} (h : KS d) (s : ByteArray) : KS (d.del (key s)) := by
  obtain ⟨es, rfl, hs⟩ := h
  exact ⟨_, rfl, fun p hp => hs p (List.mem_filter.1 hp).1⟩
theorem look_is {d : D} (hn : Nice d) (s : ByteArray) : (look d s).isSome = has d (key s) := by
  cases hl : look d s with
  | none => rw [look_none hn.files hl]; rfl
  | some x => rw [look_some hl]; rfl
theorem keys_perm {d : D} (hn : Nice d) (hk : KS d) {L : List (List UInt8)} (hL : L.Nodup) (h : ∀ s, (look d (bs s)).isSome = true ↔ s ∈ L) : (strKeys d).Perm L :=
  (List.perm_ext_iff_of_nodup (strKeys_nodup hn hk) hL).2 fun k => by rw [mem_keys hk, ← h, look_is hn, key_bs]
theorem list_eq {d : D} (hn : Nice d) (hk : KS d) {L : List (List UInt8)} (hL : L.Nodup) (h : ∀ s, (look d (bs s)).isSome = true ↔ s ∈ L) : list d = L.mergeSort leB := mergeSort_of_perm (keys_perm hn hk hL h)
theorem nodup_le {α : Type} [BEq α] [LawfulBEq α] : ∀ {l m : List α}, l.Nodup → (∀ x ∈ l, x ∈ m) → l.length ≤ m.length
  | [], _, _, _ => Nat.zero_le _
  | a :: l, m, hn, h => by
    have ha := h a List.mem_cons_self
    have hn2 := List.nodup_cons.1 hn
    have hi := nodup_le (l := l) (m := m.erase a) hn2.2 (fun x hx => by
      have hne : x ≠ a := fun e => hn2.1 (e ▸ hx)
      exact (List.mem_erase_of_ne hne).2 (h x (List.mem_cons_of_mem _ hx)))
    rw [List.length_erase_of_mem ha] at hi
    have : 0 < m.length := List.length_pos_of_mem ha
    rw [List.length_cons]
    omega
theorem size_le {d : D} (hn : Nice d) (hk : KS d) (L : List ByteArray) (h : ∀ s x, look d s = some x → s ∈ L) : Go.Maps.size d ≤ L.length := by
  rw [← length_strKeys]
  have := nodup_le (strKeys_nodup hn hk) (m := L.map fun s => s.data.toList) (fun k hk2 => by
    have h1 := (mem_keys hk k).1 hk2
    rw [← key_bs] at h1
    obtain ⟨x, hx, -⟩ := look_has hn.files h1
    refine List.mem_map.2 ⟨bs k, h _ _ hx, by simp [bs]⟩)
  rwa [List.length_map] at this
theorem total_le {B N : Nat} {S : St} (h : StOk B N S) : S.total ≤ Go.Maps.size S.names * B := by
  have h1 := tot_le (S := S) (d := S.names) (B := B) h.szOf (strKeys S.names)
  rwa [length_strKeys] at h1
/-- where all but one name are alike -/
theorem tot_but {S T : St} (hn : Nice S.names) (hk : KS S.names) (hn2 : Nice T.names) (hk2 : KS T.names) (t : ByteArray) (h : ∀ s, s ≠ t → look T.names s = look S.names s) (hF : ∀ s x, s ≠ t → look S.names s = some x → (T.F x).bytes.size = (S.F x).bytes.size) :
    T.total + szOf S S.names t.data.toList = S.total + szOf T T.names t.data.toList := by
  have e1 := total_split hn hk t.data.toList
  have e2 := total_split hn2 hk2 t.data.toList
  have hb := bs_data t
  have hne : ∀ k : List UInt8, k ≠ t.data.toList → bs k ≠ t := fun k hk e => hk (by rw [← e]; simp [bs])
  have hp : ((strKeys T.names).filter (· != t.data.toList)).Perm ((strKeys S.names).filter (· != t.data.toList)) := by
    refine (List.perm_ext_iff_of_nodup ((strKeys_nodup hn2 hk2).filter _) ((strKeys_nodup hn hk).filter _)).2 fun k => ?_
    rw [List.mem_filter, List.mem_filter, mem_keys hk2, mem_keys hk]
    by_cases e : k = t.data.toList
    · simp [e]
    · have h1 := look_is hn2 (bs k)
      have h2 := look_is hn (bs k)
      rw [key_bs] at h1 h2
      rw [h _ (hne k e), h2] at h1
      rw [h1]
  have e3 : tot T T.names ((strKeys T.names).filter (· != t.data.toList)) = tot S S.names ((strKeys S.names).filter (· != t.data.toList)) := by
    rw [tot_perm hp]
    refine tot_congr fun k hk3 => ?_
    have hkt : k ≠ t.data.toList := by simpa using (List.mem_filter.1 hk3).2
    unfold szOf
    rw [h _ (hne k hkt)]
    split
    · rename_i x hx
      exact hF _ x (hne k hkt) hx
    · rfl
  rw [e3] at e2
  omega
theorem szOf_at (S : St) (d : D) (t : ByteArray) : szOf S d t.data.toList = match look d t with
  | some x => (S.F x).bytes.size
  | none => 0 := by unfold szOf; rw [bs_data]; cases look d t <;> rfl
theorem rename_yes {S : St} {a b : ByteArray} {x : Nat} (hd : S.dead = false) (hl : look S.names a = some x) (hb : isName b = true) (hf : S.fuse ≠ 0) : S.rename a b = (S.tick.naming (.ren a b), 0) := by
  unfold St.rename
  rw [hd, hl, hb]
  rw [if_neg (by decide)]
  show (if true = false then _ else _) = _
  rw [if_neg (by decide)]
  unfold St.nameDo
  rw [if_neg hf]
theorem remove_yes {S : St} {a : ByteArray} {x : Nat} (hd : S.dead = false) (hl : look S.names a = some x) (hf : S.fuse ≠ 0) : S.remove a = (S.tick.naming (.rem a), 0) := by
  unfold St.remove
  rw [hd, hl]
  rw [if_neg (by decide)]
  show S.nameDo (.rem a) = _
  unfold St.nameDo
  rw [if_neg hf]
theorem tick_fuse {S : St} (h : S.fuse = -1) : S.tick.fuse = -1 := by
  show (if 0 < S.fuse then S.fuse - 1 else S.fuse) = -1
  rw [h]; rfl
theorem create_die {S : St} {s : ByteArray} (y : Nat) (hd : S.dead = false) (hs : isName s = true) (hl : look S.names s = none) (hz : Go.Maps.size S.names < 64) (hf : S.fuse = 0) : S.create s y = ((S.file y file0).kill, 13) := by
  unfold St.create
  rw [hd, hl, hs]
  rw [if_neg (by decide), if_neg (by decide), if_neg (by decide), if_neg (by omega)]
  unfold St.nameDo
  rw [if_pos (show (S.file y file0).fuse = 0 from hf)]
theorem append_die {S : St} {s b : ByteArray} {x : Nat} (hd : S.dead = false) (hl : look S.names s = some x) (hr : (S.total : Int) + (b.size : Int) ≤ S.room) (hf : S.fuse = 0) : S.append s b = (S.kill, 13) := by
  unfold St.append
  rw [hd, hl]
  rw [if_neg (by decide)]
  show (if _ then _ else _) = _
  rw [if_neg (by omega)]
  unfold St.fileDo
  rw [if_pos hf]
theorem append_full {S : St} {s b : ByteArray} {x : Nat} (hd : S.dead = false) (hl : look S.names s = some x) (hr : S.room < (S.total : Int) + (b.size : Int)) : S.append s b = (S, 8) := by
  unfold St.append
  rw [hd, hl]
  rw [if_neg (by decide)]
  show (if _ then _ else _) = _
  rw [if_pos hr]
theorem sync_die {S : St} {s : ByteArray} {x : Nat} (hd : S.dead = false) (hl : look S.names s = some x) (hf : S.fuse = 0) : S.sync s = (S.kill, 13) := by
  unfold St.sync
  rw [hd, hl]
  rw [if_neg (by decide)]
  show S.fileDo x _ = _
  unfold St.fileDo
  rw [if_pos hf]
theorem rename_die {S : St} {a b : ByteArray} {x : Nat} (hd : S.dead = false) (hl : look S.names a = some x) (hb : isName b = true) (hf : S.fuse = 0) : S.rename a b = (S.kill, 13) := by
  unfold St.rename
  rw [hd, hl, hb]
  rw [if_neg (by decide)]
  show (if true = false then _ else _) = _
  rw [if_neg (by decide)]
  unfold St.nameDo
  rw [if_pos hf]
theorem dir_die {S : St} (hd : S.dead = false) (hf : S.fuse = 0) : S.dirDo = (S.kill, 13) := by
  unfold St.dirDo
  rw [hd, if_neg (by decide), if_pos hf]
theorem tmp_ne (n : ByteArray) : n ≠ tmp n := fun e => by
  have := tmp_size n
  rw [← e] at this
  omega
theorem tmp_name {n : ByteArray} (h : n.size ≤ 36) : isName (tmp n) = true := by
  unfold isName
  rw [tmp_size]
  exact decide_eq_true (by omega)
theorem name_of {n : ByteArray} (h : n.size ≤ 40) (h0 : 0 < n.size) : isName n = true := by
  unfold isName
  exact decide_eq_true ⟨h0, h⟩
/-- behind the first step -/
structure At1 (S S1 : St) (t : ByteArray) : Prop where
  eq : sv1 S t = (S1, 0)
  look : ∀ s, look S1.names s = if s = t then none else look S.names s
  F : S1.F = S.F
  dead : S1.dead = false
  fuse : S.fuse = -1 → S1.fuse = -1
  room : S1.room = S.room
  steps : S1.steps = S.steps + (if (Sf.look S.names t).isSome = true then 1 else 0)
  nice : Nice S1.names
  ks : KS S1.names
  size : Go.Maps.size S1.names ≤ Go.Maps.size S.names
  total : S1.total ≤ S.total
  same : Sf.look S.names t = none → S1 = S
  syn : S1.synced = S.synced
  chg : ∃ L, S1.chg = S.chg ++ L
theorem sv1_at {B N : Nat} {S : St} (hok : StOk B N S) (hk : KS S.names) (hd : S.dead = false) (t : ByteArray) (hf : Sf.look S.names t = none ∨ S.fuse ≠ 0) : ∃ S1, At1 S S1 t := by
  cases hl : look S.names t with
  | none =>
    refine ⟨S, ?_, fun s => ?_, rfl, hd, id, rfl, ?_, hok.nice, hk, Nat.le_refl _, Nat.le_refl _, fun _ => rfl, rfl, [], (List.append_nil _).symm⟩
    · unfold sv1; rw [hl]; rfl
    · split
      · rename_i e; rw [e, hl]
      · rfl
    · rw [hl]; show S.steps = S.steps + 0; omega
  | some x =>
    have hf0 : S.fuse ≠ 0 := hf.resolve_left (by rw [hl]; simp)
    have e := remove_yes hd hl hf0
    have hlk : ∀ s, look (S.tick.naming (.rem t)).names s = if s = t then none else look S.names s := fun s => by
      show look (S.names.del (key t)) s = _
      split
      · rename_i e; rw [e]; exact look_del_same t
      · rename_i e; exact look_del_other e
    have hn1 : Nice (S.tick.naming (.rem t)).names := nice_rem hok.nice t
    have hk1 : KS (S.tick.naming (.rem t)).names := hk.del t
    refine ⟨S.tick.naming (.rem t), ?_, hlk, rfl, hd, fun h => tick_fuse h, rfl, ?_, hn1, hk1, ?_, ?_, fun h => (by rw [hl] at h; cases h), rfl, _, rfl⟩
    · unfold sv1; rw [hl]; exact e
    · rw [hl]; rfl
    · have := size_del (k := key t) hok.nice.tidy
      show Go.Maps.size (S.names.del (key t)) ≤ _
      omega
    · have := tot_but hok.nice hk hn1 hk1 t (fun s hs => by rw [hlk, if_neg hs]) (fun s x _ _ => rfl)
      rw [szOf_at (S.tick.naming (.rem t)), hlk, if_pos rfl] at this
      simp only [] at this
      omega
/-- a file is saved: what was there, and what is -/
structure Saved (S1 T : St) (n b : ByteArray) (y : Nat) : Prop where
  look : ∀ s, look T.names s = if s = n then some y else Sf.look S1.names s
  F : T.F y = whole b
  F' : ∀ x, x ≠ y → T.F x = S1.F x
  dead : T.dead = false
  fuse : S1.fuse = -1 → T.fuse = -1
  chg : T.chg = []
  syn : T.synced = T.names
  room : T.room = S1.room
  steps : T.steps = S1.steps + 5
/-- the machine died on the way -/
structure Died (S1 T : St) (n b : ByteArray) (y : Nat) : Prop where
  dead : T.dead = true
  syn : T.synced = S1.synced
  chg : T.chg = S1.chg ∨ T.chg = S1.chg ++ [.cre (tmp n) y] ∨ (T.chg = S1.chg ++ [.cre (tmp n) y] ++ [.ren (tmp n) n] ∧ T.F y = whole b)
  F' : ∀ x, x ≠ y → T.F x = S1.F x
  room : T.room = S1.room
  fuse : S1.fuse ≠ -1
set_option maxHeartbeats 1000000 in
theorem save_all {S S1 : St} {n b : ByteArray} (h1 : At1 S S1 (tmp n)) (hn1 : isName n = true) (hn2 : n.size ≤ 36) (y : Nat) (hy : ∀ s, look S.names s ≠ some y) (hz : Go.Maps.size S.names < 64) (hr : (S.total : Int) + (b.size : Int) ≤ S.room) :
    ((S.save n b y).2 = 0 ∧ Saved S1 (S.save n b y).1 n b y) ∨ ((S.save n b y).2 = 13 ∧ Died S1 (S.save n b y).1 n b y) := by
  obtain ⟨t, ht⟩ : ∃ t, t = tmp n := ⟨_, rfl⟩
  have htn : isName t = true := by rw [ht]; exact tmp_name hn2
  have hne : n ≠ t := by rw [ht]; exact tmp_ne n
  have e1 : sv1 S t = (S1, 0) := by rw [ht]; exact h1.eq
  have hlt : look S1.names t = none := by rw [h1.look, ht, if_pos rfl]
  have hz1 : Go.Maps.size S1.names < 64 := Nat.lt_of_le_of_lt h1.size hz
  have hy1 : ∀ s, look S1.names s ≠ some y := fun s hs => by
    rw [h1.look] at hs
    split at hs
    · cases hs
    · exact hy s hs
  have hsave : ∀ T er, sv6 S t y b n = (T, er) → er = 0 ∨ er = 13 → S.save n b y = (T, er) := fun T er h6 her => by
    have h6' : sv6 S (tmp n) y b n = (T, er) := by rw [← ht]; exact h6
    unfold St.save
    rw [h6']
    unfold St.undo
    rw [if_neg (by rcases her with h | h <;> simp [h])]
  have hsteps := h1.steps
  have hex2 : sv2 S t y = S1.create t y := by unfold sv2; rw [e1]; exact bd_ok rfl
  by_cases f1 : S1.fuse = 0
  · have e2 := create_die y h1.dead htn hlt hz1 f1
    rw [← hex2] at e2
    have e3 : sv3 S t y b = ((S1.file y file0).kill, 13) := by unfold sv3; rw [e2]; exact bd_no (show (13 : Int) ≠ 0 by decide)
    have e4 : sv4 S t y b = ((S1.file y file0).kill, 13) := by unfold sv4; rw [e3]; exact bd_no (show (13 : Int) ≠ 0 by decide)
    have e5 : sv5 S t y b n = ((S1.file y file0).kill, 13) := by unfold sv5; rw [e4]; exact bd_no (show (13 : Int) ≠ 0 by decide)
    have e6 : sv6 S t y b n = ((S1.file y file0).kill, 13) := by unfold sv6; rw [e5]; exact bd_no (show (13 : Int) ≠ 0 by decide)
    rw [hsave _ _ e6 (.inr rfl)]
    exact .inr ⟨rfl, rfl, rfl, .inl rfl, fun x hx => if_neg hx, rfl, fun h => by rw [h] at f1; cases f1⟩
  have e2 := create_yes y h1.dead htn hlt hz1 f1
  rw [← hex2] at e2
  obtain ⟨S2, hS2⟩ : ∃ S2, S2 = (S1.file y file0).tick.naming (.cre t y) := ⟨_, rfl⟩
  rw [← hS2] at e2
  have n2 : S2.names = S1.names.put (key t) (Sf.hd y) := by rw [hS2]; rfl
  have l2 : ∀ s, look S2.names s = if s = t then some y else look S1.names s := fun s => by
    rw [n2]
    split
    · rename_i e; rw [e]; exact look_put_same h1.nice.tidy.isMap t y
    · rename_i e; exact look_put_other e _
  have d2 : S2.dead = false := by rw [hS2]; exact h1.dead
  have r2 : S2.room = S1.room := by rw [hS2]; rfl
  have c2 : S2.chg = S1.chg ++ [.cre t y] := by rw [hS2]; rfl
  have y2 : S2.synced = S1.synced := by rw [hS2]; rfl
  have F2 : S2.F y = file0 := by rw [hS2]; exact if_pos rfl
  have F2' : ∀ x, x ≠ y → S2.F x = S1.F x := fun x hx => by rw [hS2]; exact if_neg hx
  have s2 : S2.steps = S1.steps + 1 := by rw [hS2]; rfl
  have fu2 : S1.fuse = -1 → S2.fuse = -1 := fun h => by rw [hS2]; exact tick_fuse (S := S1) h
  have ni2 : Nice S2.names := by
    rw [n2]
    exact nice_cre (s := t) h1.nice (by unfold isName at htn; simp at htn; omega) hy1 hz1
  have ks2 : KS S2.names := by rw [n2]; exact h1.ks.put t _
  have t2 : S2.total = S1.total := by
    have := tot_but h1.nice h1.ks ni2 ks2 t (fun s hs => by rw [l2, if_neg hs]) (fun s x _ hx => by rw [F2' x (fun e => hy1 s (by rw [← e]; exact hx))])
    rw [szOf_at, szOf_at, hlt, l2, if_pos rfl] at this
    simp only [F2] at this
    have z0 : file0.bytes.size = 0 := rfl
    omega
  clear hS2
  have hr2 : (S2.total : Int) + (b.size : Int) ≤ S2.room := by
    rw [t2, r2, h1.room]
    have := h1.total
    omega
  have lt2 : look S2.names t = some y := by rw [l2, if_pos rfl]
  have hex3 : sv3 S t y b = S2.append t b := by unfold sv3; rw [e2]; exact bd_ok rfl
  by_cases f2 : S2.fuse = 0
  · have e3 := append_die (b := b) d2 lt2 hr2 f2
    rw [← hex3] at e3
    have e4 : sv4 S t y b = (S2.kill, 13) := by unfold sv4; rw [e3]; exact bd_no (show (13 : Int) ≠ 0 by decide)
    have e5 : sv5 S t y b n = (S2.kill, 13) := by unfold sv5; rw [e4]; exact bd_no (show (13 : Int) ≠ 0 by decide)
    have e6 : sv6 S t y b n = (S2.kill, 13) := by unfold sv6; rw [e5]; exact bd_no (show (13 : Int) ≠ 0 by decide)
    rw [hsave _ _ e6 (.inr rfl)]
    exact .inr ⟨rfl, rfl, y2, .inr (.inl (by rw [← ht]; exact c2)), F2', r2, fun h => by rw [fu2 h] at f2; cases f2⟩
  have e3 := append_yes (b := b) d2 lt2 hr2 f2
  rw [← hex3] at e3
  obtain ⟨S3, hS3⟩ : ∃ S3, S3 = S2.tick.file y ((S2.F y).change (.app b)) := ⟨_, rfl⟩
  rw [← hS3] at e3
  have n3 : S3.names = S2.names := by rw [hS3]; rfl
  have d3 : S3.dead = false := by rw [hS3]; exact d2
  have r3 : S3.room = S1.room := by rw [hS3]; exact r2
  have c3 : S3.chg = S1.chg ++ [.cre t y] := by rw [hS3]; exact c2
  have y3 : S3.synced = S1.synced := by rw [hS3]; exact y2
  have F3 : (S3.F y).bytes = b := by
    rw [hS3, file_same, F2]
    show ByteArray.append ⟨#[]⟩ b = b
    exact ByteArray.empty_append
  have F3' : ∀ x, x ≠ y → S3.F x = S1.F x := fun x hx => by rw [hS3, file_other hx]; exact F2' x hx
  have s3 : S3.steps = S1.steps + 2 := by rw [hS3]; show S2.steps + 1 = _; rw [s2]; omega
  have fu3 : S1.fuse = -1 → S3.fuse = -1 := fun h => by rw [hS3]; exact tick_fuse (fu2 h)
  clear hS3
  have lt3 : look S3.names t = some y := by rw [n3]; exact lt2
  have hex4 : sv4 S t y b = S3.sync t := by unfold sv4; rw [e3]; exact bd_ok rfl
  by_cases f3 : S3.fuse = 0
  · have e4 := sync_die d3 lt3 f3
    rw [← hex4] at e4
    have e5 : sv5 S t y b n = (S3.kill, 13) := by unfold sv5; rw [e4]; exact bd_no (show (13 : Int) ≠ 0 by decide)
    have e6 : sv6 S t y b n = (S3.kill, 13) := by unfold sv6; rw [e5]; exact bd_no (show (13 : Int) ≠ 0 by decide)
    rw [hsave _ _ e6 (.inr rfl)]
    exact .inr ⟨rfl, rfl, y3, .inr (.inl (by rw [← ht]; exact c3)), F3', r3, fun h => by rw [fu3 h] at f3; cases f3⟩
  have e4 := sync_yes d3 lt3 f3
  rw [← hex4] at e4
  obtain ⟨S4, hS4⟩ : ∃ S4, S4 = S3.tick.file y (whole (S3.F y).bytes) := ⟨_, rfl⟩
  rw [← hS4] at e4
  have n4 : S4.names = S2.names := by rw [hS4]; exact n3
  have d4 : S4.dead = false := by rw [hS4]; exact d3
  have r4 : S4.room = S1.room := by rw [hS4]; exact r3
  have c4 : S4.chg = S1.chg ++ [.cre t y] := by rw [hS4]; exact c3
  have y4 : S4.synced = S1.synced := by rw [hS4]; exact y3
  have F4 : S4.F y = whole b := by rw [hS4, file_same, F3]
  have F4' : ∀ x, x ≠ y → S4.F x = S1.F x := fun x hx => by rw [hS4, file_other hx]; exact F3' x hx
  have s4 : S4.steps = S1.steps + 3 := by rw [hS4]; show S3.steps + 1 = _; rw [s3]; omega
  have fu4 : S1.fuse = -1 → S4.fuse = -1 := fun h => by rw [hS4]; exact tick_fuse (fu3 h)
  clear hS4
  have lt4 : look S4.names t = some y := by rw [n4]; exact lt2
  have hex5 : sv5 S t y b n = S4.rename t n := by unfold sv5; rw [e4]; exact bd_ok rfl
  by_cases f4 : S4.fuse = 0
  · have e5 := rename_die d4 lt4 hn1 f4
    rw [← hex5] at e5
    have e6 : sv6 S t y b n = (S4.kill, 13) := by unfold sv6; rw [e5]; exact bd_no (show (13 : Int) ≠ 0 by decide)
    rw [hsave _ _ e6 (.inr rfl)]
    exact .inr ⟨rfl, rfl, y4, .inr (.inl (by rw [← ht]; exact c4)), F4', r4, fun h => by rw [fu4 h] at f4; cases f4⟩
  have e5 := rename_yes d4 lt4 hn1 f4
  rw [← hex5] at e5
  obtain ⟨S5, hS5⟩ : ∃ S5, S5 = S4.tick.naming (.ren t n) := ⟨_, rfl⟩
  rw [← hS5] at e5
  have n5 : S5.names = (S4.names.del (key t)).put (key n) (Sf.hd y) := by
    rw [hS5]
    show (S4.names.del (key t)).put (key n) (Sf.hd ((look S4.names t).getD 0)) = _
    rw [lt4]
    rfl
  have l5 : ∀ s, look S5.names s = if s = n then some y else look S1.names s := fun s => by
    rw [n5]
    split
    · rename_i e; rw [e]; exact look_put_same (by rw [n4]; exact ni2.tidy.isMap.del _) n y
    · rename_i e
      rw [look_put_other e]
      by_cases e2 : s = t
      · rw [e2, look_del_same, hlt]
      · rw [look_del_other e2, n4, l2, if_neg e2]
  have d5 : S5.dead = false := by rw [hS5]; exact d4
  have r5 : S5.room = S1.room := by rw [hS5]; exact r4
  have c5 : S5.chg = S1.chg ++ [.cre t y] ++ [.ren t n] := by rw [hS5]; show S4.chg ++ _ = _; rw [c4]
  have y5 : S5.synced = S1.synced := by rw [hS5]; exact y4
  have F5 : S5.F y = whole b := by rw [hS5]; exact F4
  have F5' : ∀ x, x ≠ y → S5.F x = S1.F x := fun x hx => by rw [hS5]; exact F4' x hx
  have s5 : S5.steps = S1.steps + 4 := by rw [hS5]; show S4.steps + 1 = _; rw [s4]; omega
  have fu5 : S1.fuse = -1 → S5.fuse = -1 := fun h => by rw [hS5]; exact tick_fuse (fu4 h)
  clear hS5
  have hex6 : sv6 S t y b n = S5.dirDo := by unfold sv6; rw [e5]; exact bd_ok rfl
  by_cases f5 : S5.fuse = 0
  · have e6 := dir_die d5 f5
    rw [← hex6] at e6
    rw [hsave _ _ e6 (.inr rfl)]
    exact .inr ⟨rfl, rfl, y5, .inr (.inr ⟨by rw [← ht]; exact c5, F5⟩), F5', r5, fun h => by rw [fu5 h] at f5; cases f5⟩
  have e6 := dir_yes d5 f5
  rw [← hex6] at e6
  rw [hsave _ _ e6 (.inl rfl)]
  exact .inl ⟨rfl, l5, F5, F5', d5, fun h => tick_fuse (fu5 h), rfl, rfl, r5, by show S5.steps + 1 = _; rw [s5]; omega⟩
end Sf
end Go.Proofs.YtfibapfehgglhaaGreatDoor
