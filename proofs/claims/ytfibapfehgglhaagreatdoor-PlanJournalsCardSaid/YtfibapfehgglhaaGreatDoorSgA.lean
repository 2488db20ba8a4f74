import Derived.Test.YtfibapfehgglhaaGreatDoorSfY
/-
  What an act comes to.
-/
namespace Go.Proofs.YtfibapfehgglhaaGreatDoor
open Go.RowKit
theorem Sf.StOk.room {B N : Nat} {S : Sf.St} (h : Sf.StOk B N S) (n : Int) (hn : n ≤ 9223372036854775807) : Sf.StOk B N { S with room := max n 0 } :=
  ⟨h.nam, h.his, h.file, h.few, h.f1, h.f2, h.s1, h.s2, (by show 0 ≤ max n 0; omega), (by show max n 0 ≤ _; omega)⟩
theorem Sf.StOk.setFuse {B N : Nat} {S : Sf.St} (h : Sf.StOk B N S) (n : Int) : Sf.StOk B N { S with fuse := Sf.fuseOf n } :=
  ⟨h.nam, h.his, h.file, h.few, (by show -1 ≤ Sf.fuseOf n; unfold Sf.fuseOf; omega), (by show Sf.fuseOf n ≤ _; unfold Sf.fuseOf; omega), h.s1, h.s2, h.r1, h.r2⟩
theorem Left.after {w w1 w2 : World} {base fb : Nat} {S2 : Sf.St} (hb : Below base w w1) (hs : Stays w w1) (h : Left w1 base fb S2 w2) : Left w base fb S2 w2 := ⟨h.fs, hb.trans h.bel, hs.trans h.st⟩
end Go.Proofs.YtfibapfehgglhaaGreatDoor
/-
  Mathematics of the laws: what a crash leaves; how many bytes there are.
-/
namespace Go.Proofs.YtfibapfehgglhaaGreatDoor
open Go.RowKit Go.Maps
namespace Sf
/-- all keys are texts -/
def KS (d : D) : Prop := ∃ es, d = .map es ∧ ∀ p ∈ es, ∃ s : List UInt8, p.1 = .string s
theorem keys_of {w : World} {b : Nat} {d : D} (h : NamesAt w b d) : KS d := by
  obtain ⟨es, rfl, hko⟩ := World.ownsMap.keysOf h
  refine ⟨es, rfl, fun p hp => ?_⟩
  obtain ⟨v, hv⟩ := hko p hp
  obtain ⟨y, -, hy, -⟩ := Go.Maps.keyOf_str Tryz.underlying9 hv
  exact ⟨y, hy⟩
theorem strKeys_nodup {d : D} (h : Nice d) (hk : KS d) : (strKeys d).Nodup := by
  obtain ⟨es, rfl, hs⟩ := hk
  obtain ⟨es2, e, hp⟩ := h.tidy
  cases e
  show (es.map fun p => strOf p.1).Nodup
  refine List.pairwise_map.2 (hp.imp_of_mem fun {p q} hp' hq' hne e => hne ?_)
  obtain ⟨a, ha⟩ := hs p hp'
  obtain ⟨b, hb⟩ := hs q hq'
  rw [ha, hb] at e ⊢
  exact congrArg _ e
theorem mem_keys {d : D} (hk : KS d) (x : List UInt8) : x ∈ strKeys d ↔ has d (.string x) = true := by
  obtain ⟨es, rfl, hs⟩ := hk
  rw [has_eq, List.any_eq_true]
  show x ∈ es.map (fun p => strOf p.1) ↔ _
  rw [List.mem_map]
  constructor
  · rintro ⟨p, hp, rfl⟩
    obtain ⟨y, hy⟩ := hs p hp
    refine ⟨p, hp, ?_⟩
    rw [hy]
    simp [strOf, Lit.sameKey]
  · rintro ⟨p, hp, e⟩
    obtain ⟨y, hy⟩ := hs p hp
    refine ⟨p, hp, ?_⟩
    rw [hy] at e ⊢
    simpa [strOf, Lit.sameKey] using e
theorem key_bs (x : List UInt8) : key (bs x) = .string x := by unfold key bs; simp
theorem bs_data (s : ByteArray) : bs s.data.toList = s := by unfold bs; simp
theorem mem_list {d : D} (hk : KS d) {s : ByteArray} {x : Nat} (h : look d s = some x) : ∃ i, i < (list d).length ∧ bs ((list d).getD i []) = s := by
  have h1 := look_some h
  have h2 : s.data.toList ∈ strKeys d := (mem_keys hk _).2 h1
  have h3 : s.data.toList ∈ list d := (List.mergeSort_perm (strKeys d) leB).mem_iff.2 h2
  obtain ⟨i, hi, e⟩ := List.getElem_of_mem h3
  refine ⟨i, hi, ?_⟩
  rw [show (list d).getD i [] = s.data.toList by simp [List.getD, hi, e]]
  exact bs_data s
theorem list_at {d : D} (hn : Nice d) (hk : KS d) {i : Nat} (hi : i < (list d).length) : ∃ x, look d (bs ((list d).getD i [])) = some x ∧ (bs ((list d).getD i [])).size ≤ 100 := by
  have e : (list d).getD i [] = (list d)[i] := by simp [List.getD, hi]
  have hm : (list d)[i] ∈ strKeys d := (List.mergeSort_perm (strKeys d) leB).mem_iff.1 (List.getElem_mem hi)
  rw [e]
  have hh : has d (key (bs (list d)[i])) = true := by rw [key_bs]; exact (mem_keys hk _).1 hm
  obtain ⟨x, hx, -⟩ := look_has hn.files hh
  exact ⟨x, hx, hn.short _ hh⟩
/-- all files that are named are whole -/
def Whole (S : St) : Prop := S.chg = [] ∧ S.synced = S.names ∧ ∀ s x, look S.names s = some x → ∃ b, S.F x = whole b
theorem crash_whole (S : St) (k : Keep) (hk : KS (S.now k)) : Whole (S.crash k) :=
  ⟨rfl, rfl, fun s x h => by
    have h2 : look (S.now k) s = some x := h
    obtain ⟨i, hi, e⟩ := mem_list hk h2
    exact crashTo_whole k (S.now k) (list (S.now k)) S _ i hi (by rw [e]; exact h2)⟩
theorem whole_crash {S : St} (h : Whole S) (k : Keep) : (S.crash k).names = S.names ∧ (∀ x, (S.crash k).F x = S.F x) := by
  obtain ⟨h1, h2, h3⟩ := h
  have e : S.now k = S.names := by
    unfold St.now
    rw [h1, h2]
    simp [Sf.names]
  refine ⟨e, fun x => ?_⟩
  show (crashTo k (S.now k) (list (S.now k)) S (list (S.now k)).length).F x = S.F x
  rw [e]
  exact crashTo_still k S.names (list S.names) S h3 _ x
theorem read_of {S : St} (hd : S.dead = false) {s : ByteArray} {x : Nat} (h : look S.names s = some x) : S.read s = ((S.F x).bytes, 0) := by
  unfold St.read St.find
  rw [hd, h]
  rfl
theorem read_no {S : St} (hd : S.dead = false) {s : ByteArray} (h : look S.names s = none) : S.read s = (⟨#[]⟩, 11) := by
  unfold St.read St.find
  rw [hd, h]
  rfl
theorem read_dead {S : St} (hd : S.dead = true) (s : ByteArray) : S.read s = (⟨#[]⟩, 13) := by
  unfold St.read St.find
  rw [hd]
  rfl
/-- what was whole is read as it was, behind any crash -/
theorem again_read {S : St} (h : Whole S) (k : Keep) {i : Nat} (hd : S.dead = false) (hn : Nice S.names) (hk : KS S.names) (hi : i < (list S.names).length) :
    (S.crash k).read (bs ((list S.names).getD i [])) = ((S.read (bs ((list S.names).getD i []))).1, 0) := by
  obtain ⟨x, hx, -⟩ := list_at hn hk hi
  obtain ⟨h1, h2⟩ := whole_crash h k
  rw [read_of (S := S) hd hx, read_of (S := S.crash k) rfl (by rw [h1]; exact hx), h2]
/-! how many bytes -/
theorem tot_cons (S : St) (d : D) (k : List UInt8) (ss : List (List UInt8)) : tot S d (k :: ss) = szOf S d k + tot S d ss := by unfold tot; simp
theorem tot_split (S : St) (d : D) (k : List UInt8) {ss : List (List UInt8)} (hn : ss.Nodup) (hk : k ∈ ss) : tot S d ss = szOf S d k + tot S d (ss.filter (· != k)) := by
  rw [tot_perm (List.perm_cons_erase hk), tot_cons, hn.erase_eq_filter]
theorem filter_none {k : List UInt8} {ss : List (List UInt8)} (hk : k ∉ ss) : ss.filter (· != k) = ss := by
  rw [List.filter_eq_self]
  intro a ha
  have : a ≠ k := fun e => hk (e ▸ ha)
  simpa using this
theorem szOf_none {S : St} {d : D} (hk : KS d) {k : List UInt8} (h : k ∉ strKeys d) : szOf S d k = 0 := by
  have h2 : has d (key (bs k)) = false := by
    rw [key_bs]
    cases hh : has d (.string k)
    · rfl
    · exact absurd ((mem_keys hk k).2 hh) h
  unfold szOf
  rw [look_of_not h2]
theorem total_split {S : St} (hn : Nice S.names) (hk : KS S.names) (k : List UInt8) : S.total = szOf S S.names k + tot S S.names ((strKeys S.names).filter (· != k)) := by
  unfold St.total
  by_cases h : k ∈ strKeys S.names
  · exact tot_split S _ k (strKeys_nodup hn hk) h
  · rw [filter_none h, szOf_none hk h, Nat.zero_add]
theorem tot_congr {S T : St} {d e : D} {ss : List (List UInt8)} (h : ∀ k ∈ ss, szOf S d k = szOf T e k) : tot S d ss = tot T e ss := by
  unfold tot
  rw [List.map_congr_left h]
/-- a file with other bytes -/
theorem total_file {S : St} (hn : Nice S.names) (hk : KS S.names) {s : ByteArray} {x : Nat} (hx : look S.names s = some x) (y : File) : (S.file x y).total + (S.F x).bytes.size = S.total + y.bytes.size := by
  have e1 := total_split hn hk s.data.toList
  have e2 := total_split (S := S.file x y) hn hk s.data.toList
  have hb := bs_data s
  have z1 : szOf S S.names s.data.toList = (S.F x).bytes.size := by unfold szOf; rw [hb, hx]
  have z2 : szOf (S.file x y) S.names s.data.toList = y.bytes.size := by
    unfold szOf
    rw [hb, hx]
    show ((S.file x y).F x).bytes.size = _
    rw [file_same]
  have z3 : tot (S.file x y) S.names ((strKeys S.names).filter (· != s.data.toList)) = tot S S.names ((strKeys S.names).filter (· != s.data.toList)) := by
    refine tot_congr fun k hk2 => ?_
    have hne : k ≠ s.data.toList := by simpa using (List.mem_filter.1 hk2).2
    unfold szOf
    split
    · rename_i z hz
      have hzx : z ≠ x := fun e => hne (by
        have := hn.inj (bs k) s x (by rw [hz, e]) hx
        rw [← this]
        simp [bs])
      rw [file_other hzx]
    · rfl
  have e3 : (S.file x y).names = S.names := rfl
  rw [e3] at e2
  rw [z2, z3] at e2
  rw [z1] at e1
  omega
theorem total_tick (S : St) : S.tick.total = S.total := rfl
theorem total_append {S : St} (hn : Nice S.names) (hk : KS S.names) (s b : ByteArray) (h : (S.append s b).2 = 0) : (S.append s b).1.total = S.total + b.size ∧ ((S.append s b).1.total : Int) ≤ S.room := by
  unfold St.append at h ⊢
  cases hd : S.dead
  · rw [hd] at h
    simp only [Bool.false_eq_true, if_false] at h ⊢
    cases hl : look S.names s with
    | none => rw [hl] at h; cases h
    | some x =>
      rw [hl] at h
      simp only at h ⊢
      by_cases hr : S.room < (S.total : Int) + (b.size : Int)
      · rw [if_pos hr] at h; cases h
      · rw [if_neg hr] at h ⊢
        unfold St.fileDo at h ⊢
        by_cases hf : S.fuse = 0
        · rw [if_pos hf] at h; cases h
        · rw [if_neg hf]
          have e := total_file (S := S.tick) hn hk hl ((S.F x).change (.app b))
          rw [total_tick] at e
          have e2 : ((S.F x).change (.app b)).bytes.size = (S.F x).bytes.size + b.size := by
            show ((S.F x).bytes ++ b).size = _
            rw [ByteArray.size_append]
          rw [e2] at e
          have e3 : (S.tick.F x).bytes.size = (S.F x).bytes.size := rfl
          rw [e3] at e
          have e4 : (S.tick.file x ((S.F x).change (.app b))).total = S.total + b.size := by omega
          exact ⟨e4, by show ((S.tick.file x ((S.F x).change (.app b))).total : Int) ≤ S.room; rw [e4]; omega⟩
  · rw [hd] at h
    cases h
/-- nothing that is seen is another one -/
structure Seen (S T : St) : Prop where
  nam : T.names = S.names
  steps : T.steps = S.steps
  F : ∀ s x, look S.names s = some x → T.F x = S.F x
theorem Seen.refl (S : St) : Seen S S := ⟨rfl, rfl, fun _ _ _ => rfl⟩
theorem Seen.total {S T : St} (h : Seen S T) : T.total = S.total := by
  unfold St.total
  rw [h.nam]
  refine tot_congr fun k _ => ?_
  unfold szOf
  split
  · rename_i x hx
    rw [h.F _ _ hx]
  · rfl
theorem nameDo_errs {S : St} {c : Nm} (h : (S.nameDo c).2 ≠ 0) : (S.nameDo c).1 = S.kill := by
  unfold St.nameDo at h ⊢
  split
  · rfl
  · rename_i hf; rw [if_neg hf] at h; exact absurd rfl h
theorem fileDo_errs {S : St} {x : Nat} {y : File} (h : (S.fileDo x y).2 ≠ 0) : (S.fileDo x y).1 = S.kill := by
  unfold St.fileDo at h ⊢
  split
  · rfl
  · rename_i hf; rw [if_neg hf] at h; exact absurd rfl h
theorem kill_seen (S : St) : Seen S S.kill := ⟨rfl, rfl, fun _ _ _ => rfl⟩
theorem create_errs {B N : Nat} {S : St} (hok : StOk B N S) {s : ByteArray} {y : Nat} (hy : ¬ live S.synced S.chg y) (h : (S.create s y).2 ≠ 0) : Seen S (S.create s y).1 := by
  unfold St.create at h ⊢
  split
  · exact Seen.refl S
  rename_i h1
  rw [if_neg h1] at h
  split
  · exact Seen.refl S
  rename_i h2
  rw [if_neg h2] at h
  split
  · exact Seen.refl S
  rename_i h3
  rw [if_neg h3] at h
  split
  · exact Seen.refl S
  rename_i h4
  rw [if_neg h4] at h
  rw [nameDo_errs h]
  exact ⟨rfl, rfl, fun t x hx => if_neg (fun e => hy (by rw [← e]; exact hok.lives hx))⟩
theorem append_errs {S : St} {s b : ByteArray} (h : (S.append s b).2 ≠ 0) : Seen S (S.append s b).1 := by
  unfold St.append at h ⊢
  split
  · exact Seen.refl S
  rename_i h1
  rw [if_neg h1] at h
  split
  · exact Seen.refl S
  · rename_i x hx
    rw [hx] at h
    simp only at h
    split
    · exact Seen.refl S
    · rename_i h2
      rw [if_neg h2] at h
      rw [fileDo_errs h]
      exact kill_seen S
theorem cut_errs {S : St} {s : ByteArray} {n : Int} (h : (S.cut s n).2 ≠ 0) : Seen S (S.cut s n).1 := by
  unfold St.cut at h ⊢
  split
  · exact Seen.refl S
  rename_i h1
  rw [if_neg h1] at h
  split
  · exact Seen.refl S
  · rename_i x hx
    rw [hx] at h
    simp only at h
    split
    · exact Seen.refl S
    · rename_i h2
      rw [if_neg h2] at h
      rw [fileDo_errs h]
      exact kill_seen S
theorem sync_errs {S : St} {s : ByteArray} (h : (S.sync s).2 ≠ 0) : Seen S (S.sync s).1 := by
  unfold St.sync at h ⊢
  split
  · exact Seen.refl S
  rename_i h1
  rw [if_neg h1] at h
  split
  · exact Seen.refl S
  · rename_i x hx
    rw [hx] at h
    simp only at h
    rw [fileDo_errs h]
    exact kill_seen S
theorem dir_errs {S : St} (h : S.dirDo.2 ≠ 0) : Seen S S.dirDo.1 := by
  unfold St.dirDo at h ⊢
  split
  · exact Seen.refl S
  rename_i h1
  rw [if_neg h1] at h
  split
  · exact kill_seen S
  · rename_i h2
    rw [if_neg h2] at h
    exact absurd rfl h
theorem rename_errs {S : St} {a b : ByteArray} (h : (S.rename a b).2 ≠ 0) : Seen S (S.rename a b).1 := by
  unfold St.rename at h ⊢
  split
  · exact Seen.refl S
  rename_i h1
  rw [if_neg h1] at h
  split
  · exact Seen.refl S
  · rename_i x hx
    rw [hx] at h
    simp only at h
    split
    · exact Seen.refl S
    · rename_i h2
      rw [if_neg h2] at h
      rw [nameDo_errs h]
      exact kill_seen S
theorem remove_errs {S : St} {a : ByteArray} (h : (S.remove a).2 ≠ 0) : Seen S (S.remove a).1 := by
  unfold St.remove at h ⊢
  split
  · exact Seen.refl S
  rename_i h1
  rw [if_neg h1] at h
  split
  · exact Seen.refl S
  · rename_i x hx
    rw [hx] at h
    simp only at h
    rw [nameDo_errs h]
    exact kill_seen S
theorem nameDo_room (S : St) (c : Nm) : (S.nameDo c).1.room = S.room := by unfold St.nameDo; split <;> rfl
theorem fileDo_room (S : St) (x : Nat) (y : File) : (S.fileDo x y).1.room = S.room := by unfold St.fileDo; split <;> rfl
/-- a file with another name -/
theorem total_rename {S : St} (hn : Nice S.names) (hk : KS S.names) {a b : ByteArray} (h : (S.rename a b).2 = 0) (hk2 : KS (S.rename a b).1.names) (hn2 : Nice (S.rename a b).1.names) :
    ∃ x, look S.names a = some x ∧ S.dead = false ∧ (S.rename a b).1.dead = false ∧ look (S.rename a b).1.names b = some x ∧ (a ≠ b → look (S.rename a b).1.names a = none) ∧ (∀ z, (S.rename a b).1.F z = S.F z) ∧
      ((S.rename a b).1.total : Int) = (S.total : Int) - (if a = b then 0 else ((S.read b).1.size : Int)) := by
  unfold St.rename at h hk2 hn2 ⊢
  cases hd : S.dead
  · rw [hd] at h hk2 hn2
    simp only [Bool.false_eq_true, if_false] at h hk2 hn2 ⊢
    cases hl : look S.names a with
    | none => rw [hl] at h; cases h
    | some x =>
      rw [hl] at h hk2 hn2
      simp only at h hk2 hn2 ⊢
      by_cases hi : isName b = false
      · rw [if_pos hi] at h; cases h
      · rw [if_neg hi] at h hk2 hn2 ⊢
        unfold St.nameDo at h hk2 hn2 ⊢
        by_cases hf : S.fuse = 0
        · rw [if_pos hf] at h; cases h
        · rw [if_neg hf] at hk2 hn2 ⊢
          have en : (S.tick.naming (.ren a b)).names = (S.names.del (key a)).put (key b) (Sf.hd x) := by
            show (S.names.del (key a)).put (key b) (Sf.hd ((look S.names a).getD 0)) = _
            rw [hl]
            rfl
          have hm : IsMap (S.names.del (key a)) := hn.tidy.isMap.del _
          rw [en] at hk2 hn2
          have lb : look (S.tick.naming (.ren a b)).names b = some x := by rw [en]; exact look_put_same hm b x
          have lo : ∀ s, s ≠ b → s ≠ a → look ((S.names.del (key a)).put (key b) (Sf.hd x)) s = look S.names s := fun s h1 h2 => by rw [look_put_other h1, look_del_other h2]
          have la : a ≠ b → look (S.tick.naming (.ren a b)).names a = none := fun h => by rw [en, look_put_other h, look_del_same]
          refine ⟨x, rfl, by simp, hd, lb, la, fun z => rfl, ?_⟩
          show ((S.tick.naming (.ren a b)).total : Int) = _
          have e1 := total_split (S := S.tick.naming (.ren a b)) (by rw [en]; exact hn2) (by rw [en]; exact hk2) b.data.toList
          have hbb := bs_data b
          have hba := bs_data a
          have zb : szOf (S.tick.naming (.ren a b)) (S.tick.naming (.ren a b)).names b.data.toList = (S.F x).bytes.size := by
            unfold szOf
            rw [hbb, lb]
            rfl
          have za : szOf S S.names a.data.toList = (S.F x).bytes.size := by
            unfold szOf
            rw [hba, hl]
          have hsame : ∀ k : List UInt8, k ≠ b.data.toList → k ≠ a.data.toList → szOf (S.tick.naming (.ren a b)) (S.tick.naming (.ren a b)).names k = szOf S S.names k := fun k h1 h2 => by
            have g1 : bs k ≠ b := fun e => h1 (by rw [← e]; simp [bs])
            have g2 : bs k ≠ a := fun e => h2 (by rw [← e]; simp [bs])
            unfold szOf
            rw [en, lo _ g1 g2]
            rfl
          have hka : a.data.toList ∈ strKeys S.names := (mem_keys hk _).2 (look_some hl)
          have hperm : ((strKeys (S.tick.naming (.ren a b)).names).filter (· != b.data.toList)).Perm (((strKeys S.names).filter (· != a.data.toList)).filter (· != b.data.toList)) := by
            refine (List.perm_ext_iff_of_nodup ((strKeys_nodup (by rw [en]; exact hn2) (by rw [en]; exact hk2)).filter _) (((strKeys_nodup hn hk).filter _).filter _)).2 fun k => ?_
            rw [List.mem_filter, List.mem_filter, List.mem_filter, mem_keys (by rw [en]; exact hk2), mem_keys hk, en]
            by_cases hkb : k = b.data.toList
            · subst hkb; simp
            · have g1 : (Lit.string k) ≠ key b := fun e => hkb (by unfold key at e; injection e)
              rw [has_put_other g1]
              by_cases hka2 : k = a.data.toList
              · subst hka2
                have : has (S.names.del (key a)) (.string a.data.toList) = false := has_del_same
                rw [this]
                simp
              · have g2 : (Lit.string k) ≠ key a := fun e => hka2 (by unfold key at e; injection e)
                rw [has_del_other g2]
                simp [hka2]
          have ht : tot (S.tick.naming (.ren a b)) (S.tick.naming (.ren a b)).names ((strKeys (S.tick.naming (.ren a b)).names).filter (· != b.data.toList)) = tot S S.names (((strKeys S.names).filter (· != a.data.toList)).filter (· != b.data.toList)) := by
            rw [tot_perm hperm]
            refine tot_congr fun k hk3 => ?_
            have h1 := List.mem_filter.1 hk3
            have h2 := List.mem_filter.1 h1.1
            exact hsame k (by simpa using h1.2) (by simpa using h2.2)
          have e2 := total_split hn hk a.data.toList
          rw [zb, ht] at e1
          rw [za] at e2
          by_cases hab : a = b
          · rw [if_pos hab]
            subst hab
            have e3 : ((strKeys S.names).filter (· != a.data.toList)).filter (· != a.data.toList) = (strKeys S.names).filter (· != a.data.toList) := by
              rw [List.filter_filter]
              simp
            rw [e3] at e1
            omega
          · rw [if_neg hab]
            have hdl : b.data.toList ≠ a.data.toList := fun e => hab (by rw [← hba, ← e, hbb])
            have e3 : tot S S.names ((strKeys S.names).filter (· != a.data.toList)) = (S.read b).1.size + tot S S.names (((strKeys S.names).filter (· != a.data.toList)).filter (· != b.data.toList)) := by
              cases hlb : look S.names b with
              | some y =>
                have hm2 : b.data.toList ∈ (strKeys S.names).filter (· != a.data.toList) := List.mem_filter.2 ⟨(mem_keys hk _).2 (look_some hlb), by simpa using hdl⟩
                rw [tot_split S _ _ ((strKeys_nodup hn hk).filter _) hm2, read_of hd hlb]
                have : szOf S S.names b.data.toList = (S.F y).bytes.size := by unfold szOf; rw [hbb, hlb]
                rw [this]
              | none =>
                have hm2 : b.data.toList ∉ (strKeys S.names).filter (· != a.data.toList) := fun h => by
                  have h1 := (mem_keys hk _).1 (List.mem_filter.1 h).1
                  have h2 := look_none hn.files hlb
                  rw [show key b = .string b.data.toList from rfl, h1] at h2
                  cases h2
                rw [filter_none hm2, read_no hd hlb]
                show _ = 0 + _
                omega
            omega
  · rw [hd] at h; cases h
end Sf
end Go.Proofs.YtfibapfehgglhaaGreatDoor
