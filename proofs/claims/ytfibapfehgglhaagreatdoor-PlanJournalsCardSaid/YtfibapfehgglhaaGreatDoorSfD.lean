import Derived.Test.YtfibapfehgglhaaGreatDoorSfM
import Derived.Test.YtfibapfehgglhaaGreatDoorSfR
import Derived.Test.YtfibapfehgglhaaGreatDoorNumM
import Derived.Maps.OwnOps
import Derived.Maps.RangeWalk
import Derived.Maps.Ext
import Derived.StringKeys
import Derived.Test.YtfibapfehgglhaaGreatDoorIter
/-
  How many survive; names; whole files; what a change of names does to a map.
-/
namespace Go.Proofs.YtfibapfehgglhaaGreatDoor
open Go.RowKit
/-- what a file's pointer reads as -/
def ptrE : Value → Option (DataW Unit × List MemPlace)
  | .pointer (some ⟨h, 0, none⟩) => some (Sf.hd h, [])
  | .pointer none => some (Sf.nilD, [])
  | _ => none
theorem ptrE_some (h : Nat) : ptrE (.pointer (some ⟨h, 0, none⟩)) = some (Sf.hd h, []) := rfl
theorem ptrE_inv {v : Value} {z : DataW Unit × List MemPlace} (h : ptrE v = some z) : (∃ x, v = .pointer (some ⟨x, 0, none⟩) ∧ z = (Sf.hd x, [])) ∨ (v = .pointer none ∧ z = (Sf.nilD, [])) := by
  unfold ptrE at h
  split at h
  · cases h; exact .inl ⟨_, rfl, rfl⟩
  · cases h; exact .inr ⟨rfl, rfl⟩
  · cases h
theorem law : Go.Maps.Keyed Tryz.prog 9 := Go.Maps.string_keyed Tryz.underlying9
theorem keyS {s : ByteArray} (h : s.size ≤ maxLen) : keyOf Tryz.prog 9 (.string s) = some (Sf.key s) := Go.WideMaps.keyOf_string_mk Tryz.underlying9 h
/-- block b is a map of names -/
def NamesAt (w : World) (b : Nat) (d : Sf.D) : Prop := w.ownsMap Tryz.prog 9 ptrE b 1000000 d
theorem NamesAt.later {w w2 : World} {b : Nat} {d : Sf.D} (h : NamesAt w b d) (hb : Below w.heap.size w w2) : NamesAt w2 b d := h.kept (grown_of_below (row := none) hb) (by simp)
/-- .. told by how many names there are -/
theorem NamesAt.exact {w : World} {b : Nat} {d : Sf.D} (h : NamesAt w b d) : w.ownsMap Tryz.prog 9 ptrE b (Go.Maps.size d) d := by
  obtain ⟨es, clock, hb, F, _, rfl⟩ := h
  exact ⟨es, clock, hb, F, by simp [Go.Maps.size, Go.length_sorted], rfl⟩
theorem zeroPtr (w : World) : (zeroValue 79).run Tryz.prog w = .ok (.pointer none) w := by kernel_rfl
theorem isEmpty_eq (s : ByteArray) : s.toList.isEmpty = decide (s.size = 0) := by
  rw [ByteArray.toList_eq]
  have h : s.data.toList.length = s.size := by simp
  cases hl : s.data.toList with
  | nil => rw [hl] at h; simp at h; simp [← h]
  | cons a l =>
    rw [hl, List.length_cons] at h
    rw [List.isEmpty_cons]
    exact (decide_eq_false (by omega)).symm
section
variable {w : World} {b : Nat} {d : Sf.D} {s : ByteArray} {x : Nat} {ops : Array Oper} {rest : List Oper} {o : Oper} {a : Act} {Q : Exit → Act → World → Prop}
set_option maxRecDepth 100000 in
theorem look_read (h : NamesAt w b d) (hf : Sf.Files d) (hs : s.size ≤ maxLen) (hl : Sf.look d s = some x) : (Instr.lookup 48 (.map (some b)) (.string s) false).run Tryz.prog w = .ok (.pointer (some ⟨x, 0, none⟩)) w := by
  obtain ⟨v, ps, hr, hv⟩ := h.lookup law Tryz.underlying48 (zeroPtr w) (show ptrE (.pointer none) = some (Sf.nilD, []) from rfl) (keyS hs)
  obtain ⟨y, hy, hat⟩ := Sf.look_has hf (Sf.look_some hl)
  rw [hl] at hy
  cases hy
  rw [hat] at hv
  rcases ptrE_inv hv with ⟨z, rfl, e⟩ | ⟨rfl, e⟩
  · injection e with e1 e2
    unfold Sf.hd at e1
    injection e1 with e1
    injection e1 with e0 e1
    have : x = z := Int.ofNat.inj e1
    rw [hr, this]
  · injection e with e1 e2
    unfold Sf.hd Sf.nilD at e1
    injection e1 with e1
    cases e1
set_option maxRecDepth 100000 in
theorem look_read_ok (h : NamesAt w b d) (hf : Sf.Files d) (hs : s.size ≤ maxLen) (hl : Sf.look d s = some x) : (Instr.lookup 48 (.map (some b)) (.string s) true).run Tryz.prog w = .ok (.tuple #[.pointer (some ⟨x, 0, none⟩), .bool true]) w := by
  obtain ⟨v, ps, hr, hv⟩ := h.look_ok law Tryz.underlying48 (zeroPtr w) (show ptrE (.pointer none) = some (Sf.nilD, []) from rfl) (keyS hs)
  obtain ⟨y, hy, hat⟩ := Sf.look_has hf (Sf.look_some hl)
  rw [hl] at hy
  cases hy
  rw [hat] at hv
  rcases ptrE_inv hv with ⟨z, rfl, e⟩ | ⟨rfl, e⟩
  · injection e with e1 e2
    unfold Sf.hd at e1
    injection e1 with e1
    injection e1 with e0 e1
    have : x = z := Int.ofNat.inj e1
    rw [hr, this, Sf.look_some hl]
  · injection e with e1 e2
    unfold Sf.hd Sf.nilD at e1
    injection e1 with e1
    cases e1
set_option maxRecDepth 100000 in
theorem look_read_no (h : NamesAt w b d) (hf : Sf.Files d) (hs : s.size ≤ maxLen) (hl : Sf.look d s = none) : (Instr.lookup 48 (.map (some b)) (.string s) true).run Tryz.prog w = .ok (.tuple #[.pointer none, .bool false]) w := by
  obtain ⟨v, ps, hr, hv⟩ := h.look_ok law Tryz.underlying48 (zeroPtr w) (show ptrE (.pointer none) = some (Sf.nilD, []) from rfl) (keyS hs)
  have hn := Sf.look_none hf hl
  rw [Go.Maps.atKey_of_not_has hn] at hv
  rcases ptrE_inv hv with ⟨z, rfl, e⟩ | ⟨rfl, e⟩
  · injection e with e1 e2
    unfold Sf.hd Sf.nilD at e1
    injection e1 with e1
    cases e1
  · rw [hr, hn]
end
set_option maxRecDepth 100000 in
theorem isName_any (s : ByteArray) (hs : s.size ≤ maxLen) (w : World) : Calls Tryz.prog 137 #[.string s] w fun e w' => e = .returned (.bool (decide (0 < s.size ∧ s.size ≤ 40))) ∧ w' = w := by
  unfold maxLen at hs
  by_cases h0 : s = ⟨#[]⟩
  · subst h0
    go_enter Tryz.func137, Tryz.ntmps137
    go_wp2_with fail
    go_ret
    exact ⟨rfl, rfl⟩
  · have hz : 0 < s.size := by
      rcases Nat.eq_zero_or_pos s.size with h | h
      · exact absurd (ByteArray.ext (Array.eq_empty_of_size_eq_zero h)) h0
      · exact h
    have hl2 : s.toList.isEmpty = false := by rw [isEmpty_eq]; exact decide_eq_false (by omega)
    have e : decide (0 < s.size ∧ s.size ≤ 40) = decide ((s.size : Int) ≤ 40) := by
      rw [decide_eq_decide]
      omega
    rw [e]
    clear e
    go_enter Tryz.func137, Tryz.ntmps137
    go_wp2_with fail
    go_ret
    exact ⟨rfl, rfl⟩
set_option maxRecDepth 100000 in
theorem whole_any (s : ByteArray) (w : World) : Calls Tryz.prog 94 #[.string s] w fun e w' => e = .returned (.agg #[.string s, .string s, .slice none 0 0]) ∧ Below w.heap.size w w' := by
  obtain ⟨w1, hw1⟩ : ∃ w1, w1 = w.alloc (.cells #[.string s, .string s, .slice none 0 0] 84) := ⟨_, rfl⟩
  have hb : Below w.heap.size w w1 := by rw [hw1]; exact (Below.refl _ _).alloc (Nat.le_refl _) _
  have hc : w1.heap[w.heap.size]? = some (.cells #[.string s, .string s, .slice none 0 0] 84 (0, 0)) := by rw [hw1]; exact heap_alloc_new w _
  have HB := Lib.hid hb; have HC := Lib.hid hc
  clear hb hc
  go_enter Tryz.func94, Tryz.ntmps94
  go_wp2_with fail
  rw [← hw1]
  clear hw1
  have r0 := cell_of_row _ _ 0 _ _ _ HC.out
  have r1 := cell_of_row _ _ 1 _ _ _ HC.out
  have r2 := cell_of_row _ _ 2 _ _ _ HC.out
  refine bodyPost_ret (v := .agg #[.string s, .string s, .slice none 0 0]) (by simp [results, go_sem, r0, r1, r2]) rfl ⟨rfl, HB.out⟩
set_option maxRecDepth 100000 in
theorem created_any (too : ByteArray) (h : Nat) (w : World) (b : Nat) (d : Sf.D) (hs : too.size ≤ maxLen) (hm : NamesAt w b d) (hz : Go.Maps.size d ≤ 1000) :
    Calls Tryz.prog 426 #[.agg #[.string too, .pointer (some ⟨h, 0, none⟩)], .map (some b)] w fun e w' => e = .returned (.tuple #[]) ∧ NamesAt w' b ((Sf.Nm.cre too h).app d) ∧ w.grownBy w' (some b) := by
  obtain ⟨w1, hw1⟩ : ∃ w1, w1 = w.alloc (.cells #[.string too, .pointer (some ⟨h, 0, none⟩)] 235) := ⟨_, rfl⟩
  have hb : Below w.heap.size w w1 := by rw [hw1]; exact (Below.refl _ _).alloc (Nat.le_refl _) _
  have hm1 := NamesAt.exact (hm.later hb)
  have HB := Lib.hid hb
  clear hb hm
  go_enter Tryz.func426, Tryz.ntmps426
  obtain ⟨w2, hrun, hown2, hturn2⟩ := hm1.store law Tryz.underlying48 (by unfold maxLen; omega) (keyS hs) (ptrE_some h)
  go_wp2_with fail
  rw [← hw1, hrun]
  clear hw1 hrun
  go_wp2_with fail
  go_end0
  exact ⟨rfl, hown2.mono (by omega), grown_trans (grown_of_below HB.out) hturn2.grown⟩
set_option maxRecDepth 100000 in
theorem removed_any (a : ByteArray) (w : World) (b : Nat) (d : Sf.D) (hs : a.size ≤ maxLen) (hm : NamesAt w b d) :
    Calls Tryz.prog 425 #[.agg #[.string a], .map (some b)] w fun e w' => e = .returned (.tuple #[]) ∧ NamesAt w' b ((Sf.Nm.rem a).app d) ∧ w.grownBy w' (some b) := by
  obtain ⟨w1, hw1⟩ : ∃ w1, w1 = w.alloc (.cells #[.string a] 233) := ⟨_, rfl⟩
  have hb : Below w.heap.size w w1 := by rw [hw1]; exact (Below.refl _ _).alloc (Nat.le_refl _) _
  have hm1 := hm.later hb
  have HB := Lib.hid hb
  clear hb hm
  obtain ⟨w2, hrun, hown2, hturn2⟩ := hm1.drop law Tryz.underlying48 (keyS hs) 0
  go_enter Tryz.func425, Tryz.ntmps425
  go_wp2_with fail
  rw [← hw1, hrun]
  clear hw1 hrun
  go_wp2_with fail
  go_end0
  exact ⟨rfl, hown2, grown_trans (grown_of_below HB.out) hturn2.grown⟩
set_option maxRecDepth 100000 in
theorem renamed_any (a c : ByteArray) (x : Nat) (w : World) (b : Nat) (d : Sf.D) (hs : a.size ≤ maxLen) (hc : c.size ≤ maxLen) (hm : NamesAt w b d) (hf : Sf.Files d) (ht : Go.Maps.Tidy d) (hl : Sf.look d a = some x) (hz : Go.Maps.size d ≤ 1000) :
    Calls Tryz.prog 428 #[.agg #[.string a, .string c], .map (some b)] w fun e w' => e = .returned (.tuple #[]) ∧ NamesAt w' b ((Sf.Nm.ren a c).app d) ∧ w.grownBy w' (some b) := by
  obtain ⟨w1, hw1⟩ : ∃ w1, w1 = w.alloc (.cells #[.string a, .string c] 239) := ⟨_, rfl⟩
  have hb : Below w.heap.size w w1 := by rw [hw1]; exact (Below.refl _ _).alloc (Nat.le_refl _) _
  have hm1 := hm.later hb
  have hc1 : w1.heap[w.heap.size]? = some (.cells #[.string a, .string c] 239 (0, 0)) := by rw [hw1]; exact heap_alloc_new w _
  have hlk := look_read hm1 hf hs hl
  obtain ⟨w2, hrun, hown2, hturn2⟩ := hm1.drop law Tryz.underlying48 (keyS hs) 0
  have hne : w.heap.size ≠ b := by
    rintro rfl
    obtain ⟨es, clock, h0, -⟩ := hm1
    rw [hc1] at h0
    cases h0
  have hc2 := grown_keep hc1 hturn2.grown hne
  have hsz : Go.Maps.size (d.del (Sf.key a)) ≤ 1000 := by
    have := Go.Maps.size_del (k := Sf.key a) ht
    omega
  obtain ⟨w3, hrun3, hown3, hturn3⟩ := (NamesAt.exact hown2).store law Tryz.underlying48 (by unfold maxLen; omega) (keyS hc) (ptrE_some x)
  have HB := Lib.hid hb
  have HO : Hid (NamesAt w3 b ((Sf.Nm.ren a c).app d)) := Lib.hid (by
    have e : (Sf.Nm.ren a c).app d = (d.del (Sf.key a)).put (Sf.key c) (Sf.hd x) := by simp only [Sf.Nm.app]; rw [hl]; rfl
    rw [e]
    exact hown3.mono (by omega))
  have HG := Lib.hid (grown_trans hturn2.grown hturn3.grown)
  have y1 : w2.cell? ⟨w.heap.size, 1, none⟩ = some (.string c) := cell_of_row _ _ _ _ _ _ hc2
  have x0 : w1.cell? ⟨w.heap.size, 0, none⟩ = some (.string a) := cell_of_row _ _ _ _ _ _ hc1
  clear hb hm hm1 hown2 hturn2 hown3 hturn3 hc1 hc2 hne hsz hf ht hl
  go_enter Tryz.func428, Tryz.ntmps428
  go_wp2_with fail
  rw [← hw1, hlk]
  simp only [Result.andThen, Oper.upon]
  go_wp2_with fail
  rw [← hw1, hrun]
  go_wp2_with fail
  go_end0
  exact ⟨rfl, HO.out, grown_trans (grown_of_below HB.out) HG.out⟩
set_option maxRecDepth 100000 in
theorem writeA_any (c b : ByteArray) (h : b.size + c.size ≤ 1000000000) (w : World) : Calls Tryz.prog 427 #[.agg #[.string c], .string b] w fun e w' => e = .returned (.string (b ++ c)) ∧ Below w.heap.size w w' := by
  have hz : ¬ 9223372036854775807 < b.size + c.size := by omega
  obtain ⟨w1, hw1⟩ : ∃ w1, w1 = w.alloc (.cells #[.string c] 237) := ⟨_, rfl⟩
  have HB : Hid (Below w.heap.size w w1) := Lib.hid (by rw [hw1]; exact (Below.refl _ _).alloc (Nat.le_refl _) _)
  go_enter Tryz.func427, Tryz.ntmps427
  go_wp2_with fail
  rw [← hw1]
  go_ret
  exact ⟨rfl, HB.out⟩
set_option maxRecDepth 100000 in
theorem writeC_any (n : Nat) (b : ByteArray) (h : n ≤ b.size) (w : World) : Calls Tryz.prog 405 #[.agg #[.int .i64 (n : Int)], .string b] w fun e w' => e = .returned (.string (b.extract 0 n)) ∧ Below w.heap.size w w' := by
  have h1 : (n : Int) ≤ (b.size : Int) := by omega
  have h0 : (0 : Int) ≤ (n : Int) := by omega
  obtain ⟨w1, hw1⟩ : ∃ w1, w1 = w.alloc (.cells #[.int .i64 (n : Int)] 170) := ⟨_, rfl⟩
  have HB : Hid (Below w.heap.size w w1) := Lib.hid (by rw [hw1]; exact (Below.refl _ _).alloc (Nat.le_refl _) _)
  go_enter Tryz.func405, Tryz.ntmps405
  go_wp2_with fail
  rw [← hw1]
  go_ret
  exact ⟨rfl, HB.out⟩
end Go.Proofs.YtfibapfehgglhaaGreatDoor
/-
  What is torn; a machine in a world.
-/
namespace Go.Proofs.YtfibapfehgglhaaGreatDoor
open Go.RowKit
/-- numbers that tell what survives, in a world -/
structure KeepIn (w : World) (A : Option Addr) (c : Nat) (k : Sf.Keep) : Prop where
  row : Row 1 (fun i _ => .int .i64 (k.g i)) w A k.n
  len : k.n ≤ maxLen
  wf : ∀ i, i < k.n → -9223372036854775808 ≤ k.g i ∧ k.g i ≤ 9223372036854775807
theorem KeepIn.later {w w2 : World} {A : Option Addr} {c : Nat} {k : Sf.Keep} (h : KeepIn w A c k) (hb : Below w.heap.size w w2) : KeepIn w2 A c k := ⟨h.row.later hb, h.len, h.wf⟩
end Go.Proofs.YtfibapfehgglhaaGreatDoor
/-
  A machine in a world: what stays; what is read of it.
-/
namespace Go.Proofs.YtfibapfehgglhaaGreatDoor
open Go.RowKit
def Sf.Nm.val : Sf.Nm → Value
  | .cre s h => .iface 235 (.agg #[.string s, .pointer (some ⟨h, 0, none⟩)])
  | .ren a b => .iface 239 (.agg #[.string a, .string b])
  | .rem a => .iface 233 (.agg #[.string a])
def Sf.Wr.val : Sf.Wr → Value
  | .app b => .iface 237 (.agg #[.string b])
  | .cut n => .iface 170 (.agg #[.int .i64 (n : Int)])
def nx (L : List Sf.Nm) (i _ : Nat) : Value := (L.getD i (.rem ByteArray.empty)).val
def wx (L : List Sf.Wr) (i _ : Nat) : Value := (L.getD i (.cut 0)).val
theorem nx_one (L : List Sf.Nm) (i j : Nat) : (nx L i j).oneCell' = true := by
  unfold nx
  cases L.getD i (.rem ByteArray.empty) <;> rfl
theorem wx_one (L : List Sf.Wr) (i j : Nat) : (wx L i j).oneCell' = true := by
  unfold wx
  cases L.getD i (.cut 0) <;> rfl
/-- blocks of other types than a machine's own stay as they were -/
def Stays (W W2 : World) : Prop := ∀ (g : Nat) (cs : Array Value) (T : TypeId) (fr : Nat × Nat), W.heap[g]? = some (.cells cs T fr) → T ≠ 51 → T ≠ 84 → T ≠ 298 → T ≠ 242 → W2.heap[g]? = some (.cells cs T fr)
theorem Stays.refl (W : World) : Stays W W := fun _ _ _ _ h _ _ _ _ => h
theorem Stays.trans {W W2 W3 : World} (h : Stays W W2) (h2 : Stays W2 W3) : Stays W W3 := fun g cs T fr ho a b c d => h2 g cs T fr (h g cs T fr ho a b c d) a b c d
theorem Stays.below {W W2 : World} (hb : Below W.heap.size W W2) : Stays W W2 := fun _ _ _ _ h _ _ _ _ => heap_keep h hb
theorem Stays.grown {W W2 : World} {g : Nat} (hg : W.grownBy W2 (some g)) (hn : ∀ cs T fr, W.heap[g]? = some (.cells cs T fr) → T = 51 ∨ T = 84 ∨ T = 298 ∨ T = 242) : Stays W W2 := fun j cs T fr ho a b c d => by
  refine (hg.block j (Array.getElem?_eq_some_iff.1 ho).1 (fun e => ?_)).trans ho
  cases e
  rcases hn _ _ _ ho with h | h | h | h
  · exact a h
  · exact b h
  · exact c h
  · exact d h
/-- a file in a world -/
structure FileAt (w : World) (base h : Nat) (x : Sf.File) (cv : Value) : Prop where
  lo : base ≤ h
  blk : w.heap[h]? = some (.cells #[.string x.bytes, .string x.synced, cv] 84 (0, 0))
  row : w.ownsRow base 242 1 cv x.chg.length (rcells 1 (wx x.chg) x.chg.length)
/-- a machine in a world, of these files -/
structure FsIn (w : World) (base fb : Nat) (S : Sf.St) (L : Nat → Prop) (mb sb : Nat) (cv : Value) (cvs : Nat → Value) : Prop where
  lo : base ≤ fb
  lom : base ≤ mb
  los : base ≤ sb
  ne : mb ≠ sb
  blk : w.heap[fb]? = some (.cells #[.map (some mb), .map (some sb), cv, .int .i64 S.room, .int .i64 S.steps, .int .i64 S.fuse, .bool S.dead] 51 (0, 0))
  nam : NamesAt w mb S.names
  syn : NamesAt w sb S.synced
  row : w.ownsRow base 298 1 cv S.chg.length (rcells 1 (nx S.chg) S.chg.length)
  fil : ∀ h, L h → FileAt w base h (S.F h) (cvs h)
  apart : ∀ h k, L h → L k → h ≠ k → ∀ r, (cvs h).ownBlock = some r → (cvs k).ownBlock ≠ some r
theorem FileAt.far {w w2 : World} {base h : Nat} {x : Sf.File} {cv : Value} (hf : FileAt w base h x cv) (hb : Below w.heap.size w w2) : FileAt w2 base h x cv := ⟨hf.lo, heap_keep hf.blk hb, row_far hf.row hb⟩
theorem FsIn.far {w w2 : World} {base fb : Nat} {S : Sf.St} {L : Nat → Prop} {mb sb : Nat} {cv : Value} {cvs : Nat → Value} (h : FsIn w base fb S L mb sb cv cvs) (hb : Below w.heap.size w w2) : FsIn w2 base fb S L mb sb cv cvs :=
  ⟨h.lo, h.lom, h.los, h.ne, heap_keep h.blk hb, h.nam.later hb, h.syn.later hb, row_far h.row hb, fun x hx => (h.fil x hx).far hb, h.apart⟩
theorem names_ne {w : World} {b g : Nat} {d : Sf.D} {cs : Array Value} {T : TypeId} {fr : Nat × Nat} (h : NamesAt w b d) (hg : w.heap[g]? = some (.cells cs T fr)) : b ≠ g := by
  rintro rfl
  obtain ⟨es, clock, h0, -⟩ := h
  rw [hg] at h0
  cases h0
theorem own_ne {w : World} {base e k n g : Nat} {v : Value} {xs : List Value} {cs : Array Value} {T : TypeId} {fr : Nat × Nat} (h : w.ownsRow base e k v n xs) (hg : w.heap[g]? = some (.cells cs T fr)) (hT : T ≠ e) : v.ownBlock ≠ some g := by
  intro he
  rcases h.2 with ⟨rfl, -⟩ | ⟨g1, cap, cur, rfl, -, hc, -⟩
  · cases he
  · have a : some g1 = some g := he
    cases a
    rw [hg] at hc
    cases hc
    exact hT rfl
theorem own_ne_map {w : World} {base e k n b : Nat} {v : Value} {xs : List Value} {d : Sf.D} (h : w.ownsRow base e k v n xs) (hm : NamesAt w b d) : v.ownBlock ≠ some b := by
  intro he
  rcases h.2 with ⟨rfl, -⟩ | ⟨g1, cap, cur, rfl, -, hc, -⟩
  · cases he
  · have a : some g1 = some b := he
    cases a
    exact names_ne hm hc rfl
/-- a file, where another block is turned -/
theorem FileAt.other {w w2 : World} {base h g : Nat} {x : Sf.File} {cv : Value} (hf : FileAt w base h x cv) (hg : w.grownBy w2 (some g)) (h1 : h ≠ g) (h2 : cv.ownBlock ≠ some g) : FileAt w2 base h x cv :=
  ⟨hf.lo, grown_keep hf.blk hg h1, row_kept hf.row hg (fun r e => by cases e; exact h2)⟩
/-- the machine's own block is turned -/
theorem FsIn.turn {w w2 : World} {base fb : Nat} {S : Sf.St} {L : Nat → Prop} {mb sb : Nat} {cv : Value} {cvs : Nat → Value} (h : FsIn w base fb S L mb sb cv cvs) (hg : w.grownBy w2 (some fb)) (room steps fuse : Int) (dead : Bool)
    (hb : w2.heap[fb]? = some (.cells #[.map (some mb), .map (some sb), cv, .int .i64 room, .int .i64 steps, .int .i64 fuse, .bool dead] 51 (0, 0))) :
    FsIn w2 base fb { S with room := room, steps := steps, fuse := fuse, dead := dead } L mb sb cv cvs :=
  ⟨h.lo, h.lom, h.los, h.ne, hb, h.nam.kept hg (fun e => by cases e; exact names_ne h.nam h.blk rfl), h.syn.kept hg (fun e => by cases e; exact names_ne h.syn h.blk rfl), row_kept h.row hg (fun r e => by cases e; exact own_ne h.row h.blk (by decide)),
    fun x hx => (h.fil x hx).other hg (by
      rintro rfl
      have h1 := (h.fil _ hx).blk
      rw [h.blk] at h1
      injection h1 with h1
      injection h1 with h1 h2
      exact absurd h2 (by decide)) (own_ne (h.fil x hx).row h.blk (by decide)), h.apart⟩
def FsL (w : World) (base fb : Nat) (S : Sf.St) (L : Nat → Prop) : Prop := ∃ mb sb cv cvs, FsIn w base fb S L mb sb cv cvs
def FsAt (w : World) (base fb : Nat) (S : Sf.St) : Prop := FsL w base fb S (Sf.live S.synced S.chg)
theorem FsAt.far {w w2 : World} {base fb : Nat} {S : Sf.St} (h : FsAt w base fb S) (hb : Below w.heap.size w w2) : FsAt w2 base fb S := by
  obtain ⟨mb, sb, cv, cvs, h⟩ := h
  exact ⟨mb, sb, cv, cvs, h.far hb⟩
def ptrV (o : Option Nat) : Value := .pointer (o.map fun h => ⟨h, 0, none⟩)
/-- what find finds -/
def Sf.St.find (S : Sf.St) (s : ByteArray) : Option Nat × Int := if S.dead then (none, 13) else match Sf.look S.names s with
  | none => (none, 11)
  | some h => (some h, 0)
set_option maxRecDepth 100000 in
theorem find_any {w : World} {base fb : Nat} {S : Sf.St} (h : FsAt w base fb S) (hn : Sf.Nice S.names) (s : ByteArray) (hs : s.size ≤ maxLen) :
    Calls Tryz.prog 26 #[.pointer (some ⟨fb, 0, none⟩), .string s] w fun e w' => e = .returned (.tuple #[ptrV (S.find s).1, .int .i64 (S.find s).2]) ∧ w' = w := by
  obtain ⟨mb, sb, cv, cvs, h⟩ := h
  have c0 : w.cell? ⟨fb, 0, none⟩ = some (.map (some mb)) := cell_of_row _ _ _ _ _ _ h.blk
  have c6 : w.cell? ⟨fb, 6, none⟩ = some (.bool S.dead) := cell_of_row _ _ _ _ _ _ h.blk
  cases hd : S.dead
  · rw [hd] at c6
    cases hl : Sf.look S.names s with
    | none =>
      have e : S.find s = (none, 11) := by unfold Sf.St.find; rw [hd, hl]; rfl
      rw [e]
      have hlk := look_read_no h.nam hn.files hs hl
      clear h hn hl e hd
      go_enter Tryz.func26, Tryz.ntmps26
      go_wp2_with fail
      go_ret2
      exact ⟨rfl, rfl⟩
    | some x =>
      have e : S.find s = (some x, 0) := by unfold Sf.St.find; rw [hd, hl]; rfl
      rw [e]
      have hlk := look_read_ok h.nam hn.files hs hl
      clear h hn hl e hd
      go_enter Tryz.func26, Tryz.ntmps26
      go_wp2_with fail
      go_ret2
      exact ⟨rfl, rfl⟩
  · rw [hd] at c6
    have e : S.find s = (none, 13) := by unfold Sf.St.find; rw [hd]; rfl
    rw [e]
    clear h hn e hd
    go_enter Tryz.func26, Tryz.ntmps26
    go_wp2_with fail
    go_ret2
    exact ⟨rfl, rfl⟩
set_option maxRecDepth 100000 in
theorem Dead_any {w : World} {base fb : Nat} {S : Sf.St} (h : FsAt w base fb S) :
    Calls Tryz.prog 52 #[.pointer (some ⟨fb, 0, none⟩)] w fun e w' => e = .returned (.bool S.dead) ∧ w' = w := by
  obtain ⟨mb, sb, cv, cvs, h⟩ := h
  have c6 : w.cell? ⟨fb, 6, none⟩ = some (.bool S.dead) := cell_of_row _ _ _ _ _ _ h.blk
  clear h
  go_enter Tryz.func52, Tryz.ntmps52
  go_wp2_with fail
  go_ret
  exact ⟨rfl, rfl⟩
/-- the machine's own cells -/
theorem fs_cells {w : World} {fb : Nat} {a b c d e f g : Value} (h : w.heap[fb]? = some (.cells #[a, b, c, d, e, f, g] 51 (0, 0))) (i : Nat) (v : Value) : (w.setCell ⟨fb, i, none⟩ v).heap[fb]? = some (.cells (#[a, b, c, d, e, f, g].setIfInBounds i v) 51 (0, 0)) := heap_setCell_same _ fb i _ _ v h
theorem FsAt.below_set {w : World} {base fb i : Nat} {v : Value} (h : base ≤ fb) (hb : base ≤ w.heap.size) : Below base w (w.setCell ⟨fb, i, none⟩ v) := (Below.refl base w).grown (grown_setCell w fb i v) hb (fun r e => by cases e; exact h)
/-- how a fuse is set -/
def Sf.fuseOf (n : Int) : Int := min (max n (-1)) 1073741824
end Go.Proofs.YtfibapfehgglhaaGreatDoor
/-
  The names of a machine, sorted; what is read of a file.
-/
namespace Go.Proofs.YtfibapfehgglhaaGreatDoor
open Go.RowKit Go.Sort
/-- all names, sorted -/
def Sf.list (d : Sf.D) : List (List UInt8) := (strKeys d).mergeSort leB
theorem Sf.list_length (d : Sf.D) : (Sf.list d).length = Go.Maps.size d := by
  unfold Sf.list
  rw [List.length_mergeSort]
  cases d <;> simp [strKeys, Go.Maps.size]
set_option maxHeartbeats 1000000 in
set_option maxRecDepth 100000 in
theorem sorted_any (b : Nat) (d : Sf.D) (w : World) (hown : NamesAt w b d) (hz : Go.Maps.size d ≤ 1000) :
    Calls Tryz.prog 100 #[.map (some b)] w fun e w' => ∃ v, e = .returned v ∧ w'.ownsRow w.heap.size 9 1 v (Sf.list d).length ((Sf.list d).map encStr) ∧ Below w.heap.size w w' := by
  have hmax : Go.Maps.size d ≤ maxLen := by unfold maxLen; omega
  have hbytes : Go.Maps.size d * 16 ≤ 140737488355328 := by omega
  refine (callsIn_wide (n := 6)).1 ?_
  have hfK : Fence.wide.fn 151 := trivial
  have hfS : Fence.wide.fn 150 := trivial
  refine callsIn_of_wp Tryz.func100 rfl trivial ?_ rfl
  simp only [Tryz.ntmps100, List.size_toArray, List.length_cons, List.length_nil, Nat.reduceAdd, Nat.reduceSub, Array.replicate_succ, Array.replicate_zero, List.push_toArray, List.append_toArray, List.nil_append, List.cons_append]
  gi_wp2_with (first
    | (gi_at_call 151; refine (Tryz.maps_Keys_151 _ _).mono ?_; rintro e w' ⟨rfl, rfl⟩)
    | (gi_at_call 150; refine (Tryz.slices_Sorted_keys_150_151 b _ d ptrE w hown hmax hbytes).mono ?_; rintro e w' ⟨v, ss, rfl, hS, hrow, hnil, hb⟩))
  go_ret
  have e : ss.mergeSort (fun x y => decide (x ≤ y)) = Sf.list d := mergeSort_of_perm hS
  rw [e] at hrow
  have hl : ss.length = (Sf.list d).length := by rw [← e, List.length_mergeSort]
  rw [hl] at hrow
  exact ⟨v, rfl, ownsRow_base_a hrow (by simp), ((Below.refl _ w).alloc (Nat.le_refl _) _).trans (hb.mono (by simp))⟩
set_option maxRecDepth 100000 in
theorem List_any {w : World} {base fb : Nat} {S : Sf.St} (h : FsAt w base fb S) (hn : Sf.Nice S.names) :
    Calls Tryz.prog 57 #[.pointer (some ⟨fb, 0, none⟩)] w fun e w' => ∃ v, e = .returned v ∧ w'.ownsRow w.heap.size 9 1 v (Sf.list S.names).length ((Sf.list S.names).map encStr) ∧ Below w.heap.size w w' := by
  obtain ⟨mb, sb, cv, cvs, h⟩ := h
  have c0 : w.cell? ⟨fb, 0, none⟩ = some (.map (some mb)) := cell_of_row _ _ _ _ _ _ h.blk
  have HS := Lib.hid (sorted_any mb S.names w h.nam (Nat.le_trans hn.few (by decide)))
  clear h hn
  go_enter Tryz.func57, Tryz.ntmps57
  go_wp2_with fail
  refine HS.out.mono ?_; rintro e w1 ⟨v, rfl, hrow, hb⟩
  go_wp2_with fail
  go_ret
  exact ⟨v, rfl, hrow, hb⟩
/-- what is read of a file -/
def Sf.St.read (S : Sf.St) (s : ByteArray) : ByteArray × Int := match S.find s with
  | (some h, _) => ((S.F h).bytes, 0)
  | (none, e) => (⟨#[]⟩, e)
theorem Sf.find_cases (S : Sf.St) (s : ByteArray) : (∃ x, S.find s = (some x, 0) ∧ S.dead = false ∧ Sf.look S.names s = some x) ∨ (S.find s = (none, 11) ∧ S.dead = false ∧ Sf.look S.names s = none) ∨ (S.find s = (none, 13) ∧ S.dead = true) := by
  unfold Sf.St.find
  cases hd : S.dead
  · cases hl : Sf.look S.names s with
    | none => exact .inr (.inl ⟨rfl, rfl, rfl⟩)
    | some x => exact .inl ⟨x, rfl, rfl, rfl⟩
  · exact .inr (.inr ⟨rfl, rfl⟩)
set_option maxRecDepth 100000 in
theorem Read_any {w : World} {base fb B N : Nat} {S : Sf.St} (h : FsAt w base fb S) (hok : Sf.StOk B N S) (s : ByteArray) (hs : s.size ≤ maxLen) :
    Calls Tryz.prog 10 #[.pointer (some ⟨fb, 0, none⟩), .string s] w fun e w' => e = .returned (.tuple #[.string (S.read s).1, .int .i64 (S.read s).2]) ∧ Below w.heap.size w w' := by
  have HFI := Lib.hid (find_any h hok.nice s hs)
  rcases Sf.find_cases S s with ⟨x, e, -, hl⟩ | ⟨e, -⟩ | ⟨e, -⟩
  · have er : S.read s = ((S.F x).bytes, 0) := by unfold Sf.St.read; rw [e]
    rw [er]
    simp only [e, ptrV, Option.map_some] at HFI
    obtain ⟨mb, sb, cv, cvs, h⟩ := h
    have x0 : w.cell? ⟨x, 0, none⟩ = some (.string (S.F x).bytes) := cell_of_row _ _ _ _ _ _ (h.fil x (hok.lives hl)).blk
    clear h hok e er hl
    go_enter Tryz.func10, Tryz.ntmps10
    go_wp2_with fail
    refine HFI.out.mono ?_; rintro e w1 ⟨rfl, rfl⟩
    go_wp2_with fail
    go_ret2
    exact ⟨rfl, Below.refl _ _⟩
  all_goals
    have er : S.read s = (⟨#[]⟩, (S.find s).2) := by unfold Sf.St.read; rw [e]
    rw [er]
    rw [e]
    simp only [e, ptrV, Option.map_none] at HFI
    clear h hok e er
    go_enter Tryz.func10, Tryz.ntmps10
    go_wp2_with fail
    refine HFI.out.mono ?_; rintro e w1 ⟨rfl, rfl⟩
    go_wp2_with fail
    go_ret2
    exact ⟨rfl, Below.refl _ _⟩
end Go.Proofs.YtfibapfehgglhaaGreatDoor
