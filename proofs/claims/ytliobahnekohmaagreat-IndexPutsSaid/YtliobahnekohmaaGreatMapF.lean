/-
  A map's block told by a function of its keys: whatever the elements.
-/
import Derived.Test.YtliobahnekohmaaGreatArr
import Derived.Maps.Own
import Derived.Maps.OwnOps
namespace Go.Proofs.YtliobahnekohmaaGreat
open Go.RowKit
open Go.MapKept
open Go.ChangeMaps (setBlock modify_eq_set heap_setBlock_same heap_setBlock_other)
open Go.Maps (Keyed)
def MapIs (P : Program) (k : TypeId) (w : World) (b n : Nat) (f : Value → Option Value) : Prop :=
 ∃ es clock, w.heap[b]? = some (.map es clock) ∧ Stamped es clock ∧ es.size ≤ n ∧ (∀ x ∈ es.toList, ∃ l, keyOf P k x.key = some l) ∧ ∀ key l, keyOf P k key = some l → ∀ v, f key = some v ↔ ∃ x ∈ es.toList, x.key = key ∧ x.val = v
section
variable {P : Program} {k : TypeId} {w : World} {b n : Nat} {f : Value → Option Value}
theorem MapIs.made (w : World) (P : Program) (k : TypeId) : MapIs P k (w.alloc (.map #[] 0)) w.heap.size 0 (fun _ => none) :=
 ⟨#[], 0, (heap_alloc w _).1, stamped_empty 0, Nat.le_refl _, by simp, by simp⟩
theorem MapIs.lt (h : MapIs P k w b n f) : b < w.heap.size := by
 obtain ⟨es, clock, hb, -⟩ := h
 exact (Array.getElem?_eq_some_iff.1 hb).1
theorem MapIs.same {w' : World} (h : MapIs P k w b n f) (hb : w'.heap[b]? = w.heap[b]?) : MapIs P k w' b n f := by
 obtain ⟨es, clock, hb0, hr⟩ := h
 exact ⟨es, clock, hb.trans hb0, hr⟩
theorem MapIs.congr {g : Value → Option Value} (h : MapIs P k w b n f) (hg : ∀ key l, keyOf P k key = some l → g key = f key) : MapIs P k w b n g := by
 obtain ⟨es, clock, hb, hs, hz, hk, hf⟩ := h
 exact ⟨es, clock, hb, hs, hz, hk, fun key l hl v => by rw [hg key l hl]; exact hf key l hl v⟩
theorem MapIs.look_none {t e : TypeId} (h : MapIs P k w b n f) (c : Bool) (K : Keyed P k) (ht : P.underlying t = some (.map k e)) {z : Value} (hz : (zeroValue e).run P w = .ok z w) {key : Value} {kl : Lit} (hkey : keyOf P k key = some kl) (hf0 : f key = none) :
 (Instr.lookup t (.map (some b)) key c).run P w = .ok (if c then .tuple #[z, .bool false] else z) w := by
 obtain ⟨es, clock, hb, hs, hsz, hk, hf⟩ := h
 rcases K.find w hkey es.toList hk with ⟨h1, h2⟩ | ⟨j, e0, h1, h2, h3⟩
 · simp [Instr.lookup, run_underlying ht, MapKept.run_getObj_map hb, K.check w _ hkey, h1, hz, Result.andThen]
 · have := (hf key kl hkey e0.val).2 ⟨e0, List.mem_of_getElem? h2, h3, rfl⟩
   rw [hf0] at this
   cases this
theorem MapIs.look_some {t e : TypeId} (h : MapIs P k w b n f) (c : Bool) (K : Keyed P k) (ht : P.underlying t = some (.map k e)) {key v : Value} {kl : Lit} (hkey : keyOf P k key = some kl) (hf1 : f key = some v) :
 (Instr.lookup t (.map (some b)) key c).run P w = .ok (if c then .tuple #[v, .bool true] else v) w := by
 obtain ⟨es, clock, hb, hs, hsz, hk, hf⟩ := h
 rcases K.find w hkey es.toList hk with ⟨h1, h2⟩ | ⟨j, e0, h1, h2, h3⟩
 · obtain ⟨x, hx, e1, e2⟩ := (hf key kl hkey v).1 hf1
   exact absurd e1 (h2 x hx)
 · have := (hf key kl hkey e0.val).2 ⟨e0, List.mem_of_getElem? h2, h3, rfl⟩
   rw [hf1] at this
   cases this
   simp [Instr.lookup, run_underlying ht, MapKept.run_getObj_map hb, K.check w _ hkey, h1, Result.andThen]
theorem MapIs.put {t e : TypeId} (h : MapIs P k w b n f) (K : Keyed P k) (ht : P.underlying t = some (.map k e)) {key val : Value} {kl : Lit} (hkey : keyOf P k key = some kl) (g : Value → Option Value) (hg1 : g key = some val) (hg2 : ∀ x, x ≠ key → g x = f x) :
 ∃ w', (Instr.mapUpdate t (.map (some b)) key val).run P w = .ok () w' ∧ MapIs P k w' b (n + 1) g ∧ w.grownBy w' (some b) ∧ w'.heap.size = w.heap.size := by
 obtain ⟨es, clock, hb, hs, hsz, hk, hf⟩ := h
 rcases K.find w hkey es.toList hk with ⟨h1, h2⟩ | ⟨j, e0, h1, h2, h3⟩
 · refine ⟨setBlock w b (.map (es.push ⟨key, val, clock⟩) (clock + 1)), ?_, ⟨_, _, heap_setBlock_same hb _, stamped_push hs h2, by simp; omega, ?_, ?_⟩, ⟨rfl, rfl, rfl, by simp [setBlock], fun i _ hi => heap_setBlock_other hb _ (fun e => hi (by rw [e]))⟩, by simp [setBlock]⟩
   · simp [Instr.mapUpdate, run_underlying ht, MapKept.run_getObj_map hb, K.check w false hkey, h1, MapKept.run_setObj_map _ hb, Result.andThen, setBlock]
   · intro x hx
     simp only [Array.toList_push, List.mem_append, List.mem_singleton] at hx
     rcases hx with hx | rfl
     · exact hk x hx
     · exact ⟨kl, hkey⟩
   · intro y l hl v
     simp only [Array.toList_push, List.mem_append, List.mem_singleton]
     by_cases hy : y = key
     · subst hy
       rw [hg1]
       constructor
       · intro q
         cases q
         exact ⟨_, Or.inr rfl, rfl, rfl⟩
       · rintro ⟨x, hx | rfl, e1, e2⟩
         · exact absurd e1 (h2 x hx)
         · rw [← e2]
     · rw [hg2 y hy, hf y l hl v]
       constructor
       · rintro ⟨x, hx, e1, e2⟩
         exact ⟨x, Or.inl hx, e1, e2⟩
       · rintro ⟨x, hx | rfl, e1, e2⟩
         · exact ⟨x, hx, e1, e2⟩
         · exact absurd e1.symm hy
 · have hj : es[j]? = some e0 := by simpa using h2
   have hjl : j < es.toList.length := (List.getElem?_eq_some_iff.1 h2).1
   have hkeyf : ∀ e', es[j]? = some e' → ({ e' with key := key, val := val } : MapEntry).key = e'.key := fun e' he' => by rw [hj] at he'; cases he'; exact h3.symm
   have hlist : (es.modify j (fun e' => { e' with key := key, val := val })).toList = es.toList.set j { e0 with key := key, val := val } := by rw [Array.toList_modify, modify_eq_set _ _ _ _ h2]
   have who : ∀ x, x ∈ es.toList.set j { e0 with key := key, val := val } ↔ x = { e0 with key := key, val := val } ∨ (x ∈ es.toList ∧ x.key ≠ key) := by
    intro x
    constructor
    · intro hx
      obtain ⟨i, hi, ex⟩ := List.getElem_of_mem hx
      rw [List.getElem_set] at ex
      split at ex
      · exact Or.inl ex.symm
      · rename_i hne
        have hi' : i < es.toList.length := by simpa using hi
        refine Or.inr ⟨ex ▸ List.getElem_mem hi', ?_⟩
        rw [← h3]
        intro e1
        have hp := ((stamped_iff es clock).1 hs).2.2
        rw [List.pairwise_iff_getElem] at hp
        have hj0 : es.toList[j] = e0 := by rw [List.getElem?_eq_getElem hjl] at h2; exact Option.some.inj h2
        rcases Nat.lt_trichotomy i j with h | h | h
        · exact hp i j hi' hjl h (by rw [hj0, ex]; exact e1)
        · exact hne h.symm
        · exact hp j i hjl hi' h (by rw [hj0, ex]; exact e1.symm)
    · rintro (rfl | ⟨hx, hne⟩)
      · exact List.mem_iff_getElem.2 ⟨j, by simpa using hjl, by simp⟩
      · obtain ⟨i, hi, rfl⟩ := List.getElem_of_mem hx
        refine List.mem_iff_getElem.2 ⟨i, by simpa using hi, ?_⟩
        rw [List.getElem_set_ne]
        rintro rfl
        rw [List.getElem?_eq_getElem hi] at h2
        cases h2
        exact hne h3
   refine ⟨setBlock w b (.map (es.modify j (fun e' => { e' with key := key, val := val })) clock), ?_, ⟨es.modify j (fun e' => { e' with key := key, val := val }), clock, heap_setBlock_same hb _, stamped_modify hs _ _ (fun _ _ => rfl) (fun e' _ he' => hkeyf e' he'), by simp; omega, ?_, ?_⟩, ⟨rfl, rfl, rfl, by simp [setBlock], fun i _ hi => heap_setBlock_other hb _ (fun e => hi (by rw [e]))⟩, by simp [setBlock]⟩
   · simp [Instr.mapUpdate, run_underlying ht, MapKept.run_getObj_map hb, K.check w false hkey, h1, hj, h3, K.stays w hkey, MapKept.run_setObj_map _ hb, Result.andThen, setBlock]
   · intro x hx
     rw [hlist, who] at hx
     rcases hx with rfl | ⟨hx, -⟩
     · exact ⟨kl, hkey⟩
     · exact hk x hx
   · intro y l hl v
     rw [hlist]
     by_cases hy : y = key
     · subst hy
       rw [hg1]
       constructor
       · intro q
         cases q
         exact ⟨_, (who _).2 (Or.inl rfl), rfl, rfl⟩
       · rintro ⟨x, hx, e1, e2⟩
         rcases (who x).1 hx with rfl | ⟨-, hne⟩
         · rw [← e2]
         · exact absurd e1 hne
     · rw [hg2 y hy, hf y l hl v]
       constructor
       · rintro ⟨x, hx, e1, e2⟩
         exact ⟨x, (who x).2 (Or.inr ⟨hx, by rw [e1]; exact hy⟩), e1, e2⟩
       · rintro ⟨x, hx, e1, e2⟩
         rcases (who x).1 hx with rfl | ⟨hx, hne⟩
         · exact absurd e1.symm hy
         · exact ⟨x, hx, e1, e2⟩
end
end Go.Proofs.YtliobahnekohmaaGreat
