/-
  A loop in whose rounds a function is ranged over: marks among what is deferred; what the rounds carry along.
-/
import Derived.Test.YtliobahnekohmaaGreatIxV
import Derived.Test.YtliobahnekohmaaGreatIxP
import Derived.Test.YtliobahnekohmaaGreatIxI
namespace Go.Proofs.YtliobahnekohmaaGreat
open Go.RowKit Go.Shelf
def mark (r : Nat) : Deferred := { target := .collected r, args := #[] }
/-- marks, all open -/
def Marks (lo hi : Nat) (U : World) (dl : List Deferred) : Prop := ∃ ds : List Nat, dl = ds.map mark ∧ ds.Nodup ∧ ∀ r ∈ ds, (lo ≤ r ∧ r < hi) ∧ U.heap[r]? = some (.deferred (some []))
theorem Marks.nil (lo hi : Nat) (U : World) : Marks lo hi U [] := ⟨[], rfl, List.Pairwise.nil, fun _ h => by cases h⟩
theorem Marks.kept {lo hi : Nat} {U V : World} {dl : List Deferred} (h : Marks lo hi U dl) (hk : ∀ r, r < hi → U.heap[r]? = some (.deferred (some [])) → V.heap[r]? = some (.deferred (some []))) : Marks lo hi V dl := by
  obtain ⟨ds, e, h1, h2⟩ := h
  exact ⟨ds, e, h1, fun r hr => ⟨(h2 r hr).1, hk r (h2 r hr).1.2 (h2 r hr).2⟩⟩
theorem Marks.mono {lo hi hi2 : Nat} {U : World} {dl : List Deferred} (h : Marks lo hi U dl) (hh : hi ≤ hi2) : Marks lo hi2 U dl := by
  obtain ⟨ds, e, h1, h2⟩ := h
  exact ⟨ds, e, h1, fun r hr => ⟨⟨(h2 r hr).1.1, Nat.lt_of_lt_of_le (h2 r hr).1.2 hh⟩, (h2 r hr).2⟩⟩
theorem Marks.later {lo hi : Nat} {U V : World} {dl : List Deferred} (h : Marks lo hi U dl) (hb : Below U.heap.size U V) : Marks lo hi V dl := h.kept fun _ _ hr => heap_keep hr hb
theorem Marks.wrote {lo hi b2 : Nat} {U V : World} {dl : List Deferred} (h : Marks lo hi U dl) (hw : Wrote b2 U V) : Marks lo hi V dl := h.kept fun r _ hr => hw.kept r _ hr (fun cs T fr e => by cases e)
theorem Marks.more {lo hi D : Nat} {V : World} {dl : List Deferred} (h : Marks lo hi V dl) (hs : hi ≤ D) (hb : lo ≤ D) (hD : V.heap[D]? = some (.deferred (some []))) : Marks lo V.heap.size V (mark D :: dl) := by
  obtain ⟨ds, rfl, h1, h2⟩ := h
  have hl := (Array.getElem?_eq_some_iff.1 hD).1
  refine ⟨D :: ds, rfl, List.nodup_cons.2 ⟨fun hm => ?_, h1⟩, fun r hr => ?_⟩
  · have := (h2 D hm).1.2
    omega
  · rcases List.mem_cons.1 hr with rfl | hr
    · exact ⟨⟨hb, hl⟩, hD⟩
    · have := (h2 r hr).1
      exact ⟨⟨this.1, by omega⟩, (h2 r hr).2⟩
/-- marks that are shut, and all else as it was -/
structure Shuts (base : Nat) (w w' : World) : Prop where
  bel : Below base w w'
  kept : ∀ (k : Nat) (o : Obj), o.isCells = true → w.heap[k]? = some o → w'.heap[k]? = some o
theorem Shuts.refl (base : Nat) (w : World) : Shuts base w w := ⟨Below.refl _ _, fun _ _ _ h => h⟩
theorem leaves_marks {F : Fence} {n : Nat} {P : Program} {fn : Func} {tmps : Array Value} {R : Ending → World → Prop} {base : Nat} : ∀ (ds : List Nat) (w : World), ds.Nodup → (∀ r ∈ ds, base ≤ r ∧ w.heap[r]? = some (.deferred (some []))) →
    (∀ w', Shuts base w w' → LeavesIn F n P fn tmps R [] .returning w') → LeavesInM F n P fn tmps R (ds.map mark) .returning w
  | [], w, _, _, h => h w (Shuts.refl _ _)
  | r :: ds, w, hn, hm, h => by
    obtain ⟨h1, h2⟩ := List.nodup_cons.1 hn
    obtain ⟨hr, hd⟩ := hm r (List.mem_cons_self ..)
    have hput : ∀ k, k ≠ r → (w.putObj r (.deferred none)).heap[k]? = w.heap[k]? := fun k hk => f_putObj_other w r k _ hk
    refine ⟨by simp, .inl ⟨r, w.putObj r (.deferred none), rfl, run_takeDeferred hd, leaves_marks ds _ h2 (fun k hk => ⟨(hm k (List.mem_cons_of_mem _ hk)).1, (hput k (fun e => h1 (e ▸ hk))).trans (hm k (List.mem_cons_of_mem _ hk)).2⟩) (fun w' hs => h w' ⟨?_, fun k o hc hk => hs.kept k o hc ((hput k (fun e => ?_)).trans hk)⟩)⟩⟩
    · refine Below.trans ?_ hs.bel
      exact ⟨rfl, rfl, rfl, (grownBy_putObj' w r (.deferred none)).size, fun k hk => hput k (by omega)⟩
    · rw [e, hd] at hk
      cases hk
      cases hc
theorem Marks.leaves {F : Fence} {n : Nat} {P : Program} {fn : Func} {tmps : Array Value} {R : Ending → World → Prop} {base : Nat} {hi : Nat} {w : World} {dl : List Deferred} (h : Marks base hi w dl) (hk : ∀ w', Shuts base w w' → LeavesIn F n P fn tmps R [] .returning w') : LeavesInM F n P fn tmps R dl .returning w := by
  obtain ⟨ds, rfl, h1, h2⟩ := h
  exact leaves_marks ds w h1 (fun r hr => ⟨(h2 r hr).1.1, (h2 r hr).2⟩) hk
/-- what goes on between writes -/
structure Goes (base cb : Nat) (U V : World) : Prop where
  bel : Below base U V
  kept : ∀ (k : Nat) (cs : Array Value) (T : TypeId) (fr : Nat × Nat), U.heap[k]? = some (.cells cs T fr) → T ≠ 3 → V.heap[k]? = some (.cells cs T fr)
  map : ∀ (es : Array MapEntry) (cl : Nat), U.heap[cb]? = some (.map es cl) → V.heap[cb]? = some (.map es cl)
theorem Goes.below {base cb : Nat} {U V : World} (hb : Below U.heap.size U V) (h : base ≤ U.heap.size) : Goes base cb U V := ⟨hb.mono h, fun _ _ _ _ hc _ => heap_keep hc hb, fun _ _ hc => heap_keep hc hb⟩
theorem Goes.set {base cb ab : Nat} {U : World} {cs : Array Value} {fr : Nat × Nat} (hb : base ≤ ab) (h : U.heap[ab]? = some (.cells cs 3 fr)) (v : Value) : Goes base cb U (U.setCell ⟨ab, 0, none⟩ v) := by
  refine ⟨(Below.refl _ _).setCell hb v, fun k cs2 T fr2 hc hT => ?_, fun es cl hc => ?_⟩
  · refine (heap_setCell_other U ⟨ab, 0, none⟩ k v (fun e => hT ?_)).trans hc
    have e : k = ab := e
    rw [e, h] at hc; cases hc; rfl
  · refine (heap_setCell_other U ⟨ab, 0, none⟩ cb v (fun e => ?_)).trans hc
    have e : cb = ab := e
    rw [e, h] at hc; cases hc
theorem Goes.grown {base cb b2 : Nat} {U V : World} {row : Option Nat} (hg : U.grownBy V row) (hr : ∀ r, row = some r → b2 ≤ r ∧ ∃ o : Obj, U.heap[r]? = some o ∧ o.isCells = false) (hb : base ≤ b2) (hs : base ≤ U.heap.size) (hcb : cb < b2) : Goes base cb U V := by
  refine ⟨(Below.refl _ _).grown hg hs (fun r e => by have := (hr r e).1; omega), fun k cs T fr hc _ => ?_, fun es cl hc => ?_⟩
  · refine (hg.block k (Array.getElem?_eq_some_iff.1 hc).1 (fun e => ?_)).trans hc
    obtain ⟨-, o, ho, hn⟩ := hr k e.symm
    rw [hc] at ho; cases ho; cases hn
  · exact (hg.block cb (Array.getElem?_eq_some_iff.1 hc).1 (fun e => by have := (hr cb e.symm).1; omega)).trans hc
theorem Wr.goes {base b mb cb : Nat} {U V : World} {T : ByteArray} (h : Wr U base b mb T) (hg : Goes base cb U V) : Wr V base b mb T := by
  obtain ⟨h1, p, v, h2, h3, h4⟩ := h
  refine ⟨h1, p, v, h2, hg.kept _ _ _ _ h3 (by decide), h4.1, ?_⟩
  rcases h4.2 with h0 | ⟨g, cap, cur, rfl, hb, hc, hx⟩
  · exact Or.inl h0
  · exact Or.inr ⟨g, cap, cur, rfl, hb, hg.kept _ _ _ _ hc (by decide), hx⟩
theorem Wr.shuts {base b mb b2 : Nat} {U V : World} {T : ByteArray} (h : Wr U base b mb T) (hs : Shuts b2 U V) : Wr V base b mb T := by
  obtain ⟨h1, p, v, h2, h3, h4⟩ := h
  refine ⟨h1, p, v, h2, hs.kept _ _ rfl h3, h4.1, ?_⟩
  rcases h4.2 with h0 | ⟨g, cap, cur, rfl, hb, hc, hx⟩
  · exact Or.inl h0
  · exact Or.inr ⟨g, cap, cur, rfl, hb, hs.kept _ _ rfl hc, hx⟩
/-- what each label's round carries along -/
structure Po (w0 w U : World) (b mb cb xb : Nat) (B : Option Addr) (S W : List Lab) (T2 : ByteArray) : Prop where
  bel : Below w0.heap.size w U
  wr : Wr U w0.heap.size b mb T2
  box : U.heap[xb]? = some (.cells #[.pointer (some ⟨b, 0, none⟩)] 65 (0, 0))
  map : MapIs Tryz.prog 37 U cb W.length (cntF W)
  row : LRow U B S
section
variable {w0 w U V : World} {b mb cb xb : Nat} {B : Option Addr} {S W : List Lab} {T2 T3 : ByteArray}
theorem Po.goes (h : Po w0 w U b mb cb xb B S W T2) (hg : Goes w0.heap.size cb U V) : Po w0 w V b mb cb xb B S W T2 := by
  refine ⟨h.bel.trans hg.bel, h.wr.goes hg, hg.kept _ _ _ _ h.box (by decide), ?_, ?_⟩
  · obtain ⟨es, cl, hc⟩ := MapIs.cells h.map
    exact MapIs.same h.map ((hg.map _ _ hc).trans hc.symm)
  · refine ⟨fun hn => ?_, fun hn ad e => ?_⟩
    · obtain ⟨ad, e, hlt, hc⟩ := h.row.row hn
      obtain ⟨cs, fr, hcs⟩ := h.row.typ hn ad e
      have hv := hg.kept _ _ _ _ hcs (by decide)
      refine ⟨ad, e, (Array.getElem?_eq_some_iff.1 hv).1, fun i hi => ?_⟩
      obtain ⟨h0, h1⟩ := hc i hi
      rw [← h0, ← h1]
      unfold World.cell?
      rw [addr_block, addr_block, hv, hcs]
      exact ⟨rfl, rfl⟩
    · obtain ⟨cs, fr, hcs⟩ := h.row.typ hn ad e
      exact ⟨cs, fr, hg.kept _ _ _ _ hcs (by decide)⟩
theorem Po.later (h : Po w0 w U b mb cb xb B S W T2) (hb : Below U.heap.size U V) (hs : w0.heap.size ≤ U.heap.size) : Po w0 w V b mb cb xb B S W T2 := h.goes (Goes.below hb hs)
theorem Po.step (h : Po w0 w U b mb cb xb B S W T2) (hw : Wrote w0.heap.size U V) (hr : Wr V w0.heap.size b mb T3) : Po w0 w V b mb cb xb B S W T3 := by
  refine ⟨h.bel.trans hw.bel, hr, hw.block h.box (by decide), ?_, h.row.wrote hw⟩
  obtain ⟨es, cl, hc⟩ := MapIs.cells h.map
  exact MapIs.same h.map ((hw.kept cb _ hc (fun cs T fr e => by cases e)).trans hc.symm)
end
/-- what each place's round carries along -/
structure Pr (w0 w U : World) (b mb cb xb : Nat) (B : Option Addr) (S W : List Lab) (T3 : ByteArray) (ab g : Nat) (v : Value) (C : Array Value) (bb : Nat → Bool) (n base : Nat) (dl : List Deferred) (s : Nat) : Prop where
  po : Po w0 w U b mb cb xb B S W (T3 ++ Ix.diffsB 0 (Ma.sel bb s))
  ah : U.heap[ab]? = some (.cells #[.int .i64 ((Ix.last bb s : Nat) : Int)] 3 (0, 0))
  b1 : U.heap[g]? = some (.cells #[v] 22 (0, 0))
  b2 : U.heap[g + 1]? = some (.cells C 37 (0, 0))
  mks : Marks w0.heap.size base U dl
  le : s ≤ n
  want : s < n → bb s = true
  size : base ≤ U.heap.size
section
variable {w0 w U V : World} {b mb cb xb : Nat} {B : Option Addr} {S W : List Lab} {T3 : ByteArray} {ab g : Nat} {v : Value} {C : Array Value} {bb : Nat → Bool} {n base : Nat} {dl : List Deferred} {s : Nat}
theorem Pr.grown {row : Option Nat} (h : Pr w0 w U b mb cb xb B S W T3 ab g v C bb n base dl s) (hg : U.grownBy V row) (hr : ∀ r, row = some r → base ≤ r ∧ ∃ o : Obj, U.heap[r]? = some o ∧ o.isCells = false) (hb : w0.heap.size ≤ base) (hcb : cb < base) : Pr w0 w V b mb cb xb B S W T3 ab g v C bb n base dl s := by
  have hgo : Goes w0.heap.size cb U V := Goes.grown hg hr hb (Nat.le_trans hb h.size) hcb
  refine ⟨h.po.goes hgo, ?_, hgo.kept _ _ _ _ h.b1 (by decide), hgo.kept _ _ _ _ h.b2 (by decide), h.mks.kept fun r hlt hm => ?_, h.le, h.want, Nat.le_trans h.size hg.size⟩
  · refine (hg.block ab (Array.getElem?_eq_some_iff.1 h.ah).1 (fun e => ?_)).trans h.ah
    obtain ⟨-, o, ho, hn⟩ := hr ab e.symm
    rw [h.ah] at ho; cases ho; cases hn
  · exact (hg.block r (Array.getElem?_eq_some_iff.1 hm).1 (fun e => by have := (hr r e.symm).1; omega)).trans hm
/-- a place more -/
theorem Pr.more {X : World} (h : Pr w0 w U b mb cb xb B S W T3 ab g v C bb n base dl s) (hb : w0.heap.size ≤ ab) (hlt : s < n) (hw : Wrote w0.heap.size U X) (hr : Wr X w0.heap.size b mb (T3 ++ Ix.diffsB 0 (Ma.sel bb s) ++ Num.smallB (s - Ix.last bb s))) :
    let Y := X.setCell ⟨ab, 0, none⟩ (.int .i64 (s : Int))
    KeepsFrom base U Y ∧ PKeep w0.heap.size g U Y ∧ Pr w0 w Y b mb cb xb B S W T3 ab g v C bb n base dl (Ma.nw bb n (s + 1)) := by
  intro Y
  have hbs := h.want hlt
  have hpo := h.po.step hw hr
  have ha := hw.block h.ah (by decide)
  have hb1 := hw.block h.b1 (by decide)
  have hb2 := hw.block h.b2 (by decide)
  have hgo : Goes w0.heap.size cb X Y := Goes.set hb ha (.int .i64 (s : Int))
  have n1 := heap_setCell_same X ab 0 _ _ (.int .i64 (s : Int)) ha
  have hne : ∀ (k : Nat) (o : Obj), X.heap[k]? = some o → (∀ cs fr, o ≠ .cells cs 3 fr) → Y.heap[k]? = some o := fun k o hk ho => by
    refine (heap_setCell_other X ⟨ab, 0, none⟩ k (.int .i64 (s : Int)) (fun e => ?_)).trans hk
    have e : k = ab := e
    rw [e, ha] at hk; cases hk; exact ho _ _ rfl
  obtain ⟨q1, q2, q3, q4⟩ := Ma.nw_spec bb (n := n) (p := s + 1) (by omega)
  have hsel : Ma.sel bb (Ma.nw bb n (s + 1)) = Ma.sel bb s ++ [s] := by rw [q3, Ma.sel_yes hbs]
  have hlast : Ix.last bb (Ma.nw bb n (s + 1)) = s := by
    unfold Ix.last
    rw [hsel, List.getLast?_concat]; rfl
  have hsz : U.heap.size ≤ Y.heap.size := Nat.le_trans hw.size (by show X.heap.size ≤ (X.setCell _ _).heap.size; rw [World.size_setCell]; exact Nat.le_refl _)
  refine ⟨⟨hsz, fun k o _ hk ho => ?_⟩, ⟨hw.bel.trans hgo.bel, ?_, ?_⟩, ?_, ?_, ?_, ?_, ?_, q2, q4, Nat.le_trans h.size hsz⟩
  · refine hne k o (hw.kept k o hk (fun cs T fr e => by rw [e] at ho; cases ho)) (fun cs fr e => by rw [e] at ho; cases ho)
  · exact (hgo.kept _ _ _ _ hb1 (by decide)).trans h.b1.symm
  · exact (hgo.kept _ _ _ _ hb2 (by decide)).trans h.b2.symm
  · have hd : T3 ++ Ix.diffsB 0 (Ma.sel bb s) ++ Num.smallB (s - Ix.last bb s) = T3 ++ Ix.diffsB 0 (Ma.sel bb (Ma.nw bb n (s + 1))) := by
      rw [hsel, Ix.diffs_snoc, ByteArray.append_assoc]; rfl
    rw [hd] at hpo
    exact hpo.goes hgo
  · rw [hlast]; exact n1
  · exact hgo.kept _ _ _ _ hb1 (by decide)
  · exact hgo.kept _ _ _ _ hb2 (by decide)
  · exact (h.mks.wrote hw).kept fun r _ hm => hne r _ hm (fun cs fr e => by cases e)
end
end Go.Proofs.YtliobahnekohmaaGreat
