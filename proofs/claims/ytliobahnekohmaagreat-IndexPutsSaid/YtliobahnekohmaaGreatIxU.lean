import Derived.Test.YtliobahnekohmaaGreatIxV
import Derived.Test.YtliobahnekohmaaGreatIxR
import Derived.Test.YtliobahnekohmaaGreatIxI
import Derived.LoopN
/-
  A loop in whose rounds a function is ranged over: marks among what is deferred; what the rounds carry along.
-/
namespace Go.Proofs.YtliobahnekohmaaGreat
open Go.RowKit Go.Shelf
def mark (r : Nat) : Deferred := { target := .collected r, args := #[] }
def Marks (lo hi : Nat) (U : World) (dl : List Deferred) : Prop := ∃ ds : List Nat, dl = ds.map mark ∧ ds.Nodup ∧ ∀ r ∈ ds, (lo ≤ r ∧ r < hi) ∧ U.heap[r]? = some (.deferred (some []))
theorem Marks.nil (lo hi : Nat) (U : World) : Marks lo hi U [] := ⟨[], rfl, List.Pairwise.nil, fun _ h => by cases h⟩
theorem Marks.kept {lo hi : Nat} {U V : World} {dl : List Deferred} (h : Marks lo hi U dl) (hk : ∀ r, r < hi → U.heap[r]? = some (.deferred (some [])) → V.heap[r]? = some (.deferred (some []))) : Marks lo hi V dl := by
 obtain ⟨ds, e, h1, h2⟩ := h
 exact ⟨ds, e, h1, fun r hr => ⟨(h2 r hr).1, hk r (h2 r hr).1.2 (h2 r hr).2⟩⟩
theorem Marks.mono {lo hi hi2 : Nat} {U : World} {dl : List Deferred} (h : Marks lo hi U dl) (hh : hi ≤ hi2) : Marks lo hi2 U dl := by
 obtain ⟨ds, e, h1, h2⟩ := h
 exact ⟨ds, e, h1, fun r hr => ⟨⟨(h2 r hr).1.1, Nat.lt_of_lt_of_le (h2 r hr).1.2 hh⟩, (h2 r hr).2⟩⟩
theorem Marks.later {lo hi : Nat} {U V : World} {dl : List Deferred} (h : Marks lo hi U dl) (hb : Below U.heap.size U V) : Marks lo hi V dl := h.kept fun _ _ hr => heap_keep hr hb
theorem Marks.wrote {lo hi b2 : Nat} {U V : World} {dl : List Deferred} (h : Marks lo hi U dl) (hw : Wrote b2 U V) : Marks lo hi V dl := h.kept fun r _ hr => hw.kept r _ hr (fun cs T fr e => by cases e)
theorem Marks.more {lo hi D : Nat} {V : World} {dl : List Deferred} (h : Marks lo hi V dl) (hs : hi ≤ D) (hb : lo ≤ D) (hD : V.heap[D]? = some (.deferred (some []))) : Marks lo V.heap.size V (mark D :: dl) := by
 obtain ⟨ds, rfl, h1, h2⟩ := h
 have hl := (Array.getElem?_eq_some_iff.1 hD).1
 refine ⟨D :: ds, rfl, List.nodup_cons.2 ⟨fun hm => ?_, h1⟩, fun r hr => ?_⟩
 · have := (h2 D hm).1.2
   omega
 · rcases List.mem_cons.1 hr with rfl | hr
   · exact ⟨⟨hb, hl⟩, hD⟩
   · have := (h2 r hr).1
     exact ⟨⟨this.1, by omega⟩, (h2 r hr).2⟩
structure Shuts (base : Nat) (w w' : World) : Prop where
 bel : Below base w w'
 kept : ∀ (k : Nat) (o : Obj), o.isCells = true → w.heap[k]? = some o → w'.heap[k]? = some o
theorem Shuts.refl (base : Nat) (w : World) : Shuts base w w := ⟨Below.refl _ _, fun _ _ _ h => h⟩
theorem leaves_marks {F : Fence} {n : Nat} {P : Program} {fn : Func} {tmps : Array Value} {R : Ending → World → Prop} {base : Nat} : ∀ (ds : List Nat) (w : World), ds.Nodup → (∀ r ∈ ds, base ≤ r ∧ w.heap[r]? = some (.deferred (some []))) →
 (∀ w', Shuts base w w' → LeavesIn F n P fn tmps R [] .returning w') → LeavesInM F n P fn tmps R (ds.map mark) .returning w
 | [], w, _, _, h => h w (Shuts.refl _ _)
 | r :: ds, w, hn, hm, h => by
  obtain ⟨h1, h2⟩ := List.nodup_cons.1 hn
  obtain ⟨hr, hd⟩ := hm r (List.mem_cons_self ..)
  have hput : ∀ k, k ≠ r → (w.putObj r (.deferred none)).heap[k]? = w.heap[k]? := fun k hk => f_putObj_other w r k _ hk
  refine ⟨by simp, .inl ⟨r, w.putObj r (.deferred none), rfl, run_takeDeferred hd, leaves_marks ds _ h2 (fun k hk => ⟨(hm k (List.mem_cons_of_mem _ hk)).1, (hput k (fun e => h1 (e ▸ hk))).trans (hm k (List.mem_cons_of_mem _ hk)).2⟩) (fun w' hs => h w' ⟨?_, fun k o hc hk => hs.kept k o hc ((hput k (fun e => ?_)).trans hk)⟩)⟩⟩
  · refine Below.trans ?_ hs.bel
    exact ⟨rfl, rfl, rfl, (grownBy_putObj' w r (.deferred none)).size, fun k hk => hput k (by omega)⟩
  · rw [e, hd] at hk
    cases hk
    cases hc
theorem Marks.leaves {F : Fence} {n : Nat} {P : Program} {fn : Func} {tmps : Array Value} {R : Ending → World → Prop} {base : Nat} {hi : Nat} {w : World} {dl : List Deferred} (h : Marks base hi w dl) (hk : ∀ w', Shuts base w w' → LeavesIn F n P fn tmps R [] .returning w') : LeavesInM F n P fn tmps R dl .returning w := by
 obtain ⟨ds, rfl, h1, h2⟩ := h
 exact leaves_marks ds w h1 (fun r hr => ⟨(h2 r hr).1.1, (h2 r hr).2⟩) hk
structure Goes (base cb : Nat) (U V : World) : Prop where
 bel : Below base U V
 kept : ∀ (k : Nat) (cs : Array Value) (T : TypeId) (fr : Nat × Nat), U.heap[k]? = some (.cells cs T fr) → T ≠ 3 → V.heap[k]? = some (.cells cs T fr)
 map : ∀ (es : Array MapEntry) (cl : Nat), U.heap[cb]? = some (.map es cl) → V.heap[cb]? = some (.map es cl)
theorem Goes.below {base cb : Nat} {U V : World} (hb : Below U.heap.size U V) (h : base ≤ U.heap.size) : Goes base cb U V := ⟨hb.mono h, fun _ _ _ _ hc _ => heap_keep hc hb, fun _ _ hc => heap_keep hc hb⟩
theorem Goes.set {base cb ab : Nat} {U : World} {cs : Array Value} {fr : Nat × Nat} (hb : base ≤ ab) (h : U.heap[ab]? = some (.cells cs 3 fr)) (v : Value) : Goes base cb U (U.setCell ⟨ab, 0, none⟩ v) := by
 refine ⟨(Below.refl _ _).setCell hb v, fun k cs2 T fr2 hc hT => ?_, fun es cl hc => ?_⟩
 · refine (heap_setCell_other U ⟨ab, 0, none⟩ k v (fun e => hT ?_)).trans hc
   have e : k = ab := e
   rw [e, h] at hc; cases hc; rfl
 · refine (heap_setCell_other U ⟨ab, 0, none⟩ cb v (fun e => ?_)).trans hc
   have e : cb = ab := e
   rw [e, h] at hc; cases hc
theorem Goes.grown {base cb b2 : Nat} {U V : World} {row : Option Nat} (hg : U.grownBy V row) (hr : ∀ r, row = some r → b2 ≤ r ∧ ∃ o : Obj, U.heap[r]? = some o ∧ o.isCells = false) (hb : base ≤ b2) (hs : base ≤ U.heap.size) (hcb : cb < b2) : Goes base cb U V := by
 refine ⟨(Below.refl _ _).grown hg hs (fun r e => by have := (hr r e).1; omega), fun k cs T fr hc _ => ?_, fun es cl hc => ?_⟩
 · refine (hg.block k (Array.getElem?_eq_some_iff.1 hc).1 (fun e => ?_)).trans hc
   obtain ⟨-, o, ho, hn⟩ := hr k e.symm
   rw [hc] at ho; cases ho; cases hn
 · exact (hg.block cb (Array.getElem?_eq_some_iff.1 hc).1 (fun e => by have := (hr cb e.symm).1; omega)).trans hc
theorem Wr.goes {base b mb cb : Nat} {U V : World} {T : ByteArray} (h : Wr U base b mb T) (hg : Goes base cb U V) : Wr V base b mb T := by
 obtain ⟨h1, p, v, h2, h3, h4⟩ := h
 refine ⟨h1, p, v, h2, hg.kept _ _ _ _ h3 (by decide), h4.1, ?_⟩
 rcases h4.2 with h0 | ⟨g, cap, cur, rfl, hb, hc, hx⟩
 · exact Or.inl h0
 · exact Or.inr ⟨g, cap, cur, rfl, hb, hg.kept _ _ _ _ hc (by decide), hx⟩
theorem Wr.shuts {base b mb b2 : Nat} {U V : World} {T : ByteArray} (h : Wr U base b mb T) (hs : Shuts b2 U V) : Wr V base b mb T := by
 obtain ⟨h1, p, v, h2, h3, h4⟩ := h
 refine ⟨h1, p, v, h2, hs.kept _ _ rfl h3, h4.1, ?_⟩
 rcases h4.2 with h0 | ⟨g, cap, cur, rfl, hb, hc, hx⟩
 · exact Or.inl h0
 · exact Or.inr ⟨g, cap, cur, rfl, hb, hs.kept _ _ rfl hc, hx⟩
structure Po (w0 w U : World) (b mb cb xb : Nat) (B : Option Addr) (S W : List Lab) (T2 : ByteArray) : Prop where
 bel : Below w0.heap.size w U
 wr : Wr U w0.heap.size b mb T2
 box : U.heap[xb]? = some (.cells #[.pointer (some ⟨b, 0, none⟩)] 65 (0, 0))
 map : MapIs Tryz.prog 37 U cb W.length (cntF W)
 row : LRow U B S
section
variable {w0 w U V : World} {b mb cb xb : Nat} {B : Option Addr} {S W : List Lab} {T2 T3 : ByteArray}
theorem Po.goes (h : Po w0 w U b mb cb xb B S W T2) (hg : Goes w0.heap.size cb U V) : Po w0 w V b mb cb xb B S W T2 := by
 refine ⟨h.bel.trans hg.bel, h.wr.goes hg, hg.kept _ _ _ _ h.box (by decide), ?_, ?_⟩
 · obtain ⟨es, cl, hc⟩ := MapIs.cells h.map
   exact MapIs.same h.map ((hg.map _ _ hc).trans hc.symm)
 · refine ⟨fun hn => ?_, fun hn ad e => ?_⟩
   · obtain ⟨ad, e, hlt, hc⟩ := h.row.row hn
     obtain ⟨cs, fr, hcs⟩ := h.row.typ hn ad e
     have hv := hg.kept _ _ _ _ hcs (by decide)
     refine ⟨ad, e, (Array.getElem?_eq_some_iff.1 hv).1, fun i hi => ?_⟩
     obtain ⟨h0, h1⟩ := hc i hi
     rw [← h0, ← h1]
     unfold World.cell?
     rw [addr_block, addr_block, hv, hcs]
     exact ⟨rfl, rfl⟩
   · obtain ⟨cs, fr, hcs⟩ := h.row.typ hn ad e
     exact ⟨cs, fr, hg.kept _ _ _ _ hcs (by decide)⟩
theorem Po.later (h : Po w0 w U b mb cb xb B S W T2) (hb : Below U.heap.size U V) (hs : w0.heap.size ≤ U.heap.size) : Po w0 w V b mb cb xb B S W T2 := h.goes (Goes.below hb hs)
theorem Po.step (h : Po w0 w U b mb cb xb B S W T2) (hw : Wrote w0.heap.size U V) (hr : Wr V w0.heap.size b mb T3) : Po w0 w V b mb cb xb B S W T3 := by
 refine ⟨h.bel.trans hw.bel, hr, hw.block h.box (by decide), ?_, h.row.wrote hw⟩
 obtain ⟨es, cl, hc⟩ := MapIs.cells h.map
 exact MapIs.same h.map ((hw.kept cb _ hc (fun cs T fr e => by cases e)).trans hc.symm)
end
structure Pr (w0 w U : World) (b mb cb xb : Nat) (B : Option Addr) (S W : List Lab) (T3 : ByteArray) (ab g : Nat) (v : Value) (C : Array Value) (bb : Nat → Bool) (n base : Nat) (dl : List Deferred) (s : Nat) : Prop where
 po : Po w0 w U b mb cb xb B S W (T3 ++ Ix.diffsB 0 (Ma.sel bb s))
 ah : U.heap[ab]? = some (.cells #[.int .i64 ((Ix.last bb s : Nat) : Int)] 3 (0, 0))
 b1 : U.heap[g]? = some (.cells #[v] 22 (0, 0))
 b2 : U.heap[g + 1]? = some (.cells C 37 (0, 0))
 mks : Marks w0.heap.size base U dl
 le : s ≤ n
 want : s < n → bb s = true
 size : base ≤ U.heap.size
section
variable {w0 w U V : World} {b mb cb xb : Nat} {B : Option Addr} {S W : List Lab} {T3 : ByteArray} {ab g : Nat} {v : Value} {C : Array Value} {bb : Nat → Bool} {n base : Nat} {dl : List Deferred} {s : Nat}
theorem Pr.grown {row : Option Nat} (h : Pr w0 w U b mb cb xb B S W T3 ab g v C bb n base dl s) (hg : U.grownBy V row) (hr : ∀ r, row = some r → base ≤ r ∧ ∃ o : Obj, U.heap[r]? = some o ∧ o.isCells = false) (hb : w0.heap.size ≤ base) (hcb : cb < base) : Pr w0 w V b mb cb xb B S W T3 ab g v C bb n base dl s := by
 have hgo : Goes w0.heap.size cb U V := Goes.grown hg hr hb (Nat.le_trans hb h.size) hcb
 refine ⟨h.po.goes hgo, ?_, hgo.kept _ _ _ _ h.b1 (by decide), hgo.kept _ _ _ _ h.b2 (by decide), h.mks.kept fun r hlt hm => ?_, h.le, h.want, Nat.le_trans h.size hg.size⟩
 · refine (hg.block ab (Array.getElem?_eq_some_iff.1 h.ah).1 (fun e => ?_)).trans h.ah
   obtain ⟨-, o, ho, hn⟩ := hr ab e.symm
   rw [h.ah] at ho; cases ho; cases hn
 · exact (hg.block r (Array.getElem?_eq_some_iff.1 hm).1 (fun e => by have := (hr r e.symm).1; omega)).trans hm
theorem Pr.more {X : World} (h : Pr w0 w U b mb cb xb B S W T3 ab g v C bb n base dl s) (hb : w0.heap.size ≤ ab) (hlt : s < n) (hw : Wrote w0.heap.size U X) (hr : Wr X w0.heap.size b mb (T3 ++ Ix.diffsB 0 (Ma.sel bb s) ++ Num.smallB (s - Ix.last bb s))) :
 let Y := X.setCell ⟨ab, 0, none⟩ (.int .i64 (s : Int))
 KeepsFrom base U Y ∧ PKeep w0.heap.size g U Y ∧ Pr w0 w Y b mb cb xb B S W T3 ab g v C bb n base dl (Ma.nw bb n (s + 1)) := by
 intro Y
 have hbs := h.want hlt
 have hpo := h.po.step hw hr
 have ha := hw.block h.ah (by decide)
 have hb1 := hw.block h.b1 (by decide)
 have hb2 := hw.block h.b2 (by decide)
 have hgo : Goes w0.heap.size cb X Y := Goes.set hb ha (.int .i64 (s : Int))
 have n1 := heap_setCell_same X ab 0 _ _ (.int .i64 (s : Int)) ha
 have hne : ∀ (k : Nat) (o : Obj), X.heap[k]? = some o → (∀ cs fr, o ≠ .cells cs 3 fr) → Y.heap[k]? = some o := fun k o hk ho => by
  refine (heap_setCell_other X ⟨ab, 0, none⟩ k (.int .i64 (s : Int)) (fun e => ?_)).trans hk
  have e : k = ab := e
  rw [e, ha] at hk; cases hk; exact ho _ _ rfl
 obtain ⟨q1, q2, q3, q4⟩ := Ma.nw_spec bb (n := n) (p := s + 1) (by omega)
 have hsel : Ma.sel bb (Ma.nw bb n (s + 1)) = Ma.sel bb s ++ [s] := by rw [q3, Ma.sel_yes hbs]
 have hlast : Ix.last bb (Ma.nw bb n (s + 1)) = s := by
  unfold Ix.last
  rw [hsel, List.getLast?_concat]; rfl
 have hsz : U.heap.size ≤ Y.heap.size := Nat.le_trans hw.size (by show X.heap.size ≤ (X.setCell _ _).heap.size; rw [World.size_setCell]; exact Nat.le_refl _)
 refine ⟨⟨hsz, fun k o _ hk ho => ?_⟩, ⟨hw.bel.trans hgo.bel, ?_, ?_⟩, ?_, ?_, ?_, ?_, ?_, q2, q4, Nat.le_trans h.size hsz⟩
 · refine hne k o (hw.kept k o hk (fun cs T fr e => by rw [e] at ho; cases ho)) (fun cs fr e => by rw [e] at ho; cases ho)
 · exact (hgo.kept _ _ _ _ hb1 (by decide)).trans h.b1.symm
 · exact (hgo.kept _ _ _ _ hb2 (by decide)).trans h.b2.symm
 · have hd : T3 ++ Ix.diffsB 0 (Ma.sel bb s) ++ Num.smallB (s - Ix.last bb s) = T3 ++ Ix.diffsB 0 (Ma.sel bb (Ma.nw bb n (s + 1))) := by
    rw [hsel, Ix.diffs_snoc, ByteArray.append_assoc]; rfl
   rw [hd] at hpo
   exact hpo.goes hgo
 · rw [hlast]; exact n1
 · exact hgo.kept _ _ _ _ hb1 (by decide)
 · exact hgo.kept _ _ _ _ hb2 (by decide)
 · exact (h.mks.wrote hw).kept fun r _ hm => hne r _ hm (fun cs fr e => by cases e)
end
end Go.Proofs.YtliobahnekohmaaGreat
/-
  The postings that a writer puts: the walk.
-/
namespace Go.Proofs.YtliobahnekohmaaGreat
open Go.RowKit Go.Shelf
open Go.ChangeMaps (setBlock)
attribute [local go_sem] Oper.semAt_some
set_option maxRecDepth 100000 in
set_option maxHeartbeats 16000000 in
theorem wPostings_any (w0 : World) (A : Option Addr) (n c : Nat) (q : Nat → EAt) (b mb : Nat) (w : World) (T : ByteArray) (h : EGood w0 A n q) (hnd : ∀ i, i < n → (q i).e.l.Nodup) (hw0 : Below w0.heap.size w0 w) (hw : Wr w w0.heap.size b mb T) (hz : T.size ≤ 40000) :
 Calls Tryz.prog 69 #[.pointer (some ⟨b, 0, none⟩), .slice A n c] w fun e w' => e = .returned (.tuple #[]) ∧ Wr w' w0.heap.size b mb (T ++ Ix.postsB (entL q n) (Ix.labAll (entL q n))) ∧ Below w0.heap.size w w' := by
 have HA := Lib.hid h; have HW0 := Lib.hid hw0; have HW := Lib.hid hw; have HND := Lib.hid hnd
 have hn := h.few
 have HSB := Lib.hid (seen_bound q (n := n) h.labs)
 have HBS := Lib.hid hw0.size
 clear h hnd hw0 hw
 refine (callsIn_wide (n := 3)).1 ?_
 refine callsIn_of_wp_marks Tryz.func69 rfl trivial ?_ rfl
 simp only [Tryz.ntmps69, List.size_toArray, List.length_cons, List.length_nil, Nat.reduceAdd, Nat.reduceSub, Array.replicate_succ, Array.replicate_zero, List.push_toArray, List.append_toArray, List.nil_append, List.cons_append]
 refine wpIn_wide.2 ?_
 obtain ⟨w1, hw1⟩ : ∃ w1, w1 = w.alloc (.cells #[.pointer (some ⟨b, 0, none⟩)] 65) := ⟨_, rfl⟩
 have hb1 : Below w.heap.size w w1 := by rw [hw1]; exact (Below.refl _ _).alloc (Nat.le_refl _) _
 have hx1 : w1.heap[w.heap.size]? = some (.cells #[.pointer (some ⟨b, 0, none⟩)] 65 (0, 0)) := by rw [hw1]; exact heap_alloc_new w _
 have hz1 : w1.heap.size = w.heap.size + 1 := by rw [hw1, World.size_alloc]
 have hm2 := MapIs.made w1 Tryz.prog 37
 have hb2 : Below w1.heap.size w1 (w1.alloc (.map #[] 0)) := (Below.refl _ _).alloc (Nat.le_refl _) _
 have HX1 := Lib.hid hx1; have HB1 := Lib.hid hb1; have HZ1 := Lib.hid hz1
 have HC0 : Hid (Cn w1 (w1.alloc (.map #[] 0)) w1.heap.size (.slice none 0 0) []) := Lib.hid ⟨hb2, Nat.le_refl _, MapIs.congr hm2 (fun key l hl => by
  unfold cntF
  split
  · rfl
  · rfl), World.ownsRow_nil _ _ _ _⟩
 have hmm := run_makeMap_none (P := Tryz.prog) (t := 139) w1
 clear hz1
 go_upto_region 1 with fail
 rw [← hw1]
 obtain ⟨xb, hxb⟩ : ∃ xb, xb = w.heap.size := ⟨_, rfl⟩
 rw [← hxb] at HX1 ⊢
 clear hxb
 clear hx1 hb1 hm2 hb2 hw1
 go_wp2_with fail
 clear hmm
 obtain ⟨cb, hcb⟩ : ∃ cb, cb = w1.heap.size := ⟨_, rfl⟩
 rw [← hcb] at HC0 ⊢
 generalize w1.alloc (.map #[] 0) = w2 at *
 have HCB := Lib.hid hcb
 clear hcb
 go_loopw [5, 17] (fun v i wr => ∃ k : Nat, k ≤ n ∧ i = .int .i64 k ∧ Cn w1 wr cb v ((entL q k).flatMap (·.l))) (fun _ i _ => n - (intOf i).toNat)
 case atStart => exact ⟨0, by omega, rfl, HC0.out⟩
 case round =>
  obtain ⟨k, hk, rfl, hcn⟩ := hrel
  have HCN := Lib.hid hcn
  clear hcn HC0
  have i0 : (0 : Int) ≤ (k : Int) := by omega
  by_cases hlt : k < n
  · have i1 : (k : Int) < (n : Int) := by omega
    have dd1 : decide ((k : Int) < (n : Int)) = true := decide_eq_true i1
    have hb0 : Below w0.heap.size w0 wr := HW0.out.trans ((HB1.out.mono HBS.out).trans (HCN.out.bel.mono (by have := HZ1.out; have := HBS.out; omega)))
    obtain ⟨ad, rfl, x0, x1, x2, x3⟩ := HA.out.ents.cells hb0 hlt
    have hl6 := HA.out.labs k hlt
    have HSH := Lib.hid (HA.out.short k hlt)
    have hsb := HSB.out k (by omega)
    have HSS := Lib.hid (seen_succ q k)
    obtain ⟨w5, hw5⟩ : ∃ w5, w5 = wr.alloc (.cells (entC (q k)) 59) := ⟨_, rfl⟩
    have hb5 : Below wr.heap.size wr w5 := by rw [hw5]; exact (Below.refl _ _).alloc (Nat.le_refl _) _
    have hy5 : w5.heap[wr.heap.size]? = some (.cells (entC (q k)) 59 (0, 0)) := by rw [hw5]; exact heap_alloc_new wr _
    unfold entC at hw5 hy5
    have y0 := cell_of_row _ _ 0 _ _ _ hy5
    simp only [List.getElem?_toArray, List.getElem?_cons_zero] at y0
    obtain ⟨eb, heb⟩ : ∃ eb, eb = wr.heap.size := ⟨_, rfl⟩
    rw [← heb] at y0
    have HC5 := Lib.hid (HCN.out.later hb5)
    have HLAB := Lib.hid (HA.out.ents.each k hlt).row
    have HLW := Lib.hid (HW0.out.trans (HB1.out.mono HBS.out))
    generalize (q k).e.l = l at *
    generalize (q k).A = LA at *
    generalize (entL q k).flatMap (·.l) = W0 at *
    clear hb5 hy5 hb0 HCN
    go_upto_region 6 with fail
    rw [← hw5, ← heb]
    clear hw5 heb x0 x1 x2 x3
    go_wp2_with fail
    clear y0
    go_loopw [5, 24] (fun v i wr => ∃ j : Nat, j ≤ l.length ∧ i = .int .i64 j ∧ Cn w1 wr cb v (W0 ++ l.take j)) (fun _ i _ => l.length - (intOf i).toNat)
    case atStart => exact ⟨0, by omega, rfl, by show Cn _ _ _ _ (W0 ++ []); rw [List.append_nil]; exact HC5.out⟩
    case round =>
     obtain ⟨j, hj, rfl, hcn⟩ := hrel
     have HCN := Lib.hid hcn
     clear hcn HC5
     have j0 : (0 : Int) ≤ (j : Int) := by omega
     by_cases hjl : j < l.length
     · have j1 : (j : Int) < (l.length : Int) := by omega
       have dd2 : decide ((j : Int) < (l.length : Int)) = true := decide_eq_true j1
       have hbl : Below w0.heap.size w0 wr := HLW.out.trans (HCN.out.bel.mono (by have := HZ1.out; have := HBS.out; omega))
       obtain ⟨la, rfl, z0, z1⟩ := HLAB.out.at_ hbl hjl
       obtain ⟨hs1, hs2⟩ := HSH.out j hjl
       have HTK := Lib.hid (take_lab l hjl)
       have hwl : (W0 ++ l.take j).length ≤ 126 := by rw [List.length_append, List.length_take]; omega
       generalize La.at_ l j = x at *
       obtain ⟨W, hW⟩ : ∃ W, W = W0 ++ l.take j := ⟨_, rfl⟩
       rw [← hW] at HCN hwl
       have HWE := Lib.hid hW
       obtain ⟨w6, hw6⟩ : ∃ w6, w6 = wr.alloc (.cells #[.string x.1, .string x.2] 37) := ⟨_, rfl⟩
       have hb6 : Below wr.heap.size wr w6 := by rw [hw6]; exact (Below.refl _ _).alloc (Nat.le_refl _) _
       have hy6 : w6.heap[wr.heap.size]? = some (.cells #[.string x.1, .string x.2] 37 (0, 0)) := by rw [hw6]; exact heap_alloc_new wr _
       obtain ⟨lb, hlb⟩ : ∃ lb, lb = wr.heap.size := ⟨_, rfl⟩
       rw [← hlb] at hy6
       have y0 := cell_of_row _ _ 0 _ _ _ hy6; have y1 := cell_of_row _ _ 1 _ _ _ hy6
       simp only [List.getElem?_toArray, List.getElem?_cons_zero, List.getElem?_cons_succ] at y0 y1
       have HC6 := Lib.hid (HCN.out.later hb6); have HY6 := Lib.hid hy6
       have hlk := cnt_look HC6.out.map (x := x) (by unfold maxLen; omega) (by unfold maxLen; omega)
       have hfs := Ix.firsts_length W
       have HIN := Lib.hid (cnt_in x W); have HFS := Lib.hid (Ix.firsts_snoc W x)
       have hcl := Ix.cnt_le x W
       have HNE := Lib.hid (fun r (e : u5.ownBlock = some r) => Nat.ne_of_lt (HCN.out.row.lt r e).2)
       rw [← hlb] at HNE
       clear hW hb6 hy6 hbl
       go_upto_region 9 with fail
       rw [← hw6, ← hlb]
       clear hw6 hlb z0 z1
       by_cases hc0 : Ix.cnt x W = 0
       · have hq : (((Ix.cnt x W : Nat) : Int) == 0) = true := by rw [hc0]; rfl
         have hfs2 := HFS.out
         rw [HIN.out, if_neg (by simp [hc0])] at hfs2
         have HF2 := Lib.hid hfs2
         have hb7 : Below w6.heap.size w6 (w6.alloc (.cells #[.string x.1, .string x.2] 37)) := (Below.refl _ _).alloc (Nat.le_refl _) _
         have HC7 := Lib.hid (HC6.out.later hb7); have HR7 := Lib.hid (lx2_row w6 x 37); have HY7 := Lib.hid (heap_keep HY6.out hb7); have HBB := Lib.hid HC7.out.bel.size
         clear hb7 hfs2
         go_upto_region 11 with (at_builtin; go_must (refine wpList_append_row _ rfl _ _ 57 37 rfl 2 32 (.agg #[.string ByteArray.empty, .string ByteArray.empty]) Tryz.underlying57 infoL rfl (by decide) (by decide) w1.heap.size _ (Ix.firsts W).length ((Ix.firsts W).flatMap labC) rfl HC7.out.row ⟨w6.heap.size, 0, none⟩ 1 1 (lx2 x) (lx2_one x) rfl HR7.out (by omega) HBB.out ?_); intro v8 w8 hown8 hg8; have HO8 := Lib.hid hown8; have HG8 := Lib.hid hg8; clear hown8 hg8)
         have hr8 := HO8.out
         rw [lx2_cells] at hr8
         have HCM := Lib.hid (HC7.out.more (v2 := v8) (R := Ix.firsts (W ++ [x])) HG8.out (by
          rw [HF2.out, List.length_append, List.flatMap_append]
          have e : [x].flatMap labC = labC x := by simp
          rw [e]; exact hr8))
         have HY8 : Hid (w8.heap[lb]? = some (.cells #[.string x.1, .string x.2] 37 (0, 0))) := Lib.hid ((HG8.out.block lb (Array.getElem?_eq_some_iff.1 HY7.out).1 (fun e => HNE.out _ e.symm rfl)).trans HY7.out)
         clear y0 y1 hlk hr8 hq
         have hcm := cnt_more HCM.out.2.1 (x := x) (by unfold maxLen; omega) (by unfold maxLen; omega)
         obtain ⟨st, es1, clock1, es2, clock2, g1, g2, g3, g4⟩ := hcm
         obtain ⟨sv, hsv⟩ : ∃ sv, sv = goInt (st : Int) := ⟨_, rfl⟩
         rw [← hsv] at g1 g3
         clear hsv
         have hmc := MapIs.cells HCM.out.2.1
         obtain ⟨es0, clock0, hm0⟩ := hmc
         have hlc : lb ≠ cb := fun e => by
          have hy := HY8.out
          rw [e, hm0] at hy; cases hy
         have HG1 := Lib.hid g1; have HG2 := Lib.hid g2; have HG3 := Lib.hid g3; have HG4 := Lib.hid g4; have HM0 := Lib.hid hm0; have HLC := Lib.hid hlc
         have hcw : IntKind.i64.wrap (((Ix.cnt x W : Nat) : Int) + 1) = ((Ix.cnt x W : Nat) : Int) + 1 := by rw [IntKind.wrap_i64]; omega
         clear g1 g2 g3 g4 hm0 hlc
         generalize ((Ix.cnt x W : Nat) : Int) = ci at *
         refine plain_robD [(0, some 36), (1, some 37), (2, some 38), (3, some 39), (4, some 40), (5, some 41)] [6] (fun _ _ => True) (fun δ U => w8.grownBy U (some cb) ∧ U.heap.size = w8.heap.size ∧ U.heap[cb]? = (if δ 4 = true then some (.map es1 clock1) else w8.heap[cb]?)) [(0, .map (some cb)), (1, .agg #[.string x.1, .string x.2]), (2, .int .i64 ci), (3, .int .i64 (ci + 1)), (4, .tuple #[.int .i64 ci, sv]), (5, sv)] [] 1 (by kernel_rfl) (by kernel_rfl) (by kernel_rfl) (⟨grown_drew (grown_refl _ _), rfl, rfl⟩) ?_ ?_ ?_
         · intro p hp; cases hp
         · refine ⟨⟨_, rfl, fun ν δ U hU h00 h1 h2 hp => ?_⟩, ?_⟩
           · simp only [putsν, Act.put, List.setIfInBounds_toArray, List.set_cons_zero, List.set_cons_succ]
             dsimp only at hU
             exact Yld.value (.map (some cb)) U (by kernel_rfl) (by go_simp) ⟨trivial, hU, Fx.fixed rfl rfl⟩
           refine ⟨⟨_, rfl, fun ν δ U hU h00 h1 h2 hp => ?_⟩, ?_⟩
           · simp only [putsν, Act.put, List.setIfInBounds_toArray, List.set_cons_zero, List.set_cons_succ]
             dsimp only at hU
             exact Yld.value (.agg #[.string x.1, .string x.2]) U (by kernel_rfl) (by have hy := grown_keep HY8.out hU.1 HLC.out; have h0 := cell_of_row _ _ 0 _ _ _ hy; have h1 := cell_of_row _ _ 1 _ _ _ hy; simp only [List.getElem?_toArray, List.getElem?_cons_zero, List.getElem?_cons_succ] at h0 h1; go_simp) ⟨trivial, hU, Fx.fixed rfl rfl⟩
           refine ⟨⟨_, rfl, fun ν δ U hU h00 h1 h2 hp => ?_⟩, ?_⟩
           · simp only [putsν, Act.put, List.setIfInBounds_toArray, List.set_cons_zero, List.set_cons_succ]
             have e0 := (hp 0 (by kernel_rfl) (by kernel_rfl)).val _ rfl
             have e1 := (hp 1 (by kernel_rfl) (by kernel_rfl)).val _ rfl
             simp only [e0, e1]
             dsimp only at hU
             exact Yld.value (.int .i64 ci) U (by kernel_rfl) (by have h0 := HG2.out U (by have h := hU.2.2; split at h; (· exact Or.inr h); exact Or.inl h); go_simp) ⟨trivial, hU, Fx.fixed rfl rfl⟩
           refine ⟨⟨_, rfl, fun ν δ U hU h00 h1 h2 hp => ?_⟩, ?_⟩
           · simp only [putsν, Act.put, List.setIfInBounds_toArray, List.set_cons_zero, List.set_cons_succ]
             have e2 := (hp 2 (by kernel_rfl) (by kernel_rfl)).val _ rfl
             simp only [e2]
             dsimp only at hU
             exact Yld.value (.int .i64 (ci + 1)) U (by kernel_rfl) (by go_simp) ⟨trivial, hU, Fx.fixed rfl rfl⟩
           refine ⟨⟨_, rfl, fun ν δ U hU h00 h1 h2 hp => ?_⟩, ?_⟩
           · simp only [putsν, Act.put, List.setIfInBounds_toArray, List.set_cons_zero, List.set_cons_succ]
             have e0 := (hp 0 (by kernel_rfl) (by kernel_rfl)).val _ rfl
             have e1 := (hp 1 (by kernel_rfl) (by kernel_rfl)).val _ rfl
             simp only [e0, e1]
             dsimp only at hU
             rw [if_neg (by rw [h00]; decide)] at hU
             have hgs := grown_setBlock (hU.2.2.trans HM0.out) (.map es1 clock1)
             exact Yld.value _ (setBlock U cb (.map es1 clock1)) (by kernel_rfl) (by have h0 := HG1.out U hU.2.2; go_simp) ⟨trivial, ⟨grown_trans hU.1 hgs.1, hgs.2.1.trans hU.2.1, by rw [if_pos (by simp)]; exact hgs.2.2⟩, Fx.fixed rfl rfl⟩
           refine ⟨⟨_, rfl, fun ν δ U hU h00 h1 h2 hp => ?_⟩, ?_⟩
           · simp only [putsν, Act.put, List.setIfInBounds_toArray, List.set_cons_zero, List.set_cons_succ]
             have e4 := (hp 4 (by kernel_rfl) (by kernel_rfl)).val _ rfl
             simp only [e4]
             dsimp only at hU
             exact Yld.value (sv) U (by kernel_rfl) (by go_simp) ⟨trivial, hU, Fx.fixed rfl rfl⟩
           trivial
         intro ν δ w9 hS9 hd hf
         have e0 := (hf 0 (by kernel_rfl)).val _ rfl
         have e1 := (hf 1 (by kernel_rfl)).val _ rfl
         have e2 := (hf 2 (by kernel_rfl)).val _ rfl
         have e3 := (hf 3 (by kernel_rfl)).val _ rfl
         have e4 := (hf 4 (by kernel_rfl)).val _ rfl
         have e5 := (hf 5 (by kernel_rfl)).val _ rfl
         simp only [putsν, Act.put, List.setIfInBounds_toArray, List.set_cons_zero, List.set_cons_succ, e0, e1, e2, e3, e4, e5]
         clear hf e0 e1 e2 e3 e4 e5
         rw [if_pos (hd 4 (by kernel_rfl))] at hS9
         clear hd
         have hst := HG3.out w9 hS9.2.2
         have hgs := grown_setBlock hS9.2.2 (.map es2 clock2)
         refine wpAnyT_one (i := 6) (by kernel_rfl) rfl (by kernel_rfl) ?_
         intro K0 hK
         unfold Oper.wp
         go_simp
         clear hst
         have hg8 := grown_trans hS9.1 hgs.1
         have HFIN : Hid (Cn w1 (setBlock w9 cb (.map es2 clock2)) cb v8 (W ++ [x])) := Lib.hid ⟨HCM.out.1.grown hg8 HCM.out.1.size (fun r e => by cases e; exact HCN.out.lo), HCN.out.lo, by rw [List.length_append]; exact HG4.out _ hgs.2.2, row_kept HCM.out.2.2 hg8 (fun r e h => by cases e; have := own_cells HCM.out.2.2 h HM0.out; cases this)⟩
         refine hK _ _ (fun _ => trivial) ?_
         clear hK K0
         refine wpAnyT_done (by kernel_rfl) ?_ _
         refine only_mk ?_
         generalize setBlock w9 cb (.map es2 clock2) = w10 at *
         clear hgs hg8 hS9 HG1 HG2 HG3 HG4 HM0 HLC hcw
         go_wp2_with fail
         go_roundw
         case rel => exact ⟨j + 1, by omega, by go_num, by rw [HTK.out, ← List.append_assoc, ← HWE.out]; exact HFIN.out⟩
         case measure => simp [intOf]; omega
       · have hq : (((Ix.cnt x W : Nat) : Int) == 0) = false := by simpa using hc0
         have hfs2 := HFS.out
         rw [HIN.out, if_pos (by simp [hc0])] at hfs2
         have HF2 := Lib.hid hfs2
         clear hfs2
         go_upto_region 11 with fail
         obtain ⟨w8, hw8⟩ : ∃ w8, w8 = w6 := ⟨_, rfl⟩
         rw [← hw8]
         have HCM : Hid (Below w1.heap.size w1 w8 ∧ MapIs Tryz.prog 37 w8 cb W.length (cntF W) ∧ w8.ownsRow w1.heap.size 37 2 u5 (Ix.firsts (W ++ [x])).length ((Ix.firsts (W ++ [x])).flatMap labC)) := Lib.hid (by rw [HF2.out, hw8]; exact ⟨HC6.out.bel, HC6.out.map, HC6.out.row⟩)
         have HY8 : Hid (w8.heap[lb]? = some (.cells #[.string x.1, .string x.2] 37 (0, 0))) := Lib.hid (by rw [hw8]; exact HY6.out)
         clear y0 y1 hlk hq hw8
         have hcm := cnt_more HCM.out.2.1 (x := x) (by unfold maxLen; omega) (by unfold maxLen; omega)
         obtain ⟨st, es1, clock1, es2, clock2, g1, g2, g3, g4⟩ := hcm
         obtain ⟨sv, hsv⟩ : ∃ sv, sv = goInt (st : Int) := ⟨_, rfl⟩
         rw [← hsv] at g1 g3
         clear hsv
         have hmc := MapIs.cells HCM.out.2.1
         obtain ⟨es0, clock0, hm0⟩ := hmc
         have hlc : lb ≠ cb := fun e => by
          have hy := HY8.out
          rw [e, hm0] at hy; cases hy
         have HG1 := Lib.hid g1; have HG2 := Lib.hid g2; have HG3 := Lib.hid g3; have HG4 := Lib.hid g4; have HM0 := Lib.hid hm0; have HLC := Lib.hid hlc
         have hcw : IntKind.i64.wrap (((Ix.cnt x W : Nat) : Int) + 1) = ((Ix.cnt x W : Nat) : Int) + 1 := by rw [IntKind.wrap_i64]; omega
         clear g1 g2 g3 g4 hm0 hlc
         generalize ((Ix.cnt x W : Nat) : Int) = ci at *
         refine plain_robD [(0, some 36), (1, some 37), (2, some 38), (3, some 39), (4, some 40), (5, some 41)] [6] (fun _ _ => True) (fun δ U => w8.grownBy U (some cb) ∧ U.heap.size = w8.heap.size ∧ U.heap[cb]? = (if δ 4 = true then some (.map es1 clock1) else w8.heap[cb]?)) [(0, .map (some cb)), (1, .agg #[.string x.1, .string x.2]), (2, .int .i64 ci), (3, .int .i64 (ci + 1)), (4, .tuple #[.int .i64 ci, sv]), (5, sv)] [] 1 (by kernel_rfl) (by kernel_rfl) (by kernel_rfl) (⟨grown_drew (grown_refl _ _), rfl, rfl⟩) ?_ ?_ ?_
         · intro p hp; cases hp
         · refine ⟨⟨_, rfl, fun ν δ U hU h00 h1 h2 hp => ?_⟩, ?_⟩
           · simp only [putsν, Act.put, List.setIfInBounds_toArray, List.set_cons_zero, List.set_cons_succ]
             dsimp only at hU
             exact Yld.value (.map (some cb)) U (by kernel_rfl) (by go_simp) ⟨trivial, hU, Fx.fixed rfl rfl⟩
           refine ⟨⟨_, rfl, fun ν δ U hU h00 h1 h2 hp => ?_⟩, ?_⟩
           · simp only [putsν, Act.put, List.setIfInBounds_toArray, List.set_cons_zero, List.set_cons_succ]
             dsimp only at hU
             exact Yld.value (.agg #[.string x.1, .string x.2]) U (by kernel_rfl) (by have hy := grown_keep HY8.out hU.1 HLC.out; have h0 := cell_of_row _ _ 0 _ _ _ hy; have h1 := cell_of_row _ _ 1 _ _ _ hy; simp only [List.getElem?_toArray, List.getElem?_cons_zero, List.getElem?_cons_succ] at h0 h1; go_simp) ⟨trivial, hU, Fx.fixed rfl rfl⟩
           refine ⟨⟨_, rfl, fun ν δ U hU h00 h1 h2 hp => ?_⟩, ?_⟩
           · simp only [putsν, Act.put, List.setIfInBounds_toArray, List.set_cons_zero, List.set_cons_succ]
             have e0 := (hp 0 (by kernel_rfl) (by kernel_rfl)).val _ rfl
             have e1 := (hp 1 (by kernel_rfl) (by kernel_rfl)).val _ rfl
             simp only [e0, e1]
             dsimp only at hU
             exact Yld.value (.int .i64 ci) U (by kernel_rfl) (by have h0 := HG2.out U (by have h := hU.2.2; split at h; (· exact Or.inr h); exact Or.inl h); go_simp) ⟨trivial, hU, Fx.fixed rfl rfl⟩
           refine ⟨⟨_, rfl, fun ν δ U hU h00 h1 h2 hp => ?_⟩, ?_⟩
           · simp only [putsν, Act.put, List.setIfInBounds_toArray, List.set_cons_zero, List.set_cons_succ]
             have e2 := (hp 2 (by kernel_rfl) (by kernel_rfl)).val _ rfl
             simp only [e2]
             dsimp only at hU
             exact Yld.value (.int .i64 (ci + 1)) U (by kernel_rfl) (by go_simp) ⟨trivial, hU, Fx.fixed rfl rfl⟩
           refine ⟨⟨_, rfl, fun ν δ U hU h00 h1 h2 hp => ?_⟩, ?_⟩
           · simp only [putsν, Act.put, List.setIfInBounds_toArray, List.set_cons_zero, List.set_cons_succ]
             have e0 := (hp 0 (by kernel_rfl) (by kernel_rfl)).val _ rfl
             have e1 := (hp 1 (by kernel_rfl) (by kernel_rfl)).val _ rfl
             simp only [e0, e1]
             dsimp only at hU
             rw [if_neg (by rw [h00]; decide)] at hU
             have hgs := grown_setBlock (hU.2.2.trans HM0.out) (.map es1 clock1)
             exact Yld.value _ (setBlock U cb (.map es1 clock1)) (by kernel_rfl) (by have h0 := HG1.out U hU.2.2; go_simp) ⟨trivial, ⟨grown_trans hU.1 hgs.1, hgs.2.1.trans hU.2.1, by rw [if_pos (by simp)]; exact hgs.2.2⟩, Fx.fixed rfl rfl⟩
           refine ⟨⟨_, rfl, fun ν δ U hU h00 h1 h2 hp => ?_⟩, ?_⟩
           · simp only [putsν, Act.put, List.setIfInBounds_toArray, List.set_cons_zero, List.set_cons_succ]
             have e4 := (hp 4 (by kernel_rfl) (by kernel_rfl)).val _ rfl
             simp only [e4]
             dsimp only at hU
             exact Yld.value (sv) U (by kernel_rfl) (by go_simp) ⟨trivial, hU, Fx.fixed rfl rfl⟩
           trivial
         intro ν δ w9 hS9 hd hf
         have e0 := (hf 0 (by kernel_rfl)).val _ rfl
         have e1 := (hf 1 (by kernel_rfl)).val _ rfl
         have e2 := (hf 2 (by kernel_rfl)).val _ rfl
         have e3 := (hf 3 (by kernel_rfl)).val _ rfl
         have e4 := (hf 4 (by kernel_rfl)).val _ rfl
         have e5 := (hf 5 (by kernel_rfl)).val _ rfl
         simp only [putsν, Act.put, List.setIfInBounds_toArray, List.set_cons_zero, List.set_cons_succ, e0, e1, e2, e3, e4, e5]
         clear hf e0 e1 e2 e3 e4 e5
         rw [if_pos (hd 4 (by kernel_rfl))] at hS9
         clear hd
         have hst := HG3.out w9 hS9.2.2
         have hgs := grown_setBlock hS9.2.2 (.map es2 clock2)
         refine wpAnyT_one (i := 6) (by kernel_rfl) rfl (by kernel_rfl) ?_
         intro K0 hK
         unfold Oper.wp
         go_simp
         clear hst
         have hg8 := grown_trans hS9.1 hgs.1
         have HFIN : Hid (Cn w1 (setBlock w9 cb (.map es2 clock2)) cb u5 (W ++ [x])) := Lib.hid ⟨HCM.out.1.grown hg8 HCM.out.1.size (fun r e => by cases e; exact HCN.out.lo), HCN.out.lo, by rw [List.length_append]; exact HG4.out _ hgs.2.2, row_kept HCM.out.2.2 hg8 (fun r e h => by cases e; have := own_cells HCM.out.2.2 h HM0.out; cases this)⟩
         refine hK _ _ (fun _ => trivial) ?_
         clear hK K0
         refine wpAnyT_done (by kernel_rfl) ?_ _
         refine only_mk ?_
         generalize setBlock w9 cb (.map es2 clock2) = w10 at *
         clear hgs hg8 hS9 HG1 HG2 HG3 HG4 HM0 HLC hcw
         go_wp2_with fail
         go_roundw
         case rel => exact ⟨j + 1, by omega, by go_num, by rw [HTK.out, ← List.append_assoc, ← HWE.out]; exact HFIN.out⟩
         case measure => simp [intOf]; omega
     · obtain rfl : j = l.length := by omega
       have dd2 : decide ((l.length : Int) < (l.length : Int)) = false := decide_eq_false (by omega)
       have hcn := HCN.out
       rw [List.take_length, ← HSS.out] at hcn
       have HC2 := Lib.hid hcn
       clear hcn
       go_wp2_with fail
       go_roundw
       case rel => exact ⟨k + 1, by omega, by go_num, HC2.out⟩
       case measure => simp [intOf]; omega
  · obtain rfl : n = k := by omega
    have dd1 : decide ((n : Int) < (n : Int)) = false := decide_eq_false (by omega)
    obtain ⟨L, hL⟩ : ∃ L, L = entL q n := ⟨_, rfl⟩
    have hcn := HCN.out
    have hbd := HSB.out n (Nat.le_refl n)
    have hbd2 : (L.flatMap (·.l)).length ≤ 120 := by rw [hL]; omega
    have HCS := Lib.hid (fun x => Ix.count_sel q x n HND.out)
    have HPS := Lib.hid (fun x => Ix.posts_sel q x n)
    rw [← hL] at hcn hbd HCS HPS
    have HLE := Lib.hid hL
    have HLA : Hid (Ix.labAll L = Ix.labAll (entL q n)) := Lib.hid (by rw [hL])
    have hLL : L.length = n := by rw [hL, entL_length]
    obtain ⟨B, d, hv, hsort⟩ := sorted_any w1 wr cb u5 L hcn (by omega)
    subst hv
    have hSl : (Ix.labAll L).length ≤ 120 := by have := labAll_length L; have := Ix.firsts_length (L.flatMap (·.l)); omega
    have HSM := Lib.hid (fun y (hy : y ∈ Ix.labAll L) => (Ix.labAll_mem L y).1 hy)
    have HPZ := Lib.hid (Ix.postsB_size L (by omega))
    have HPZ1 := Lib.hid (Ix.postB_size L (by omega))
    have HPN := Lib.hid (Ix.postsB_snoc L)
    have hSH : ∀ x, x ∈ L.flatMap (·.l) → x.1.size ≤ 48 ∧ x.2.size ≤ 48 := fun x hx => by
     rw [hL] at hx
     obtain ⟨e, he, hx⟩ := List.mem_flatMap.1 hx
     obtain ⟨i, hi, rfl⟩ := List.mem_map.1 he
     have hi := List.mem_range.1 hi
     obtain ⟨j, hj, rfl⟩ := lab_mem hx
     exact HA.out.short i hi j hj
    have HSH := Lib.hid hSH
    generalize Ix.labAll L = S at *
    have hcw := hcn.bel
    have HSO := Lib.hid hsort; have HCW := Lib.hid hcw
    have HXB := Lib.hid (HX1.out)
    clear hcn hsort hcw hbd HCN hL hSH HSB
    go_wp2_with fail
    refine HSO.out.mono ?_; rintro e w3 ⟨rfl, hrow, hb3, hm3⟩
    have hb13 := HCW.out.trans hb3
    have hbw : w0.heap.size ≤ w1.heap.size := by have := HZ1.out; have := HBS.out; omega
    generalize hWl : L.flatMap (·.l) = Wl at *
    have HPO : Hid (Po w0 w w3 b mb cb xb B S Wl T) := Lib.hid ⟨(HB1.out.mono HBS.out).trans (hb13.mono hbw), (HW.out.later HB1.out).later hb13, heap_keep HX1.out hb13, hm3, hrow⟩
    have HWL := Lib.hid hWl
    clear hrow hb3 hm3 hb13 hbw HX1 HXB HCW HSO HW hWl
    go_wp2_with fail
    refine wp_loop (fun a W => ∃ v3 v5 v6 v7 v8 v9 v10 v11 v12 v13 v14 v15 v16 v17 v18 v19 v20 v21 v22 v23 v24 v25 v26 v27 v28 v29 v30 v31 v32 v33 v34 v35 v36 v37 v38 v39 v40 v41 v42 v43 v44 v45 v49 v50 v51 v52 v53 v54 v55 v56 v57 v58 v59 v60 v61 v62 v63 v64 v65 v66 v67 v68 v69 v70 v71 : Value, ∃ (m : Nat) (dl : List Deferred), (m ≤ S.length ∧ Po w0 w W b mb cb xb B S Wl (T ++ Ix.postsB L (S.take m)) ∧ Marks w0.heap.size W.heap.size W dl) ∧ a = { tmps := #[.pointer (some ⟨b, 0, none⟩), .slice A n c, .pointer (some ⟨xb, 0, none⟩), v3, .map (some cb), v5, v6, v7, v8, v9, v10, v11, v12, v13, v14, v15, v16, v17, v18, v19, v20, v21, v22, v23, v24, v25, v26, v27, v28, v29, v30, v31, v32, v33, v34, v35, v36, v37, v38, v39, v40, v41, v42, v43, v44, v45, .slice B S.length d, .int .i64 (S.length : Int), .int .i64 (m : Int), v49, v50, v51, v52, v53, v54, v55, v56, v57, v58, v59, v60, v61, v62, v63, v64, v65, v66, v67, v68, v69, v70, v71], defers := dl }) (fun a _ => S.length - (intOf (a.tmps.getD 48 undef)).toNat) ?_ ?_
    · exact ⟨_, _, _, _, _, _, _, _, _, _, _, _, _, _, _, _, _, _, _, _, _, _, _, _, _, _, _, _, _, _, _, _, _, _, _, _, _, _, _, _, _, _, _, _, _, _, _, _, _, _, _, _, _, _, _, _, _, _, _, _, _, _, _, _, _, 0, [], ⟨by omega, by show Po _ _ _ _ _ _ _ _ _ _ (T ++ ByteArray.empty); rw [ByteArray.append_empty]; exact HPO.out, Marks.nil _ _ _⟩, rfl⟩
    · intro a W hinv
      obtain ⟨v3, v5, v6, v7, v8, v9, v10, v11, v12, v13, v14, v15, v16, v17, v18, v19, v20, v21, v22, v23, v24, v25, v26, v27, v28, v29, v30, v31, v32, v33, v34, v35, v36, v37, v38, v39, v40, v41, v42, v43, v44, v45, v49, v50, v51, v52, v53, v54, v55, v56, v57, v58, v59, v60, v61, v62, v63, v64, v65, v66, v67, v68, v69, v70, v71, m, dl, ⟨hm, hpo, hmk⟩, rfl⟩ := hinv
      have HPO2 := Lib.hid hpo; have HMK := Lib.hid hmk
      clear hpo hmk HPO
      have m0 : (0 : Int) ≤ (m : Int) := by omega
      by_cases hlt : m < S.length
      · have m1 : (m : Int) < (S.length : Int) := by omega
        have dd2 : decide ((m : Int) < (S.length : Int)) = true := decide_eq_true m1
        obtain ⟨ad, rfl, z0, z1⟩ := HPO2.out.row.row.at_ (Below.refl _ _) hlt
        have hmem : La.at_ S m ∈ S := by
         have e : La.at_ S m = S[m] := by unfold La.at_; simp [List.getD, hlt]
         rw [e]; exact List.getElem_mem hlt
        have HTK := Lib.hid (take_lab S hlt)
        have hmem2 := HSM.out _ hmem
        obtain ⟨hs1, hs2⟩ := HSH.out _ hmem2
        generalize La.at_ S m = x at *
        have hws : w0.heap.size ≤ W.heap.size := by have := HPO2.out.bel.size; have := HBS.out; omega
        have hpz := HPZ.out (S.take m)
        rw [List.length_take] at hpz
        have HPB := Lib.hid (HPN.out x (S.take m))
        have hpe : Ix.postB L x = Num.smallB (Ma.sel (hasE q x) n).length ++ Ix.diffsB 0 (Ma.sel (hasE q x) n) := by unfold Ix.postB; rw [HPS.out x]
        have HPE := Lib.hid hpe
        have hcx := HCS.out x
        have hsl := Ma.sel_length (hasE q x) n
        have hsz := Fr.small_le (Ma.sel (hasE q x) n).length
        obtain ⟨T2, hT2⟩ : ∃ T2, T2 = T ++ Ix.postsB L (S.take m) := ⟨_, rfl⟩
        have hT2z : T2.size ≤ 70000 := by rw [hT2, ByteArray.size_append]; omega
        rw [← hT2] at HPO2
        have HT2 := Lib.hid hT2
        obtain ⟨w5, hw5⟩ : ∃ w5, w5 = W.alloc (.cells #[.string x.1, .string x.2] 37) := ⟨_, rfl⟩
        have hb5 : Below W.heap.size W w5 := by rw [hw5]; exact (Below.refl _ _).alloc (Nat.le_refl _) _
        have hy5 : w5.heap[W.heap.size]? = some (.cells #[.string x.1, .string x.2] 37 (0, 0)) := by rw [hw5]; exact heap_alloc_new W _
        obtain ⟨lb, hlb⟩ : ∃ lb, lb = W.heap.size := ⟨_, rfl⟩
        rw [← hlb] at hy5
        have hlo : w0.heap.size ≤ lb := by omega
        have hs5 := hb5.size
        have HP5 := Lib.hid (HPO2.out.later hb5 hws); have HM5 := Lib.hid (HMK.out.later hb5); have HY5 := Lib.hid hy5
        rw [← hlb] at HM5
        have HLK := Lib.hid (fun U (hU : Below w5.heap.size w5 U) => cnt_look (x := x) (HP5.out.later hU (by omega)).map (by unfold maxLen; omega) (by unfold maxLen; omega))
        rw [hcx] at HLK
        generalize hc0 : (Ma.sel (hasE q x) n).length = ct at *
        have hu := u64w (n := (ct : Int)) (by omega)
        clear hpe hcx hT2 hb5 hy5 HPO2 HMK hpz hc0 hmem hmem2
        go_upto_region 18 with fail
        rw [← hw5, ← hlb]
        clear hw5 hlb z0 z1
        refine plain_robJ [(0, some 52), (1, some 53), (2, some 54), (3, some 55), (4, some 56), (5, some 57)] [6] (fun U V => Below U.heap.size U V) (fun U => Below w5.heap.size w5 U) [(0, .pointer (some ⟨b, 0, none⟩)), (1, .map (some cb)), (2, .agg #[.string x.1, .string x.2]), (3, .int .i64 (ct : Int)), (4, .int .u64 (ct : Int))] [(5, (fun v U => ∃ bb, v = .slice (some ⟨bb, 0, none⟩) 1 1 ∧ U.heap[bb]? = some (.cells #[.int .u64 (ct : Int)] 103 (0, 0)) : Value → World → Prop))] 1 (by kernel_rfl) (by kernel_rfl) (by kernel_rfl) ((Below.refl _ _).drew) (fun U V h hb => below_step h hb) ?_ ?_ ?_
        · intro p hp
          simp only [List.mem_cons, List.not_mem_nil, or_false] at hp
          subst hp
          exact fun v U V h hb => by obtain ⟨bb, e, hc⟩ := h; exact ⟨bb, e, heap_keep hc hb⟩
        · refine ⟨⟨_, rfl, fun ν U hU hp => ?_⟩, ?_⟩
          · simp only [putsν, Act.put, List.setIfInBounds_toArray, List.set_cons_zero, List.set_cons_succ]
            exact Yld.value (.pointer (some ⟨b, 0, none⟩)) U (by kernel_rfl) (by have h0 : U.cell? ⟨xb, 0, none⟩ = some (.pointer (some ⟨b, 0, none⟩)) := cell_of_row _ _ _ _ _ _ (heap_keep HP5.out.box hU); go_simp) ⟨Below.refl _ _, Fx.fixed rfl rfl⟩
          refine ⟨⟨_, rfl, fun ν U hU hp => ?_⟩, ?_⟩
          · simp only [putsν, Act.put, List.setIfInBounds_toArray, List.set_cons_zero, List.set_cons_succ]
            exact Yld.value (.map (some cb)) U (by kernel_rfl) (by go_simp) ⟨Below.refl _ _, Fx.fixed rfl rfl⟩
          refine ⟨⟨_, rfl, fun ν U hU hp => ?_⟩, ?_⟩
          · simp only [putsν, Act.put, List.setIfInBounds_toArray, List.set_cons_zero, List.set_cons_succ]
            exact Yld.value (.agg #[.string x.1, .string x.2]) U (by kernel_rfl) (by have hy := heap_keep HY5.out hU; have h0 := cell_of_row _ _ 0 _ _ _ hy; have h1 := cell_of_row _ _ 1 _ _ _ hy; simp only [List.getElem?_toArray, List.getElem?_cons_zero, List.getElem?_cons_succ] at h0 h1; go_simp) ⟨Below.refl _ _, Fx.fixed rfl rfl⟩
          refine ⟨⟨_, rfl, fun ν U hU hp => ?_⟩, ?_⟩
          · simp only [putsν, Act.put, List.setIfInBounds_toArray, List.set_cons_zero, List.set_cons_succ]
            have e1 := (hp 1 (by kernel_rfl) (by kernel_rfl)).val _ rfl
            have e2 := (hp 2 (by kernel_rfl) (by kernel_rfl)).val _ rfl
            simp only [e1, e2]
            exact Yld.value (.int .i64 (ct : Int)) U (by kernel_rfl) (by have h0 := HLK.out U hU; go_simp) ⟨Below.refl _ _, Fx.fixed rfl rfl⟩
          refine ⟨⟨_, rfl, fun ν U hU hp => ?_⟩, ?_⟩
          · simp only [putsν, Act.put, List.setIfInBounds_toArray, List.set_cons_zero, List.set_cons_succ]
            have e3 := (hp 3 (by kernel_rfl) (by kernel_rfl)).val _ rfl
            simp only [e3]
            exact Yld.value (.int .u64 (ct : Int)) U (by kernel_rfl) (by go_simp) ⟨Below.refl _ _, Fx.fixed rfl rfl⟩
          refine ⟨⟨_, rfl, fun ν U hU hp => ?_⟩, ?_⟩
          · simp only [putsν, Act.put, List.setIfInBounds_toArray, List.set_cons_zero, List.set_cons_succ]
            have e4 := (hp 4 (by kernel_rfl) (by kernel_rfl)).val _ rfl
            simp only [e4]
            exact Yld.value (.slice (some ⟨U.heap.size, 0, none⟩) 1 1) _ (by kernel_rfl) (by go_simp) ⟨(Below.refl _ _).alloc (Nat.le_refl _) _, Fx.some_ rfl rfl ⟨_, rfl, heap_alloc_new U _⟩⟩
          trivial
        intro ν w9 hS9 hf
        have e0 := (hf 0 (by kernel_rfl)).val _ rfl
        have e1 := (hf 1 (by kernel_rfl)).val _ rfl
        have e2 := (hf 2 (by kernel_rfl)).val _ rfl
        have e3 := (hf 3 (by kernel_rfl)).val _ rfl
        have e4 := (hf 4 (by kernel_rfl)).val _ rfl
        have c5 := (hf 5 (by kernel_rfl)).is _ rfl
        simp only [putsν, Act.put, List.setIfInBounds_toArray, List.set_cons_zero, List.set_cons_succ, e0, e1, e2, e3, e4]
        clear hf e0 e1 e2 e3 e4
        obtain ⟨ub, hv, hbb⟩ := c5
        simp only [hv]
        clear hv
        refine wpAnyT_one (i := 6) (by kernel_rfl) rfl (by kernel_rfl) ?_
        intro K0 hK
        unfold Oper.wp
        go_simp
        have HP9 := Lib.hid (HP5.out.later hS9 (by omega)); have HM9 := Lib.hid (HM5.out.later hS9)
        have hsm := built_any w0.heap.size b mb T2 [ct] _ ub 1 1 w9 HP9.out.wr (by omega) rfl (by simp) (fun n hn => by rw [List.mem_singleton.1 hn]; omega) (by have := hS9.size; omega) hbb (one_cells ct)
        rw [smalls_one] at hsm
        refine hsm.mono ?_; rintro e w10 ⟨rfl, hw10, hr10⟩
        have HP10 := Lib.hid (HP9.out.step hr10 hw10); have HM10 := Lib.hid (HM9.out.wrote hr10)
        have hy10 := hr10.block (heap_keep HY5.out hS9) (by decide)
        have hs10 : lb < w10.heap.size := (Array.getElem?_eq_some_iff.1 hy10).1
        have HY10 := Lib.hid hy10
        clear hw10 hr10 hS9 hsm hbb hy10 HP9 HM9 HP5 HM5 HY5 HLK hu
        refine hK _ _ (fun _ => trivial) ?_
        clear hK K0
        refine wpAnyT_done (by kernel_rfl) ?_ _
        refine only_mk ?_
        generalize hT3 : T2 ++ Num.smallB ct = T3 at *
        have hT3z : T3.size ≤ 70010 := by rw [← hT3, ByteArray.size_append]; omega
        have HT3 := Lib.hid hT3
        obtain ⟨w11, hw11⟩ : ∃ w11, w11 = w10.alloc (.cells #[.int .i64 0] 3) := ⟨_, rfl⟩
        have hb11 : Below w10.heap.size w10 w11 := by rw [hw11]; exact (Below.refl _ _).alloc (Nat.le_refl _) _
        have ha11 : w11.heap[w10.heap.size]? = some (.cells #[.int .i64 0] 3 (0, 0)) := by rw [hw11]; exact heap_alloc_new w10 _
        have hz11 : w11.heap.size = w10.heap.size + 1 := by rw [hw11, World.size_alloc]
        have hy11 := heap_keep HY10.out hb11
        have y0 := cell_of_row _ _ 0 _ _ _ hy11; have y1 := cell_of_row _ _ 1 _ _ _ hy11
        simp only [List.getElem?_toArray, List.getElem?_cons_zero, List.getElem?_cons_succ] at y0 y1
        obtain ⟨ab, hab⟩ : ∃ ab, ab = w10.heap.size := ⟨_, rfl⟩
        have hs11 : w10.heap.size ≤ w11.heap.size := hb11.size
        have HP11 := Lib.hid (HP10.out.later hb11 (by omega)); have HM11 := Lib.hid (HM10.out.later hb11)
        rw [← hab] at ha11 hz11
        have HA11 := Lib.hid ha11; have HZ11 := Lib.hid hz11
        clear hb11 ha11 hy11 hT3 HP10 HM10 hz11
        go_upto_region 20 with fail
        rw [← hw11, ← hab]
        clear hw11
        go_wp2_with fail
        refine (postings_any A n c x w11).mono ?_; rintro e w12 ⟨rfl, hw12⟩
        have h2 := f_two_heap w11 (.cells #[.slice A n c] 22) (.cells #[.string x.1, .string x.2] 37)
        rw [← hw12] at h2
        obtain ⟨h20, h21, hz12, hk12, hg12⟩ := h2
        have hb12 : Below w11.heap.size w11 w12 := (Below.refl _ _).grown hg12 (Nat.le_refl _) (fun r e => by cases e)
        have hp12 := HP11.out.later hb12 (by omega)
        have hhands := postings_hands w0 A n c q HA.out.ents x w11.heap.size w12 ⟨by omega, HW0.out.trans hp12.bel, h20, h21⟩
        generalize hbd : hasE q x = bb at *
        obtain ⟨q1, q2, q3, q4⟩ := Ma.nw_spec bb (Nat.zero_le n)
        have hlast0 : Ix.last bb (Ma.nw bb n 0) = 0 := by unfold Ix.last; rw [q3]; rfl
        have start : Pr w0 w w12 b mb cb xb (some ad) S Wl T3 ab w11.heap.size (.slice A n c) #[.string x.1, .string x.2] bb n w12.heap.size dl (Ma.nw bb n 0) :=
         ⟨by rw [q3]; show Po _ _ _ _ _ _ _ _ _ _ (T3 ++ ByteArray.empty); rw [ByteArray.append_empty]; exact hp12, by rw [hlast0]; exact heap_keep HA11.out hb12, h20, h21, (HM11.out.later hb12).mono (by omega), q2, q4, Nat.le_refl _⟩
        have hcbs : cb < w12.heap.size := MapIs.lt hp12.map
        have ST := Lib.hid start; have HHD := Lib.hid hhands; have HCS2 := Lib.hid hcbs
        obtain ⟨g, hgx⟩ : ∃ g, g = w11.heap.size := ⟨_, rfl⟩
        rw [← hgx] at ST HHD ⊢
        have hsg : w0.heap.size ≤ g := by omega
        have hsab : w0.heap.size ≤ ab := by omega
        have hsw : w0.heap.size ≤ w12.heap.size := by omega
        have hgw : g + 2 ≤ w12.heap.size := by omega
        clear start hhands hcbs q1 q2 q3 q4 hlast0 hp12 hb12 hg12 hk12 hz12 h20 h21 hw12 y0 y1 hgx hab HP11 HM11 HA11 HZ11 HY10
        go_wp2_with fail
        refine (wpIn_wide (n := 3)).1 ?_
        refine' rangeN (gf := 88) (lb := #[.pointer (some ⟨g, 0, none⟩), .pointer (some ⟨g + 1, 0, none⟩)]) rfl (enters_of Tryz.func88 (by kernel_rfl) rfl)
         HHD.out (fun h k => h.trans k) ?ka ?kb (fun _ => rfl) (fun s U => Pr w0 w U b mb cb xb (some ad) S Wl T3 ab g (.slice A n c) #[.string x.1, .string x.2] bb n w12.heap.size dl s) ?hI ST.out _ ?assign ?body ?done
        case ka =>
         intro o1 o2 _ _
         have t := f_two_heap w12 o1 o2
         exact ⟨(Below.refl _ _).grown t.2.2.2.2 (by omega) (fun r e => by cases e), t.2.2.2.1 _ (by omega), t.2.2.2.1 _ (by omega)⟩
        case kb =>
         intro W l o o2 hl ho _
         have hlt := (Array.getElem?_eq_some_iff.1 ho).1
         exact ⟨(Below.refl _ _).grown (grownBy_putObj' W l o2) (by omega) (fun r e => by cases e; omega), f_putObj_other _ _ _ _ (by omega), f_putObj_other _ _ _ _ (by omega)⟩
        case hI =>
         intro s W W2 row h hg hr
         exact h.grown hg hr hsw HCS2.out
        case assign =>
         intro l s W K hK
         gi_wp2
         exact hK
        case body =>
         intro l s U hi hmr
         have hlt2 : s < n := of_decide_eq_true hmr
         have c0 := cell_of_row _ _ 0 _ _ _ hi.po.box; have c1 := cell_of_row _ _ 0 _ _ _ hi.ah
         simp only [List.getElem?_toArray, List.getElem?_cons_zero] at c0 c1
         have hle := Ix.last_le bb s
         have hv1 : IntKind.i64.wrap ((s : Int) - ((Ix.last bb s : Nat) : Int)) = (s : Int) - ((Ix.last bb s : Nat) : Int) := by rw [IntKind.wrap_i64]; omega
         have hv2 : IntKind.u64.wrap ((s : Int) - ((Ix.last bb s : Nat) : Int)) = (s : Int) - ((Ix.last bb s : Nat) : Int) := u64w (by omega)
         have hsi := hi.size
         have hdz := Ix.diffs_size (Ma.sel bb s) 0
         have hsl2 := Ma.sel_length bb s
         have hb6 : Below U.heap.size U (U.alloc (.cells #[.int .u64 ((s : Int) - ((Ix.last bb s : Nat) : Int))] 103)) := (Below.refl _ _).alloc (Nat.le_refl _) _
         have hoc := one_cells (s - Ix.last bb s)
         have hcast : ((s - Ix.last bb s : Nat) : Int) = (s : Int) - ((Ix.last bb s : Nat) : Int) := by omega
         rw [hcast] at hoc
         have hsm := built_any w0.heap.size b mb (T3 ++ Ix.diffsB 0 (Ma.sel bb s)) [s - Ix.last bb s] _ U.heap.size 1 1 (U.alloc (.cells #[.int .u64 ((s : Int) - ((Ix.last bb s : Nat) : Int))] 103)) (hi.po.wr.later hb6) (by rw [ByteArray.size_append]; omega) rfl (by simp) (fun n hn => by rw [List.mem_singleton.1 hn]; omega) (by have := hb6.size; omega) (heap_alloc_new U _) hoc
         rw [smalls_one] at hsm
         have HSMM := Lib.hid hsm; have HI := Lib.hid hi
         have hw6 : Wrote w0.heap.size U (U.alloc (.cells #[.int .u64 ((s : Int) - ((Ix.last bb s : Nat) : Int))] 103)) := Wrote.below hb6 (by omega)
         have HW6 := Lib.hid hw6
         clear hsm hi hb6 hoc hmr hcast hw6
         gi_wp2_with fail
         have hcc : CallsIn (Fence.wide.inRound l) 0 _ _ _ _ _ := (callsIn_wide (n := 0)).2 HSMM.out
         refine ⟨trivial, hcc.mono ?_⟩
         rintro e w7 ⟨rfl, hw7, hr7⟩
         have hr67 := HW6.out.trans hr7
         have ha7 := hr67.block HI.out.ah (by decide)
         have y7 := cell_of_row _ _ 0 _ _ _ ha7; have f7 := frozen_of_row _ _ 0 _ _ ha7
         simp only [List.getElem?_toArray, List.getElem?_cons_zero] at y7
         have HEND := Lib.hid (HI.out.more hsab hlt2 hr67 hw7)
         clear hw7 hr7 hr67 ha7 hcc c0 c1 hv1 hv2
         gi_wp2_with fail
         exact HEND.out
        case done =>
         intro D s U hD hmr hi hK
         have hge : n ≤ s := Nat.le_of_not_lt (of_decide_eq_false hmr)
         obtain rfl : s = n := by have := hi.le; omega
         have hpo := hi.po
         have hmk := hi.mks.more hD (by omega) hK
         have HPO3 := Lib.hid hpo; have HMK3 := Lib.hid hmk
         clear hpo hmk hi hK hmr ST HHD
         go_wp2_with fail
         refine ⟨⟨_, _, _, _, _, _, _, _, _, _, _, _, _, _, _, _, _, _, _, _, _, _, _, _, _, _, _, _, _, _, _, _, _, _, _, _, _, _, _, _, _, _, _, _, _, _, _, _, _, _, _, _, _, _, _, _, _, _, _, _, _, _, _, _, _, m + 1, _, ⟨by omega, ?_, HMK3.out⟩, rfl⟩, ?_⟩
         · rw [HTK.out, HPB.out, ← ByteArray.append_assoc, ← HT2.out, HPE.out, ← ByteArray.append_assoc, HT3.out]
           exact HPO3.out
         · simp [intOf]; omega
      · obtain rfl : m = S.length := by omega
        have dd2 : decide ((S.length : Int) < (S.length : Int)) = false := decide_eq_false (by omega)
        have hwr := HPO2.out.wr
        rw [List.take_length] at hwr
        have HWR := Lib.hid hwr
        go_wp2_with fail
        refine HMK.out.leaves (fun w' hs => ?_)
        refine ⟨.tuple #[], by simp [results, Tryz.results69, go_sem], rfl, ?_, HPO2.out.bel.trans hs.bel⟩
        have hr := HWR.out.shuts hs
        rw [← HLA.out, ← HLE.out]
        exact hr
end Go.Proofs.YtliobahnekohmaaGreat
