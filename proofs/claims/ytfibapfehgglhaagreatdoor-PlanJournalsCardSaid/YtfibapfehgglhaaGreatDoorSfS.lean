import Derived.Test.YtfibapfehgglhaaGreatDoorFrH
import Derived.Test.YtfibapfehgglhaaGreatDoorSfP
import Derived.Sort.MapsRangeIn
import Derived.Sort.KeysCollected
/-
  A loop over a function that no round leaves early, where the function hands to a round whatever it likes of what is left (a map, in whatever order): its rule, over any program.
-/
namespace Go.Proofs.YtfibapfehgglhaaGreatDoor
open Go.RowKit

/-- a function that hands on something of what its state leaves, from the state s on, till it is done: for every body that keeps Kp and never leaves -/
def HandsC {σ ι : Type} (P : Program) (g : Nat) (lb : Array Value) (encs : ι → Array Value) (hand : σ → ι → Prop) (fin : σ → Prop) (next : σ → ι → σ) (Kp : World → World → Prop) (s : σ) (w : World) : Prop :=
  ∀ (l : Nat) (J : σ → World → Prop) (W : World), Kp w W → w.heap.size ≤ W.heap.size → (∀ s A B row, J s A → A.grownBy B row → (∀ r, row = some r → W.heap.size ≤ r ∧ ∃ o : Obj, A.heap[r]? = some o ∧ o.isCells = false) → J s B) →
    (∀ s x W1, J s W1 → hand s x → YieldAt Fence.wide 1 P l (encs x) W1 fun e W2 => e = .returned (.bool true) ∧ J (next s x) W2 ∧ Kp W1 W2) →
    J s W → CallsIn Fence.wide 2 P g (#[.func (.yield l) #[] #[]] ++ lb) W fun e W2 => (∃ v, e = .returned v) ∧ ∃ s, fin s ∧ J s W2
variable {P : Program}
theorem rangeC {σ ι : Type} {g : Operand} {ps : Array Tmp} {assign body : Code} {Q : Exit → Act → World → Prop} {a : Act} {w : World} {gf : Nat} {lb : Array Value}
    (hg : a.eval g = .func (.func gf) #[] lb) (eg : ∀ args w, (callFunc gf args).run P w = .ok (.enter gf args) w)
    {encs : ι → Array Value} {hand : σ → ι → Prop} {fin : σ → Prop} {next : σ → ι → σ} {Kp : World → World → Prop} {s0 : σ} (hseq : HandsC P gf lb encs hand fin next Kp s0 w)
    (hKt : ∀ {A B C : World}, Kp A B → Kp B C → Kp A C) (hKa : ∀ (o1 o2 : Obj), o1.isCells = false → o2.isCells = false → Kp w ((w.alloc o1).alloc o2))
    (hKb : ∀ (W : World) (l : Nat) (o o2 : Obj), w.heap.size ≤ l → W.heap[l]? = some o → o.isCells = false → o.isWalk = false → Kp W (W.putObj l o2)) (hps : ∀ x, (encs x).size = ps.size)
    (I : σ → World → Prop) (hI : OwnFrom w.heap.size I) (h0 : I s0 w) (a1 : ι → Act)
    (hassign : ∀ (l : Nat) (x : ι) (W : World) (K : Act → World → Prop), K (a1 x) W →
      assign.wpIn (Fence.wide.inRound l) 1 P (Exit.then K (fun _ _ _ => False)) { tmps := (ps.zip (encs x)).foldl (fun t (p, v) => t.setIfInBounds p v) a.tmps, defers := [] } W)
    (hbody : ∀ (l : Nat) (s : σ) (x : ι) (W : World), I s W → hand s x → body.wpIn (Fence.wide.inRound l) 1 P (RoundLeft w.heap.size Kp (I (next s x)) (fun _ _ => False) W) (a1 x) W)
    (hdone : ∀ (D : Nat) (s : σ) (W : World), w.heap.size ≤ D → fin s → I s W → W.heap[D]? = some (.deferred (some [])) → Q .normal { a with defers := { target := .collected D, args := #[] } :: a.defers } W) :
    (Code.rangeFunc g ps assign body).wpIn Fence.wide 3 P Q a w := by
  refine wpIn_rangeFunc fun fn hfn => ?_
  -- the loop's record, in a state
  generalize hR : (fun (st : LoopState) (pe : Option Code) => Obj.loop { state := st, pending := pe, fn, tmps := a.tmps, params := ps, assign, body, defers := w.heap.size }) = R
  have eR : ∀ st pe, R st pe = Obj.loop { state := st, pending := pe, fn, tmps := a.tmps, params := ps, assign, body, defers := w.heap.size } := fun st pe => by rw [← hR]
  have nR : ∀ st pe, (R st pe).isCells = false := fun st pe => by rw [eR]; rfl
  have nW : ∀ st pe, (R st pe).isWalk = false := fun st pe => by rw [eR]; rfl
  generalize hL : w.heap.size + 1 = L
  -- what holds of the two blocks of the loop's own
  let Two : Obj → World → Prop := fun r W => W.heap[L]? = some r ∧ W.heap[w.heap.size]? = some (.deferred (some []))
  have two_kept : ∀ {r : Obj} {A B : World}, Two r A → A.grownBy B none → Two r B := fun h hg =>
    ⟨(hg.block L (Array.getElem?_eq_some_iff.1 h.1).1 (by simp)).trans h.1, (hg.block _ (Array.getElem?_eq_some_iff.1 h.2).1 (by simp)).trans h.2⟩
  have two_row : ∀ {r : Obj} {A B : World} {row : Option Nat}, Two r A → A.grownBy B row → (∀ j, row = some j → L < j) → Two r B := fun h hg hj =>
    ⟨(hg.block L (Array.getElem?_eq_some_iff.1 h.1).1 (fun e => by have := hj L e.symm; omega)).trans h.1, (hg.block _ (Array.getElem?_eq_some_iff.1 h.2).1 (fun e => by have := hj _ e.symm; omega)).trans h.2⟩
  have two_put : ∀ {r : Obj} (r2 : Obj) {A : World}, Two r A → Two r2 (A.putObj L r2) := fun r2 A h =>
    ⟨World.putObj_heap_same (Array.getElem?_eq_some_iff.1 h.1).1, (World.putObj_heap_other (by omega)).trans h.2⟩
  have two_from : ∀ {st : LoopState} {pe : Option Code} {A B : World}, Two (R st pe) A → KeepsFrom w.heap.size A B → Two (R st pe) B := fun h hk =>
    ⟨hk.same _ _ (by omega) h.1 (nR _ _), hk.same _ _ (Nat.le_refl _) h.2 rfl⟩
  have put_ok : ∀ {β : Type} {T : β → World → Prop} {s : β} {st : LoopState} {pe : Option Code} {A : World} (r2 : Obj), OwnFrom w.heap.size T → T s A → Two (R st pe) A → T s (A.putObj L r2) := fun {β T s st pe A} r2 hT hs h =>
    hT s A _ (some L) hs (grownBy_putObj' A L r2) (fun r e => by cases e; exact ⟨by omega, _, h.1, nR st pe⟩)
  have none_ok : ∀ {β : Type} {T : β → World → Prop} {s : β} {A B : World}, OwnFrom w.heap.size T → T s A → A.grownBy B none → T s B := fun hT hs hg => hT _ _ _ none hs hg (fun r e => by cases e)
  have start : Two (R .ready none) ((w.alloc (.deferred (some []))).alloc (R .ready none)) := by
    constructor
    · have := World.alloc_heap_new (w.alloc (.deferred (some []))) (R .ready none)
      rwa [World.size_alloc, hL] at this
    · exact (Below.heap_alloc _ _ _ (by simp)).trans (World.alloc_heap_new w _)
  have kstart : Kp w ((w.alloc (.deferred (some []))).alloc (R .ready none)) := hKa _ _ rfl (nR _ _)
  have istart : I s0 ((w.alloc (.deferred (some []))).alloc (R .ready none)) :=
    none_ok hI (none_ok hI h0 (World.grownBy_alloc w _ none)) (World.grownBy_alloc _ _ none)
  have zstart : w.heap.size ≤ ((w.alloc (.deferred (some []))).alloc (R .ready none)).heap.size := by simp; omega
  have zL : L < ((w.alloc (.deferred (some []))).alloc (R .ready none)).heap.size := (Array.getElem?_eq_some_iff.1 start.1).1
  refine ⟨L, [{ target := .collected w.heap.size, args := #[] }], (w.alloc (.deferred (some []))).alloc (R .ready none), { target := .fn (.func gf) lb, args := #[.func (.yield L) #[] #[]] }, _, gf, #[.func (.yield L) #[] #[]] ++ lb, _,
    by rw [eR, ← hL]; exact run_enterLoop_outer _ _ _ _ _, by simp only [resolve, hg]; simp [go_sem]; rfl, (fun _ _ => trivial), by simp [invoke, go_sem, eg]; rfl, (fun h => (by cases h)), ?_⟩
  generalize (w.alloc (.deferred (some []))).alloc (R .ready none) = W0 at *
  refine (hseq L (fun s W => I s W ∧ Two (R .ready none) W) W0 kstart zstart
    (fun s A B row h hg2 hr => ⟨hI _ _ _ row h.1 hg2 (fun r e => ⟨Nat.le_trans zstart (hr r e).1, (hr r e).2⟩), two_row h.2 hg2 (fun r e => Nat.lt_of_lt_of_le zL (hr r e).1)⟩) ?_ ⟨istart, start⟩).mono ?_
  · -- a round
    rintro s x W ⟨hi, h2⟩ hm
    have hy := run_yield (P := P) (args := encs x) (h2.1.trans (by rw [eR])) (hps x)
    refine ⟨fn, _, assign, body, hy, roundIn_of_wpIn hfn (hassign L x W _ ⟨_, run_beginRound (h2.1.trans (by rw [eR])) rfl, ?_⟩)⟩
    have e1 : (Obj.loop { ({ state := .ready, pending := none, fn, tmps := a.tmps, params := ps, assign, body, defers := w.heap.size } : Loop) with state := .busy }) = R .busy none := by rw [eR]
    rw [e1]
    have hb2 : Two (R .busy none) (W.putObj L (R .busy none)) := two_put _ h2
    have kb : Kp W (W.putObj L (R .busy none)) := hKb _ _ _ _ (by omega) h2.1 (nR _ _) (nW _ _)
    refine wpIn_mono (hbody L s x _ (put_ok _ hI hi h2) hm) ?_
    have fin2 : ∀ (jump : Option Code) (W3 : World), KeepsFrom w.heap.size (W.putObj L (R .busy none)) W3 →
        (Instr.endRound L jump).run P W3 = .ok (.bool jump.isNone) (W3.putObj L (R (if jump.isNone then .ready else .done) jump)) ∧ Two (R .busy none) W3 := fun jump W3 hk => by
      have h3 := two_from hb2 hk
      have := run_endRound (P := P) jump (h3.1.trans (by rw [eR]))
      exact ⟨by rw [this, eR], h3⟩
    rintro e a3 W3 hp
    cases e with
    | normal =>
      obtain ⟨hk, hkp, hi3⟩ := hp
      obtain ⟨hr, h3⟩ := fin2 none W3 hk
      exact ⟨_, _, hr, ⟨rfl, ⟨put_ok _ hI hi3 h3, two_put _ h3⟩, hKt (hKt kb hkp) (hKb _ _ _ _ (by omega) h3.1 (nR _ _) (nW _ _))⟩⟩
    | ret => exact hp.2.elim
    | exit id => exact hp.2.elim
    | goto t => exact hp.2.elim
    | panic ch => exact hp.elim
    | outgrown => exact hp.elim
  · rintro e W2 ⟨⟨v, rfl⟩, s, hm, hi, h2⟩
    have := run_endLoop (P := P) (h2.1.trans (by rw [eR])) (by simp)
    refine ⟨_, _, this, ?_⟩
    exact hdone _ s _ (Nat.le_refl _) hm (put_ok _ hI hi h2) ((World.putObj_heap_other (by omega)).trans h2.2)
end Go.Proofs.YtfibapfehgglhaaGreatDoor
/-
  Size: what maps.Values hands on.
-/
namespace Go.Proofs.YtfibapfehgglhaaGreatDoor
open Go.RowKit Go.Maps
attribute [local go_sem] Oper.semAt_some
def bs (k : List UInt8) : ByteArray := ⟨k.toArray⟩
theorem key_bs (k : List UInt8) : Sf.key (bs k) = .string k := rfl
def valEnc (d : Sf.D) (k : List UInt8) : Array Value := #[ptrV (Sf.look d (bs k))]
def VKeep (bb : Nat) (A B : World) : Prop := KeepsWalks A B ∧ B.heap[bb]? = A.heap[bb]?
theorem names_walks {w w2 : World} {b n : Nat} {d : Sf.D} (h : w.ownsMap Tryz.prog 9 ptrE b n d) (hk : KeepsWalks w w2) : w2.ownsMap Tryz.prog 9 ptrE b n d := by
  obtain ⟨es, clock, hb, F, hs, hD⟩ := h
  exact ⟨es, clock, hk.same b _ hb rfl, F, hs, hD⟩
theorem values_any (b : Nat) (w : World) :
    Calls Tryz.prog 141 #[.map (some b)] w fun e w' => e = .returned (.func (.func 193) #[] #[.pointer (some ⟨w.heap.size, 0, none⟩)]) ∧ w' = w.alloc (.cells #[.map (some b)] 48) := by
  have hmf := run_make_func
  go_enter Tryz.func141, Tryz.ntmps141
  go_wp2_with fail
  go_ret
  exact ⟨rfl, rfl⟩
set_option maxRecDepth 100000 in
set_option maxHeartbeats 1000000 in
theorem values_hands {w : World} (bb b : Nat) (d : Sf.D) (hf : Sf.Files d) (hown0 : NamesAt w b d) (hbb : w.heap[bb]? = some (.cells #[.map (some b)] 48 (0, 0))) :
    HandsC Tryz.prog 193 #[.pointer (some ⟨bb, 0, none⟩)] (valEnc d) (fun ss k => ss.length < Go.Maps.size d ∧ has d (.string k) = true) (fun ss => ss.Perm (strKeys d)) (fun ss k => ss ++ [k]) (VKeep bb) [] w := by
  intro l J W hW hsz hJ hY h0
  have hown := names_walks (NamesAt.exact hown0) hW.1
  have c0 : W.cell? ⟨bb, 0, none⟩ = some (.map (some b)) := cell_of_row _ _ _ _ _ _ (hW.2.trans hbb)
  clear hown0 hW hsz hbb
  refine callsIn_of_wp Tryz.func193 rfl trivial ?_ rfl
  simp only [Tryz.ntmps193, List.size_toArray, List.length_cons, List.length_nil, Nat.reduceAdd, Nat.reduceSub, Array.replicate_succ, Array.replicate_zero, List.push_toArray, List.append_toArray, List.nil_append, List.cons_append]
  gi_wp2_with (first
    | (gi_at_range; refine wpListIn_range_own _ rfl _ 48 rfl 9 79 law Tryz.underlying48 _ b _ _ rfl hown ?_; intro w0 hrg0 hg0 hs0)
    | gi_in)

  gi_loopw [4] (fun _ wr => ∃ (left : Lit → Bool) (cnt : Nat) (ss : List (List UInt8)), wr.ranges Tryz.prog 9 ptrE b W.heap.size (Go.Maps.size d) d left cnt ∧ ss.length + cnt ≤ Go.Maps.size d ∧ Collected d left ss ∧ J ss wr)
    (fun _ wr => wr.rangeLeft b W.heap.size)
  case atStart =>
    exact ⟨_, _, [], hrg0, by simp, Collected.start d, hJ [] W w0 none h0 hg0 (fun r e => by cases e)⟩
  case round =>
    obtain ⟨left, cnt, ss, hrg, hcs, hC, hJs⟩ := hrel
    gi_wp2_with (first
      | (gi_at_next; refine wpListIn_next_ranges _ rfl _ rfl 9 law ptrE Value.string ptrV (fun key kl hk => by obtain ⟨s, e, -⟩ := str_inv hk; exact ⟨s, e⟩) (fun v y hv => ptrV_inv hv) b W.heap.size _ _ _ _ rfl hrg ?_ ?_)
      | gi_in)
    · intro hc0 hl0
      gi_wp2
      go_end0
      exact ⟨⟨_, rfl⟩, _, hC.perm hown law Tryz.underlying9 hl0, hJs⟩
    · intro x c kl yd yp w2 cnt2 hkey hlk hv hat hrg2 hlt hg2 hs2 hen
      obtain ⟨s, ex, rfl, -⟩ := str_inv hkey
      obtain ⟨h, hh⟩ : ∃ h, c = some h ∧ Sf.look d s = some h := by
        have hhas : has d (Sf.key s) = true := has_true_of_atKey hat
        obtain ⟨y, h1, h2⟩ := Sf.look_has hf hhas
        have hyd : yd = Sf.hd y := (hat (Sf.hd 0)).symm.trans (h2 _)
        rcases ptrE_inv hv with ⟨z, e1, e2⟩ | ⟨e1, e2⟩
        · have e3 : yd = Sf.hd z := congrArg Prod.fst e2
          have e4 : z = y := by
            have := Sf.hOf_hd z
            rw [← e3, hyd, Sf.hOf_hd] at this
            exact (Option.some.inj this).symm
          subst e4
          refine ⟨z, ?_, h1⟩
          cases c with
          | none => cases e1
          | some q => simp only [ptrV, Option.map_some] at e1; cases e1; rfl
        · have e3 : yd = Sf.nilD := congrArg Prod.fst e2
          rw [hyd] at e3
          cases e3
      obtain ⟨rfl, hlook⟩ := hh
      have hJ2 : J ss w2 := hJ _ wr w2 (some W.heap.size) hJs hg2 (fun r e => by
        cases e
        obtain ⟨o, ho, hw⟩ := hrg.iter_walk
        exact ⟨Nat.le_refl _, o, ho, Obj.not_cells_of_walk hw⟩)
      obtain ⟨fn, tmps, assign, body, hy, hR⟩ := hY ss s.data.toList w2 hJ2 ⟨by omega, has_true_of_atKey hat⟩
      have e5 : valEnc d s.data.toList = #[ptrV (some h)] := by
        show #[ptrV (Sf.look d s)] = _
        rw [hlook]
      rw [e5] at hy
      have HC2 : Hid (Collected d (fun z => left z && !z.sameKey (.string s.data.toList)) (ss ++ [s.data.toList])) := Lib.hid (hC.step hlk hat)
      clear hs2
      gi_wp2
      refine hR.mono ?_
      rintro e W3 ⟨rfl, hJ3, hk3⟩
      gi_wp2
      have hrg3 := hrg2.of_walks hk3.1
      go_roundw
      case rel => exact ⟨_, cnt2, _, hrg3, by simp; omega, HC2.out, hJ3⟩
      case measure => rw [hrg3.left_eq, hrg.left_eq]; exact hlt
end Go.Proofs.YtfibapfehgglhaaGreatDoor
/-
  Size.
-/
namespace Go.Proofs.YtfibapfehgglhaaGreatDoor
open Go.RowKit Go.Maps
attribute [local go_sem] Oper.semAt_some
namespace Sf
def szOf (S : St) (d : D) (k : List UInt8) : Nat := match look d (bs k) with
  | some x => (S.F x).bytes.size
  | none => 0
def tot (S : St) (d : D) (ss : List (List UInt8)) : Nat := (ss.map (szOf S d)).sum
/-- how many bytes there are -/
def St.total (S : St) : Nat := tot S S.names (strKeys S.names)
theorem tot_snoc (S : St) (d : D) (ss : List (List UInt8)) (k : List UInt8) : tot S d (ss ++ [k]) = tot S d ss + szOf S d k := by
  unfold tot
  rw [List.map_append, List.sum_append]
  simp
theorem tot_le {S : St} {d : D} {B : Nat} (h : ∀ k, szOf S d k ≤ B) : ∀ ss : List (List UInt8), tot S d ss ≤ ss.length * B
  | [] => by simp [tot]
  | k :: ss => by
    have h1 := tot_le h ss
    have h2 := h k
    have e : tot S d (k :: ss) = szOf S d k + tot S d ss := by unfold tot; simp
    rw [e, List.length_cons, Nat.succ_mul]
    omega
theorem tot_perm {S : St} {d : D} {s t : List (List UInt8)} (h : s.Perm t) : tot S d s = tot S d t := (h.map _).sum_nat
theorem StOk.szOf {B N : Nat} {S : St} (h : StOk B N S) (k : List UInt8) : szOf S S.names k ≤ B := by
  unfold Sf.szOf
  split
  · rename_i x hx
    exact (h.file x (h.lives hx)).size
  · exact Nat.zero_le _
theorem length_strKeys (d : D) : (strKeys d).length = Go.Maps.size d := by
  cases d <;> simp [strKeys, Go.Maps.size]
theorem StOk.total {B N : Nat} {S : St} (h : StOk B N S) : S.total ≤ 64 * B := by
  have h1 := tot_le (S := S) (d := S.names) (B := B) h.szOf (strKeys S.names)
  rw [length_strKeys] at h1
  exact Nat.le_trans h1 (Nat.mul_le_mul_right _ h.nice.few)
end Sf
/-- the sum under way -/
structure Summing (w : World) (S : Sf.St) (ss : List (List UInt8)) (W : World) : Prop where
  sum : W.heap[w.heap.size]? = some (.cells #[.int .i64 ((Sf.tot S S.names ss : Nat) : Int)] 3 (0, 0))
  bel : Below w.heap.size w W
  sz : w.heap.size + 2 ≤ W.heap.size
theorem Summing.kept {w : World} {S : Sf.St} {ss : List (List UInt8)} {W W2 : World} {row : Option Nat} (h : Summing w S ss W) (hg : W.grownBy W2 row) (hr : ∀ r, row = some r → w.heap.size + 2 ≤ r) : Summing w S ss W2 :=
  ⟨(hg.block _ (by have := h.sz; omega) (fun e => by have := hr _ e.symm; omega)).trans h.sum, h.bel.grown hg h.bel.size (fun r e => by have := hr r e; omega), Nat.le_trans h.sz hg.size⟩
theorem summing_end {w W : World} {S : Sf.St} {ss : List (List UInt8)} {k : List UInt8} {v : Int} (h : Summing w S ss W) (hv : v = ((Sf.tot S S.names (ss ++ [k]) : Nat) : Int)) :
    KeepsFrom (w.heap.size + 2) W (W.setCell ⟨w.heap.size, 0, none⟩ (.int .i64 v)).drew ∧ VKeep (w.heap.size + 1) W (W.setCell ⟨w.heap.size, 0, none⟩ (.int .i64 v)).drew ∧ Summing w S (ss ++ [k]) (W.setCell ⟨w.heap.size, 0, none⟩ (.int .i64 v)).drew := by
  have ho := (KeepsOthers.setCell W ⟨w.heap.size, 0, none⟩ (.int .i64 v)).trans (KeepsOthers.drew _)
  have hg := grown_drew (grown_setCell W w.heap.size 0 (.int .i64 v))
  refine ⟨ho.from _, ⟨ho.walks, hg.block (w.heap.size + 1) (by have := h.sz; omega) (fun e => by have := Option.some.inj e; omega)⟩, ⟨?_, h.bel.grown hg h.bel.size (fun r e => by cases e; exact Nat.le_refl _), Nat.le_trans h.sz hg.size⟩⟩
  rw [hv]
  exact heap_setCell_same _ _ 0 _ _ _ h.sum
set_option maxRecDepth 100000 in
set_option maxHeartbeats 1000000 in
theorem Size_any {w : World} {base fb B N : Nat} {S : Sf.St} (h : FsAt w base fb S) (hok : Sf.StOk B N S) (hB : B ≤ 1000000000) :
    Calls Tryz.prog 95 #[.pointer (some ⟨fb, 0, none⟩)] w fun e w' => e = .returned (.int .i64 ((S.total : Nat) : Int)) ∧ Below w.heap.size w w' := by
  obtain ⟨mb, sb, cv, cvs, h⟩ := h
  have c0 : w.cell? ⟨fb, 0, none⟩ = some (.map (some mb)) := cell_of_row _ _ _ _ _ _ h.blk
  have c7 : (w.alloc (.cells #[.int .i64 0] 3)).cell? ⟨fb, 0, none⟩ = some (.map (some mb)) := (World.cell?_alloc_lt w _ _ (by show fb < _; exact (Array.getElem?_eq_some_iff.1 h.blk).1)).trans c0
  have H := Lib.hid h; have HOK := Lib.hid hok
  clear h hok
  refine (callsIn_wide (n := 3)).1 ?_
  refine callsIn_of_wp_marks Tryz.func95 rfl trivial ?_ rfl
  simp only [Tryz.ntmps95, List.size_toArray, List.length_cons, List.length_nil, Nat.reduceAdd, Nat.reduceSub, Array.replicate_succ, Array.replicate_zero, List.push_toArray, List.append_toArray, List.nil_append, List.cons_append]
  refine wpIn_wide.2 ?_
  go_wp2_with fail
  obtain ⟨w1, hw1⟩ : ∃ w1, w1 = w.alloc (.cells #[.int .i64 0] 3) := ⟨_, rfl⟩
  rw [← hw1]
  have hb1 : Below w.heap.size w w1 := by rw [hw1]; exact (Below.refl _ _).alloc (Nat.le_refl _) _
  have hs1 : w1.heap[w.heap.size]? = some (.cells #[.int .i64 0] 3 (0, 0)) := by rw [hw1]; exact heap_alloc_new w _
  have hz1 : w1.heap.size = w.heap.size + 1 := by rw [hw1]; simp
  refine (values_any mb _).mono ?_; rintro e w2 ⟨rfl, hw2⟩
  have hb2 : Below w1.heap.size w1 w2 := by rw [hw2]; exact (Below.refl _ _).alloc (Nat.le_refl _) _
  have hv2 : w2.heap[w.heap.size + 1]? = some (.cells #[.map (some mb)] 48 (0, 0)) := by rw [hw2, ← hz1]; exact heap_alloc_new w1 _
  have hz2 : w2.heap.size = w.heap.size + 2 := by rw [hw2]; simp [hz1]
  have hst : Summing w S [] w2 := ⟨heap_keep hs1 hb2, below_step hb1 hb2, by omega⟩
  have ST := Lib.hid hst; have HB2 := Lib.hid (below_step hb1 hb2)
  rw [hz1]
  clear hw1 hw2 hb1 hb2 hs1 hz1 hst c0 c7
  go_wp2_with fail
  refine (wpIn_wide (n := 3)).1 ?_
  refine' rangeC (gf := 193) (lb := #[.pointer (some ⟨w.heap.size + 1, 0, none⟩)]) rfl (enters_of Tryz.func193 (by kernel_rfl) rfl)
    (values_hands (w.heap.size + 1) mb S.names HOK.out.nice.files (H.out.far HB2.out).nam hv2) (fun h k => ⟨h.1.trans k.1, k.2.trans h.2⟩) ?ka ?kb (fun _ => rfl) (Summing w S) ?hI ST.out _ ?assign ?body ?done
  case ka =>
    intro o1 o2 _ _
    have t := fun k (hk : k < w2.heap.size) => (Below.heap_alloc (w2.alloc o1) o2 k (by simp; omega)).trans (Below.heap_alloc w2 o1 k hk)
    exact ⟨(KeepsWalks.alloc _ _).trans (KeepsWalks.alloc _ _), t _ (by omega)⟩
  case kb =>
    intro W l o o2 hl ho _ hwk
    exact ⟨KeepsWalks.putObj _ ho hwk, World.putObj_heap_other (by omega)⟩
  case hI =>
    intro s W W2 row h hg hr
    exact h.kept hg (fun r e => by have := (hr r e).1; omega)
  case assign =>
    intro l x W K hK
    gi_wp2
    exact hK
  case body =>
    intro l ss k W hi hmr
    obtain ⟨x, hx, -⟩ := Sf.look_has HOK.out.nice.files (s := bs k) hmr.2
    have hfil := (H.out.far HB2.out).fil x (HOK.out.lives hx)
    have c1 : W.cell? ⟨w.heap.size, 0, none⟩ = some (.int .i64 ((Sf.tot S S.names ss : Nat) : Int)) := cell_of_row _ _ _ _ _ _ hi.sum
    have c2 : W.cell? ⟨x, 0, none⟩ = some (.string (S.F x).bytes) := cell_of_row _ _ _ _ _ _ (heap_keep (H.out.fil x (HOK.out.lives hx)).blk hi.bel)
    have f1 : W.frozen? ⟨w.heap.size, 0, none⟩ = false := frozen_of_row _ _ _ _ _ hi.sum
    have hsz : Sf.szOf S S.names k = (S.F x).bytes.size := by unfold Sf.szOf; rw [hx]
    have ht := Sf.tot_snoc S S.names ss k
    have hle := Sf.tot_le HOK.out.szOf (ss ++ [k])
    have hln : (ss ++ [k]).length ≤ 64 := by
      have := HOK.out.nice.few
      have := hmr.1
      simp
      omega
    have hle2 : Sf.tot S S.names (ss ++ [k]) ≤ 64 * 1000000000 := Nat.le_trans hle (Nat.mul_le_mul hln hB)
    have HFIN := Lib.hid (fun (v : Int) => summing_end (k := k) (v := v) hi)
    rw [hsz] at ht
    generalize hT2 : Sf.tot S S.names (ss ++ [k]) = T2 at *
    generalize hT1 : Sf.tot S S.names ss = T1 at *
    generalize hZ : (S.F x).bytes.size = Z at *
    have hwr : IntKind.i64.wrap ((T1 : Int) + (Z : Int)) = ((T2 : Nat) : Int) := by rw [ht, Int.natCast_add]; exact IntWalk.i64_in _ (by omega)
    simp only [valEnc, hx, ptrV, Option.map_some]
    clear hi hmr hfil hle hln hsz ht hT2 hT1 hx hv2 ST
    gi_upto_region 4 with fail
    refine round_still_tail 7 (by kernel_rfl) (by kernel_rfl) (by kernel_rfl) ?_
    simp only [List.take_succ_cons, List.take_zero, List.drop_succ_cons, List.drop_zero]
    repeat still_step
    refine wpStill_nil ?_
    go_wp2_with fail
    refine only_mk ?_
    have hf := HFIN.out _ rfl
    rw [← hz2] at hf
    exact hf
  case done =>
    intro D ss W hD hp hi hK
    have e1 : Sf.tot S S.names ss = S.total := Sf.tot_perm hp
    have hs := hi.sum
    rw [e1] at hs
    have c1 : W.cell? ⟨w.heap.size, 0, none⟩ = some (.int .i64 ((S.total : Nat) : Int)) := cell_of_row _ _ _ _ _ _ hs
    have HI := Lib.hid hi; have HK := Lib.hid hK
    clear hi hK hp ST hs hv2
    go_wp2_with fail
    refine ⟨by simp, .inl ⟨_, _, rfl, run_takeDeferred HK.out, ?_⟩⟩
    have hk := HI.out.kept (grownBy_putObj' W D (.deferred none)) (fun r e => by cases e; omega)
    exact ⟨_, by simp [results, Tryz.results95, go_sem], rfl, hk.bel⟩
end Go.Proofs.YtfibapfehgglhaaGreatDoor
