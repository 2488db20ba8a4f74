import Derived.RangeFuncNested
import Derived.RangeFuncCalls
import Derived.RangeFuncLeaves
import Derived.Test.YtfibapfehgglhaaGreatDoorFrN
import Derived.RangeFuncBound
import Derived.Shelf.Abstract
import Derived.Shelf.RegionOpen
import Derived.OwnWalkIn
import Derived.TacticsInMore
import Derived.LoopNIn
import Derived.LoopIn
import Derived.Test.YtfibapfehgglhaaGreatDoorNumO
import Derived.Test.YtfibapfehgglhaaGreatDoorFrM
import Derived.Deep.DeepMust
/-
  A loop over a function, where what the function hands to a round is told by how far it has come: its rule, over any program.
-/
namespace Go.Proofs.YtfibapfehgglhaaGreatDoor
open Go.RowKit

/-- how the body of a round may be left -/
def RoundLeft (B : Nat) (Kp : World → World → Prop) (I : World → Prop) (X : Code → World → Prop) (W : World) : Exit → Act → World → Prop
  | .normal, _, W2 => KeepsFrom B W W2 ∧ Kp W W2 ∧ I W2
  | .ret, _, W2 => KeepsFrom B W W2 ∧ X .ret W2
  | .exit id, _, W2 => KeepsFrom B W W2 ∧ X (.exit id) W2
  | .goto t, _, W2 => KeepsFrom B W W2 ∧ X (.goto t) W2
  | .panic _, _, _ => False
  | .outgrown, _, _ => False

/-- a function that hands on what its state tells, from the state s on, while there is more: for every body that keeps Kp -/
def Iterates {σ : Type} (P : Program) (g : Nat) (lb : Array Value) (encs : σ → Array Value) (more : σ → Bool) (next : σ → σ) (Kp : World → World → Prop) (s : σ) (w : World) : Prop :=
  ∀ (l : Nat) (J X : σ → World → Prop) (W : World), Kp w W → w.heap.size ≤ W.heap.size → (∀ s A B, J s A → A.grownBy B none → J s B) →
    (∀ s W1, J s W1 → more s = true → YieldAt Fence.wide 1 P l (encs s) W1 fun e W2 => (e = .returned (.bool true) ∧ J (next s) W2 ∧ Kp W1 W2) ∨ (e = .returned (.bool false) ∧ X s W2)) →
    J s W → CallsIn Fence.wide 2 P g (#[.func (.yield l) #[] #[]] ++ lb) W fun e W2 => (∃ v, e = .returned v) ∧ ((∃ s, more s = false ∧ J s W2) ∨ ∃ s, X s W2)

variable {P : Program}
theorem put_grown {A : World} {l : Nat} {o : Obj} (o2 : Obj) (_h : A.heap[l]? = some o) : A.grownBy (A.putObj l o2) (some l) := grownBy_putObj' A l o2

theorem rangeV {σ : Type} {g : Operand} {ps : Array Tmp} {assign body : Code} {Q : Exit → Act → World → Prop} {a : Act} {w : World} {gf : Nat} {lb : Array Value}
    (hg : a.eval g = .func (.func gf) #[] lb) (eg : ∀ args w, (callFunc gf args).run P w = .ok (.enter gf args) w)
    {encs : σ → Array Value} {more : σ → Bool} {next : σ → σ} {Kp : World → World → Prop} {s0 : σ} (hseq : Iterates P gf lb encs more next Kp s0 w)
    (hKt : ∀ {A B C : World}, Kp A B → Kp B C → Kp A C) (hKa : ∀ (o1 o2 : Obj), o1.isCells = false → o2.isCells = false → Kp w ((w.alloc o1).alloc o2))
    (hKb : ∀ (W : World) (l : Nat) (o o2 : Obj), w.heap.size ≤ l → W.heap[l]? = some o → o.isCells = false → Kp W (W.putObj l o2)) (hps : ∀ s, (encs s).size = ps.size)
    (I : σ → World → Prop) (X : Code → σ → World → Prop) (hI : OwnFrom w.heap.size I) (hX : ∀ c, OwnFrom w.heap.size (X c)) (h0 : I s0 w) (a1 : σ → Act)
    (hassign : ∀ (l : Nat) (s : σ) (W : World) (K : Act → World → Prop), K (a1 s) W →
      assign.wpIn (Fence.wide.inRound l) 1 P (Exit.then K (fun _ _ _ => False)) { tmps := (ps.zip (encs s)).foldl (fun t (p, v) => t.setIfInBounds p v) a.tmps, defers := [] } W)
    (hbody : ∀ (l : Nat) (s : σ) (W : World), I s W → more s = true → body.wpIn (Fence.wide.inRound l) 1 P (RoundLeft w.heap.size Kp (I (next s)) (fun c => X c s) W) (a1 s) W)
    (hdone : ∀ (D : Nat) (s : σ) (W : World), w.heap.size ≤ D → more s = false → I s W → W.heap[D]? = some (.deferred (some [])) → Q .normal { a with defers := { target := .collected D, args := #[] } :: a.defers } W)
    (hstop : ∀ (D : Nat) (c : Code) (s : σ) (W : World), w.heap.size ≤ D → X c s W → W.heap[D]? = some (.deferred (some [])) → c.wpIn Fence.wide 3 P Q { a with defers := { target := .collected D, args := #[] } :: a.defers } W) :
    (Code.rangeFunc g ps assign body).wpIn Fence.wide 3 P Q a w := by
  refine wpIn_rangeFunc fun fn hfn => ?_
  -- the loop's record, in a state
  generalize hR : (fun (st : LoopState) (pe : Option Code) => Obj.loop { state := st, pending := pe, fn, tmps := a.tmps, params := ps, assign, body, defers := w.heap.size }) = R
  have eR : ∀ st pe, R st pe = Obj.loop { state := st, pending := pe, fn, tmps := a.tmps, params := ps, assign, body, defers := w.heap.size } := fun st pe => by rw [← hR]
  have nR : ∀ st pe, (R st pe).isCells = false := fun st pe => by rw [eR]; rfl
  generalize hL : w.heap.size + 1 = L
  -- what holds of the two blocks of the loop's own
  let Two : Obj → World → Prop := fun r W => W.heap[L]? = some r ∧ W.heap[w.heap.size]? = some (.deferred (some []))
  have two_kept : ∀ {r : Obj} {A B : World}, Two r A → A.grownBy B none → Two r B := fun h hg =>
    ⟨(hg.block L (Array.getElem?_eq_some_iff.1 h.1).1 (by simp)).trans h.1, (hg.block _ (Array.getElem?_eq_some_iff.1 h.2).1 (by simp)).trans h.2⟩
  have two_put : ∀ {r : Obj} (r2 : Obj) {A : World}, Two r A → Two r2 (A.putObj L r2) := fun r2 A h =>
    ⟨World.putObj_heap_same (Array.getElem?_eq_some_iff.1 h.1).1, (World.putObj_heap_other (by omega)).trans h.2⟩
  have two_from : ∀ {st : LoopState} {pe : Option Code} {A B : World}, Two (R st pe) A → KeepsFrom w.heap.size A B → Two (R st pe) B := fun h hk =>
    ⟨hk.same _ _ (by omega) h.1 (nR _ _), hk.same _ _ (Nat.le_refl _) h.2 rfl⟩
  have put_ok : ∀ {β : Type} {T : β → World → Prop} {s : β} {st : LoopState} {pe : Option Code} {A : World} (r2 : Obj), OwnFrom w.heap.size T → T s A → Two (R st pe) A → T s (A.putObj L r2) := fun {β T s st pe A} r2 hT hs h =>
    hT s A _ (some L) hs (grownBy_putObj' A L r2) (fun r e => by cases e; exact ⟨by omega, _, h.1, nR st pe⟩)
  have none_ok : ∀ {β : Type} {T : β → World → Prop} {s : β} {A B : World}, OwnFrom w.heap.size T → T s A → A.grownBy B none → T s B := fun hT hs hg => hT _ _ _ none hs hg (fun r e => by cases e)
  have start : Two (R .ready none) ((w.alloc (.deferred (some []))).alloc (R .ready none)) := by
    constructor
    · have := World.alloc_heap_new (w.alloc (.deferred (some []))) (R .ready none)
      rwa [World.size_alloc, hL] at this
    · exact (Below.heap_alloc _ _ _ (by simp)).trans (World.alloc_heap_new w _)
  have kstart : Kp w ((w.alloc (.deferred (some []))).alloc (R .ready none)) := hKa _ _ rfl (nR _ _)
  have istart : I s0 ((w.alloc (.deferred (some []))).alloc (R .ready none)) :=
    none_ok hI (none_ok hI h0 (World.grownBy_alloc w _ none)) (World.grownBy_alloc _ _ none)
  have zstart : w.heap.size ≤ ((w.alloc (.deferred (some []))).alloc (R .ready none)).heap.size := by simp; omega
  refine ⟨L, [{ target := .collected w.heap.size, args := #[] }], (w.alloc (.deferred (some []))).alloc (R .ready none), { target := .fn (.func gf) lb, args := #[.func (.yield L) #[] #[]] }, _, gf, #[.func (.yield L) #[] #[]] ++ lb, _,
    by rw [eR, ← hL]; exact run_enterLoop_outer _ _ _ _ _, by simp only [resolve, hg]; simp [go_sem]; rfl, (fun _ _ => trivial), by simp [invoke, go_sem, eg]; rfl, (fun h => (by cases h)), ?_⟩
  generalize (w.alloc (.deferred (some []))).alloc (R .ready none) = W0 at *
  refine (hseq L (fun s W => I s W ∧ Two (R .ready none) W) (fun s W => ∃ c, X c s W ∧ Two (R .done (some c)) W) W0 kstart zstart
    (fun s A B h hg2 => ⟨none_ok hI h.1 hg2, two_kept h.2 hg2⟩) ?_ ⟨istart, start⟩).mono ?_
  · -- a round
    rintro s W ⟨hi, h2⟩ hm
    have hy := run_yield (P := P) (args := encs s) (h2.1.trans (by rw [eR])) (hps s)
    refine ⟨fn, _, assign, body, hy, roundIn_of_wpIn hfn (hassign L s W _ ⟨_, run_beginRound (h2.1.trans (by rw [eR])) rfl, ?_⟩)⟩
    have e1 : (Obj.loop { ({ state := .ready, pending := none, fn, tmps := a.tmps, params := ps, assign, body, defers := w.heap.size } : Loop) with state := .busy }) = R .busy none := by rw [eR]
    rw [e1]
    have hb2 : Two (R .busy none) (W.putObj L (R .busy none)) := two_put _ h2
    have kb : Kp W (W.putObj L (R .busy none)) := hKb _ _ _ _ (by omega) h2.1 (nR _ _)
    refine wpIn_mono (hbody L s _ (put_ok _ hI hi h2) hm) ?_
    have fin : ∀ (jump : Option Code) (W3 : World), KeepsFrom w.heap.size (W.putObj L (R .busy none)) W3 →
        (Instr.endRound L jump).run P W3 = .ok (.bool jump.isNone) (W3.putObj L (R (if jump.isNone then .ready else .done) jump)) ∧ Two (R .busy none) W3 := fun jump W3 hk => by
      have h3 := two_from hb2 hk
      have := run_endRound (P := P) jump (h3.1.trans (by rw [eR]))
      exact ⟨by rw [this, eR], h3⟩
    have leave : ∀ (c : Code) (W3 : World), KeepsFrom w.heap.size (W.putObj L (R .busy none)) W3 → X c s W3 →
        ∃ v W4, (Instr.endRound L (some c)).run P W3 = .ok v W4 ∧ ((Ending.returned v = .returned (.bool true) ∧ (I (next s) W4 ∧ Two (R .ready none) W4) ∧ Kp W W4) ∨ (Ending.returned v = .returned (.bool false) ∧ ∃ c, X c s W4 ∧ Two (R .done (some c)) W4)) := fun c W3 hk hx => by
      obtain ⟨hr, h3⟩ := fin (some c) W3 hk
      exact ⟨_, _, hr, .inr ⟨rfl, c, put_ok _ (hX c) hx h3, two_put _ h3⟩⟩
    rintro e a3 W3 hp
    cases e with
    | normal =>
      obtain ⟨hk, hkp, hi3⟩ := hp
      obtain ⟨hr, h3⟩ := fin none W3 hk
      exact ⟨_, _, hr, .inl ⟨rfl, ⟨put_ok _ hI hi3 h3, two_put _ h3⟩, hKt (hKt kb hkp) (hKb _ _ _ _ (by omega) h3.1 (nR _ _))⟩⟩
    | ret => exact leave _ _ hp.1 hp.2
    | exit id => exact leave _ _ hp.1 hp.2
    | goto t => exact leave _ _ hp.1 hp.2
    | panic ch => exact hp.elim
    | outgrown => exact hp.elim
  · rintro e W2 ⟨⟨v, rfl⟩, ⟨s, hm, hi, h2⟩ | ⟨s, c, hx, h2⟩⟩
    · have := run_endLoop (P := P) (h2.1.trans (by rw [eR])) (by simp)
      refine ⟨_, _, this, ?_⟩
      exact hdone _ s _ (Nat.le_refl _) hm (put_ok _ hI hi h2) ((World.putObj_heap_other (by omega)).trans h2.2)
    · have := run_endLoop (P := P) (h2.1.trans (by rw [eR])) (by simp)
      refine ⟨_, _, this, ?_⟩
      exact hstop _ c s _ (Nat.le_refl _) (put_ok _ (hX c) hx h2) ((World.putObj_heap_other (by omega)).trans h2.2)
end Go.Proofs.YtfibapfehgglhaaGreatDoor
/-
  What the functions of package frame come to: Get as a whole, frames.
-/
namespace Go.Proofs.YtfibapfehgglhaaGreatDoor
open Go.RowKit Go.Shelf
attribute [local go_sem] Oper.semAt_some

theorem Get_any (s : ByteArray) (hs : s.size ≤ maxLen) (most : Int) (hm : Hid (-9223372036854775808 ≤ most ∧ most ≤ 9223372036854775807)) (w : World) :
    Calls Tryz.prog 67 #[.string s, .int .i64 most] w fun e w' => e = .returned (.tuple #[.string (Fr.get s most).1, .string (Fr.get s most).2.1, .int .i64 ((Fr.get s most).2.2 : Nat)]) ∧ Below w.heap.size w w' := by
  by_cases h : Fr.mayGo s = true ∨ (Fr.num s).2.2 = false ∨ most < 0 ∨ most < ((Fr.num s).1 : Int) ∨ s.size < (Fr.num s).2.1 + (Fr.num s).1 + 4
  · exact Get_no s hs most hm w h
  · have hok : (Fr.num s).2.2 = true := by
      cases hx : (Fr.num s).2.2 with
      | true => rfl
      | false => exact absurd (.inr (.inl hx)) h
    refine Get_yes s hs most hm w (Fr.num s).1 (Fr.num s).2.1 (by rw [← hok]) ?_ ?_
    · have h1 : ¬ most < ((Fr.num s).1 : Int) := fun e => h (.inr (.inr (.inr (.inl e))))
      omega
    · have h1 : ¬ s.size < (Fr.num s).2.1 + (Fr.num s).1 + 4 := fun e => h (.inr (.inr (.inr (.inr e))))
      omega

/-- the two boxes of the function that frames tells -/
def FBoxes (b : Nat) (s : ByteArray) (most : Int) (W : World) : Prop := W.heap[b]? = some (.cells #[.string s] 9 (0, 0)) ∧ W.heap[b + 1]? = some (.cells #[.int .i64 most] 3 (0, 0))
theorem FBoxes.keep {b : Nat} {s : ByteArray} {most : Int} {A B : World} (h : FBoxes b s most A) (h0 : B.heap[b]? = A.heap[b]?) (h1 : B.heap[b + 1]? = A.heap[b + 1]?) : FBoxes b s most B := ⟨h0.trans h.1, h1.trans h.2⟩
theorem FBoxes.later {b : Nat} {s : ByteArray} {most : Int} {A B : World} (h : FBoxes b s most A) (hb : Below A.heap.size A B) : FBoxes b s most B := ⟨heap_keep h.1 hb, heap_keep h.2 hb⟩
def FKeep (b : Nat) (A B : World) : Prop := B.heap[b]? = A.heap[b]? ∧ B.heap[b + 1]? = A.heap[b + 1]?
theorem FKeep.trans {b : Nat} {A B C : World} (h : FKeep b A B) (k : FKeep b B C) : FKeep b A C := ⟨k.1.trans h.1, k.2.trans h.2⟩

def strSz : Value → Nat
  | .string s => s.size
  | _ => 0

end Go.Proofs.YtfibapfehgglhaaGreatDoor
/-
  What the functions of the reference alluviumref01 come to: Of, On, Tail, Good.
-/
namespace Go.Proofs.YtfibapfehgglhaaGreatDoor
open Go.RowKit

theorem Crc.fourL_take (c k : Nat) (hc : c < 4294967296) (h : k < 4) : (fourL c).take (k + 1) = (fourL c).take k ++ [((c / 256 ^ k : Nat) : Int) % 256] := by
  unfold fourL
  obtain rfl | rfl | rfl | rfl : k = 0 ∨ k = 1 ∨ k = 2 ∨ k = 3 := by omega
  all_goals simp only [List.take, List.nil_append, List.cons_append, List.cons.injEq, true_and, and_true, Nat.reducePow, Nat.div_one]
  all_goals omega


end Go.Proofs.YtfibapfehgglhaaGreatDoor
/-
  The reference's Good, and the document's example (works).
-/
namespace Go.Proofs.YtfibapfehgglhaaGreatDoor
open Go.RowKit

theorem Crc.ex1 : ofB ⟨#[49, 50, 51, 52, 53, 54, 55, 56, 57]⟩ = 3808858755 := by decide +kernel
theorem Crc.ex2 : four (ofB ⟨#[97, 98]⟩) = ⟨#[54, 41, 162, 226]⟩ := by decide +kernel
theorem Crc.ex3 : good (⟨#[97, 98]⟩ ++ ⟨#[54, 41, 162, 226]⟩) = (⟨#[97, 98]⟩, true) := by decide +kernel
theorem Crc.ex4 : good ⟨#[97, 98, 99]⟩ = (ByteArray.empty, false) := by decide +kernel
theorem Crc.ex5 : ofB ⟨#[49, 50, 51, 52]⟩ = 4131058926 := by decide +kernel
theorem Crc.ex6 : 4294967295 - run (4294967295 - 4131058926) (ByteArray.data ⟨#[53, 54, 55, 56, 57]⟩).toList = 3808858755 := by decide +kernel
theorem Crc.ex7 : four (ofB ⟨#[120]⟩) = ⟨#[147, 95, 60, 169]⟩ := by decide +kernel
theorem Crc.ex8 : ofB ⟨#[]⟩ = 0 := by decide +kernel

end Go.Proofs.YtfibapfehgglhaaGreatDoor
/-
  What the functions of package frame, and of its reference, come to: Head, Open.
-/
namespace Go.Proofs.YtfibapfehgglhaaGreatDoor
open Go.RowKit
namespace Fr

/-- two bytes -/
def two (g f : Int) : ByteArray := strOfNums [g % 256, f % 256]
theorem two_size (g f : Int) : (two g f).size = 2 := by
  rw [← Crc.size_list]
  unfold two
  rw [strOfNums_data]
  rfl
/-- what a file begins with -/
def head (magic : ByteArray) (g f : Int) : ByteArray := (magic ++ two g f) ++ Crc.four (Crc.ofB (magic ++ two g f))
theorem head_size (magic : ByteArray) (g f : Int) : (head magic g f).size = magic.size + 6 := by
  unfold head; rw [ByteArray.size_append, ByteArray.size_append, two_size, Crc.four_size]
/-- a byte's number -/
def at_ (s : ByteArray) (i : Nat) : Nat := (s.data.toList.getD i 0).toNat
theorem at_lt (s : ByteArray) (i : Nat) : at_ s i < 256 := UInt8.toNat_lt _
theorem at_eq (s : ByteArray) (i : Nat) (h : i < s.size) : s[i].toNat = at_ s i := by
  unfold at_
  congr 1
  have h2 : i < s.data.toList.length := by simpa using h
  rw [List.getD_eq_getElem?_getD, List.getElem?_eq_getElem h2]
  rfl
/-- what a file tells -/
def opened (s magic : ByteArray) : Nat × Nat × ByteArray × Nat :=
  if s.size < magic.size + 2 + 4 then (0, 0, ByteArray.empty, 9)
  else if ¬ s.extract 0 magic.size = magic then (0, 0, ByteArray.empty, 9)
  else if ¬ s.extract (magic.size + 2) (magic.size + 2 + 4) = Crc.four (Crc.ofB (s.extract 0 (magic.size + 2))) then (0, 0, ByteArray.empty, 9)
  else if 3 < at_ s magic.size ∨ 3 < at_ s (magic.size + 1) then (0, 0, ByteArray.empty, 10)
  else if at_ s magic.size = 0 then (0, 0, ByteArray.empty, 9)
  else (at_ s magic.size, at_ s (magic.size + 1), s.extract (magic.size + 2 + 4) s.size, 0)
theorem good_ext (s : ByteArray) (n : Nat) (h : n + 4 ≤ s.size) : Crc.good (s.extract 0 (n + 4)) = if s.extract n (n + 4) = Crc.four (Crc.ofB (s.extract 0 n)) then (s.extract 0 n, true) else (ByteArray.empty, false) := by
  have hz : (s.extract 0 (n + 4)).size = n + 4 := by rw [ByteArray.size_extract]; omega
  have e1 : (s.extract 0 (n + 4)).extract n (n + 4) = s.extract n (n + 4) := by
    apply Crc.ba_ext
    rw [Crc.extract_data', Crc.extract_data', Crc.extract_data']
    simp only [List.drop_zero, Nat.sub_zero]
    rw [List.drop_take, List.take_take]; congr 1; omega
  have e2 : (s.extract 0 (n + 4)).extract 0 n = s.extract 0 n := by rw [ext_ext s 0 (n + 4) n (by omega), Nat.zero_add]
  unfold Crc.good
  rw [hz, if_neg (by omega), show n + 4 - 4 = n from by omega, e1, e2]
theorem at_ext (s : ByteArray) (n i : Nat) (h : i < n) : at_ (s.extract 0 n) i = at_ s i := by
  unfold at_
  rw [Crc.extract_data']
  simp only [List.drop_zero, Nat.sub_zero, List.getD_eq_getElem?_getD]
  rw [List.getElem?_take_of_lt h]
theorem not3 : ∀ f : Fin 256, (bits BinOp.andNot IntKind.i64 (f.val : Int) 3 != 0) = decide (3 < f.val) := by decide +kernel
end Fr

theorem two_back (w : World) (b : Nat) (g f : Int) (hc : w.heap[b]? = some (.cells #[.int .u8 (g % 256), .int .u8 (f % 256)] 5 (0, 0))) :
    (convert 92 9 (.slice (some ⟨b, 0, none⟩) 2 2)).run Tryz.prog w = .ok (.string (Fr.two g f)) w :=
  run_convert_bytes_arg (P := Tryz.prog) w 92 5 Tryz.underlying92 Tryz.underlying5 b 0 2 2 [g % 256, f % 256] rfl (fun i hi => by
    rw [Nat.zero_add, cell_of_row w b i _ _ _ hc]
    match i, hi with
    | 0, _ => rfl
    | 1, _ => rfl) 9 Tryz.underlying9

set_option maxRecDepth 100000 in
set_option maxHeartbeats 400000 in
theorem Head_any (magic : ByteArray) (hm : magic.size ≤ 1099511627776) (g f : Int) (w : World) :
    Calls Tryz.prog 13 #[.string magic, .int .i64 g, .int .i64 f] w fun e w' => e = .returned (.string (Fr.head magic g f)) ∧ Below w.heap.size w w' := by
  have h2 := Fr.two_size g f
  have hb := fun (W : World) (b : Nat) h => two_back W b g f h
  have hh : Fr.head magic g f = (magic ++ Fr.two g f) ++ Crc.four (Crc.ofB (magic ++ Fr.two g f)) := rfl
  have h4 := Crc.four_size (Crc.ofB (magic ++ Fr.two g f))
  have hz : (magic ++ Fr.two g f).size = magic.size + 2 := by rw [ByteArray.size_append, h2]
  rw [hh]
  clear hh
  have HB := Lib.hid hb; clear hb
  generalize Fr.two g f = t at *
  go_enter Tryz.func13, Tryz.ntmps13
  go_wp2_with fail
  have hal : Below w.heap.size w (w.alloc (.cells #[.int .u8 (g % 256), .int .u8 (f % 256)] 5)) := (Below.refl _ _).alloc (Nat.le_refl _) _
  have hnew : (w.alloc (.cells #[.int .u8 (g % 256), .int .u8 (f % 256)] 5)).heap[w.heap.size]? = some (.cells #[.int .u8 (g % 256), .int .u8 (f % 256)] 5 (0, 0)) := heap_alloc_new w _
  rw [HB.out _ _ hnew]
  have HAL := Lib.hid hal
  clear hnew hal
  generalize w.alloc (.cells #[.int .u8 (g % 256), .int .u8 (f % 256)] 5) = w1 at *
  have hsum : ¬ 9223372036854775807 < magic.size + t.size := by omega
  have H2 := Lib.hid h2; clear h2
  generalize hmt : magic ++ t = mt at *
  have HT := Lib.hid (Tail_any mt (by unfold maxLen; omega))
  have hsum2 : ¬ 9223372036854775807 < mt.size + (Crc.four (Crc.ofB mt)).size := by omega
  generalize hc : Crc.four (Crc.ofB mt) = c at *
  have HMT := Lib.hid hmt; have HC := Lib.hid hc; clear hc
  have HZ := Lib.hid hz; have H4 := Lib.hid h4; clear hz h4
  go_wp2_with fail
  refine (HT.out _).mono ?_; rintro e w2 ⟨rfl, hb2⟩
  have HB2 := Lib.hid (below_step HAL.out hb2); clear hb2
  go_wp2_with fail
  go_ret
  exact ⟨by rw [HMT.out, HC.out]; rfl, HB2.out⟩

theorem Fr.mod2 (g : Int) : (IntKind.u64.wrap g).tmod 256 % 256 = g % 256 := by rw [IntKind.wrap_u64, Int.tmod_eq_emod_of_nonneg (by omega)]; omega

end Go.Proofs.YtfibapfehgglhaaGreatDoor
