/-
  The change of a record: the walk.
-/
import Derived.Test.YtaillfnmaiiapaaWaG
import Derived.Test.YtaillfnmaiiapaaLaG
namespace Go.Proofs.Ytaillfnmaiiapaa
open Go.RowKit
/-- a cursor behind some of four calls -/
def stOf (c0 c1 c2 c3 c4 : Wa.Cu) (a b c d : Bool) : Wa.Cu := if d = true then c4 else if c = true then c3 else if b = true then c2 else if a = true then c1 else c0
theorem Wa.go_val {α : Type} (c : Wa.Cu) (ok : Bool) (v z : α) (n : Nat) : (Wa.Cu.go c ok v z n).1 = if (c.bad || !ok) = true then z else v := rfl
theorem Wa.wide_lt (c : Wa.Cu) : c.wide.1 < 18446744073709551616 := by
  unfold Wa.Cu.wide
  rw [Wa.go_val]
  split
  · decide
  · split
    · have h := Num.num_lt (c.s.data.toList.take 8)
      have h2 : (c.s.data.toList.take 8).length ≤ 8 := List.length_take_le ..
      exact Nat.lt_of_lt_of_le h (Nat.le_trans (Nat.pow_le_pow_right (by decide) h2) (by decide))
    · decide
theorem Wa.fixed_size (c : Wa.Cu) (k : Nat) : (c.fixed k).1.size ≤ c.s.size := by
  unfold Wa.Cu.fixed
  rw [Wa.go_val]
  split
  · simp
  · unfold Num.fT Num.fV
    split
    · rw [ByteArray.size_extract]; omega
    · simp
theorem Wa.labs_small (n : Nat) (m : Nat) : ∀ i (c : Wa.Cu), c.s.size ≤ m → (Wa.labs n i c).2.s.size ≤ m ∧ (Wa.labs n i c).1.length ≤ i ∧ ∀ x ∈ (Wa.labs n i c).1, x.1.size ≤ m ∧ x.2.size ≤ m
  | 0, c, h => ⟨h, Nat.le_refl _, fun x hx => by cases hx⟩
  | i + 1, c, h => by
    obtain ⟨h1, h2, h3⟩ := Wa.labs_small n m i c h
    have a1 : ((Wa.labs n i c).2.fixed 12).2.s.size ≤ (Wa.labs n i c).2.s.size := Wa.go_size _ _ _ _ _
    have a2 : (((Wa.labs n i c).2.fixed 12).2.fixed 12).2.s.size ≤ ((Wa.labs n i c).2.fixed 12).2.s.size := Wa.go_size _ _ _ _ _
    have a3 := Wa.fixed_size (Wa.labs n i c).2 12
    have a4 := Wa.fixed_size ((Wa.labs n i c).2.fixed 12).2 12
    unfold Wa.labs
    refine ⟨by show (((Wa.labs n i c).2.fixed 12).2.fixed 12).2.s.size ≤ m; omega, ?_, ?_⟩
    · dsimp only
      split
      · rw [List.length_append]; show _ + 1 ≤ _; omega
      · omega
    · dsimp only
      intro x hx
      split at hx
      · rcases List.mem_append.1 hx with h5 | h5
        · exact h3 x h5
        · obtain rfl := List.mem_singleton.1 h5
          exact ⟨by show ((Wa.labs n i c).2.fixed 12).1.size ≤ m; omega, by show (((Wa.labs n i c).2.fixed 12).2.fixed 12).1.size ≤ m; omega⟩
      · exact h3 x hx
theorem Wa.labs_succ (n i : Nat) (c : Wa.Cu) : Wa.labs n (i + 1) c = (if i < n then (Wa.labs n i c).1 ++ [(((Wa.labs n i c).2.fixed 12).1, (((Wa.labs n i c).2.fixed 12).2.fixed 12).1)] else (Wa.labs n i c).1, (((Wa.labs n i c).2.fixed 12).2.fixed 12).2) := rfl
theorem labCells_snoc (L : List Lab) (x : Lab) : labCells L ++ [.string x.1, .string x.2] = labCells (L ++ [x]) := by
  rw [labCells_append]; rfl
theorem results_cell_tmp {P : Program} {fn : Func} {p t : Tmp} {ty : TypeId} (h : fn.results = #[.cell p ty, .tmp t]) (tmps : Array Value) (w : World) (g : Nat) (u : TypeId) (cs : Array Value) (fr : Nat × Nat) (d : TypeDesc)
    (hp : tmps.getD p undef = .pointer (some ⟨g, 0, none⟩)) (hg : w.heap[g]? = some (.cells cs u fr))
    (hu : P.underlying ty = some d) (hd : (match d with | .struct _ | .array _ _ => true | _ => false) = true) (hi : (P.info? ty).map (·.size) = some cs.size) :
    (results fn tmps).run P w = .ok (.tuple #[.agg cs, tmps.getD t undef]) w := by
  have hp' : tmps[p]?.getD undef = .pointer (some ⟨g, 0, none⟩) := by simpa using hp
  simp [results, h, hp', asAddr, run_loadVar_row w g u ty cs fr d hg hu hd hi]
theorem take_one {s : ByteArray} (h : 1 ≤ s.size) : Wa.Cu.take ⟨s, false⟩ 1 = (s.extract 0 1, ⟨s.extract 1 s.size, false⟩) := by
  have hok : Num.tOk 1 s = true := by unfold Num.tOk; simp only [decide_eq_true_eq]; omega
  unfold Wa.Cu.take
  simp only [hok, if_true]
  rw [Wa.go_ok]
  rfl
/-- what readFixed comes to -/
def RdFixed (w : World) (R : Wa.Rec × Bool) (e : Ending) (w' : World) : Prop := ∃ A c, e = .returned (.tuple #[.agg (recC R.1 A c), .bool R.2]) ∧ LabOwn w' w.heap.size R.1.l A c ∧ Below w.heap.size w w'
theorem rec_size : (Try.prog.info? 52).map (·.size) = some 5 := by kernel_rfl
/-- a row of five cells, written cell by cell -/
theorem store5 {w : World} {b : Nat} {a0 a1 a2 a3 a4 : Value} {T : TypeId} (h : w.heap[b]? = some (.cells #[a0, a1, a2, a3, a4] T (0, 0))) (v0 v1 v2 v3 v4 : Value) :
    (((((w.setCell ⟨b, 0, none⟩ v0).setCell ⟨b, 1, none⟩ v1).setCell ⟨b, 2, none⟩ v2).setCell ⟨b, 3, none⟩ v3).setCell ⟨b, 4, none⟩ v4).heap[b]? = some (.cells #[v0, v1, v2, v3, v4] T (0, 0)) ∧
      w.grownBy (((((w.setCell ⟨b, 0, none⟩ v0).setCell ⟨b, 1, none⟩ v1).setCell ⟨b, 2, none⟩ v2).setCell ⟨b, 3, none⟩ v3).setCell ⟨b, 4, none⟩ v4) (some b) := by
  have h0 := heap_setCell_same w b 0 _ _ v0 h
  have h1 := heap_setCell_same _ b 1 _ _ v1 h0
  have h2 := heap_setCell_same _ b 2 _ _ v2 h1
  have h3 := heap_setCell_same _ b 3 _ _ v3 h2
  have h4 := heap_setCell_same _ b 4 _ _ v4 h3
  exact ⟨h4, grown_trans (grown_trans (grown_trans (grown_trans (grown_setCell w b 0 v0) (grown_setCell _ b 1 v1)) (grown_setCell _ b 2 v2)) (grown_setCell _ b 3 v3)) (grown_setCell _ b 4 v4)⟩
/-- a call's result, beside a cursor of its own -/
structure FarCur (w : World) (ob cb : Nat) (U : World) : Prop where
  bel : Below ob w U
  res : U.heap[ob]? = some (.cells #[.int .i64 0, .slice none 0 0, .int .i64 0, .int .i64 0, .int .u64 0] 52 (0, 0))
  at_ : w.heap.size = ob
  next : cb = ob + 1
theorem far_cur {w : World} {ob cb : Nat} {U V : World} (h : FarCur w ob cb U) (hg : U.grownBy V (some cb)) : FarCur w ob cb V := by
  have h1 := h.at_; have h2 := h.next
  exact ⟨h.bel.grown hg (by have := h.bel.size; omega) (fun r e => by obtain rfl : cb = r := Option.some.inj e; omega), grown_keep h.res hg (by omega), h.at_, h.next⟩
/-- reading a record, behind i labels -/
structure RFix (w : World) (ob cb rb : Nat) (n0 : Nat) (t hi : Int) (n3 : Nat) (x : List Lab × Wa.Cu) (v : Value) (U : World) : Prop where
  far : FarCur w ob cb U
  cur : CurAt cb x.2.s x.2.bad U
  rec_ : U.heap[rb]? = some (.cells #[.int .i64 (n0 : Int), v, .int .i64 t, .int .i64 hi, .int .u64 (n3 : Int)] 52 (0, 0))
  lt : cb < rb
  own : U.ownsRow ob 54 2 v x.1.length (labCells x.1)
theorem own_lt {W : World} {b1 e k m g : Nat} {u : Value} {xs : List Value} {cs : Array Value} {T : TypeId} {fr : Nat × Nat} (ho : W.ownsRow b1 e k u m xs) (hc : W.heap[g]? = some (.cells cs T fr)) (hne : T ≠ e) : ∀ r, some g = some r → u.ownBlock ≠ some r := fun r e2 => by
  obtain rfl : g = r := Option.some.inj e2
  exact block_other ho hc hne
/-- a call of the cursor -/
theorem RFix.cur_ {w : World} {ob cb rb n0 : Nat} {t hi : Int} {n3 : Nat} {x : List Lab × Wa.Cu} {v : Value} {U V : World} (h : RFix w ob cb rb n0 t hi n3 x v U) {c : Wa.Cu} (hc : CurAt cb c.s c.bad V) (hg : U.grownBy V (some cb)) : RFix w ob cb rb n0 t hi n3 (x.1, c) v V :=
  ⟨far_cur h.far hg, hc, grown_keep h.rec_ hg (by have := h.lt; omega), h.lt, row_kept h.own hg (own_lt h.own h.cur (by decide))⟩
theorem RFix.later {w : World} {ob cb rb n0 : Nat} {t hi : Int} {n3 : Nat} {x : List Lab × Wa.Cu} {v : Value} {U V : World} (h : RFix w ob cb rb n0 t hi n3 x v U) (hb : Below U.heap.size U V) : RFix w ob cb rb n0 t hi n3 x v V :=
  ⟨far_cur h.far (grown_of_below hb), heap_keep h.cur hb, heap_keep h.rec_ hb, h.lt, row_far h.own hb⟩
/-- another label -/
theorem RFix.more {w : World} {ob cb rb n0 : Nat} {t hi : Int} {n3 : Nat} {x : List Lab × Wa.Cu} {v v2 : Value} {U V : World} (h : RFix w ob cb rb n0 t hi n3 x v U) (y : Lab) (ho : V.ownsRow ob 54 2 v2 (x.1.length + 1) (labCells x.1 ++ [.string y.1, .string y.2])) (hg : U.grownBy V v.ownBlock) :
    RFix w ob cb rb n0 t hi n3 (x.1 ++ [y], x.2) v2 (V.setCell ⟨rb, 1, none⟩ v2) := by
  have hk : ∀ {g : Nat} {cs : Array Value} {T : TypeId} {fr : Nat × Nat}, U.heap[g]? = some (.cells cs T fr) → T ≠ 54 → V.heap[g]? = some (.cells cs T fr) := fun hc hne =>
    (hg.block _ (Array.getElem?_eq_some_iff.1 hc).1 (fun e => block_other h.own hc hne e.symm)).trans hc
  have h1 := hk h.far.res (by decide); have h2 := hk h.cur (by decide); have h3 := hk h.rec_ (by decide)
  have hgs := grown_setCell V rb 1 v2
  have hlt := h.lt; have ha := h.far.at_; have hn := h.far.next
  rw [labCells_snoc] at ho
  have el : x.1.length + 1 = (x.1 ++ [y]).length := by simp
  rw [el] at ho
  have hb : Below ob w V := h.far.bel.grown hg (by have := h.far.bel.size; omega) (fun r e => (h.own.lt r e).1)
  exact ⟨⟨hb.grown hgs (by have := hb.size; omega) (fun r e => by obtain rfl : rb = r := Option.some.inj e; omega), grown_keep h1 hgs (by omega), ha, hn⟩, grown_keep h2 hgs (by omega), heap_setCell_same V rb 1 _ _ v2 h3, hlt, row_kept ho hgs (own_lt ho h3 (by decide))⟩
set_option maxRecDepth 100000 in
set_option maxHeartbeats 4000000 in
theorem readFixed_any (s : ByteArray) (hs : s.size = 186) (w : World) :
    Calls Try.prog 64 #[.string s] w (RdFixed w (Wa.rdFix s)) := by
  have hk := take_one (s := s) (by omega)
  have hrd : Wa.rdFix s = (⟨(Fr.at_ (Wa.Cu.take ⟨s, false⟩ 1).1 0 : Nat), (Wa.labs (Fr.at_ ((Wa.Cu.take ⟨s, false⟩ 1).2.wide.2.wide.2.wide.2.take 1).1 0) 6 ((Wa.Cu.take ⟨s, false⟩ 1).2.wide.2.wide.2.wide.2.take 1).2).1, Wa.i64 (Wa.Cu.take ⟨s, false⟩ 1).2.wide.1, Wa.i64 (Wa.Cu.take ⟨s, false⟩ 1).2.wide.2.wide.1, (Wa.Cu.take ⟨s, false⟩ 1).2.wide.2.wide.2.wide.1⟩, !(Wa.labs (Fr.at_ ((Wa.Cu.take ⟨s, false⟩ 1).2.wide.2.wide.2.wide.2.take 1).1 0) 6 ((Wa.Cu.take ⟨s, false⟩ 1).2.wide.2.wide.2.wide.2.take 1).2).2.bad && decide (Fr.at_ ((Wa.Cu.take ⟨s, false⟩ 1).2.wide.2.wide.2.wide.2.take 1).1 0 ≤ 6)) := rfl
  have hw8 : ∀ c : Wa.Cu, c.bad = false → 8 ≤ c.s.size → c.wide.2 = ⟨c.s.extract 8 c.s.size, false⟩ := fun c hb h8 => by
    obtain ⟨cs, cb⟩ := c
    simp only at hb h8
    subst hb
    have hd : decide (8 ≤ cs.size) = true := decide_eq_true h8
    unfold Wa.Cu.wide
    simp only [hd, if_true]
    rw [Wa.go_ok]
  have hT0 := fun W cb (hW : CurAt cb s false W) => cuTake cb ⟨s, false⟩ (by unfold maxLen; show s.size ≤ _; omega) 1 W hW
  rw [hk] at hT0
  rw [hrd, hk]
  clear hrd hk
  have z0 : (s.extract 0 1).size = 1 := by rw [ByteArray.size_extract]; omega
  have q1 : (s.extract 1 s.size).size = 185 := by rw [ByteArray.size_extract]; omega
  generalize s.extract 0 1 = k0 at *
  generalize s.extract 1 s.size = s1 at *
  have hm : ∀ n : Nat, n ≤ 1000 → n ≤ maxLen := fun n h => by unfold maxLen; omega
  have hT1 := fun W cb (hW : CurAt cb s1 false W) => cuWide cb ⟨s1, false⟩ (hm _ (by show s1.size ≤ _; omega)) W hW
  have e1 := hw8 ⟨s1, false⟩ rfl (by show 8 ≤ s1.size; omega)
  have v1 := Wa.wide_lt ⟨s1, false⟩
  have q2 : (s1.extract 8 s1.size).size = 177 := by rw [ByteArray.size_extract]; omega
  rw [e1] at hT1 ⊢
  dsimp only at hT1
  generalize Wa.Cu.wide ⟨s1, false⟩ = x1 at *
  generalize s1.extract 8 s1.size = s2 at *
  have hT2 := fun W cb (hW : CurAt cb s2 false W) => cuWide cb ⟨s2, false⟩ (hm _ (by show s2.size ≤ _; omega)) W hW
  have e2 := hw8 ⟨s2, false⟩ rfl (by show 8 ≤ s2.size; omega)
  have v2 := Wa.wide_lt ⟨s2, false⟩
  have q3 : (s2.extract 8 s2.size).size = 169 := by rw [ByteArray.size_extract]; omega
  rw [e2] at hT2 ⊢
  dsimp only at hT2
  generalize Wa.Cu.wide ⟨s2, false⟩ = x2 at *
  generalize s2.extract 8 s2.size = s3 at *
  have hT3 := fun W cb (hW : CurAt cb s3 false W) => cuWide cb ⟨s3, false⟩ (hm _ (by show s3.size ≤ _; omega)) W hW
  have e3 := hw8 ⟨s3, false⟩ rfl (by show 8 ≤ s3.size; omega)
  have v3 := Wa.wide_lt ⟨s3, false⟩
  have q4 : (s3.extract 8 s3.size).size = 161 := by rw [ByteArray.size_extract]; omega
  rw [e3] at hT3 ⊢
  dsimp only at hT3
  generalize Wa.Cu.wide ⟨s3, false⟩ = x3 at *
  generalize s3.extract 8 s3.size = s4 at *
  have e4 := take_one (s := s4) (by omega)
  have hT4 := fun W cb (hW : CurAt cb s4 false W) => cuTake cb ⟨s4, false⟩ (hm _ (by show s4.size ≤ _; omega)) 1 W hW
  rw [e4] at hT4 ⊢
  have z5 : (s4.extract 0 1).size = 1 := by rw [ByteArray.size_extract]; omega
  have q5 : (s4.extract 1 s4.size).size = 160 := by rw [ByteArray.size_extract]; omega
  dsimp only at hT4
  generalize s4.extract 0 1 = k5 at *
  generalize s4.extract 1 s4.size = s5 at *
  clear e1 e2 e3 e4 hw8
  obtain ⟨n1, y1⟩ := x1; obtain ⟨n2, y2⟩ := x2; obtain ⟨n3, y3⟩ := x3
  simp only at v1 v2 v3 hT0 hT1 hT2 hT3 hT4 ⊢
  have hn0 : Fr.at_ k0 0 < 256 := Fr.at_lt _ _
  have hn5 : Fr.at_ k5 0 < 256 := Fr.at_lt _ _
  have h00 := Fr.at_eq k0 0 (by omega); have h50 := Fr.at_eq k5 0 (by omega)
  generalize Fr.at_ k0 0 = n0 at *
  generalize Fr.at_ k5 0 = n5 at *
  have HT0 := Lib.hid hT0; have HT1 := Lib.hid hT1; have HT2 := Lib.hid hT2; have HT3 := Lib.hid hT3; have HT4 := Lib.hid hT4
  have HLS := Lib.hid (Wa.labs_succ n5)
  have HLM := Lib.hid (fun i => Wa.labs_small n5 160 i ⟨s5, false⟩ (by show s5.size ≤ 160; omega))
  have HL0 : Hid (Wa.labs n5 0 ⟨s5, false⟩ = ([], ⟨s5, false⟩)) := Lib.hid rfl
  obtain ⟨lb, hlb⟩ : ∃ lb, lb = Wa.labs n5 := ⟨_, rfl⟩
  rw [← hlb] at HLS HLM HL0 ⊢
  obtain ⟨R, hR⟩ : ∃ R, R = ((⟨(n0 : Int), (lb 6 ⟨s5, false⟩).1, Wa.i64 n1, Wa.i64 n2, n3⟩ : Wa.Rec), !(lb 6 ⟨s5, false⟩).2.bad && decide (n5 ≤ 6)) := ⟨_, rfl⟩
  rw [← hR]
  have HRE := Lib.hid hR
  clear hR
  clear hT0 hT1 hT2 hT3 hT4 hm q1 q2 q3 q4 q5 y1 y2 y3 hlb hs
  go_enter Try.func64, Try.ntmps64
  go_wp2_with fail
  obtain ⟨wa, hwa⟩ : ∃ wa, wa = w.alloc (.cells #[.int .i64 0, .slice none 0 0, .int .i64 0, .int .i64 0, .int .u64 0] 52) := ⟨_, rfl⟩
  have hba : Below w.heap.size w wa := by rw [hwa]; exact (Below.refl _ _).alloc (Nat.le_refl _) _
  have hxa : wa.heap[w.heap.size]? = some (.cells #[.int .i64 0, .slice none 0 0, .int .i64 0, .int .i64 0, .int .u64 0] 52 (0, 0)) := by rw [hwa]; exact heap_alloc_new w _
  have hsa : wa.heap.size = w.heap.size + 1 := by rw [hwa]; simp
  rw [← hwa]
  obtain ⟨wb, hwb⟩ : ∃ wb, wb = wa.alloc (.cells #[.string s, .bool false] 131) := ⟨_, rfl⟩
  have hbb : Below wa.heap.size wa wb := by rw [hwb]; exact (Below.refl _ _).alloc (Nat.le_refl _) _
  have hcb : CurAt wa.heap.size s false wb := by unfold CurAt; rw [hwb]; exact heap_alloc_new wa _
  rw [← hwb]
  rw [hsa] at hcb
  obtain ⟨cb, hcbe⟩ : ∃ cb, cb = w.heap.size + 1 := ⟨_, rfl⟩
  rw [← hcbe] at hcb ⊢
  have HCE := Lib.hid hcbe
  have HS1 := Lib.hid (And.intro hcb (And.intro (below_step hba hbb) (heap_keep hxa hbb)))
  obtain ⟨ob, hob⟩ : ∃ ob, ob = w.heap.size := ⟨_, rfl⟩
  have HOE := Lib.hid hob
  rw [← hob] at HS1 ⊢
  clear hwa hba hxa hsa hwb hbb hcb hcbe hob
  have g1 : IntKind.i64.wrap (n1 : Int) = Wa.i64 n1 := rfl
  have g2 : IntKind.i64.wrap (n2 : Int) = Wa.i64 n2 := rfl
  have g0 : IntKind.i64.wrap (n0 : Int) = (n0 : Int) := by rw [IntKind.wrap_i64]; omega
  have g5 : IntKind.i64.wrap (n5 : Int) = (n5 : Int) := by rw [IntKind.wrap_i64]; omega
  refine plain_robD [(0, some 11), (1, some 12), (2, some 13), (3, some 14), (4, some 15), (5, some 16), (6, some 17), (7, some 18), (8, some 19), (9, some 5)] [10] (fun U V => U.grownBy V (some cb)) (fun δ U => CurAt cb (if δ 7 = true then s4 else if δ 5 = true then s3 else if δ 3 = true then s2 else if δ 0 = true then s1 else s) false U ∧ FarCur w ob cb U) [(0, .string k0), (1, .int .u8 (n0 : Int)), (2, .int .i64 (n0 : Int)), (3, .int .u64 (n1 : Int)), (4, .int .i64 (Wa.i64 n1)), (5, .int .u64 (n2 : Int)), (6, .int .i64 (Wa.i64 n2)), (7, .int .u64 (n3 : Int)), (8, .agg #[.int .i64 (n0 : Int), .slice none 0 0, .int .i64 (Wa.i64 n1), .int .i64 (Wa.i64 n2), .int .u64 (n3 : Int)])] [(9, (fun x W => ∃ b, x = .pointer (some ⟨b, 0, none⟩) ∧ W.heap[b]? = some (.cells #[.int .i64 0, .slice none 0 0, .int .i64 0, .int .i64 0, .int .u64 0] 52 (0, 0)) ∧ cb < b : Value → World → Prop))] 1 (by kernel_rfl) (by kernel_rfl) (by kernel_rfl) (⟨HS1.out.1, ⟨HS1.out.2.1.drew, HS1.out.2.2, HOE.out.symm, by rw [HCE.out, HOE.out]⟩⟩) ?_ ?_ ?_
  · intro p hp
    simp only [List.mem_cons, List.not_mem_nil, or_false] at hp
    subst hp
    exact fun x U V h hb => by obtain ⟨b, e, hc, hl⟩ := h; exact ⟨b, e, grown_keep hc hb (by omega), hl⟩
  · refine ⟨⟨_, rfl, fun ν δ U hU h00 h1 h2 hp => ?_⟩, ?_⟩
    · simp only [putsν, Act.put, List.setIfInBounds_toArray, List.set_cons_zero, List.set_cons_succ]
      dsimp only at hU
      refine Yld.call 68 #[.pointer (some ⟨cb, 0, none⟩), .int .i64 1] (by kernel_rfl) (by go_simp) ?_
      have hcall := HT0.out U cb (by have hc := hU.1; rw [h00, h2 3 (by kernel_rfl) (by kernel_rfl), h2 5 (by kernel_rfl) (by kernel_rfl), h2 7 (by kernel_rfl) (by kernel_rfl)] at hc; exact hc)
      refine hcall.mono ?_
      rintro e V ⟨rfl, hc, hg⟩; exact ⟨_, rfl, hg, ⟨by simpa [h2 3 (by kernel_rfl) (by kernel_rfl), h2 5 (by kernel_rfl) (by kernel_rfl), h2 7 (by kernel_rfl) (by kernel_rfl)] using hc, far_cur hU.2 hg⟩, Fx.fixed rfl rfl⟩
    refine ⟨⟨_, rfl, fun ν δ U hU h00 h1 h2 hp => ?_⟩, ?_⟩
    · simp only [putsν, Act.put, List.setIfInBounds_toArray, List.set_cons_zero, List.set_cons_succ]
      have e0 := (hp 0 (by kernel_rfl) (by kernel_rfl)).val _ rfl
      simp only [e0]
      dsimp only at hU
      exact Yld.value (.int .u8 (n0 : Int)) U (by kernel_rfl) (by go_simp) ⟨grown_refl _ _, hU, Fx.fixed rfl rfl⟩
    refine ⟨⟨_, rfl, fun ν δ U hU h00 h1 h2 hp => ?_⟩, ?_⟩
    · simp only [putsν, Act.put, List.setIfInBounds_toArray, List.set_cons_zero, List.set_cons_succ]
      have e1 := (hp 1 (by kernel_rfl) (by kernel_rfl)).val _ rfl
      simp only [e1]
      dsimp only at hU
      exact Yld.value (.int .i64 (n0 : Int)) U (by kernel_rfl) (by go_simp) ⟨grown_refl _ _, hU, Fx.fixed rfl rfl⟩
    refine ⟨⟨_, rfl, fun ν δ U hU h00 h1 h2 hp => ?_⟩, ?_⟩
    · simp only [putsν, Act.put, List.setIfInBounds_toArray, List.set_cons_zero, List.set_cons_succ]
      dsimp only at hU
      refine Yld.call 69 #[.pointer (some ⟨cb, 0, none⟩)] (by kernel_rfl) (by go_simp) ?_
      have hcall := HT1.out U cb (by have hc := hU.1; rw [h00, h1 0 (by kernel_rfl) (by kernel_rfl), h2 5 (by kernel_rfl) (by kernel_rfl), h2 7 (by kernel_rfl) (by kernel_rfl)] at hc; exact hc)
      refine hcall.mono ?_
      rintro e V ⟨rfl, hc, hg⟩; exact ⟨_, rfl, hg, ⟨by simpa [h2 5 (by kernel_rfl) (by kernel_rfl), h2 7 (by kernel_rfl) (by kernel_rfl)] using hc, far_cur hU.2 hg⟩, Fx.fixed rfl rfl⟩
    refine ⟨⟨_, rfl, fun ν δ U hU h00 h1 h2 hp => ?_⟩, ?_⟩
    · simp only [putsν, Act.put, List.setIfInBounds_toArray, List.set_cons_zero, List.set_cons_succ]
      have e3 := (hp 3 (by kernel_rfl) (by kernel_rfl)).val _ rfl
      simp only [e3]
      dsimp only at hU
      exact Yld.value (.int .i64 (Wa.i64 n1)) U (by kernel_rfl) (by go_simp) ⟨grown_refl _ _, hU, Fx.fixed rfl rfl⟩
    refine ⟨⟨_, rfl, fun ν δ U hU h00 h1 h2 hp => ?_⟩, ?_⟩
    · simp only [putsν, Act.put, List.setIfInBounds_toArray, List.set_cons_zero, List.set_cons_succ]
      dsimp only at hU
      refine Yld.call 69 #[.pointer (some ⟨cb, 0, none⟩)] (by kernel_rfl) (by go_simp) ?_
      have hcall := HT2.out U cb (by have hc := hU.1; rw [h00, h1 3 (by kernel_rfl) (by kernel_rfl), h2 7 (by kernel_rfl) (by kernel_rfl)] at hc; exact hc)
      refine hcall.mono ?_
      rintro e V ⟨rfl, hc, hg⟩; exact ⟨_, rfl, hg, ⟨by simpa [h2 7 (by kernel_rfl) (by kernel_rfl)] using hc, far_cur hU.2 hg⟩, Fx.fixed rfl rfl⟩
    refine ⟨⟨_, rfl, fun ν δ U hU h00 h1 h2 hp => ?_⟩, ?_⟩
    · simp only [putsν, Act.put, List.setIfInBounds_toArray, List.set_cons_zero, List.set_cons_succ]
      have e5 := (hp 5 (by kernel_rfl) (by kernel_rfl)).val _ rfl
      simp only [e5]
      dsimp only at hU
      exact Yld.value (.int .i64 (Wa.i64 n2)) U (by kernel_rfl) (by go_simp) ⟨grown_refl _ _, hU, Fx.fixed rfl rfl⟩
    refine ⟨⟨_, rfl, fun ν δ U hU h00 h1 h2 hp => ?_⟩, ?_⟩
    · simp only [putsν, Act.put, List.setIfInBounds_toArray, List.set_cons_zero, List.set_cons_succ]
      dsimp only at hU
      refine Yld.call 69 #[.pointer (some ⟨cb, 0, none⟩)] (by kernel_rfl) (by go_simp) ?_
      have hcall := HT3.out U cb (by have hc := hU.1; rw [h00, h1 5 (by kernel_rfl) (by kernel_rfl)] at hc; exact hc)
      refine hcall.mono ?_
      rintro e V ⟨rfl, hc, hg⟩; exact ⟨_, rfl, hg, ⟨hc, far_cur hU.2 hg⟩, Fx.fixed rfl rfl⟩
    refine ⟨⟨_, rfl, fun ν δ U hU h00 h1 h2 hp => ?_⟩, ?_⟩
    · simp only [putsν, Act.put, List.setIfInBounds_toArray, List.set_cons_zero, List.set_cons_succ]
      have e2 := (hp 2 (by kernel_rfl) (by kernel_rfl)).val _ rfl
      have e4 := (hp 4 (by kernel_rfl) (by kernel_rfl)).val _ rfl
      have e6 := (hp 6 (by kernel_rfl) (by kernel_rfl)).val _ rfl
      have e7 := (hp 7 (by kernel_rfl) (by kernel_rfl)).val _ rfl
      simp only [e2, e4, e6, e7]
      dsimp only at hU
      exact Yld.value (.agg #[.int .i64 (n0 : Int), .slice none 0 0, .int .i64 (Wa.i64 n1), .int .i64 (Wa.i64 n2), .int .u64 (n3 : Int)]) U (by kernel_rfl) (by go_simp) ⟨grown_refl _ _, hU, Fx.fixed rfl rfl⟩
    refine ⟨⟨_, rfl, fun ν δ U hU h00 h1 h2 hp => ?_⟩, ?_⟩
    · simp only [putsν, Act.put, List.setIfInBounds_toArray, List.set_cons_zero, List.set_cons_succ]
      dsimp only at hU
      exact Yld.value (.pointer (some ⟨U.heap.size, 0, none⟩)) (U.alloc (.cells #[.int .i64 0, .slice none 0 0, .int .i64 0, .int .i64 0, .int .u64 0] 52)) (by kernel_rfl) (by go_simp) ⟨World.grownBy_alloc _ _ _, ⟨heap_keep hU.1 ((Below.refl _ _).alloc (Nat.le_refl _) _), far_cur hU.2 (cb := cb) (World.grownBy_alloc _ _ _)⟩, Fx.some_ rfl rfl ⟨_, rfl, heap_alloc_new U _, (Array.getElem?_eq_some_iff.1 hU.1).1⟩⟩
    trivial
  intro ν δ w5 hS5 hd hf
  have e0 := (hf 0 (by kernel_rfl)).val _ rfl
  have e1 := (hf 1 (by kernel_rfl)).val _ rfl
  have e2 := (hf 2 (by kernel_rfl)).val _ rfl
  have e3 := (hf 3 (by kernel_rfl)).val _ rfl
  have e4 := (hf 4 (by kernel_rfl)).val _ rfl
  have e5 := (hf 5 (by kernel_rfl)).val _ rfl
  have e6 := (hf 6 (by kernel_rfl)).val _ rfl
  have e7 := (hf 7 (by kernel_rfl)).val _ rfl
  have e8 := (hf 8 (by kernel_rfl)).val _ rfl
  have c9 := (hf 9 (by kernel_rfl)).is _ rfl
  simp only [putsν, Act.put, List.setIfInBounds_toArray, List.set_cons_zero, List.set_cons_succ, e0, e1, e2, e3, e4, e5, e6, e7, e8]
  clear hf e0 e1 e2 e3 e4 e5 e6 e7 e8
  obtain ⟨rb, hr5, hrb, hrl⟩ := c9
  have hS6 := hS5.1
  rw [hd 7 (by kernel_rfl)] at hS6
  simp only [hr5]
  have hF := hS5.2
  have x0 := cell_of_row _ _ 0 _ _ _ hrb; have x1 := cell_of_row _ _ 1 _ _ _ hrb; have x2 := cell_of_row _ _ 2 _ _ _ hrb; have x3 := cell_of_row _ _ 3 _ _ _ hrb; have x4 := cell_of_row _ _ 4 _ _ _ hrb
  have f0 := frozen_of_row _ _ 0 _ _ hrb; have f1 := frozen_of_row _ _ 1 _ _ hrb; have f2 := frozen_of_row _ _ 2 _ _ hrb; have f3 := frozen_of_row _ _ 3 _ _ hrb; have f4 := frozen_of_row _ _ 4 _ _ hrb
  simp only [List.getElem?_toArray, List.getElem?_cons_zero, List.getElem?_cons_succ] at x0 x1 x2 x3 x4
  clear hd hS5 hr5
  refine wpAnyT_one (i := 10) (by kernel_rfl) rfl (by kernel_rfl) ?_
  intro K hK
  unfold Oper.wp
  go_simp
  obtain ⟨hr6, hg6⟩ := store5 hrb (.int .i64 (n0 : Int)) (.slice none 0 0) (.int .i64 (Wa.i64 n1)) (.int .i64 (Wa.i64 n2)) (.int .u64 (n3 : Int))
  obtain ⟨w6, hw6⟩ : ∃ w6, w6 = ((((w5.setCell ⟨rb, 0, none⟩ (.int .i64 (n0 : Int))).setCell ⟨rb, 1, none⟩ (.slice none 0 0)).setCell ⟨rb, 2, none⟩ (.int .i64 (Wa.i64 n1))).setCell ⟨rb, 3, none⟩ (.int .i64 (Wa.i64 n2))).setCell ⟨rb, 4, none⟩ (.int .u64 (n3 : Int)) := ⟨_, rfl⟩
  rw [← hw6] at hr6 hg6 ⊢
  refine hK _ _ (fun _ => trivial) ?_
  clear hK K
  refine wpAnyT_done (by kernel_rfl) ?_ _
  refine only_mk ?_
  have hc6 := grown_keep hS6 hg6 (by omega)
  have hF6 : FarCur w ob cb w6 := ⟨hF.bel.grown hg6 (by have := hF.bel.size; have := hF.at_; omega) (fun r e => by obtain rfl : rb = r := Option.some.inj e; have := hF.next; omega), grown_keep hF.res hg6 (by have := hF.next; omega), hF.at_, hF.next⟩
  have HR6 : Hid (RFix w ob cb rb n0 (Wa.i64 n1) (Wa.i64 n2) n3 ([], ⟨s4, false⟩) (.slice none 0 0) w6) := Lib.hid ⟨hF6, hc6, hr6, hrl, World.ownsRow_nil _ _ _ _⟩
  clear hw6 hr6 hg6 hc6 hF6 x0 x1 x2 x3 x4 f0 f1 f2 f3 f4 hF hS6 hrb HS1 HT0 HT1 HT2 HT3 h00 g0 g1 g2
  go_wp2_with fail
  refine (HT4.out _ _ HR6.out.cur).mono ?_; rintro e w7 ⟨rfl, hc7, hg7⟩
  have HR7 : Hid (RFix w ob cb rb n0 (Wa.i64 n1) (Wa.i64 n2) n3 (lb 0 ⟨s5, false⟩) (.slice none 0 0) w7) := Lib.hid (by
    rw [HL0.out]
    exact HR6.out.cur_ (c := ⟨s5, false⟩) hc7 hg7)
  clear hc7 hg7
  go_wp2_with fail
  go_loopw [7, 8, 23] (fun _ _ i23 U => ∃ (i : Nat) (v : Value), i ≤ 6 ∧ i23 = .int .i64 (i : Int) ∧ RFix w ob cb rb n0 (Wa.i64 n1) (Wa.i64 n2) n3 (lb i ⟨s5, false⟩) v U) (fun _ _ i23 _ => 6 - (intOf i23).toNat)
  case atStart => exact ⟨0, _, by omega, rfl, HR7.out⟩
  case round =>
    obtain ⟨i, v, hi6, rfl, hr⟩ := hrel
    have HR := Lib.hid hr
    have hlm := HLM.out i
    have hls := HLS.out i ⟨s5, false⟩
    clear hr
    have i0 : (0 : Int) ≤ (i : Int) := Int.natCast_nonneg _
    obtain ⟨A, c, rfl, -, -, hrow⟩ := own_lab HR.out.own
    by_cases hi : i < 6
    · have i1 : (i : Int) < 6 := by omega
      have d1 : decide ((i : Int) < 6) = true := decide_eq_true i1
      generalize lb i ⟨s5, false⟩ = x at *
      obtain ⟨L, c0⟩ := x
      simp only at hlm hls
      have HL9 : Hid (L.length ≤ 1000) := Lib.hid (by omega)
      have HK1 := Lib.hid (fun W hW => cuFixed12 cb c0 (by unfold maxLen; omega) W hW)
      have a1 : (c0.fixed 12).2.s.size ≤ c0.s.size := Wa.go_size _ _ _ _ _
      have HK2 := Lib.hid (fun W hW => cuFixed12 cb (c0.fixed 12).2 (by unfold maxLen; omega) W hW)
      generalize c0.fixed 12 = p1 at *
      obtain ⟨t1, c1⟩ := p1
      simp only at a1 hls HK1 HK2
      generalize c1.fixed 12 = p2 at *
      obtain ⟨t2, c2⟩ := p2
      simp only at hls HK2
      have HLS2 := Lib.hid hls
      clear hls hlm a1 hi6
      go_wp2_with fail
      refine (HK1.out _ HR.out.cur).mono ?_; rintro e w8 ⟨rfl, hc8, hg8⟩
      have HR8 := Lib.hid (HR.out.cur_ hc8 hg8)
      clear hc8 hg8
      go_wp2_with fail
      refine (HK2.out _ HR8.out.cur).mono ?_; rintro e w9 ⟨rfl, hc9, hg9⟩
      have HR9 := Lib.hid (HR8.out.cur_ hc9 hg9)
      clear hc9 hg9
      by_cases hin : i < n5
      · rw [if_pos hin] at HLS2
        have i2 : (i : Int) < (n5 : Int) := by omega
        have d2 : decide ((i : Int) < (n5 : Int)) = true := decide_eq_true i2
        have d3 : decide (i < n5) = true := decide_eq_true hin
        have hba := (Below.refl w9.heap.size w9).alloc (Nat.le_refl _) (.cells #[.string t1, .string t2] 54)
        have HR10 := Lib.hid (HR9.out.later hba)
        obtain ⟨w10, hw10⟩ : ∃ w10, w10 = w9.alloc (.cells #[.string t1, .string t2] 54) := ⟨_, rfl⟩
        have hz : w10.heap[w9.heap.size]? = some (.cells #[.string t1, .string t2] 54 (0, 0)) := by rw [hw10]; exact heap_alloc_new w9 _
        rw [← hw10] at HR10
        have hx := HR10.out.rec_
        have x1 := cell_of_row _ _ 1 _ _ _ hx
        have y0 := cell_of_row _ _ 0 _ _ _ hz; have y1 := cell_of_row _ _ 1 _ _ _ hz
        simp only [List.getElem?_toArray, List.getElem?_cons_zero, List.getElem?_cons_succ] at x1 y0 y1
        clear hba hx
        go_upto_region 8 with fail
        rw [← hw10]
        clear hw10
        have hba2 := (Below.refl w10.heap.size w10).alloc (Nat.le_refl _) (.cells #[.string t1, .string t2] 54)
        have HR11 := Lib.hid (HR10.out.later hba2)
        have hrow2 : Row 2 (fun _ j => if j = 0 then .string t1 else .string t2) (w10.alloc (.cells #[.string t1, .string t2] 54)) (some ⟨w10.heap.size, 0, none⟩) 1 := row_built 2 _ w10 _ _ (fun j hj => by
          rcases (show j = 0 ∨ j = 1 by omega) with rfl | rfl <;> rfl)
        have HROW := Lib.hid hrow2
        have hbz : ob ≤ (w10.alloc (.cells #[.string t1, .string t2] 54)).heap.size := by have h1 := HR11.out.far.bel.size; have h2 := HR11.out.far.at_; omega
        have HBZ := Lib.hid hbz
        have hcell := cell_of_row _ _ 1 _ _ _ HR11.out.rec_
        have HX11 : Hid (∀ v5 w5, w5.ownsRow ob 54 2 v5 (L.length + 1) (labCells L ++ [.string t1, .string t2]) → (w10.alloc (.cells #[.string t1, .string t2] 54)).grownBy w5 (Value.slice A L.length c).ownBlock → ∃ A5 c5, v5 = .slice A5 (L.length + 1) c5 ∧ w5.cell? ⟨rb, 1, none⟩ = some (.slice A L.length c) ∧ w5.frozen? ⟨rb, 1, none⟩ = false ∧ RFix w ob cb rb n0 (Wa.i64 n1) (Wa.i64 n2) n3 (L ++ [(t1, t2)], c2) (.slice A5 (L.length + 1) c5) (w5.setCell ⟨rb, 1, none⟩ (.slice A5 (L.length + 1) c5))) := Lib.hid (fun v5 w5 ho hg => by
          have hm := HR11.out.more (t1, t2) ho hg
          have hx5 := (hg.block rb (Array.getElem?_eq_some_iff.1 HR11.out.rec_).1 (fun e => block_other HR11.out.own HR11.out.rec_ (by decide) e.symm)).trans HR11.out.rec_
          have el : (L ++ [(t1, t2)]).length = L.length + 1 := by simp
          have ho2 := ho
          rw [labCells_snoc L (t1, t2), ← el] at ho2
          obtain ⟨A5, c5, e, -⟩ := own_lab ho2
          rw [el] at e
          subst e
          exact ⟨A5, c5, rfl, cell_of_row _ _ _ _ _ _ hx5, frozen_of_row _ _ _ _ _ hx5, hm⟩)
        clear hba2 hrow2 hbz hcell
        go_wp2_with (at_builtin; go_must (refine wpList_append_row _ rfl _ _ 49 54 rfl 2 32 (.agg #[.string ByteArray.empty, .string ByteArray.empty]) Try.underlying49 infoLab rfl (by decide) (by decide) ob _ L.length (labCells L) rfl HR11.out.own (some ⟨w10.heap.size, 0, none⟩) 1 1 (fun _ j => if j = 0 then .string t1 else .string t2) (by intro _ j; split <;> rfl) rfl HROW.out (fun e => by cases e) (by have := HL9.out; omega) HBZ.out ?_); intro v5 w5 hown5 hg5 _; obtain ⟨A5, c5, rfl, z0, z1, hfin⟩ := HX11.out v5 w5 hown5 hg5; have HFIN := Lib.hid hfin; clear hown5 hg5 hfin)
        go_roundw
        case rel => exact ⟨i + 1, _, by omega, by go_num, by rw [HLS2.out]; exact HFIN.out⟩
        case measure => simp [intOf]; omega
      · rw [if_neg hin] at HLS2
        have d2 : decide ((i : Int) < (n5 : Int)) = false := decide_eq_false (by omega)
        have d3 : decide (i < n5) = false := decide_eq_false hin
        have hba := (Below.refl w9.heap.size w9).alloc (Nat.le_refl _) (.cells #[.string t1, .string t2] 54)
        have HR10 := Lib.hid (HR9.out.later hba)
        clear hba
        go_wp2_with fail
        go_roundw
        case rel => exact ⟨i + 1, _, by omega, by go_num, by rw [HLS2.out]; exact HR10.out⟩
        case measure => simp [intOf]; omega
    · obtain rfl : i = 6 := by omega
      have d1 : decide (((6 : Nat) : Int) < 6) = false := by decide
      clear hi hls hrow hlm
      obtain ⟨L, cs0, bad, hL⟩ : ∃ L cs0 bad, lb 6 ⟨s5, false⟩ = (L, ⟨cs0, bad⟩) := ⟨_, _, _, rfl⟩
      have HL6 := Lib.hid hL
      rw [hL] at HR
      clear hL
      have hx := HR.out.rec_
      have x0 := cell_of_row _ _ 0 _ _ _ hx; have x1 := cell_of_row _ _ 1 _ _ _ hx; have x2 := cell_of_row _ _ 2 _ _ _ hx; have x3 := cell_of_row _ _ 3 _ _ _ hx; have x4 := cell_of_row _ _ 4 _ _ _ hx
      simp only [List.getElem?_toArray, List.getElem?_cons_zero, List.getElem?_cons_succ] at x0 x1 x2 x3 x4
      obtain ⟨-, y1, -, -⟩ := HR.out.cur.cells
      have ho := HR.out.far.res
      have z0 := cell_of_row _ _ 0 _ _ _ ho; have z1 := cell_of_row _ _ 1 _ _ _ ho; have z2 := cell_of_row _ _ 2 _ _ _ ho; have z3 := cell_of_row _ _ 3 _ _ _ ho; have z4 := cell_of_row _ _ 4 _ _ _ ho
      have f0 := frozen_of_row _ _ 0 _ _ ho; have f1 := frozen_of_row _ _ 1 _ _ ho; have f2 := frozen_of_row _ _ 2 _ _ ho; have f3 := frozen_of_row _ _ 3 _ _ ho; have f4 := frozen_of_row _ _ 4 _ _ ho
      simp only [List.getElem?_toArray, List.getElem?_cons_zero, List.getElem?_cons_succ] at z0 z1 z2 z3 z4
      clear hx ho hi6
      obtain ⟨s1', s2'⟩ := store5 HR.out.far.res (.int .i64 (n0 : Int)) (.slice A L.length c) (.int .i64 (Wa.i64 n1)) (.int .i64 (Wa.i64 n2)) (.int .u64 (n3 : Int))
      obtain ⟨wz, hwz⟩ : ∃ wz, wz = ((((wr.setCell ⟨ob, 0, none⟩ (.int .i64 (n0 : Int))).setCell ⟨ob, 1, none⟩ (.slice A L.length c)).setCell ⟨ob, 2, none⟩ (.int .i64 (Wa.i64 n1))).setCell ⟨ob, 3, none⟩ (.int .i64 (Wa.i64 n2))).setCell ⟨ob, 4, none⟩ (.int .u64 (n3 : Int)) := ⟨_, rfl⟩
      have HFIN : Hid (wz.heap[ob]? = some (.cells #[.int .i64 (n0 : Int), .slice A L.length c, .int .i64 (Wa.i64 n1), .int .i64 (Wa.i64 n2), .int .u64 (n3 : Int)] 52 (0, 0)) ∧ LabOwn wz w.heap.size L A c ∧ Below w.heap.size w wz) := Lib.hid (by
        rw [← hwz] at s1' s2'
        refine ⟨s1', ?_, ?_⟩
        · have hro := row_kept HR.out.own s2' (own_lt HR.out.own HR.out.far.res (by decide))
          obtain ⟨A2, c2, e, -, -, hr⟩ := own_lab hro
          cases e
          exact ⟨hr, by rw [HR.out.far.at_]; exact hro⟩
        · have h3 := HR.out.far.bel
          have h4 := HR.out.far.at_
          have h5 := h3.grown s2' (by have := h3.size; omega) (fun r e => by obtain rfl : ob = r := Option.some.inj e; exact Nat.le_refl _)
          rw [h4]; exact h5)
      have HWZ := Lib.hid hwz
      clear s1' s2' hwz
      cases bad
      · by_cases h6 : n5 ≤ 6
        · have d6 : decide ((n5 : Int) ≤ 6) = true := decide_eq_true (by omega)
          have d7 : decide (n5 ≤ 6) = true := decide_eq_true h6
          have HRR : Hid (R = ((⟨(n0 : Int), L, Wa.i64 n1, Wa.i64 n2, n3⟩ : Wa.Rec), true)) := Lib.hid (by rw [HRE.out, HL6.out, d7]; rfl)
          go_wp2_with fail
          rw [← HWZ.out]
          refine bodyPost_ret (v := .tuple #[.agg #[.int .i64 (n0 : Int), .slice A L.length c, .int .i64 (Wa.i64 n1), .int .i64 (Wa.i64 n2), .int .u64 (n3 : Int)], .bool true]) ?_ rfl ⟨A, c, by rw [HRR.out]; rfl, by rw [HRR.out]; exact HFIN.out.2.1, HFIN.out.2.2⟩
          exact results_cell_tmp (p := 2) (t := 3) rfl _ _ ob 52 _ (0, 0) _ rfl HFIN.out.1 Try.underlying52 rfl rec_size
        · have d6 : decide ((n5 : Int) ≤ 6) = false := decide_eq_false (by omega)
          have d7 : decide (n5 ≤ 6) = false := decide_eq_false h6
          have HRR : Hid (R = ((⟨(n0 : Int), L, Wa.i64 n1, Wa.i64 n2, n3⟩ : Wa.Rec), false)) := Lib.hid (by rw [HRE.out, HL6.out, d7]; rfl)
          go_wp2_with fail
          rw [← HWZ.out]
          refine bodyPost_ret (v := .tuple #[.agg #[.int .i64 (n0 : Int), .slice A L.length c, .int .i64 (Wa.i64 n1), .int .i64 (Wa.i64 n2), .int .u64 (n3 : Int)], .bool false]) ?_ rfl ⟨A, c, by rw [HRR.out]; rfl, by rw [HRR.out]; exact HFIN.out.2.1, HFIN.out.2.2⟩
          exact results_cell_tmp (p := 2) (t := 3) rfl _ _ ob 52 _ (0, 0) _ rfl HFIN.out.1 Try.underlying52 rfl rec_size
      · have HRR : Hid (R = ((⟨(n0 : Int), L, Wa.i64 n1, Wa.i64 n2, n3⟩ : Wa.Rec), false)) := Lib.hid (by rw [HRE.out, HL6.out]; rfl)
        go_wp2_with fail
        rw [← HWZ.out]
        refine bodyPost_ret (v := .tuple #[.agg #[.int .i64 (n0 : Int), .slice A L.length c, .int .i64 (Wa.i64 n1), .int .i64 (Wa.i64 n2), .int .u64 (n3 : Int)], .bool false]) ?_ rfl ⟨A, c, by rw [HRR.out]; rfl, by rw [HRR.out]; exact HFIN.out.2.1, HFIN.out.2.2⟩
        exact results_cell_tmp (p := 2) (t := 3) rfl _ _ ob 52 _ (0, 0) _ rfl HFIN.out.1 Try.underlying52 rfl rec_size
end Go.Proofs.Ytaillfnmaiiapaa
