/-
  A change as a record of generation 1: the walk.
-/
import Derived.Test.YtaillfnmaiiapaaWaD
import Derived.Test.YtaillfnmaiiapaaRob
import Derived.Laws.CopyRow
import Derived.Laws.CopyOwn
namespace Go.Proofs.Ytaillfnmaiiapaa
open Go.RowKit
theorem byte_back (w : World) (b : Nat) (g : Int) (hc : w.heap[b]? = some (.cells #[.int .u8 (g % 256)] 5 (0, 0))) :
    (convert 55 9 (.slice (some ⟨b, 0, none⟩) 1 1)).run Try.prog w = .ok (.string (Wa.byte g)) w :=
  run_convert_bytes_arg (P := Try.prog) w 55 5 Try.underlying55 Try.underlying5 b 0 1 1 [g % 256] rfl (fun i hi => by
    rw [Nat.zero_add, cell_of_row w b i _ _ _ hc]
    match i, hi with
    | 0, _ => rfl) 9 Try.underlying9
theorem infoLab : (Try.prog.info? 54).map (fun i => (i.zero, i.size, i.bytes)) = some (some (.agg #[.string ByteArray.empty, .string ByteArray.empty]), 2, 32) := by kernel_rfl
/-- copy of elements of k cells into a block of the call's own -/
theorem run_copy_rowk {P : Program} (w : World) (dT sT ty elem : TypeId) (k g o dLen dCap : Nat) (ad : Addr) (sLen sCap : Nat) (cur : Array Value) (t : TypeId) (cs : List Value)
    (hu : P.underlying dT = some (.slice elem)) (hs : (P.info? elem).map (·.size) = some k)
    (hg : w.heap[g]? = some (.cells cur t (0, 0))) (hn : cs.length = Nat.min sLen dLen * k)
    (hsrc : ∀ j v, cs[j]? = some v → w.cell? (ad.add j) = some v) (hfit : o + cs.length ≤ cur.size) (h1 : ∀ v ∈ cs, v.oneCell' = true) :
    (Builtin.copy_ #[dT, sT] ty #[.slice (some ⟨g, o, none⟩) dLen dCap, .slice (some ad) sLen sCap]).run P w =
      .ok (goInt (Nat.min sLen dLen)) (w.setRow g (cur.toList.take o ++ cs ++ cur.toList.drop (o + cs.length)).toArray) := by
  have hl := run_loadCells_list (P := P) w ad cs hsrc
  have hst := run_storeCells_at P g o t cs 0 cur w hg (by simpa using hfit) h1
  cases hq : P.info? elem with
  | none => simp [hq] at hs
  | some i =>
    have hi : i.size = k := by simpa [hq] using hs
    simp [Builtin.copy_, run_underlying hu, Builtin.lenOf, Builtin.firstCells, sizeOf, typeInfo, hq, hi, ← hn, hl, hst]
theorem run_copy_nilk {P : Program} (w : World) (dT sT ty elem : TypeId) (ad : Addr) (dLen dCap c : Nat) (hu : P.underlying dT = some (.slice elem)) (hs : ((P.info? elem).map (·.size)).isSome = true) :
    (Builtin.copy_ #[dT, sT] ty #[.slice (some ad) dLen dCap, .slice none 0 c]).run P w = .ok (goInt 0) w := by
  cases hq : P.info? elem with
  | none => simp [hq] at hs
  | some i => simp [Builtin.copy_, run_underlying hu, Builtin.lenOf, Builtin.firstCells, sizeOf, typeInfo, hq, storeCells]
/-- labels' cells -/
def lx (f : Nat → Lab) (i j : Nat) : Value := if j = 0 then .string (f i).1 else .string (f i).2
theorem lx_one (f : Nat → Lab) (i j : Nat) : (lx f i j).oneCell' = true := by unfold lx; split <;> rfl
theorem LabRow.of_row {w : World} {A : Option Addr} {n : Nat} {f : Nat → Lab} (h : Row 2 (lx f) w A n) : LabRow w A n f := fun hn => by
  obtain ⟨ad, e, hlt, hc⟩ := h hn
  exact ⟨ad, e, hlt, fun i hi => ⟨hc i hi 0 (by omega), hc i hi 1 (by omega)⟩⟩
theorem LabRow.row {w : World} {A : Option Addr} {n : Nat} {f : Nat → Lab} (h : LabRow w A n f) : Row 2 (lx f) w A n := fun hn => by
  obtain ⟨ad, e, hlt, hc⟩ := h hn
  refine ⟨ad, e, hlt, fun i hi j hj => ?_⟩
  match j, hj with
  | 0, _ => exact (hc i hi).1
  | 1, _ => exact (hc i hi).2
def noTexts : Array Value := #[.string ⟨#[]⟩, .string ⟨#[]⟩, .string ⟨#[]⟩, .string ⟨#[]⟩, .string ⟨#[]⟩, .string ⟨#[]⟩, .string ⟨#[]⟩, .string ⟨#[]⟩, .string ⟨#[]⟩, .string ⟨#[]⟩, .string ⟨#[]⟩, .string ⟨#[]⟩]
def sixLabs (f : Nat → Lab) : Array Value := #[.string (f 0).1, .string (f 0).2, .string (f 1).1, .string (f 1).2, .string (f 2).1, .string (f 2).2, .string (f 3).1, .string (f 3).2, .string (f 4).1, .string (f 4).2, .string (f 5).1, .string (f 5).2]
theorem six_cells (l : List Lab) (h : l.length ≤ 6) : (rcells 2 (lx (La.at_ l)) l.length ++ noTexts.toList.drop (l.length * 2)).toArray = sixLabs (La.at_ l) := by
  rcases l with _ | ⟨a, _ | ⟨b, _ | ⟨c, _ | ⟨d, _ | ⟨e, _ | ⟨f, _ | ⟨g, m⟩⟩⟩⟩⟩⟩⟩
  all_goals first | rfl | (simp at h; done) | (simp at h; omega)
set_option maxRecDepth 100000 in
theorem six_copy (W : World) (g : Nat) (A : Option Addr) (c : Nat) (l : List Lab) (hl : l.length ≤ 6) (hA : LabRow W A l.length (La.at_ l)) (hg : W.heap[g]? = some (.cells noTexts 128 (0, 0))) :
    (Builtin.copy_ #[49, 49] 3 #[.slice (some ⟨g, 0, none⟩) 6 6, .slice A l.length c]).run Try.prog W = .ok (goInt l.length) (W.setRow g (sixLabs (La.at_ l))) := by
  obtain ⟨i0, hi0, hz0, hz1, hz2⟩ := info_parts infoLab
  have hcells := six_cells l hl
  have hm : Nat.min l.length 6 = l.length := Nat.min_eq_left hl
  cases A with
  | none =>
    have h0 : l.length = 0 := by
      rcases Nat.eq_zero_or_pos l.length with h | h
      · exact h
      · obtain ⟨ad, e, -⟩ := hA h; cases e
    obtain rfl : l = [] := List.length_eq_zero_iff.1 h0
    have := run_copy_nilk (P := Try.prog) W 49 49 3 54 ⟨g, 0, none⟩ 6 6 c Try.underlying49 (by rw [hi0]; rfl)
    rw [show ([] : List Lab).length = 0 from rfl, this]
    have e : W.setRow g (sixLabs (La.at_ [])) = W := setRow_self W g _ _ _ hg
    rw [e]
    rfl
  | some ad =>
    have h := run_copy_rowk (P := Try.prog) W 49 49 3 54 2 g 0 6 6 ad l.length c noTexts 128 (rcells 2 (lx (La.at_ l)) l.length) Try.underlying49 (by rw [hi0]; simp [hz1]) hg (by rw [rcells_length, hm]) (hA.row.cells (by decide)) (by rw [rcells_length]; show 0 + l.length * 2 ≤ 12; omega) (rcells_one (lx_one _) _)
    rw [h, hm]
    congr 2
    rw [← hcells, rcells_length, List.take_zero, List.nil_append, Nat.zero_add]
theorem Wa.front_eq (r : Wa.Rec) : Wa.front r = Wa.byte r.kind ++ Num.wideB (Wa.u64 r.t) ++ Num.wideB (Wa.u64 r.hi) ++ Num.wideB r.v ++ Wa.byte r.l.length := rfl
theorem Wa.cells_succ (f : Nat → Lab) (i : Nat) : Wa.cells f (i + 1) = Wa.cells f i ++ (Num.fixedB (f i).1 12 ++ Num.fixedB (f i).2 12) := rfl
theorem Wa.at_few {l : List Lab} (h : ∀ i, i < l.length → (La.at_ l i).1.size ≤ 300 ∧ (La.at_ l i).2.size ≤ 300) (i : Nat) : (La.at_ l i).1.size ≤ 300 ∧ (La.at_ l i).2.size ≤ 300 := by
  by_cases hi : i < l.length
  · exact h i hi
  · have e : La.at_ l i = (ByteArray.empty, ByteArray.empty) := by
      unfold La.at_
      rw [List.getD_eq_getElem?_getD, List.getElem?_eq_none (by omega)]; rfl
    rw [e]; decide
theorem Wa.wrap_u64 (n : Int) : IntKind.u64.wrap n = ((Wa.u64 n : Nat) : Int) := by rw [IntKind.wrap_u64]; unfold Wa.u64; omega
theorem index_six (f : Nat → Lab) (i : Nat) (hi : i < 6) (U : World) : (Instr.index 128 (.agg (sixLabs f)) (.int .i64 (i : Int))).run Try.prog U = .ok (.agg #[.string (f i).1, .string (f i).2]) U := by
  rcases (show i = 0 ∨ i = 1 ∨ i = 2 ∨ i = 3 ∨ i = 4 ∨ i = 5 by omega) with rfl | rfl | rfl | rfl | rfl | rfl
  all_goals kernel_rfl
set_option maxRecDepth 100000 in
set_option maxHeartbeats 4000000 in
theorem fixed_any (r : Wa.Rec) (A : Option Addr) (c : Nat) (w : World) (h : RecIn w A r) (h6 : r.l.length ≤ 6) :
    Calls Try.prog 62 #[.agg (recC r A c)] w fun e w' => e = .returned (.string (Wa.fix r)) ∧ Below w.heap.size w w' := by
  have hfew := Wa.at_few h.small
  have hfix : Wa.fix r = (Wa.front r ++ Wa.cells (La.at_ r.l) 6) ++ Crc.four (Crc.ofB (Wa.front r ++ Wa.cells (La.at_ r.l) 6)) := rfl
  have hfront := Wa.front_eq r
  have hfz : (Wa.front r).size = 26 := by rw [hfront]; simp only [ByteArray.size_append, Wa.byte_size, Wa.wide_size]
  have hT := fun (s : ByteArray) (hs : s.size ≤ 1000) W => Tail_any s (by unfold maxLen; omega) W
  have hC : ∀ (g : Nat) (U : World), Below w.heap.size w U → U.heap[g]? = some (.cells noTexts 128 (0, 0)) → (Builtin.copy_ #[49, 49] 3 #[.slice (some ⟨g, 0, none⟩) 6 6, .slice A r.l.length c]).run Try.prog U = .ok (goInt r.l.length) (U.setRow g (sixLabs (La.at_ r.l))) := fun g U hU hg => six_copy U g A c r.l h6 (h.row.later hU) hg
  obtain ⟨kind, l, t, hi, v⟩ := r
  simp only at hC hfew h6
  have hb1 := Wa.byte_size kind
  have hb2 := Wa.byte_size (l.length : Int)
  have z1 := Wa.wide_size (Wa.u64 t); have z2 := Wa.wide_size (Wa.u64 hi); have z3 := Wa.wide_size v
  have HW1 := Lib.hid (fun W => Wide_any (Wa.u64 t) W); have HW2 := Lib.hid (fun W => Wide_any (Wa.u64 hi) W); have HW3 := Lib.hid (fun W => Wide_any v W)
  have HK := Lib.hid (fun W b hb => byte_back W b kind hb); have HL := Lib.hid (fun W b hb => byte_back W b (l.length : Int) hb)
  have u3 : IntKind.u8.wrap kind = kind % 256 := IntKind.wrap_u8 _
  have u4 : IntKind.u8.wrap (l.length : Int) = (l.length : Int) % 256 := IntKind.wrap_u8 _
  have u1 := Wa.wrap_u64 t; have u2 := Wa.wrap_u64 hi
  have HT := Lib.hid hT; have HC := Lib.hid hC; have HFX := Lib.hid hfix; have HFZ := Lib.hid hfz; have HFEW := Lib.hid hfew
  clear hT hC hfix hfz h hfew
  unfold recC
  simp only at hfront ⊢
  generalize Wa.byte kind = k1 at *
  generalize Wa.byte (l.length : Int) = k2 at *
  generalize Num.wideB (Wa.u64 t) = w1 at *
  generalize Num.wideB (Wa.u64 hi) = w2 at *
  generalize Num.wideB v = w3 at *
  have HFR := Lib.hid hfront
  clear hfront
  go_enter Try.func62, Try.ntmps62
  go_wp2_with fail
  obtain ⟨wa, hwa⟩ : ∃ wa, wa = w.alloc (.cells #[.int .i64 kind, .slice A l.length c, .int .i64 t, .int .i64 hi, .int .u64 (v : Int)] 52) := ⟨_, rfl⟩
  have hba : Below w.heap.size w wa := by rw [hwa]; exact (Below.refl _ _).alloc (Nat.le_refl _) _
  have hxa : wa.heap[w.heap.size]? = some (.cells #[.int .i64 kind, .slice A l.length c, .int .i64 t, .int .i64 hi, .int .u64 (v : Int)] 52 (0, 0)) := by rw [hwa]; exact heap_alloc_new w _
  rw [← hwa]
  obtain ⟨b0, hb0⟩ : ∃ b0, b0 = w.heap.size := ⟨_, rfl⟩
  rw [← hb0] at hxa ⊢
  have HBA := Lib.hid hba; have HXA := Lib.hid hxa; have HB0 := Lib.hid hb0
  clear hwa hba hxa hb0
  refine plain_robJ [(0, some 7), (1, some 8), (2, some 9), (3, some 10), (4, some 11), (5, some 12), (6, some 13), (7, some 14), (8, some 15), (9, some 16), (10, some 17), (11, some 18), (12, some 19), (13, some 20), (14, some 21), (15, some 22), (16, some 23), (17, some 24), (18, some 25), (19, some 26), (20, some 27), (21, some 28), (22, some 29), (23, some 30), (24, some 31), (25, some 32), (26, some 3)] [] (fun U V => Below U.heap.size U V) (fun U => Below w.heap.size w U ∧ U.heap[b0]? = some (.cells #[.int .i64 kind, .slice A l.length c, .int .i64 t, .int .i64 hi, .int .u64 (v : Int)] 52 (0, 0))) [(0, .pointer (some ⟨b0, 0, none⟩)), (1, .int .i64 kind), (2, .int .u8 (kind % 256)), (4, .string k1), (5, .pointer (some ⟨b0, 2, none⟩)), (6, .int .i64 t), (7, .int .u64 ((Wa.u64 t : Nat) : Int)), (8, .string w1), (9, .string (k1 ++ w1)), (10, .pointer (some ⟨b0, 3, none⟩)), (11, .int .i64 hi), (12, .int .u64 ((Wa.u64 hi : Nat) : Int)), (13, .string w2), (14, .string (k1 ++ w1 ++ w2)), (15, .pointer (some ⟨b0, 4, none⟩)), (16, .int .u64 (v : Int)), (17, .string w3), (18, .string (k1 ++ w1 ++ w2 ++ w3)), (19, .pointer (some ⟨b0, 1, none⟩)), (20, .slice A l.length c), (21, .int .i64 (l.length : Int)), (22, .int .u8 ((l.length : Int) % 256)), (24, .string k2), (25, .string (k1 ++ w1 ++ w2 ++ w3 ++ k2)), (26, .string (k1 ++ w1 ++ w2 ++ w3 ++ k2))] [(3, (fun x W => ∃ b, x = .slice (some ⟨b, 0, none⟩) 1 1 ∧ W.heap[b]? = some (.cells #[.int .u8 (kind % 256)] 5 (0, 0)) : Value → World → Prop)), (23, (fun x W => ∃ b, x = .slice (some ⟨b, 0, none⟩) 1 1 ∧ W.heap[b]? = some (.cells #[.int .u8 ((l.length : Int) % 256)] 5 (0, 0)) : Value → World → Prop))] 0 (by kernel_rfl) (by kernel_rfl) (by kernel_rfl) (⟨HBA.out.drew, HXA.out⟩) (fun U V h hb => ⟨h.1.trans (hb.mono h.1.size), heap_keep h.2 hb⟩) ?_ ?_ ?_
  · intro p hp
    simp only [List.mem_cons, List.not_mem_nil, or_false] at hp
    rcases hp with rfl | rfl
    · exact fun x U V h hb => by obtain ⟨b, e, hc⟩ := h; exact ⟨b, e, heap_keep hc hb⟩
    · exact fun x U V h hb => by obtain ⟨b, e, hc⟩ := h; exact ⟨b, e, heap_keep hc hb⟩
  · refine ⟨⟨_, rfl, fun ν U hU hp => ?_⟩, ?_⟩
    · simp only [putsν, Act.put, List.setIfInBounds_toArray, List.set_cons_zero, List.set_cons_succ]
      exact Yld.value (.pointer (some ⟨b0, 0, none⟩)) U (by kernel_rfl) (by go_simp) ⟨Below.refl _ _, Fx.fixed rfl rfl⟩
    refine ⟨⟨_, rfl, fun ν U hU hp => ?_⟩, ?_⟩
    · simp only [putsν, Act.put, List.setIfInBounds_toArray, List.set_cons_zero, List.set_cons_succ]
      have e0 := (hp 0 (by kernel_rfl) (by kernel_rfl)).val _ rfl
      simp only [e0]
      exact Yld.value (.int .i64 kind) U (by kernel_rfl) (by have h0 : U.cell? ⟨b0, 0, none⟩ = some (.int .i64 kind) := cell_of_row _ _ _ _ _ _ hU.2; go_simp) ⟨Below.refl _ _, Fx.fixed rfl rfl⟩
    refine ⟨⟨_, rfl, fun ν U hU hp => ?_⟩, ?_⟩
    · simp only [putsν, Act.put, List.setIfInBounds_toArray, List.set_cons_zero, List.set_cons_succ]
      have e1 := (hp 1 (by kernel_rfl) (by kernel_rfl)).val _ rfl
      simp only [e1]
      exact Yld.value (.int .u8 (kind % 256)) U (by kernel_rfl) (by go_simp) ⟨Below.refl _ _, Fx.fixed rfl rfl⟩
    refine ⟨⟨_, rfl, fun ν U hU hp => ?_⟩, ?_⟩
    · simp only [putsν, Act.put, List.setIfInBounds_toArray, List.set_cons_zero, List.set_cons_succ]
      have e2 := (hp 2 (by kernel_rfl) (by kernel_rfl)).val _ rfl
      simp only [e2]
      exact Yld.value (.slice (some ⟨U.heap.size, 0, none⟩) 1 1) _ (by kernel_rfl) (by go_simp) ⟨(Below.refl _ _).alloc (Nat.le_refl _) _, Fx.some_ rfl rfl ⟨_, rfl, heap_alloc_new U _⟩⟩
    refine ⟨⟨_, rfl, fun ν U hU hp => ?_⟩, ?_⟩
    · simp only [putsν, Act.put, List.setIfInBounds_toArray, List.set_cons_zero, List.set_cons_succ]
      have c3 := (hp 3 (by kernel_rfl) (by kernel_rfl)).is _ rfl
      exact Yld.value (.string k1) U (by kernel_rfl) (by obtain ⟨b, hb, hc⟩ := c3; have h0 := HK.out U b hc; simp only [hb]; go_simp) ⟨Below.refl _ _, Fx.fixed rfl rfl⟩
    refine ⟨⟨_, rfl, fun ν U hU hp => ?_⟩, ?_⟩
    · simp only [putsν, Act.put, List.setIfInBounds_toArray, List.set_cons_zero, List.set_cons_succ]
      exact Yld.value (.pointer (some ⟨b0, 2, none⟩)) U (by kernel_rfl) (by go_simp) ⟨Below.refl _ _, Fx.fixed rfl rfl⟩
    refine ⟨⟨_, rfl, fun ν U hU hp => ?_⟩, ?_⟩
    · simp only [putsν, Act.put, List.setIfInBounds_toArray, List.set_cons_zero, List.set_cons_succ]
      have e5 := (hp 5 (by kernel_rfl) (by kernel_rfl)).val _ rfl
      simp only [e5]
      exact Yld.value (.int .i64 t) U (by kernel_rfl) (by have h0 : U.cell? ⟨b0, 2, none⟩ = some (.int .i64 t) := cell_of_row _ _ _ _ _ _ hU.2; go_simp) ⟨Below.refl _ _, Fx.fixed rfl rfl⟩
    refine ⟨⟨_, rfl, fun ν U hU hp => ?_⟩, ?_⟩
    · simp only [putsν, Act.put, List.setIfInBounds_toArray, List.set_cons_zero, List.set_cons_succ]
      have e6 := (hp 6 (by kernel_rfl) (by kernel_rfl)).val _ rfl
      simp only [e6]
      exact Yld.value (.int .u64 ((Wa.u64 t : Nat) : Int)) U (by kernel_rfl) (by go_simp) ⟨Below.refl _ _, Fx.fixed rfl rfl⟩
    refine ⟨⟨_, rfl, fun ν U hU hp => ?_⟩, ?_⟩
    · simp only [putsν, Act.put, List.setIfInBounds_toArray, List.set_cons_zero, List.set_cons_succ]
      have e7 := (hp 7 (by kernel_rfl) (by kernel_rfl)).val _ rfl
      simp only [e7]
      refine Yld.call 66 #[.int .u64 ((Wa.u64 t : Nat) : Int)] (by kernel_rfl) (by go_simp) ?_
      have hcall := HW1.out U
      refine hcall.mono ?_
      rintro e V ⟨rfl, hb⟩; exact ⟨_, rfl, hb, Fx.fixed rfl rfl⟩
    refine ⟨⟨_, rfl, fun ν U hU hp => ?_⟩, ?_⟩
    · simp only [putsν, Act.put, List.setIfInBounds_toArray, List.set_cons_zero, List.set_cons_succ]
      have e4 := (hp 4 (by kernel_rfl) (by kernel_rfl)).val _ rfl
      have e8 := (hp 8 (by kernel_rfl) (by kernel_rfl)).val _ rfl
      simp only [e4, e8]
      exact Yld.value (.string (k1 ++ w1)) U (by kernel_rfl) (by go_simp) ⟨Below.refl _ _, Fx.fixed rfl rfl⟩
    refine ⟨⟨_, rfl, fun ν U hU hp => ?_⟩, ?_⟩
    · simp only [putsν, Act.put, List.setIfInBounds_toArray, List.set_cons_zero, List.set_cons_succ]
      exact Yld.value (.pointer (some ⟨b0, 3, none⟩)) U (by kernel_rfl) (by go_simp) ⟨Below.refl _ _, Fx.fixed rfl rfl⟩
    refine ⟨⟨_, rfl, fun ν U hU hp => ?_⟩, ?_⟩
    · simp only [putsν, Act.put, List.setIfInBounds_toArray, List.set_cons_zero, List.set_cons_succ]
      have e10 := (hp 10 (by kernel_rfl) (by kernel_rfl)).val _ rfl
      simp only [e10]
      exact Yld.value (.int .i64 hi) U (by kernel_rfl) (by have h0 : U.cell? ⟨b0, 3, none⟩ = some (.int .i64 hi) := cell_of_row _ _ _ _ _ _ hU.2; go_simp) ⟨Below.refl _ _, Fx.fixed rfl rfl⟩
    refine ⟨⟨_, rfl, fun ν U hU hp => ?_⟩, ?_⟩
    · simp only [putsν, Act.put, List.setIfInBounds_toArray, List.set_cons_zero, List.set_cons_succ]
      have e11 := (hp 11 (by kernel_rfl) (by kernel_rfl)).val _ rfl
      simp only [e11]
      exact Yld.value (.int .u64 ((Wa.u64 hi : Nat) : Int)) U (by kernel_rfl) (by go_simp) ⟨Below.refl _ _, Fx.fixed rfl rfl⟩
    refine ⟨⟨_, rfl, fun ν U hU hp => ?_⟩, ?_⟩
    · simp only [putsν, Act.put, List.setIfInBounds_toArray, List.set_cons_zero, List.set_cons_succ]
      have e12 := (hp 12 (by kernel_rfl) (by kernel_rfl)).val _ rfl
      simp only [e12]
      refine Yld.call 66 #[.int .u64 ((Wa.u64 hi : Nat) : Int)] (by kernel_rfl) (by go_simp) ?_
      have hcall := HW2.out U
      refine hcall.mono ?_
      rintro e V ⟨rfl, hb⟩; exact ⟨_, rfl, hb, Fx.fixed rfl rfl⟩
    refine ⟨⟨_, rfl, fun ν U hU hp => ?_⟩, ?_⟩
    · simp only [putsν, Act.put, List.setIfInBounds_toArray, List.set_cons_zero, List.set_cons_succ]
      have e9 := (hp 9 (by kernel_rfl) (by kernel_rfl)).val _ rfl
      have e13 := (hp 13 (by kernel_rfl) (by kernel_rfl)).val _ rfl
      simp only [e9, e13]
      exact Yld.value (.string (k1 ++ w1 ++ w2)) U (by kernel_rfl) (by go_simp) ⟨Below.refl _ _, Fx.fixed rfl rfl⟩
    refine ⟨⟨_, rfl, fun ν U hU hp => ?_⟩, ?_⟩
    · simp only [putsν, Act.put, List.setIfInBounds_toArray, List.set_cons_zero, List.set_cons_succ]
      exact Yld.value (.pointer (some ⟨b0, 4, none⟩)) U (by kernel_rfl) (by go_simp) ⟨Below.refl _ _, Fx.fixed rfl rfl⟩
    refine ⟨⟨_, rfl, fun ν U hU hp => ?_⟩, ?_⟩
    · simp only [putsν, Act.put, List.setIfInBounds_toArray, List.set_cons_zero, List.set_cons_succ]
      have e15 := (hp 15 (by kernel_rfl) (by kernel_rfl)).val _ rfl
      simp only [e15]
      exact Yld.value (.int .u64 (v : Int)) U (by kernel_rfl) (by have h0 : U.cell? ⟨b0, 4, none⟩ = some (.int .u64 (v : Int)) := cell_of_row _ _ _ _ _ _ hU.2; go_simp) ⟨Below.refl _ _, Fx.fixed rfl rfl⟩
    refine ⟨⟨_, rfl, fun ν U hU hp => ?_⟩, ?_⟩
    · simp only [putsν, Act.put, List.setIfInBounds_toArray, List.set_cons_zero, List.set_cons_succ]
      have e16 := (hp 16 (by kernel_rfl) (by kernel_rfl)).val _ rfl
      simp only [e16]
      refine Yld.call 66 #[.int .u64 (v : Int)] (by kernel_rfl) (by go_simp) ?_
      have hcall := HW3.out U
      refine hcall.mono ?_
      rintro e V ⟨rfl, hb⟩; exact ⟨_, rfl, hb, Fx.fixed rfl rfl⟩
    refine ⟨⟨_, rfl, fun ν U hU hp => ?_⟩, ?_⟩
    · simp only [putsν, Act.put, List.setIfInBounds_toArray, List.set_cons_zero, List.set_cons_succ]
      have e14 := (hp 14 (by kernel_rfl) (by kernel_rfl)).val _ rfl
      have e17 := (hp 17 (by kernel_rfl) (by kernel_rfl)).val _ rfl
      simp only [e14, e17]
      exact Yld.value (.string (k1 ++ w1 ++ w2 ++ w3)) U (by kernel_rfl) (by go_simp) ⟨Below.refl _ _, Fx.fixed rfl rfl⟩
    refine ⟨⟨_, rfl, fun ν U hU hp => ?_⟩, ?_⟩
    · simp only [putsν, Act.put, List.setIfInBounds_toArray, List.set_cons_zero, List.set_cons_succ]
      exact Yld.value (.pointer (some ⟨b0, 1, none⟩)) U (by kernel_rfl) (by go_simp) ⟨Below.refl _ _, Fx.fixed rfl rfl⟩
    refine ⟨⟨_, rfl, fun ν U hU hp => ?_⟩, ?_⟩
    · simp only [putsν, Act.put, List.setIfInBounds_toArray, List.set_cons_zero, List.set_cons_succ]
      have e19 := (hp 19 (by kernel_rfl) (by kernel_rfl)).val _ rfl
      simp only [e19]
      exact Yld.value (.slice A l.length c) U (by kernel_rfl) (by have h0 : U.cell? ⟨b0, 1, none⟩ = some (.slice A l.length c) := cell_of_row _ _ _ _ _ _ hU.2; go_simp) ⟨Below.refl _ _, Fx.fixed rfl rfl⟩
    refine ⟨⟨_, rfl, fun ν U hU hp => ?_⟩, ?_⟩
    · simp only [putsν, Act.put, List.setIfInBounds_toArray, List.set_cons_zero, List.set_cons_succ]
      have e20 := (hp 20 (by kernel_rfl) (by kernel_rfl)).val _ rfl
      simp only [e20]
      exact Yld.value (.int .i64 (l.length : Int)) U (by kernel_rfl) (by go_simp) ⟨Below.refl _ _, Fx.fixed rfl rfl⟩
    refine ⟨⟨_, rfl, fun ν U hU hp => ?_⟩, ?_⟩
    · simp only [putsν, Act.put, List.setIfInBounds_toArray, List.set_cons_zero, List.set_cons_succ]
      have e21 := (hp 21 (by kernel_rfl) (by kernel_rfl)).val _ rfl
      simp only [e21]
      exact Yld.value (.int .u8 ((l.length : Int) % 256)) U (by kernel_rfl) (by go_simp) ⟨Below.refl _ _, Fx.fixed rfl rfl⟩
    refine ⟨⟨_, rfl, fun ν U hU hp => ?_⟩, ?_⟩
    · simp only [putsν, Act.put, List.setIfInBounds_toArray, List.set_cons_zero, List.set_cons_succ]
      have e22 := (hp 22 (by kernel_rfl) (by kernel_rfl)).val _ rfl
      simp only [e22]
      exact Yld.value (.slice (some ⟨U.heap.size, 0, none⟩) 1 1) _ (by kernel_rfl) (by go_simp) ⟨(Below.refl _ _).alloc (Nat.le_refl _) _, Fx.some_ rfl rfl ⟨_, rfl, heap_alloc_new U _⟩⟩
    refine ⟨⟨_, rfl, fun ν U hU hp => ?_⟩, ?_⟩
    · simp only [putsν, Act.put, List.setIfInBounds_toArray, List.set_cons_zero, List.set_cons_succ]
      have c23 := (hp 23 (by kernel_rfl) (by kernel_rfl)).is _ rfl
      exact Yld.value (.string k2) U (by kernel_rfl) (by obtain ⟨b, hb, hc⟩ := c23; have h0 := HL.out U b hc; simp only [hb]; go_simp) ⟨Below.refl _ _, Fx.fixed rfl rfl⟩
    refine ⟨⟨_, rfl, fun ν U hU hp => ?_⟩, ?_⟩
    · simp only [putsν, Act.put, List.setIfInBounds_toArray, List.set_cons_zero, List.set_cons_succ]
      have e18 := (hp 18 (by kernel_rfl) (by kernel_rfl)).val _ rfl
      have e24 := (hp 24 (by kernel_rfl) (by kernel_rfl)).val _ rfl
      simp only [e18, e24]
      exact Yld.value (.string (k1 ++ w1 ++ w2 ++ w3 ++ k2)) U (by kernel_rfl) (by go_simp) ⟨Below.refl _ _, Fx.fixed rfl rfl⟩
    refine ⟨⟨_, rfl, fun ν U hU hp => ?_⟩, ?_⟩
    · simp only [putsν, Act.put, List.setIfInBounds_toArray, List.set_cons_zero, List.set_cons_succ]
      have e25 := (hp 25 (by kernel_rfl) (by kernel_rfl)).val _ rfl
      simp only [e25]
      exact Yld.value (.string (k1 ++ w1 ++ w2 ++ w3 ++ k2)) U (by kernel_rfl) (by go_simp) ⟨Below.refl _ _, Fx.fixed rfl rfl⟩
    trivial
  intro ν w2' hS2 hf
  have e0 := (hf 0 (by kernel_rfl)).val _ rfl
  have e1 := (hf 1 (by kernel_rfl)).val _ rfl
  have e2 := (hf 2 (by kernel_rfl)).val _ rfl
  have c3 := (hf 3 (by kernel_rfl)).is _ rfl
  have e4 := (hf 4 (by kernel_rfl)).val _ rfl
  have e5 := (hf 5 (by kernel_rfl)).val _ rfl
  have e6 := (hf 6 (by kernel_rfl)).val _ rfl
  have e7 := (hf 7 (by kernel_rfl)).val _ rfl
  have e8 := (hf 8 (by kernel_rfl)).val _ rfl
  have e9 := (hf 9 (by kernel_rfl)).val _ rfl
  have e10 := (hf 10 (by kernel_rfl)).val _ rfl
  have e11 := (hf 11 (by kernel_rfl)).val _ rfl
  have e12 := (hf 12 (by kernel_rfl)).val _ rfl
  have e13 := (hf 13 (by kernel_rfl)).val _ rfl
  have e14 := (hf 14 (by kernel_rfl)).val _ rfl
  have e15 := (hf 15 (by kernel_rfl)).val _ rfl
  have e16 := (hf 16 (by kernel_rfl)).val _ rfl
  have e17 := (hf 17 (by kernel_rfl)).val _ rfl
  have e18 := (hf 18 (by kernel_rfl)).val _ rfl
  have e19 := (hf 19 (by kernel_rfl)).val _ rfl
  have e20 := (hf 20 (by kernel_rfl)).val _ rfl
  have e21 := (hf 21 (by kernel_rfl)).val _ rfl
  have e22 := (hf 22 (by kernel_rfl)).val _ rfl
  have c23 := (hf 23 (by kernel_rfl)).is _ rfl
  have e24 := (hf 24 (by kernel_rfl)).val _ rfl
  have e25 := (hf 25 (by kernel_rfl)).val _ rfl
  have e26 := (hf 26 (by kernel_rfl)).val _ rfl
  simp only [putsν, Act.put, List.setIfInBounds_toArray, List.set_cons_zero, List.set_cons_succ, e0, e1, e2, e4, e5, e6, e7, e8, e9, e10, e11, e12, e13, e14, e15, e16, e17, e18, e19, e20, e21, e22, e24, e25, e26]
  clear hf e0 e1 e2 e4 e5 e6 e7 e8 e9 e10 e11 e12 e13 e14 e15 e16 e17 e18 e19 e20 e21 e22 e24 e25 e26
  refine wpAnyT_done (by kernel_rfl) ?_ _
  refine only_mk ?_
  rw [← HFR.out]
  have HZF := HFZ.out
  generalize Wa.front _ = fr at *
  clear hb1 hb2 z1 z2 z3 u1 u2 u3 u4 HK HL HW1 HW2 HW3 HFR
  go_wp2_with fail
  obtain ⟨wb, hwb⟩ : ∃ wb, wb = w2'.alloc (.cells noTexts 128) := ⟨_, rfl⟩
  have hbb : Below w2'.heap.size w2' wb := by rw [hwb]; exact (Below.refl _ _).alloc (Nat.le_refl _) _
  have hxb : wb.heap[w2'.heap.size]? = some (.cells noTexts 128 (0, 0)) := by rw [hwb]; exact heap_alloc_new w2' _
  unfold noTexts at hwb
  rw [← hwb]
  have HB3 := Lib.hid (And.intro (hS2.1.trans (hbb.mono hS2.1.size)) (heap_keep hS2.2 hbb))
  have HLO := Lib.hid hS2.1.size
  obtain ⟨pb, hpb⟩ : ∃ pb, pb = w2'.heap.size := ⟨_, rfl⟩
  rw [← hpb] at hxb HLO ⊢
  have HX3 := Lib.hid hxb
  clear hwb hbb hxb hS2 hpb c3 c23
  refine plain_robJ [(0, some 33), (1, some 34), (2, some 35)] [3] (fun U V => Below U.heap.size U V) (fun U => Below w.heap.size w U ∧ U.heap[b0]? = some (.cells #[.int .i64 kind, .slice A l.length c, .int .i64 t, .int .i64 hi, .int .u64 (v : Int)] 52 (0, 0)) ∧ U.heap[pb]? = some (.cells noTexts 128 (0, 0))) [(0, .slice (some ⟨pb, 0, none⟩) 6 6), (1, .pointer (some ⟨b0, 1, none⟩)), (2, .slice A l.length c)] [] 1 (by kernel_rfl) (by kernel_rfl) (by kernel_rfl) (⟨HB3.out.1.drew, HB3.out.2, HX3.out⟩) (fun U V h hb => ⟨h.1.trans (hb.mono h.1.size), heap_keep h.2.1 hb, heap_keep h.2.2 hb⟩) ?_ ?_ ?_
  · intro p hp; cases hp
  · refine ⟨⟨_, rfl, fun ν U hU hp => ?_⟩, ?_⟩
    · simp only [putsν, Act.put, List.setIfInBounds_toArray, List.set_cons_zero, List.set_cons_succ]
      exact Yld.value (.slice (some ⟨pb, 0, none⟩) 6 6) U (by kernel_rfl) (by go_simp) ⟨Below.refl _ _, Fx.fixed rfl rfl⟩
    refine ⟨⟨_, rfl, fun ν U hU hp => ?_⟩, ?_⟩
    · simp only [putsν, Act.put, List.setIfInBounds_toArray, List.set_cons_zero, List.set_cons_succ]
      exact Yld.value (.pointer (some ⟨b0, 1, none⟩)) U (by kernel_rfl) (by go_simp) ⟨Below.refl _ _, Fx.fixed rfl rfl⟩
    refine ⟨⟨_, rfl, fun ν U hU hp => ?_⟩, ?_⟩
    · simp only [putsν, Act.put, List.setIfInBounds_toArray, List.set_cons_zero, List.set_cons_succ]
      have e1 := (hp 1 (by kernel_rfl) (by kernel_rfl)).val _ rfl
      simp only [e1]
      exact Yld.value (.slice A l.length c) U (by kernel_rfl) (by have h0 : U.cell? ⟨b0, 1, none⟩ = some (.slice A l.length c) := cell_of_row _ _ _ _ _ _ hU.2.1; go_simp) ⟨Below.refl _ _, Fx.fixed rfl rfl⟩
    trivial
  intro ν w4 hS4 hf
  have e0 := (hf 0 (by kernel_rfl)).val _ rfl
  have e1 := (hf 1 (by kernel_rfl)).val _ rfl
  have e2 := (hf 2 (by kernel_rfl)).val _ rfl
  simp only [putsν, Act.put, List.setIfInBounds_toArray, List.set_cons_zero, List.set_cons_succ, e0, e1, e2]
  clear hf e0 e1 e2
  have hcp := HC.out pb w4 hS4.1 hS4.2.2
  refine wpAnyT_one (i := 3) (by kernel_rfl) rfl (by kernel_rfl) ?_
  intro K hK
  unfold Oper.wp
  go_simp
  have hrow := setRow_heap w4 pb noTexts (sixLabs (La.at_ l)) _ _ hS4.2.2
  have hgr := grown_setRow w4 pb (sixLabs (La.at_ l))
  have hne : b0 ≠ pb := by rintro rfl; have := hS4.2.1; rw [hS4.2.2] at this; cases this
  have HB5 : Hid (Below w.heap.size w (w4.setRow pb (sixLabs (La.at_ l)))) := Lib.hid (hS4.1.grown hgr hS4.1.size (fun r e => by obtain rfl : pb = r := Option.some.inj e; exact HLO.out))
  obtain ⟨w5, hw5⟩ : ∃ w5, w5 = w4.setRow pb (sixLabs (La.at_ l)) := ⟨_, rfl⟩
  rw [← hw5] at hrow HB5 ⊢
  refine hK _ _ (fun _ => trivial) ?_
  clear hK K
  refine wpAnyT_done (by kernel_rfl) ?_ _
  refine only_mk ?_
  clear hw5 hgr hne hcp hS4 HC HX3 HB3
  have a0 := cell_of_row _ _ 0 _ _ _ hrow; have a1 := cell_of_row _ _ 1 _ _ _ hrow; have a2 := cell_of_row _ _ 2 _ _ _ hrow; have a3 := cell_of_row _ _ 3 _ _ _ hrow; have a4 := cell_of_row _ _ 4 _ _ _ hrow; have a5 := cell_of_row _ _ 5 _ _ _ hrow
  have a6 := cell_of_row _ _ 6 _ _ _ hrow; have a7 := cell_of_row _ _ 7 _ _ _ hrow; have a8 := cell_of_row _ _ 8 _ _ _ hrow; have a9 := cell_of_row _ _ 9 _ _ _ hrow; have a10 := cell_of_row _ _ 10 _ _ _ hrow; have a11 := cell_of_row _ _ 11 _ _ _ hrow
  unfold sixLabs at a0 a1 a2 a3 a4 a5 a6 a7 a8 a9 a10 a11
  simp only [List.getElem?_toArray, List.getElem?_cons_zero, List.getElem?_cons_succ] at a0 a1 a2 a3 a4 a5 a6 a7 a8 a9 a10 a11
  have HCS := Lib.hid (Wa.cells_succ (La.at_ l)); have HCZ := Lib.hid (Wa.cells_size (La.at_ l))
  have HC0 : Hid (Wa.cells (La.at_ l) 0 = ByteArray.empty) := Lib.hid rfl
  generalize Wa.cells (La.at_ l) = ce at *
  have HIX := Lib.hid (index_six (La.at_ l))
  generalize La.at_ l = f at *
  clear hrow
  go_wp2_with fail
  clear a0 a1 a2 a3 a4 a5 a6 a7 a8 a9 a10 a11
  go_loopw [3, 38] (fun v3 v38 wr => ∃ i : Nat, i ≤ 6 ∧ v38 = .int .i64 (i : Int) ∧ v3 = .string (fr ++ ce i) ∧ Below w.heap.size w wr) (fun _ v38 _ => 6 - (intOf v38).toNat)
  case atStart => exact ⟨0, by omega, rfl, by rw [HC0.out, ByteArray.append_empty], HB5.out⟩
  case round =>
    obtain ⟨i, hi6, rfl, rfl, hbr⟩ := hrel
    have HBR := Lib.hid hbr
    clear hbr
    have hz : (ce i).size = 26 * i := HCZ.out i
    by_cases hi : i < 6
    · have hs := HCS.out i
      have hq1 := (HFEW.out i).1; have hq2 := (HFEW.out i).2
      have HF1 := Lib.hid (fun W => Fixed_any (f i).1 (by unfold maxLen; omega) 12 W); have HF2 := Lib.hid (fun W => Fixed_any (f i).2 (by unfold maxLen; omega) 12 W)
      rw [show Num.sz 12 = 12 from rfl] at HF1 HF2
      have y1 := Num.fixedB_size (f i).1 12; have y2 := Num.fixedB_size (f i).2 12
      obtain ⟨f1, hf1⟩ : ∃ f1, f1 = Num.fixedB (f i).1 12 := ⟨_, rfl⟩
      obtain ⟨f2, hf2⟩ : ∃ f2, f2 = Num.fixedB (f i).2 12 := ⟨_, rfl⟩
      rw [← hf1] at hs y1 HF1; rw [← hf2] at hs y2 HF2
      have HS := Lib.hid hs
      clear hs hf1 hf2 hq1 hq2
      have hix := HIX.out i hi wr
      unfold sixLabs at hix
      have i1 : (i : Int) < 6 := by omega
      have d1 : decide ((i : Int) < 6) = true := decide_eq_true i1
      clear hi
      go_wp2_with fail
      obtain ⟨wb, hwb⟩ : ∃ wb, wb = wr.alloc (.cells #[.string (f i).1, .string (f i).2] 54) := ⟨_, rfl⟩
      have hbb : Below wr.heap.size wr wb := by rw [hwb]; exact (Below.refl _ _).alloc (Nat.le_refl _) _
      have hxb : wb.heap[wr.heap.size]? = some (.cells #[.string (f i).1, .string (f i).2] 54 (0, 0)) := by rw [hwb]; exact heap_alloc_new wr _
      rw [← hwb]
      have HB6 := Lib.hid (below_step HBR.out hbb)
      obtain ⟨lb, hlb⟩ : ∃ lb, lb = wr.heap.size := ⟨_, rfl⟩
      rw [← hlb] at hxb ⊢
      have HX6 := Lib.hid hxb
      clear hwb hbb hxb hlb hix
      have n1 : ¬ 9223372036854775807 < f1.size + f2.size := by omega
      have n2 : ¬ 9223372036854775807 < (fr ++ ce i).size + (f1 ++ f2).size := by rw [ByteArray.size_append, ByteArray.size_append]; omega
      have n3 : ¬ 9223372036854775807 < fr.size + (ce i).size + (f1.size + f2.size) := by omega
      clear hz y1 y2 HZF
      refine plain_robJ [(0, some 41), (1, some 42), (2, some 43), (3, some 44), (4, some 45), (5, some 46), (6, some 47), (7, some 48), (8, some 49)] [9] (fun U V => Below U.heap.size U V) (fun U => Below w.heap.size w U ∧ U.heap[lb]? = some (.cells #[.string (f i).1, .string (f i).2] 54 (0, 0))) [(0, .string (fr ++ ce i)), (1, .pointer (some ⟨lb, 0, none⟩)), (2, .string (f i).1), (3, .string f1), (4, .pointer (some ⟨lb, 1, none⟩)), (5, .string (f i).2), (6, .string f2), (7, .string (f1 ++ f2)), (8, .string (fr ++ ce i ++ (f1 ++ f2)))] [] 1 (by kernel_rfl) (by kernel_rfl) (by kernel_rfl) (⟨HB6.out.drew, HX6.out⟩) (fun U V h hb => ⟨h.1.trans (hb.mono h.1.size), heap_keep h.2 hb⟩) ?_ ?_ ?_
      · intro p hp; cases hp
      · refine ⟨⟨_, rfl, fun ν U hU hp => ?_⟩, ?_⟩
        · simp only [putsν, Act.put, List.setIfInBounds_toArray, List.set_cons_zero, List.set_cons_succ]
          exact Yld.value (.string (fr ++ ce i)) U (by kernel_rfl) (by go_simp) ⟨Below.refl _ _, Fx.fixed rfl rfl⟩
        refine ⟨⟨_, rfl, fun ν U hU hp => ?_⟩, ?_⟩
        · simp only [putsν, Act.put, List.setIfInBounds_toArray, List.set_cons_zero, List.set_cons_succ]
          exact Yld.value (.pointer (some ⟨lb, 0, none⟩)) U (by kernel_rfl) (by go_simp) ⟨Below.refl _ _, Fx.fixed rfl rfl⟩
        refine ⟨⟨_, rfl, fun ν U hU hp => ?_⟩, ?_⟩
        · simp only [putsν, Act.put, List.setIfInBounds_toArray, List.set_cons_zero, List.set_cons_succ]
          have e1 := (hp 1 (by kernel_rfl) (by kernel_rfl)).val _ rfl
          simp only [e1]
          exact Yld.value (.string (f i).1) U (by kernel_rfl) (by have h0 : U.cell? ⟨lb, 0, none⟩ = some (.string (f i).1) := cell_of_row _ _ _ _ _ _ hU.2; go_simp) ⟨Below.refl _ _, Fx.fixed rfl rfl⟩
        refine ⟨⟨_, rfl, fun ν U hU hp => ?_⟩, ?_⟩
        · simp only [putsν, Act.put, List.setIfInBounds_toArray, List.set_cons_zero, List.set_cons_succ]
          have e2 := (hp 2 (by kernel_rfl) (by kernel_rfl)).val _ rfl
          simp only [e2]
          refine Yld.call 67 #[.string (f i).1, .int .i64 12] (by kernel_rfl) (by go_simp) ?_
          have hcall := HF1.out U
          refine hcall.mono ?_
          rintro e V ⟨rfl, hb⟩; exact ⟨_, rfl, hb, Fx.fixed rfl rfl⟩
        refine ⟨⟨_, rfl, fun ν U hU hp => ?_⟩, ?_⟩
        · simp only [putsν, Act.put, List.setIfInBounds_toArray, List.set_cons_zero, List.set_cons_succ]
          exact Yld.value (.pointer (some ⟨lb, 1, none⟩)) U (by kernel_rfl) (by go_simp) ⟨Below.refl _ _, Fx.fixed rfl rfl⟩
        refine ⟨⟨_, rfl, fun ν U hU hp => ?_⟩, ?_⟩
        · simp only [putsν, Act.put, List.setIfInBounds_toArray, List.set_cons_zero, List.set_cons_succ]
          have e4 := (hp 4 (by kernel_rfl) (by kernel_rfl)).val _ rfl
          simp only [e4]
          exact Yld.value (.string (f i).2) U (by kernel_rfl) (by have h0 : U.cell? ⟨lb, 1, none⟩ = some (.string (f i).2) := cell_of_row _ _ _ _ _ _ hU.2; go_simp) ⟨Below.refl _ _, Fx.fixed rfl rfl⟩
        refine ⟨⟨_, rfl, fun ν U hU hp => ?_⟩, ?_⟩
        · simp only [putsν, Act.put, List.setIfInBounds_toArray, List.set_cons_zero, List.set_cons_succ]
          have e5 := (hp 5 (by kernel_rfl) (by kernel_rfl)).val _ rfl
          simp only [e5]
          refine Yld.call 67 #[.string (f i).2, .int .i64 12] (by kernel_rfl) (by go_simp) ?_
          have hcall := HF2.out U
          refine hcall.mono ?_
          rintro e V ⟨rfl, hb⟩; exact ⟨_, rfl, hb, Fx.fixed rfl rfl⟩
        refine ⟨⟨_, rfl, fun ν U hU hp => ?_⟩, ?_⟩
        · simp only [putsν, Act.put, List.setIfInBounds_toArray, List.set_cons_zero, List.set_cons_succ]
          have e3 := (hp 3 (by kernel_rfl) (by kernel_rfl)).val _ rfl
          have e6 := (hp 6 (by kernel_rfl) (by kernel_rfl)).val _ rfl
          simp only [e3, e6]
          exact Yld.value (.string (f1 ++ f2)) U (by kernel_rfl) (by go_simp) ⟨Below.refl _ _, Fx.fixed rfl rfl⟩
        refine ⟨⟨_, rfl, fun ν U hU hp => ?_⟩, ?_⟩
        · simp only [putsν, Act.put, List.setIfInBounds_toArray, List.set_cons_zero, List.set_cons_succ]
          have e0 := (hp 0 (by kernel_rfl) (by kernel_rfl)).val _ rfl
          have e7 := (hp 7 (by kernel_rfl) (by kernel_rfl)).val _ rfl
          simp only [e0, e7]
          exact Yld.value (.string (fr ++ ce i ++ (f1 ++ f2))) U (by kernel_rfl) (by go_simp) ⟨Below.refl _ _, Fx.fixed rfl rfl⟩
        trivial
      intro ν w7 hS7 hf
      have e0 := (hf 0 (by kernel_rfl)).val _ rfl
      have e1 := (hf 1 (by kernel_rfl)).val _ rfl
      have e2 := (hf 2 (by kernel_rfl)).val _ rfl
      have e3 := (hf 3 (by kernel_rfl)).val _ rfl
      have e4 := (hf 4 (by kernel_rfl)).val _ rfl
      have e5 := (hf 5 (by kernel_rfl)).val _ rfl
      have e6 := (hf 6 (by kernel_rfl)).val _ rfl
      have e7 := (hf 7 (by kernel_rfl)).val _ rfl
      have e8 := (hf 8 (by kernel_rfl)).val _ rfl
      simp only [putsν, Act.put, List.setIfInBounds_toArray, List.set_cons_zero, List.set_cons_succ, e0, e1, e2, e3, e4, e5, e6, e7, e8]
      clear hf e0 e1 e2 e3 e4 e5 e6 e7 e8
      refine wpAnyT_pick (S := (fun _ => True)) (by kernel_rfl) Only.panic Only.keepsIn (w := w7) trivial [9] 0 _ _ (by kernel_rfl) ?_
      refine PickT.value (d := some 3) (.string (fr ++ ce i ++ (f1 ++ f2))) rfl rfl (by kernel_rfl) (fun U hU => (by go_simp)) ?_
      simp only [PickT, Act.put, List.setIfInBounds_toArray, List.set_cons_zero, List.set_cons_succ]
      refine wpAnyT_done (by kernel_rfl) ?_ _
      refine only_mk ?_
      go_wp2_with fail
      go_roundw
      case rel => exact ⟨i + 1, by omega, by go_num, by rw [HS.out, ByteArray.append_assoc], hS7.1⟩
      case measure => simp [intOf]; omega
    · obtain rfl : i = 6 := by omega
      have d1 : decide (((6 : Nat) : Int) < 6) = false := by decide
      have hsz : (fr ++ ce 6).size = 182 := by rw [ByteArray.size_append]; omega
      have HT2 := Lib.hid (fun W => HT.out (fr ++ ce 6) (by omega) W)
      have h4 := Crc.four_size (Crc.ofB (fr ++ ce 6))
      have n1 : ¬ 9223372036854775807 < (fr ++ ce 6).size + (Crc.four (Crc.ofB (fr ++ ce 6))).size := by omega
      have n2 : ¬ 9223372036854775807 < fr.size + (ce 6).size + (Crc.four (Crc.ofB (fr ++ ce 6))).size := by omega
      have HFX2 := Lib.hid HFX.out
      clear HT HFX
      generalize Crc.four (Crc.ofB (fr ++ ce 6)) = cc at *
      go_wp2_with fail
      refine (HT2.out _).mono ?_; rintro e w8 ⟨rfl, hb8⟩
      have HB8 := Lib.hid (below_step HBR.out hb8)
      clear hb8
      go_wp2_with fail
      go_ret
      exact ⟨by rw [HFX2.out]; rfl, HB8.out⟩
end Go.Proofs.Ytaillfnmaiiapaa
