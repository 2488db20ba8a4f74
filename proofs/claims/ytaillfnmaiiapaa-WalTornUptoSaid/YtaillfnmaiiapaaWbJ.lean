import Derived.Test.YtaillfnmaiiapaaWbH
import Derived.Test.YtaillfnmaiiapaaWaXb
/-
  Rows of changes, put one behind the other: the laws' segment.
-/
namespace Go.Proofs.Ytaillfnmaiiapaa
open Go.RowKit
theorem then_mk {K : Act → World → Prop} {Q : Exit → Act → World → Prop} {a : Act} {w : World} (h : K a w) : Exit.then K Q .normal a w := h
/-- where each row ends, and how many changes there are then -/
def endx (g : Int) (R : Nat → Wa.Row) (i : Nat) (_ : Nat) : Value := .int .i64 ((10 + (Wa.rows g R i).1.size : Nat) : Int)
def cntx (R : Nat → RowAt) (i : Nat) (_ : Nat) : Value := .int .i64 ((jn R i : Nat) : Int)
theorem info_int : (Try.prog.info? 3).map (fun i => (i.zero, i.size, i.bytes)) = some (some (.int .i64 0), 1, 8) := by kernel_rfl
/-- a segment that is made -/
structure SegL (w U : World) (g : Int) (R : Nat → RowAt) (wb k : Nat) (K : List ByteArray) (A : Option Addr) (c : Nat) (ev cv : Value) : Prop where
  bel : Below w.heap.size w U
  lo : w.heap.size ≤ wb
  wr : U.heap[wb]? = some (.cells #[.int .i64 g, .slice A K.length c] 32 (0, 0))
  keys : Row 1 (kx K) U A K.length
  nil : A = none → K.length = 0 ∧ c = 0
  ends : U.ownsRow w.heap.size 3 1 ev (k + 1) (rcells 1 (endx g (wrow R)) (k + 1))
  cnts : U.ownsRow w.heap.size 3 1 cv (k + 1) (rcells 1 (cntx R) (k + 1))
  ne : ∀ r, ev.ownBlock = some r → cv.ownBlock ≠ some r
theorem SegL.later {w U V : World} {g : Int} {R : Nat → RowAt} {wb k : Nat} {K : List ByteArray} {A : Option Addr} {c : Nat} {ev cv : Value} (h : SegL w U g R wb k K A c ev cv) (hb : Below U.heap.size U V) : SegL w V g R wb k K A c ev cv :=
  ⟨below_step h.bel hb, h.lo, heap_keep h.wr hb, h.keys.later hb, h.nil, row_far h.ends hb, row_far h.cnts hb, h.ne⟩
/-- the segment, as the laws look at it -/
def SegDone (w : World) (g : Int) (R : Nat → RowAt) (n : Nat) (e : Ending) (V : World) : Prop :=
  ∃ s E C ok, e = .returned (.tuple #[.string s, E, C, .bool ok]) ∧ Below w.heap.size w V ∧
    (ok = true → s = Wa.hd g ++ (Wa.rows g (wrow R) n).1 ∧ (1 ≤ g ∧ g ≤ 3) ∧ Wa.rowsOk g (wrow R) n ∧ V.ownsRow w.heap.size 3 1 E (n + 1) (rcells 1 (endx g (wrow R)) (n + 1)) ∧ V.ownsRow w.heap.size 3 1 C (n + 1) (rcells 1 (cntx R) (n + 1)))
theorem int_row (w : World) (v : Value) : Row 1 (fun _ _ => v) (w.alloc (.cells #[v] 3)) (some ⟨w.heap.size, 0, none⟩) 1 := row_built 1 _ w _ _ (fun j hj => by
  obtain rfl : j = 0 := by omega
  rfl)
theorem own_grown {w w2 : World} {base E n : Nat} {v v2 u : Value} {xs : List Value} (hg : w.grownBy w2 v.ownBlock) (hl : v2.ownBlock = v.ownBlock ∨ v2.ownBlock = some w.heap.size) (hu : w.ownsRow base E 1 u n xs) (hne : ∀ r, v.ownBlock = some r → u.ownBlock ≠ some r) : w2.ownsRow base E 1 u n xs ∧ ∀ r, v2.ownBlock = some r → u.ownBlock ≠ some r := by
  refine ⟨row_kept hu hg hne, fun r e1 e2 => ?_⟩
  rcases hl with h | h
  · exact hne r (h ▸ e1) e2
  · rw [h] at e1
    have := (hu.lt r e2).2
    cases e1
    omega
theorem own_typed {w : World} {base E n : Nat} {v : Value} {xs : List Value} (h : w.ownsRow base E 1 v n xs) {r : Nat} (hr : v.ownBlock = some r) : ∃ cs fr, w.heap[r]? = some (.cells cs E fr) := by
  rcases h.2 with ⟨rfl, -⟩ | ⟨g1, cap, cur, rfl, -, hc, -⟩
  · cases hr
  · have a : some g1 = some r := hr
    cases a
    exact ⟨_, _, hc⟩
/-- a row of another type, where one grows -/
theorem own_beside {w w2 : World} {base b2 E E2 n n2 : Nat} {v u : Value} {xs ys : List Value} (hv : w.ownsRow base E 1 v n xs) (hg : w.grownBy w2 v.ownBlock) (hu : w.ownsRow b2 E2 1 u n2 ys) (hE : E ≠ E2) : w2.ownsRow b2 E2 1 u n2 ys := row_kept hu hg (fun r e => by
  obtain ⟨cs, fr, hcs⟩ := own_typed hv e
  exact block_other hu hcs hE)
theorem block_beside {w w2 : World} {base E n g T : Nat} {v : Value} {xs : List Value} {cs : Array Value} {fr : Nat × Nat} (hv : w.ownsRow base E 1 v n xs) (hg : w.grownBy w2 v.ownBlock) (hc : w.heap[g]? = some (.cells cs T fr)) (hT : T ≠ E) : w2.heap[g]? = some (.cells cs T fr) :=
  (hg.block g (Array.getElem?_eq_some_iff.1 hc).1 (fun e => block_other hv hc hT e.symm)).trans hc
theorem results_tmp4 {fn : Func} {t u v x : Tmp} (h : fn.results = #[.tmp t, .tmp u, .tmp v, .tmp x]) (tmps : Array Value) (P : Program) (w : World) :
    (results fn tmps).run P w = .ok (.tuple #[tmps.getD t undef, tmps.getD u undef, tmps.getD v undef, tmps.getD x undef]) w := by
  simp [results, h]
theorem rows_keys {w : World} {C : Option Addr} {n : Nat} {R : Nat → RowAt} (h : RowsIn w C n R) {g : Int} {k : Nat} (hk : k ≤ n) (hok : Wa.rowsOk g (wrow R) k) : (Wa.rows g (wrow R) k).2.length ≤ 40 ∧ (∀ x ∈ (Wa.rows g (wrow R) k).2, x.size ≤ maxLen) ∧ (Wa.rows g (wrow R) k).1.size ≤ 160000 + 20020 * k := by
  have hj : (Wa.join (wrow R) k).length ≤ 40 := by rw [join_len]; exact Nat.le_trans (jn_mono R hk) h.few
  obtain ⟨P, pi, hp⟩ := Wa.pieces (g := g) (R := wrow R) (fun i j hj => h.words i j hj) k (by omega) hok
  have h1 := hp.few
  have h2 := Wa.rows_size g (wrow R) k
  refine ⟨by omega, fun x hx => ?_, by omega⟩
  obtain ⟨l, hl, rfl⟩ := hp.keys.each x hx
  have := Wa.key_size hl
  unfold maxLen
  omega
theorem rowsOk_step {g : Int} {R : Nat → RowAt} {k : Nat} (h : Wa.rowsOk g (wrow R) k) (h2 : (Wa.putR g (Wa.rows g (wrow R) k).2 (recF (R k).q) (R k).n).2.2 = 0) : Wa.rowsOk g (wrow R) (k + 1) := fun i hi => by
  by_cases e : i = k
  · rw [e]; exact h2
  · exact h i (by omega)
set_option maxRecDepth 100000 in
set_option maxHeartbeats 8000000 in
theorem segment_any (g : Int) (C : Option Addr) (n c : Nat) (R : Nat → RowAt) (hn : n ≤ 8) (w : World) (hA : RowsIn w C n R) :
    Calls Try.prog 11 #[.int .i64 g, .slice C n c] w (SegDone w g R n) := by
  have HA := Lib.hid hA
  clear hA
  by_cases hg : 1 ≤ g ∧ g ≤ 3
  · have HG := Lib.hid hg
    clear hg
    obtain ⟨h, hh⟩ : ∃ h, h = Wa.hd g := ⟨_, rfl⟩
    have zh : h.size = 10 := by rw [hh]; exact Wa.hd_size g
    have HH := Lib.hid hh
    go_enter Try.func11, Try.ntmps11
    go_wp2_with fail
    refine (Begin_any g _).mono ?_; rintro e w1 ⟨rfl, hb1⟩
    rw [begin_in HG.out, ← hh]
    clear hh
    obtain ⟨w4, hw4⟩ : ∃ w4, w4 = ((w1.alloc (.cells #[.int .i64 g, .slice none 0 0] 32)).alloc (.cells #[.int .i64 10] 3)).alloc (.cells #[.int .i64 0] 3) := ⟨_, rfl⟩
    have hb4 : Below w1.heap.size w1 w4 := by rw [hw4]; exact (((Below.refl _ _).alloc (Nat.le_refl _) _).alloc (by simp) _).alloc (by simp; omega) _
    have hwr : w4.heap[w1.heap.size]? = some (.cells #[.int .i64 g, .slice none 0 0] 32 (0, 0)) := by
      rw [hw4]
      refine heap_keep (heap_keep (heap_alloc_new w1 _) ((Below.refl _ _).alloc (Nat.le_refl _) _)) ((Below.refl _ _).alloc (Nat.le_refl _) _)
    have hlo1 := hb1.size
    have hen : w4.ownsRow w.heap.size 3 1 (.slice (some ⟨w1.heap.size + 1, 0, none⟩) 1 1) 1 (rcells 1 (endx g (wrow R)) 1) := by
      refine ⟨by simp [rcells], .inr ⟨w1.heap.size + 1, 1, #[.int .i64 10], rfl, by omega, ?_, by omega, by unfold maxLen; omega, by simp, ?_⟩⟩
      · rw [hw4]
        have h1 := heap_alloc_new (w1.alloc (.cells #[.int .i64 g, .slice none 0 0] 32)) (.cells #[.int .i64 10] 3)
        have h2 := heap_keep h1 ((Below.refl _ _).alloc (Nat.le_refl _) (.cells #[.int .i64 0] 3))
        simpa using h2
      · rfl
    have hcn : w4.ownsRow w.heap.size 3 1 (.slice (some ⟨w1.heap.size + 1 + 1, 0, none⟩) 1 1) 1 (rcells 1 (cntx R) 1) := by
      refine ⟨by simp [rcells], .inr ⟨w1.heap.size + 1 + 1, 1, #[.int .i64 0], rfl, by omega, ?_, by omega, by unfold maxLen; omega, by simp, rfl⟩⟩
      rw [hw4]
      have h1 := heap_alloc_new ((w1.alloc (.cells #[.int .i64 g, .slice none 0 0] 32)).alloc (.cells #[.int .i64 10] 3)) (.cells #[.int .i64 0] 3)
      simpa using h1
    have HS0 : Hid (SegL w w4 g R w1.heap.size 0 [] none 0 (.slice (some ⟨w1.heap.size + 1, 0, none⟩) 1 1) (.slice (some ⟨w1.heap.size + 1 + 1, 0, none⟩) 1 1)) := Lib.hid ⟨below_step hb1 hb4, hlo1, hwr, fun h0 => absurd h0 (Nat.lt_irrefl 0), fun _ => ⟨rfl, rfl⟩, hen, hcn, fun r e1 e2 => by have e1 : some (w1.heap.size + 1) = some r := e1; have e2 : some (w1.heap.size + 1 + 1) = some r := e2; have := Option.some.inj (e1.trans e2.symm); omega⟩
    obtain ⟨wb, hwbe⟩ : ∃ wb, wb = w1.heap.size := ⟨_, rfl⟩
    obtain ⟨ev, hev⟩ : ∃ ev, ev = Value.slice (some ⟨w1.heap.size + 1, 0, none⟩) 1 1 := ⟨_, rfl⟩
    obtain ⟨cv, hcv⟩ : ∃ cv, cv = Value.slice (some ⟨w1.heap.size + 1 + 1, 0, none⟩) 1 1 := ⟨_, rfl⟩
    go_wp2_with fail
    rw [← hw4, ← hev, ← hcv, ← hwbe]
    rw [← hev, ← hcv, ← hwbe] at HS0
    clear hev hcv hwbe hw4 hb4 hwr hen hcn hlo1 hb1
    go_loopw [8, 10, 11, 12, 13, 14] (fun s er ev cv nn i wr => ∃ (k : Nat) (e : Int) (A : Option Addr) (c2 : Nat), k ≤ n ∧ i = .int .i64 k ∧ er = .int .i64 e ∧ (e = 0 → Wa.rowsOk g (wrow R) k) ∧ s = .string (h ++ (Wa.rows g (wrow R) k).1) ∧ nn = .int .i64 ((jn R k : Nat) : Int) ∧ SegL w wr g R wb k (Wa.rows g (wrow R) k).2 A c2 ev cv) (fun _ _ _ _ _ i _ => n - (intOf i).toNat)
    case atStart => exact ⟨0, 0, none, 0, by omega, rfl, rfl, (fun _ i hi => absurd hi (Nat.not_lt_zero i)), by show _ = Value.string (h ++ ByteArray.empty); rw [ByteArray.append_empty], rfl, HS0.out⟩
    case round =>
      obtain ⟨k, er, A, c2, hk, rfl, rfl, hok, rfl, rfl, hsl⟩ := hrel
      have HSL := Lib.hid hsl; have HOK := Lib.hid hok
      clear hsl hok
      have i0 : (0 : Int) ≤ (k : Int) := by omega
      by_cases hlt : k < n
      · have i1 : (k : Int) < (n : Int) := by omega
        have d1 : decide ((k : Int) < (n : Int)) = true := decide_eq_true i1
        by_cases he : er = 0
        · subst he
          obtain ⟨kf1, kf2, kf3⟩ := rows_keys HA.out hk (HOK.out rfl)
          have hOK := HOK.out rfl
          have hjk := jn_mono R (show k + 1 ≤ n from hlt)
          have hjk2 : jn R (k + 1) = jn R k + (R k).n := rfl
          have hfew := HA.out.few
          have hpz := Wa.putR_size g (Wa.rows g (wrow R) k).2 (recF (R k).q) (R k).n
          obtain ⟨ad, rfl, x0, -⟩ := HA.out.row.at_ HSL.out.bel hlt
          have x0 := x0 (by omega)
          rw [Nat.mul_one] at x0
          have x0 : wr.cell? (ad.add k) = some (.slice (R k).A (R k).n (R k).c) := x0
          have hx0 := Lib.hid x0
          have hrs1 : (Wa.rows g (wrow R) (k + 1)).1 = (Wa.rows g (wrow R) k).1 ++ (Wa.putR g (Wa.rows g (wrow R) k).2 (recF (R k).q) (R k).n).1 := rfl
          have hrs2 : (Wa.rows g (wrow R) (k + 1)).2 = (Wa.putR g (Wa.rows g (wrow R) k).2 (recF (R k).q) (R k).n).2.1 := rfl
          have hstep := rowsOk_step hOK
          have hput := fun U (hU : Below wr.heap.size wr U) => wPut_any g (Wa.rows g (wrow R) k).2 (by omega) kf2 A c2 HSL.out.nil (R k).A (R k).n (R k).c (R k).q (by omega) U (HSL.out.keys.later hU) ((HA.out.each k hlt).later (below_step HSL.out.bel hU))
          obtain ⟨P, hP⟩ : ∃ P, P = Wa.putR g (Wa.rows g (wrow R) k).2 (recF (R k).q) (R k).n := ⟨_, rfl⟩
          rw [← hP] at hpz hrs1 hrs2 hput
          rw [← hP] at hstep
          clear hP
          obtain ⟨t, K2, er2⟩ := P
          simp only at hpz hrs1 hrs2 hput hstep
          unfold PutDone at hput
          simp only at hput
          have HR1 := Lib.hid hrs1; have HR2 := Lib.hid hrs2; have HSTEP := Lib.hid hstep; have HPUT := Lib.hid hput
          have HZ : Hid ((Wa.rows g (wrow R) k).1.size ≤ 160000 + 20020 * k ∧ t.size ≤ 4000 * (R k).n + 20020 ∧ (R k).n ≤ 40 ∧ jn R k + (R k).n ≤ 40) := Lib.hid ⟨kf3, hpz, by omega, by omega⟩
          have HJ := Lib.hid hjk2
          clear hrs1 hrs2 hstep hput kf1 kf2 kf3 hpz hOK hjk hfew hjk2 HOK
          have hwr := HSL.out.wr
          have HW : Hid (∀ U, Below wr.heap.size wr U → U.cell? ⟨wb, 0, none⟩ = some (.int .i64 g) ∧ U.cell? ⟨wb, 1, none⟩ = some (.slice A (Wa.rows g (wrow R) k).2.length c2)) := Lib.hid (fun U hU => by
            have hy := heap_keep hwr hU
            exact ⟨cell_of_row _ _ _ _ _ _ hy, cell_of_row _ _ _ _ _ _ hy⟩)
          have HX : Hid (∀ U, Below wr.heap.size wr U → U.cell? (ad.add k) = some (.slice (R k).A (R k).n (R k).c)) := Lib.hid (fun U hU => cell_keep x0 hU)
          clear hwr x0
          go_wp2_with fail
          refine plain_T_cut (fun U => Below wr.heap.size wr U) [] (fun a0 a2 w2 => ∃ (A8 : Option Addr) (c8 b : Nat), Below wr.heap.size wr w2 ∧ w2.heap[b]? = some (.cells #[.int .i64 g, .slice A8 K2.length c8] 32 (0, 0)) ∧ w2.ownsRow wr.heap.size 9 1 (.slice A8 K2.length c8) K2.length (rcells 1 (kx K2) K2.length) ∧ (A8 = none → K2.length = 0 ∧ c8 = 0) ∧
            a2 = puts a0 [(some 39, .agg #[.int .i64 g, .slice A (Wa.rows g (wrow R) k).2.length c2]), (some 40, .slice (some ad) n c), (some 41, .int .i64 (k : Int)), (some 42, .pointer (some (ad.add k))), (some 43, .slice (R k).A (R k).n (R k).c), (some 44, .tuple #[.string t, .agg #[.int .i64 g, .slice A8 K2.length c8], .int .i64 er2]), (some 38, .tuple #[.string t, .agg #[.int .i64 g, .slice A8 K2.length c8], .int .i64 er2]), (some 45, .string t), (some 46, .agg #[.int .i64 g, .slice A8 K2.length c8]), (some 47, .int .i64 er2), (some 16, .pointer (some ⟨b, 0, none⟩)), (some 15, .string t), (some 17, .int .i64 er2)]) (by kernel_rfl) ?_ ?_
          · have HD : Hid (Below wr.heap.size wr wr.drew) := Lib.hid (Below.refl _ _).drew
            generalize wr.drew = wd at HD ⊢
            refine wpAnyT_pick (S := (fun U => Below wr.heap.size wr U)) (by kernel_rfl) Only.panic Only.keepsIn (w := wd) HD.out [0, 1, 2, 3, 4] 9 _ _ (by kernel_rfl) ?_
            refine PickT.value (d := some 39) (.agg #[.int .i64 g, .slice A (Wa.rows g (wrow R) k).2.length c2]) rfl rfl (by kernel_rfl) (fun U hU => (by obtain ⟨h0, h1⟩ := HW.out U hU; go_simp)) ?_
            refine PickT.value (d := some 40) (.slice (some ad) n c) rfl rfl (by kernel_rfl) (fun U hU => (by go_simp)) ?_
            refine PickT.value (d := some 41) (.int .i64 (k : Int)) rfl rfl (by kernel_rfl) (fun U hU => (by go_simp)) ?_
            refine PickT.value (d := some 42) (.pointer (some (ad.add k))) rfl rfl (by kernel_rfl) (fun U hU => (by go_simp)) ?_
            refine PickT.value (d := some 43) (.slice (R k).A (R k).n (R k).c) rfl rfl (by kernel_rfl) (fun U hU => (by have h0 := HX.out U hU; go_simp)) ?_
            simp only [PickT, Act.put, List.setIfInBounds_toArray, List.set_cons_zero, List.set_cons_succ]
            refine wpAnyT_two (i := 5) (j := 10) (by kernel_rfl) rfl rfl (by kernel_rfl) (by kernel_rfl) ?_ ?_
            · intro K0 hK; unfold Oper.wp
              go_simp
              refine (HPUT.out _ HD.out).mono ?_; rintro e w9 ⟨kv, rfl, ho9, hb9⟩
              obtain ⟨A8, c8, rfl, -, -, hn8, -⟩ := own_row ho9
              have hlo9 : wr.heap.size ≤ wd.heap.size := (HD.out).size
              have hb9w := below_step HD.out hb9
              refine hK _ _ (fun _ => hb9w) ?_
              clear hK K0
              refine wpAnyT_pick (S := (fun U => Below wr.heap.size wr U)) (by kernel_rfl) Only.panic Only.keepsIn (w := w9) hb9w [6, 7, 8, 9] 4 _ _ (by kernel_rfl) ?_
              refine PickT.value (d := some 38) (.tuple #[.string t, .agg #[.int .i64 g, .slice A8 K2.length c8], .int .i64 er2]) rfl rfl (by kernel_rfl) (fun U hU => (by go_simp)) ?_
              refine PickT.value (d := some 45) (.string t) rfl rfl (by kernel_rfl) (fun U hU => (by go_simp)) ?_
              refine PickT.value (d := some 46) (.agg #[.int .i64 g, .slice A8 K2.length c8]) rfl rfl (by kernel_rfl) (fun U hU => (by go_simp)) ?_
              refine PickT.value (d := some 47) (.int .i64 er2) rfl rfl (by kernel_rfl) (fun U hU => (by go_simp)) ?_
              simp only [PickT, Act.put, List.setIfInBounds_toArray, List.set_cons_zero, List.set_cons_succ]
              refine wpAnyT_one (i := 10) (by kernel_rfl) rfl (by kernel_rfl) ?_
              intro K0 hK; unfold Oper.wp
              go_simp
              obtain ⟨b, hbe⟩ : ∃ b, b = w9.heap.size := ⟨_, rfl⟩
              obtain ⟨v10, hv⟩ : ∃ v10, v10 = w9.alloc (.cells #[.int .i64 0, .slice none 0 0] 32) := ⟨_, rfl⟩
              have hz : Below w9.heap.size w9 v10 := by rw [hv]; exact (Below.refl _ _).alloc (Nat.le_refl _) _
              have hc : v10.heap[b]? = some (.cells #[.int .i64 0, .slice none 0 0] 32 (0, 0)) := by rw [hv, hbe]; exact heap_alloc_new w9 _
              have hlb : wr.heap.size ≤ b := by rw [hbe]; exact (hb9w).size
              have hb10 := below_step hb9w hz
              rw [← hbe, ← hv]
              refine hK _ _ (fun _ => hb10) ?_
              clear hK K0 hv hbe
              have ho10 := row_far ho9 hz
              refine wpAnyT_pick (S := (fun U => Below wr.heap.size wr U)) (by kernel_rfl) Only.panic Only.keepsIn (w := v10) hb10 [11] 2 _ _ (by kernel_rfl) ?_
              refine PickT.value (d := some 15) (.string t) rfl rfl (by kernel_rfl) (fun U hU => (by go_simp)) ?_
              simp only [PickT, Act.put, List.setIfInBounds_toArray, List.set_cons_zero, List.set_cons_succ]
              have q0 := cell_of_row _ _ 0 _ _ _ hc; have q1 := cell_of_row _ _ 1 _ _ _ hc
              have f0 := frozen_of_row _ _ 0 _ _ hc; have f1 := frozen_of_row _ _ 1 _ _ hc
              simp only [List.getElem?_toArray, List.getElem?_cons_zero, List.getElem?_cons_succ] at q0 q1
              refine wpAnyT_one (i := 12) (by kernel_rfl) rfl (by kernel_rfl) ?_
              intro K hK
              unfold Oper.wp
              go_simp
              have hs3 := heap_setCell_same _ b 1 _ _ (.slice A8 K2.length c8) (heap_setCell_same v10 b 0 _ _ (.int .i64 g) hc)
              have hg3 := grown_trans (grown_setCell v10 b 0 (.int .i64 g)) (grown_setCell (v10.setCell ⟨b, 0, none⟩ (.int .i64 g)) b 1 (.slice A8 K2.length c8))
              have hor := row_kept ho10 hg3 (fun r e => by obtain rfl : b = r := Option.some.inj e; exact block_other ho10 hc (by decide))
              have hbr := Below.grown hb10 hg3 (hb10).size (fun r e => by obtain rfl : b = r := Option.some.inj e; exact hlb)
              refine hK _ _ (fun _ => hbr) ?_
              clear hK K
              refine wpAnyT_pick (S := (fun U => Below wr.heap.size wr U)) (by kernel_rfl) Only.panic Only.keepsIn (w := _) hbr [13] 0 _ _ (by kernel_rfl) ?_
              refine PickT.value (d := some 17) (.int .i64 er2) rfl rfl (by kernel_rfl) (fun U hU => (by go_simp)) ?_
              simp only [PickT, Act.put, List.setIfInBounds_toArray, List.set_cons_zero, List.set_cons_succ]
              refine wpAnyT_done (by kernel_rfl) ?_ _
              refine only_mk ?_
              exact ⟨A8, c8, b, hbr, hs3, own_from hor hlo9, hn8, by kernel_rfl⟩
            · intro K0 hK; unfold Oper.wp
              go_simp
              obtain ⟨b, hbe⟩ : ∃ b, b = wd.heap.size := ⟨_, rfl⟩
              obtain ⟨v10, hv⟩ : ∃ v10, v10 = wd.alloc (.cells #[.int .i64 0, .slice none 0 0] 32) := ⟨_, rfl⟩
              have hz : Below wd.heap.size wd v10 := by rw [hv]; exact (Below.refl _ _).alloc (Nat.le_refl _) _
              have hc : v10.heap[b]? = some (.cells #[.int .i64 0, .slice none 0 0] 32 (0, 0)) := by rw [hv, hbe]; exact heap_alloc_new wd _
              have hlb : wr.heap.size ≤ b := by rw [hbe]; exact (HD.out).size
              have hb10 := below_step HD.out hz
              rw [← hbe, ← hv]
              refine hK _ _ (fun _ => hb10) ?_
              clear hK K0 hv hbe
              refine wpAnyT_one (i := 5) (by kernel_rfl) rfl (by kernel_rfl) ?_
              intro K0 hK; unfold Oper.wp
              go_simp
              refine (HPUT.out _ hb10).mono ?_; rintro e w9 ⟨kv, rfl, ho9, hb9⟩
              obtain ⟨A8, c8, rfl, -, -, hn8, -⟩ := own_row ho9
              have hlo9 : wr.heap.size ≤ v10.heap.size := (hb10).size
              have hb9w := below_step hb10 hb9
              refine hK _ _ (fun _ => hb9w) ?_
              clear hK K0
              refine wpAnyT_pick (S := (fun U => Below wr.heap.size wr U)) (by kernel_rfl) Only.panic Only.keepsIn (w := w9) hb9w [6, 7, 8, 9] 3 _ _ (by kernel_rfl) ?_
              refine PickT.value (d := some 38) (.tuple #[.string t, .agg #[.int .i64 g, .slice A8 K2.length c8], .int .i64 er2]) rfl rfl (by kernel_rfl) (fun U hU => (by go_simp)) ?_
              refine PickT.value (d := some 45) (.string t) rfl rfl (by kernel_rfl) (fun U hU => (by go_simp)) ?_
              refine PickT.value (d := some 46) (.agg #[.int .i64 g, .slice A8 K2.length c8]) rfl rfl (by kernel_rfl) (fun U hU => (by go_simp)) ?_
              refine PickT.value (d := some 47) (.int .i64 er2) rfl rfl (by kernel_rfl) (fun U hU => (by go_simp)) ?_
              simp only [PickT, Act.put, List.setIfInBounds_toArray, List.set_cons_zero, List.set_cons_succ]
              have hc9 := heap_keep hc hb9
              refine wpAnyT_pick (S := (fun U => Below wr.heap.size wr U)) (by kernel_rfl) Only.panic Only.keepsIn (w := w9) hb9w [11] 2 _ _ (by kernel_rfl) ?_
              refine PickT.value (d := some 15) (.string t) rfl rfl (by kernel_rfl) (fun U hU => (by go_simp)) ?_
              simp only [PickT, Act.put, List.setIfInBounds_toArray, List.set_cons_zero, List.set_cons_succ]
              have q0 := cell_of_row _ _ 0 _ _ _ hc9; have q1 := cell_of_row _ _ 1 _ _ _ hc9
              have f0 := frozen_of_row _ _ 0 _ _ hc9; have f1 := frozen_of_row _ _ 1 _ _ hc9
              simp only [List.getElem?_toArray, List.getElem?_cons_zero, List.getElem?_cons_succ] at q0 q1
              refine wpAnyT_one (i := 12) (by kernel_rfl) rfl (by kernel_rfl) ?_
              intro K hK
              unfold Oper.wp
              go_simp
              have hs3 := heap_setCell_same _ b 1 _ _ (.slice A8 K2.length c8) (heap_setCell_same w9 b 0 _ _ (.int .i64 g) hc9)
              have hg3 := grown_trans (grown_setCell w9 b 0 (.int .i64 g)) (grown_setCell (w9.setCell ⟨b, 0, none⟩ (.int .i64 g)) b 1 (.slice A8 K2.length c8))
              have hor := row_kept ho9 hg3 (fun r e => by obtain rfl : b = r := Option.some.inj e; exact block_other ho9 hc9 (by decide))
              have hbr := Below.grown hb9w hg3 (hb9w).size (fun r e => by obtain rfl : b = r := Option.some.inj e; exact hlb)
              refine hK _ _ (fun _ => hbr) ?_
              clear hK K
              refine wpAnyT_pick (S := (fun U => Below wr.heap.size wr U)) (by kernel_rfl) Only.panic Only.keepsIn (w := _) hbr [13] 0 _ _ (by kernel_rfl) ?_
              refine PickT.value (d := some 17) (.int .i64 er2) rfl rfl (by kernel_rfl) (fun U hU => (by go_simp)) ?_
              simp only [PickT, Act.put, List.setIfInBounds_toArray, List.set_cons_zero, List.set_cons_succ]
              refine wpAnyT_done (by kernel_rfl) ?_ _
              refine only_mk ?_
              exact ⟨A8, c8, b, hbr, hs3, own_from hor hlo9, hn8, by kernel_rfl⟩
          rintro a2 W9 ⟨A8, c8, b, hb9, hbc, hown, hnl, rfl⟩
          simp only [puts, Act.put, List.setIfInBounds_toArray, List.set_cons_zero, List.set_cons_succ]
          refine then_mk ?_
          clear HPUT
          have hSL9 := HSL.out.later hb9
          obtain ⟨p0, p1⟩ := HW.out W9 hb9
          have f0 := frozen_of_row _ _ 0 _ _ hSL9.wr; have f1 := frozen_of_row _ _ 1 _ _ hSL9.wr
          have q0 := cell_of_row _ _ 0 _ _ _ hbc; have q1 := cell_of_row _ _ 1 _ _ _ hbc
          simp only [List.getElem?_toArray, List.getElem?_cons_zero, List.getElem?_cons_succ] at q0 q1
          have hs3 := heap_setCell_same _ wb 1 _ _ (.slice A8 K2.length c8) (heap_setCell_same W9 wb 0 _ _ (.int .i64 g) hSL9.wr)
          have hg3 := grown_trans (grown_setCell W9 wb 0 (.int .i64 g)) (grown_setCell (W9.setCell ⟨wb, 0, none⟩ (.int .i64 g)) wb 1 (.slice A8 K2.length c8))
          obtain ⟨W11, hW11⟩ : ∃ W11, W11 = (W9.setCell ⟨wb, 0, none⟩ (.int .i64 g)).setCell ⟨wb, 1, none⟩ (.slice A8 K2.length c8) := ⟨_, rfl⟩
          rw [← hW11] at hs3 hg3
          have hk11 := row_kept hown hg3 (fun r e => by obtain rfl : wb = r := Option.some.inj e; exact block_other hown hSL9.wr (by decide))
          have he11 := row_kept hSL9.ends hg3 (fun r e => by obtain rfl : wb = r := Option.some.inj e; exact block_other hSL9.ends hSL9.wr (by decide))
          have hc11 := row_kept hSL9.cnts hg3 (fun r e => by obtain rfl : wb = r := Option.some.inj e; exact block_other hSL9.cnts hSL9.wr (by decide))
          have hb11 := Below.grown hSL9.bel hg3 hSL9.bel.size (fun r e => by obtain rfl : wb = r := Option.some.inj e; exact HSL.out.lo)
          obtain ⟨A8', c8', e8, -, -, -, hkr⟩ := own_row hk11
          cases e8
          have HK := Lib.hid (own_from hk11 (show w.heap.size ≤ wr.heap.size from HSL.out.bel.size)); have HE := Lib.hid he11; have HC := Lib.hid hc11; have HB := Lib.hid hb11; have HWR := Lib.hid hs3; have HNL := Lib.hid hnl
          obtain ⟨ad2, e2, x1r, -⟩ := HA.out.row.at_ HB.out hlt
          cases e2
          have x1 : W11.cell? (ad.add k) = some (.slice (R k).A (R k).n (R k).c) := by
            have h1 := x1r (by omega)
            rw [Nat.mul_one] at h1
            exact h1
          clear x1r
          obtain ⟨z1, z2, z3, z4⟩ := HZ.out
          have zs : (h ++ (Wa.rows g (wrow R) k).1).size ≤ 160010 + 20020 * k := by rw [ByteArray.size_append]; omega
          generalize hse : h ++ (Wa.rows g (wrow R) k).1 = s at *
          have n1 : ¬ 9223372036854775807 < s.size + t.size := by omega
          have zh2 := zh
          clear hk11 he11 hc11 hb11 hkr hs3 hg3 hnl hown hbc hSL9 hb9 HW HX zh
          go_upto_region 12 with fail
          rw [← hW11]
          clear hW11 p0 p1 f0 f1 q0 q1
          obtain ⟨s2, hs2⟩ : ∃ s2, s2 = s ++ t := ⟨_, rfl⟩
          rw [← hs2]
          have i2 : (0 : Int) ≤ ((R k).n : Int) := by omega
          go_upto_region 13 with fail
          have hjj : ((jn R k : Int) + ((R k).n : Int)) = ((jn R (k + 1) : Nat) : Int) := by rw [HJ.out]; omega
          rw [hjj]
          have he2 : Value.int .i64 (s2.size : Int) = endx g (wrow R) (k + 1) 0 := by
            unfold endx
            rw [HR1.out, hs2, ← hse, ByteArray.size_append, ByteArray.size_append, ByteArray.size_append, zh2]
            congr 2
            omega
          have hs2' : s2 = h ++ (Wa.rows g (wrow R) (k + 1)).1 := by rw [HR1.out, hs2, ← hse, ByteArray.append_assoc]
          have HS2 := Lib.hid hs2'; have HE2 := Lib.hid he2; have HNE := Lib.hid HSL.out.ne
          clear hs2 hse n1 hjj he2 hs2' zh2 z1 z2 z3 z4 x1 i2
          have HRW := Lib.hid (int_row W11 (.int .i64 (s2.size : Int)))
          have hz12 : Below W11.heap.size W11 (W11.alloc (.cells #[.int .i64 (s2.size : Int)] 3)) := (Below.refl _ _).alloc (Nat.le_refl _) _
          have HZ12 := Lib.hid hz12
          have HEA := Lib.hid (row_far HE.out hz12); have HCA := Lib.hid (row_far HC.out hz12); have HBA := Lib.hid (below_step HB.out hz12)
          clear hz12
          go_upto_region 14 with (at_builtin; go_must (refine wpList_append_row_at _ rfl _ _ 27 3 rfl 1 8 (.int .i64 0) Try.underlying27 info_int rfl (by decide) (by decide) w.heap.size _ (k + 1) (rcells 1 (endx g (wrow R)) (k + 1)) rfl HEA.out ⟨W11.heap.size, 0, none⟩ 1 1 (fun _ _ => .int .i64 (s2.size : Int)) (fun _ _ => rfl) rfl HRW.out (by omega) HBA.out.size ?_); intro v13 w13 hown13 hg13 hl13; have HO13 := Lib.hid hown13; have HG13 := Lib.hid hg13; have HL13 := Lib.hid hl13; clear hown13 hg13 hl13)
          have ho13 := HO13.out
          rw [show rcells 1 (fun _ _ => Value.int .i64 (s2.size : Int)) 1 = (List.range 1).map (endx g (wrow R) (k + 1)) from by show [_] = [_]; rw [HE2.out], ← rcells_succ] at ho13
          obtain ⟨hc13, hne13⟩ := own_grown HG13.out HL13.out HCA.out HNE.out
          have hb13 := HBA.out.grown HG13.out HBA.out.size (fun r e => (HEA.out.lt r e).1)
          have hk13 := own_beside HEA.out HG13.out (row_far HK.out HZ12.out) (by decide)
          have hwr13 := block_beside HEA.out HG13.out (heap_keep HWR.out HZ12.out) (by decide)
          clear HEA HCA HBA HG13 HL13 HO13 HNE HRW HE HC HK HB HWR HZ12
          have HRW := Lib.hid (int_row w13 (.int .i64 ((jn R (k + 1) : Nat) : Int)))
          have hz14 : Below w13.heap.size w13 (w13.alloc (.cells #[.int .i64 ((jn R (k + 1) : Nat) : Int)] 3)) := (Below.refl _ _).alloc (Nat.le_refl _) _
          have HEB := Lib.hid (row_far ho13 hz14); have HCB := Lib.hid (row_far hc13 hz14); have HBB := Lib.hid (below_step hb13 hz14); have HKB := Lib.hid (row_far hk13 hz14); have HWB := Lib.hid (heap_keep hwr13 hz14)
          have HNE : Hid (∀ r, Value.ownBlock u12 = some r → v13.ownBlock ≠ some r) := Lib.hid (fun r e1 e2 => hne13 r e2 e1)
          clear hz14 ho13 hc13 hb13 hk13 hwr13 hne13
          go_wp2_with (at_builtin; go_must (refine wpList_append_row_at _ rfl _ _ 27 3 rfl 1 8 (.int .i64 0) Try.underlying27 info_int rfl (by decide) (by decide) w.heap.size _ (k + 1) (rcells 1 (cntx R) (k + 1)) rfl HCB.out ⟨w13.heap.size, 0, none⟩ 1 1 (fun _ _ => .int .i64 ((jn R (k + 1) : Nat) : Int)) (fun _ _ => rfl) rfl HRW.out (by omega) HBB.out.size ?_); intro v15 w15 hown15 hg15 hl15; have HO15 := Lib.hid hown15; have HG15 := Lib.hid hg15; have HL15 := Lib.hid hl15; clear hown15 hg15 hl15)
          go_roundw
          case rel =>
            have ho15 := HO15.out
            rw [show rcells 1 (fun _ _ => Value.int .i64 ((jn R (k + 1) : Nat) : Int)) 1 = (List.range 1).map (cntx R (k + 1)) from rfl, ← rcells_succ] at ho15
            obtain ⟨hc15, hne15⟩ := own_grown HG15.out HL15.out HEB.out HNE.out
            have hb15 := HBB.out.grown HG15.out HBB.out.size (fun r e => (HCB.out.lt r e).1)
            have hk15 := own_beside HCB.out HG15.out HKB.out (by decide)
            have hwr15 := block_beside HCB.out HG15.out HWB.out (by decide)
            obtain ⟨A9, c9, e9, -, -, hn9, hr9⟩ := own_row hk15
            cases e9
            refine ⟨k + 1, er2, A8, c8, by omega, by go_num, rfl, HSTEP.out, by rw [HS2.out], rfl, ⟨hb15, HSL.out.lo, ?_, ?_, ?_, hc15, ho15, fun r e1 e2 => hne15 r e2 e1⟩⟩
            · rw [HR2.out]; exact hwr15
            · rw [HR2.out]; exact hr9
            · rw [HR2.out]; exact HNL.out
          case measure => simp [intOf]; omega
        · have d2 : (er == 0) = false := by simp [he]
          go_wp2_with fail
          refine bodyPost_ret (results_tmp4 rfl _ _ _) rfl ?_
          exact ⟨_, _, _, false, rfl, HSL.out.bel, fun h => by cases h⟩
      · obtain rfl : k = n := by omega
        have d1 : decide ((k : Int) < (k : Int)) = false := decide_eq_false (by omega)
        by_cases he : er = 0
        · subst he
          go_wp2_with fail
          refine bodyPost_ret (results_tmp4 rfl _ _ _) rfl ?_
          exact ⟨_, _, _, true, rfl, HSL.out.bel, fun _ => ⟨by rw [HH.out], HG.out, HOK.out (by trivial), HSL.out.ends, HSL.out.cnts⟩⟩
        · have d2 : (er == 0) = false := by simp [he]
          go_wp2_with fail
          refine bodyPost_ret (results_tmp4 rfl _ _ _) rfl ?_
          exact ⟨_, _, _, false, rfl, HSL.out.bel, fun h => by cases h⟩
  · have HG := Lib.hid hg
    clear hg
    go_enter Try.func11, Try.ntmps11
    go_wp2_with fail
    refine (Begin_any g _).mono ?_; rintro e w1 ⟨rfl, hb1⟩
    rw [begin_out HG.out]
    have HB1 := Lib.hid hb1
    clear hb1
    go_wp2_with fail
    go_loopw [8, 10, 14] (fun s er i wr => s = .string ByteArray.empty ∧ er = .int .i64 1 ∧ i = .int .i64 0 ∧ Below w.heap.size w wr) (fun _ _ _ _ => 0)
    case atStart => exact ⟨rfl, rfl, rfl, below_step HB1.out ((((Below.refl _ _).alloc (Nat.le_refl _) _).alloc (by simp) _).alloc (by simp; omega) _)⟩
    case round =>
      obtain ⟨rfl, rfl, rfl, hb⟩ := hrel
      have HB := Lib.hid hb
      clear hb
      by_cases h0 : 0 < n
      · have d1 : decide ((0 : Int) < (n : Int)) = true := decide_eq_true (by omega)
        go_wp2_with fail
        refine bodyPost_ret (results_tmp4 rfl _ _ _) rfl ?_
        exact ⟨_, _, _, false, rfl, HB.out, fun h => by cases h⟩
      · have d1 : decide ((0 : Int) < (n : Int)) = false := decide_eq_false (by omega)
        go_wp2_with fail
        refine bodyPost_ret (results_tmp4 rfl _ _ _) rfl ?_
        exact ⟨_, _, _, false, rfl, HB.out, fun h => by cases h⟩
end Go.Proofs.Ytaillfnmaiiapaa
/-
  WalGens: the walk.
-/
namespace Go.Proofs.Ytaillfnmaiiapaa
open Go.RowKit
open Go.ChangeShapes Go.WideShapes
/-- a segment that is whole, as it is read -/
theorem segr {w : World} {C : Option Addr} {n : Nat} {R : Nat → RowAt} (h : RowsIn w C n R) {g : Int} (hg : 1 ≤ g ∧ g ≤ 3) (hok : Wa.rowsOk g (wrow R) n) : Wa.read (Wa.hd g ++ (Wa.rows g (wrow R) n).1) = ⟨g.toNat, 0, (Wa.rows g (wrow R) n).2, (List.range (jn R n)).map (recF (jq R n)), 10 + (Wa.rows g (wrow R) n).1.size, false, 0⟩ := by
  have hj : (Wa.join (wrow R) n).length ≤ 40 := by rw [join_len]; exact h.few
  obtain ⟨P, pi, hp⟩ := Wa.pieces (g := g) (R := wrow R) (fun i j hj => h.words i j hj) n (by omega) hok
  rw [Wa.read_rows hg hp, join_jq]
theorem segz {w : World} {C : Option Addr} {n : Nat} {R : Nat → RowAt} (h : RowsIn w C n R) {g : Int} (hok : Wa.rowsOk g (wrow R) n) : (Wa.hd g ++ (Wa.rows g (wrow R) n).1).size ≤ 160010 + 20020 * n := by
  have := (rows_keys h (Nat.le_refl n) hok).2.2
  rw [ByteArray.size_append, Wa.hd_size]
  omega
def oneRow (B : Option Addr) (n c : Nat) (q : Nat → RAt) : Nat → RowAt := fun _ => ⟨B, n, c, q⟩
theorem one_in {w : World} {B : Option Addr} {n c : Nat} {q : Nat → RAt} (h : RecsIn w B n q) (hn : n ≤ 40) : RowsIn (w.alloc (.cells #[.slice B n c] 25)) (some ⟨w.heap.size, 0, none⟩) 1 (oneRow B n c q) := by
  refine ⟨row_built 1 _ w _ _ (fun j hj => ?_), fun i hi => ?_, ?_, fun i j hj => ?_⟩
  · obtain rfl : j = 0 := by omega
    rfl
  · exact h.later ((Below.refl _ _).alloc (Nat.le_refl _) _)
  · show 0 + n ≤ 40
    omega
  · exact (h.each j hj).words
theorem one_list (B : Option Addr) (n c : Nat) (q : Nat → RAt) : (List.range (jn (oneRow B n c q) 1)).map (recF (jq (oneRow B n c q) 1)) = (List.range n).map (recF q) := by
  rw [← join_jq]
  show [] ++ (wrow (oneRow B n c q) 0).list = _
  rfl
theorem one_size {w : World} {B : Option Addr} {n c : Nat} {q : Nat → RAt} (h : RecsIn w B n q) (hn : n ≤ 40) (hok : Wa.rowsOk 1 (wrow (oneRow B n c q)) 1) : (Wa.hd 1 ++ (Wa.rows 1 (wrow (oneRow B n c q)) 1).1).size = 10 + 186 * n := by
  rw [ByteArray.size_append, Wa.hd_size, Wa.rows_one (g := 1) rfl (fun i j hj => (h.each j hj).words) (by show n ≤ 500000; omega) hok]
  rfl
set_option maxRecDepth 100000 in
set_option maxHeartbeats 8000000 in
theorem walGens_walk {H : Type} {enc : TypeId × Value → H} {r0 : Reach} {b0 : Nat} {v0 : Value} {d0 : DataW H} {p0 : List MemPlace} (w : World)
    (o0 : Value.okWide Try.prog w r0 b0 25 v0) (k0 : DataW.Trod enc Try.prog w 0 (fun _ => true) true 25 v0 d0 p0)
    (a : Int) (_wa : (Lit.int .i64 a).wf = true) (b : Int) (_wb : (Lit.int .i64 b).wf = true) :
    Calls Try.prog 6 #[v0, .int .i64 a, .int .i64 b] w fun e w' => e = .returned (.bool true) ∧ Below w.heap.size w w' := by
  obtain ⟨B, n, c, q, rfl, hn, -, hB⟩ := open_recs o0 k0
  clear o0 k0
  have HR := Lib.hid hB
  have HFR := Lib.hid (fun U (hU : Below w.heap.size w U) => FewRecs_any B n c hn q U (HR.out.later hU))
  clear hB
  go_enter Try.func6, Try.ntmps6
  go_wp2_with fail
  refine (works_any _).mono ?_; rintro e w1 ⟨rfl, hb1⟩
  have HB1 := Lib.hid hb1
  clear hb1
  go_wp2_with fail
  refine (HFR.out _ HB1.out).mono ?_; rintro e w2 ⟨rfl, hb2⟩
  have HB2 := Lib.hid (below_step HB1.out hb2)
  clear hb2 HB1 HFR
  obtain ⟨f1, hf1⟩ : ∃ f1, f1 = fewR q n := ⟨_, rfl⟩
  rw [← hf1]
  have HF1 := Lib.hid hf1
  clear hf1
  cases f1 with
  | false =>
    go_wp2_with fail
    go_ret
    exact ⟨rfl, HB2.out⟩
  | true =>
    have HRI : Hid (RecsIn w B n q) := Lib.hid (HR.out.in_ HF1.out.symm)
    have hn40 := (fewR_yes HF1.out.symm).1
    have HN40 := Lib.hid hn40
    clear HF1 HR hn40
    obtain ⟨wa, hwa⟩ : ∃ wa, wa = w2.alloc (.cells #[.slice B n c] 25) := ⟨_, rfl⟩
    obtain ⟨ba, hba⟩ : ∃ ba, ba = w2.heap.size := ⟨_, rfl⟩
    have h1 := one_in (c := c) (HRI.out.later HB2.out) HN40.out
    have hbb : Below w2.heap.size w2 wa := by rw [hwa]; exact (Below.refl _ _).alloc (Nat.le_refl _) _
    rw [← hwa, ← hba] at h1
    have HI1 := Lib.hid h1; have HBA := Lib.hid (below_step HB2.out hbb)
    have HSA := Lib.hid (segment_any a (some ⟨ba, 0, none⟩) 1 1 (oneRow B n c q) (by decide) wa h1)
    clear h1 hbb
    go_upto_region 7 with fail
    go_wp2_with fail
    rw [← hwa, ← hba]
    clear hwa hba HB2
    refine HSA.out.mono ?_; rintro e w3 ⟨s, E, C, p, rfl, hb3, hs⟩
    have HB3 := Lib.hid (below_step HBA.out hb3)
    have HS := Lib.hid hs
    clear hb3 hs HSA
    obtain ⟨wb, hwb⟩ : ∃ wb, wb = w3.alloc (.cells #[.slice B n c] 25) := ⟨_, rfl⟩
    obtain ⟨bb, hbbe⟩ : ∃ bb, bb = w3.heap.size := ⟨_, rfl⟩
    have h1 := one_in (c := c) (HRI.out.later HB3.out) HN40.out
    have hbb : Below w3.heap.size w3 wb := by rw [hwb]; exact (Below.refl _ _).alloc (Nat.le_refl _) _
    rw [← hwb, ← hbbe] at h1
    have HBB := Lib.hid (below_step HB3.out hbb)
    have HSB := Lib.hid (segment_any b (some ⟨bb, 0, none⟩) 1 1 (oneRow B n c q) (by decide) wb h1)
    have HI2 := Lib.hid h1
    clear h1 hbb
    go_wp2_with fail
    rw [← hwb, ← hbbe]
    clear hwb hbbe HB3
    refine HSB.out.mono ?_; rintro e w4 ⟨t, E2, C2, p2, rfl, hb4, ht⟩
    have HB4 := Lib.hid (below_step HBB.out hb4)
    have HT := Lib.hid ht
    clear hb4 ht HSB
    cases p with
    | false =>
      go_wp2_with fail
      go_ret
      exact ⟨rfl, HB4.out⟩
    | true =>
      cases p2 with
      | false =>
        go_wp2_with fail
        go_ret
        exact ⟨rfl, HB4.out⟩
      | true =>
        obtain ⟨es, hga, hoa, -, -⟩ := HS.out rfl
        obtain ⟨et, hgb, hob, -, -⟩ := HT.out rfl
        have rs := segr HI1.out hga hoa
        have rt := segr HI2.out hgb hob
        have zs := segz HI1.out hoa
        have zt := segz HI2.out hob
        rw [← es] at rs zs
        rw [← et] at rt zt
        have hz1 : a = 1 → s.size = 10 + 186 * n := fun e => by
          subst e
          rw [es]
          exact one_size HRI.out HN40.out hoa
        rw [one_list] at rs rt
        obtain ⟨X, hX⟩ : ∃ X, X = Wa.read s := ⟨_, rfl⟩
        obtain ⟨Y, hY⟩ : ∃ Y, Y = Wa.read t := ⟨_, rfl⟩
        have HRS := Lib.hid (fun U => lawRead_any s (by omega) U)
        have HRT := Lib.hid (fun U => lawRead_any t (by omega) U)
        unfold LawRead at HRS HRT
        rw [← hX] at HRS rs
        rw [← hY] at HRT rt
        have xe : X.err = 0 := by rw [rs]
        have ye : Y.err = 0 := by rw [rt]
        have xr : X.recs = (List.range n).map (recF q) := by rw [rs]
        have yr : Y.recs = (List.range n).map (recF q) := by rw [rt]
        have HXY : Hid (X.recs = Y.recs) := Lib.hid (xr.trans yr.symm)
        have hxl : X.recs.length = n := by rw [xr]; simp
        have HXL := Lib.hid hxl; have HXE := Lib.hid xe; have HYE := Lib.hid ye
        have HZ1 := Lib.hid hz1; have HZS := Lib.hid zs
        clear es et rs rt zs zt hz1 hoa hob hga hgb HS HT hX hY xe ye xr yr hxl
        go_wp2_with fail
        refine (HRS.out _).mono ?_; rintro e w5 ⟨A5, c5, B5, d5, q5, rfl, hs5, hb5⟩
        rw [HXE.out]
        obtain ⟨w6, hw6⟩ : ∃ w6, w6 = w5.alloc (.cells #[.int .i64 (X.flags : Int), .slice A5 X.recs.length c5, .int .i64 (X.used : Int), .bool X.torn, .int .i64 (X.gen : Int), .slice B5 X.keys.length d5] 34) := ⟨_, rfl⟩
        have hb6 : Below w5.heap.size w5 w6 := by rw [hw6]; exact (Below.refl _ _).alloc (Nat.le_refl _) _
        have hx6 : w6.heap[w5.heap.size]? = some (.cells #[.int .i64 (X.flags : Int), .slice A5 X.recs.length c5, .int .i64 (X.used : Int), .bool X.torn, .int .i64 (X.gen : Int), .slice B5 X.keys.length d5] 34 (0, 0)) := by rw [hw6]; exact heap_alloc_new w5 _
        obtain ⟨bx, hbx⟩ : ∃ bx, bx = w5.heap.size := ⟨_, rfl⟩
        rw [← hbx] at hx6
        have HX6 := Lib.hid hx6; have HS6 := Lib.hid (hs5.later hb6); have HB6 := Lib.hid (below_step HB4.out (below_step hb5 hb6))
        clear hs5 hb5 hb6 hx6 HRS
        go_upto_region 12 with fail
        rw [← hw6, ← hbx]
        clear hw6 hbx
        go_wp2_with fail
        refine (HRT.out _).mono ?_; rintro e w7 ⟨A7, c7, B7, d7, q7, rfl, hs7, hb7⟩
        rw [HYE.out]
        obtain ⟨w8, hw8⟩ : ∃ w8, w8 = w7.alloc (.cells #[.int .i64 (Y.flags : Int), .slice A7 Y.recs.length c7, .int .i64 (Y.used : Int), .bool Y.torn, .int .i64 (Y.gen : Int), .slice B7 Y.keys.length d7] 34) := ⟨_, rfl⟩
        have hb8 : Below w7.heap.size w7 w8 := by rw [hw8]; exact (Below.refl _ _).alloc (Nat.le_refl _) _
        have hy8 : w8.heap[w7.heap.size]? = some (.cells #[.int .i64 (Y.flags : Int), .slice A7 Y.recs.length c7, .int .i64 (Y.used : Int), .bool Y.torn, .int .i64 (Y.gen : Int), .slice B7 Y.keys.length d7] 34 (0, 0)) := by rw [hw8]; exact heap_alloc_new w7 _
        obtain ⟨by_, hby⟩ : ∃ by_, by_ = w7.heap.size := ⟨_, rfl⟩
        rw [← hby] at hy8
        have hb68 := below_step hb7 hb8
        have hx8 := heap_keep HX6.out hb68
        have hsr := rRecs_any A5 A7 X.recs.length Y.recs.length c5 c7 q5 q7 w8 (HS6.out.recs.later hb68) (hs7.recs.later hb8) (by have := HXL.out; have := HN40.out; omega) (HS6.out.list.symm.trans (HXY.out.trans hs7.list))
        have HSR := Lib.hid hsr; have HB8 := Lib.hid (below_step HB6.out hb68)
        have x1 := cell_of_row _ _ 1 _ _ _ hx8; have y1 := cell_of_row _ _ 1 _ _ _ hy8
        simp only [List.getElem?_toArray, List.getElem?_cons_zero, List.getElem?_cons_succ] at x1 y1
        clear hs7 hb7 hb8 hy8 hb68 hx8 hsr HRT HX6 HS6 HB6
        go_upto_region 13 with fail
        rw [← hw8, ← hby]
        clear hw8 hby
        by_cases ha : a = 1
        · have c1 : (a != 1) = false := by simp [ha]
          have c2 : decide (a = 1) = true := by simp [ha]
          have z1 := HZ1.out ha
          have c3 : decide ((s.size : Int) = 10 + 186 * (n : Int)) = true := by simp; omega
          have c4 : ((s.size : Int) == 10 + 186 * (n : Int)) = true := by simp; omega
          have n40 := HN40.out
          clear z1 ha
          go_wp2_with fail
          refine HSR.out.mono ?_; rintro e w9 ⟨rfl, hb9⟩
          have HB9 := Lib.hid (below_step HB8.out hb9)
          clear hb9
          go_wp2_with fail
          go_ret
          exact ⟨rfl, HB9.out⟩
        · have c1 : (a != 1) = true := by simp [ha]
          have c2 : decide (a = 1) = false := by simp [ha]
          clear ha
          go_wp2_with fail
          refine HSR.out.mono ?_; rintro e w9 ⟨rfl, hb9⟩
          have HB9 := Lib.hid (below_step HB8.out hb9)
          clear hb9
          go_wp2_with fail
          go_ret
          exact ⟨rfl, HB9.out⟩
end Go.Proofs.Ytaillfnmaiiapaa
