/-
  The reader's entries: the walk.
-/
import Derived.Test.YtliobahnekohmaaGreatIzG
namespace Go.Proofs.YtliobahnekohmaaGreat
open Go.RowKit
theorem run_make_func (fn : Fn) (first cap : Array Value) (w : World) : (Instr.makeFunc fn first cap).run Tryz.prog w = .ok (.func fn first cap) w := rfl
set_option maxRecDepth 100000 in
theorem run_idxA0 (a b c : Value) (U : World) : Sem.run Tryz.prog (Instr.index 126 (.agg #[a, b, c]) (.int .i64 0)) U = .ok a U := by kernel_rfl
set_option maxRecDepth 100000 in
theorem run_idxA1 (a b c : Value) (U : World) : Sem.run Tryz.prog (Instr.index 126 (.agg #[a, b, c]) (.int .i64 1)) U = .ok b U := by kernel_rfl
set_option maxRecDepth 100000 in
theorem run_idxA2 (a b c : Value) (U : World) : Sem.run Tryz.prog (Instr.index 126 (.agg #[a, b, c]) (.int .i64 2)) U = .ok c U := by kernel_rfl
set_option maxRecDepth 100000 in
theorem run_idxB0 (a b c : Value) (U : World) : Sem.run Tryz.prog (Instr.index 128 (.agg #[a, b, c]) (.int .i64 0)) U = .ok a U := by kernel_rfl
set_option maxRecDepth 100000 in
theorem run_idxB1 (a b c : Value) (U : World) : Sem.run Tryz.prog (Instr.index 128 (.agg #[a, b, c]) (.int .i64 1)) U = .ok b U := by kernel_rfl
set_option maxRecDepth 100000 in
theorem run_idxB2 (a b c : Value) (U : World) : Sem.run Tryz.prog (Instr.index 128 (.agg #[a, b, c]) (.int .i64 2)) U = .ok c U := by kernel_rfl
def exE (x : EAt) (_ j : Nat) : Value := ex (fun _ => x) 0 j
theorem exE_one (x : EAt) (i j : Nat) : (exE x i j).oneCell' = true := by
 unfold exE
 match j with
 | 0 => rfl
 | 1 => rfl
 | 2 => rfl
 | _ + 3 => rfl
theorem exE_row (w : World) (x : EAt) (T : TypeId) : Row 4 (exE x) (w.alloc (.cells (entC x) T)) (some ⟨w.heap.size, 0, none⟩) 1 := row_built 4 _ w _ _ (fun j hj => by
 rcases (show j = 0 ∨ j = 1 ∨ j = 2 ∨ j = 3 by omega) with rfl | rfl | rfl | rfl <;> rfl)
theorem infoE : (Tryz.prog.info? 59).map (fun i => (i.zero, i.size, i.bytes)) = some (some (.agg #[.slice none 0 0, .int .i64 0, .int .i64 0, .int .i64 0]), 4, 48) := by kernel_rfl
def EntsOut (w : World) (rb : Nat) (L : List Ix.Ent) (c : Ix.Cu) (e : Ending) (V : World) : Prop :=
 ∃ A k q S sv la en, e = .returned (.slice A L.length k) ∧ EntsIn V A L.length q ∧ entL q L.length = L ∧ Rdr w V rb c S sv la en
set_option maxRecDepth 100000 in
set_option maxHeartbeats 8000000 in
theorem rentries_1 {w U : World} {rb : Nat} {c : Ix.Cu} (h : Rdr w U rb c [] (.slice none 0 0) 0 0) :
 Calls Tryz.prog 57 #[.pointer (some ⟨rb, 0, none⟩), .int .i64 1] U (EntsOut w rb (Ix.rd 1 c).1 (Ix.rd 1 c).2) := by
 rw [Ix.rd_is (by decide) c]
 obtain ⟨hSl, hSz⟩ := Ix.symsOf_small 1 c
 have HH := Lib.hid h
 have HAT : Hid (∀ (V : World) (S : List ByteArray) (sv : Value), Rdr w V rb (Ix.cuOf 1 c).wide.2 S sv 0 0 → Calls Tryz.prog 97 #[.pointer (some ⟨rb, 0, none⟩), .int .u64 (((Ix.cuOf 1 c).wide.1 : Nat) : Int), .int .i64 20] V fun e V2 => e = .returned (.int .i64 (((Ix.cntOf 1 c).1 : Nat) : Int)) ∧ Rdr w V2 rb (Ix.cntOf 1 c).2 S sv 0 0 ∧ V.grownBy V2 (some rb)) := Lib.hid (fun V S sv hv => ratMost hv _ 20 (by omega)); have HCN : Hid (∀ (V : World) (S : List ByteArray) (sv : Value), Rdr w V rb (Ix.cuOf 1 c) S sv 0 0 → Calls Tryz.prog 91 #[.pointer (some ⟨rb, 0, none⟩)] V fun e V2 => e = .returned (.int .u64 (((Ix.cuOf 1 c).wide.1 : Nat) : Int)) ∧ Rdr w V2 rb (Ix.cuOf 1 c).wide.2 S sv 0 0 ∧ V.grownBy V2 (some rb)) := Lib.hid (fun V S sv hv => rwide hv); have HSE : Hid (∀ V : World, Rdr w V rb c [] (.slice none 0 0) 0 0 → ∃ sv, Rdr w V rb (Ix.cuOf 1 c) (Ix.symsOf 1 c) sv 0 0) := Lib.hid (fun V h => ⟨_, h⟩)
 have hcle : (Ix.cntOf 1 c).1 ≤ 20 := Ix.atMost_le 20 _
 have HTI := Lib.hid (fun la en c => Ix.one_tiny hSz 1 la en c)
 have HST := Lib.hid (fun k L la en ci (hf : Ix.EntAt 1 (Ix.symsOf 1 c) (Ix.cntOf 1 c).1 (Ix.cntOf 1 c).2 k L la en ci) hk => hf.step hk)
 have HSP := Lib.hid (fun L la en ci (hf : Ix.EntAt 1 (Ix.symsOf 1 c) (Ix.cntOf 1 c).1 (Ix.cntOf 1 c).2 (Ix.cntOf 1 c).1 L la en ci) => hf.stop)
 have HF0 := Lib.hid (Ix.EntAt.first 1 (Ix.symsOf 1 c) (Ix.cntOf 1 c).1 (Ix.cntOf 1 c).2)
 generalize Ix.symsOf 1 c = S at *
 have hpr : Ix.cntOf 1 c = ((Ix.cntOf 1 c).1, (Ix.cntOf 1 c).2) := rfl
 generalize Ix.cuOf 1 c = cu at *
 generalize Ix.cntOf 1 c = cn at *
 obtain ⟨m, c2⟩ := cn
 simp only at hcle HST HSP HF0 HAT ⊢
 generalize Ix.rdA 1 S m 0 0 c2 = res at *
 have hmf := run_make_func
 clear h hpr hSz
 go_enter Tryz.func57, Tryz.ntmps57
 go_upto_region 1 with fail
 refine plain_robD [(0, some 8), (1, some 9), (2, some 10), (3, some 11), (4, some 12), (5, some 13), (6, some 14), (7, some 15), (8, some 16), (9, some 17), (10, some 18), (11, some 19), (12, some 20), (13, some 21), (14, some 22), (15, some 23), (16, some 5)] [] (fun _ _ => True) (fun _ V => Rdr w V rb c [] (.slice none 0 0) 0 0) [(0, .pointer (some ⟨rb, 0, none⟩)), (1, .pointer (some ⟨rb, 0, none⟩)), (2, .pointer (some ⟨rb, 0, none⟩)), (3, .func (.func 91) #[.pointer (some ⟨rb, 0, none⟩)] #[]), (4, .pointer (some ⟨rb, 0, none⟩)), (5, .pointer (some ⟨rb, 0, none⟩)), (6, .pointer (some ⟨rb, 0, none⟩)), (7, .func (.func 92) #[.pointer (some ⟨rb, 0, none⟩)] #[]), (8, .pointer (some ⟨rb, 0, none⟩)), (9, .pointer (some ⟨rb, 0, none⟩)), (10, .pointer (some ⟨rb, 0, none⟩)), (11, .func (.func 92) #[.pointer (some ⟨rb, 0, none⟩)] #[]), (12, .agg #[.func (.func 91) #[.pointer (some ⟨rb, 0, none⟩)] #[], .func (.func 92) #[.pointer (some ⟨rb, 0, none⟩)] #[], .func (.func 92) #[.pointer (some ⟨rb, 0, none⟩)] #[]]), (13, .int .i64 1), (14, .int .i64 0), (15, .func (.func 91) #[.pointer (some ⟨rb, 0, none⟩)] #[]), (16, .func (.func 91) #[.pointer (some ⟨rb, 0, none⟩)] #[])] [] 0 (by kernel_rfl) (by kernel_rfl) (by kernel_rfl) (HH.out.later (Below.refl _ _).drew) ?_ ?_ ?_
 · intro p hp; cases hp
 · refine ⟨⟨_, rfl, fun ν δ U hU h00 h1 h2 hp => ?_⟩, ?_⟩
   · simp only [putsν, Act.put, List.setIfInBounds_toArray, List.set_cons_zero, List.set_cons_succ]
     dsimp only at hU
     exact Yld.value (.pointer (some ⟨rb, 0, none⟩)) U (by kernel_rfl) (by go_simp) ⟨trivial, hU, Fx.fixed rfl rfl⟩
   refine ⟨⟨_, rfl, fun ν δ U hU h00 h1 h2 hp => ?_⟩, ?_⟩
   · simp only [putsν, Act.put, List.setIfInBounds_toArray, List.set_cons_zero, List.set_cons_succ]
     have e0 := (hp 0 (by kernel_rfl) (by kernel_rfl)).val _ rfl
     simp only [e0]
     dsimp only at hU
     exact Yld.value (.pointer (some ⟨rb, 0, none⟩)) U (by kernel_rfl) (by go_simp) ⟨trivial, hU, Fx.fixed rfl rfl⟩
   refine ⟨⟨_, rfl, fun ν δ U hU h00 h1 h2 hp => ?_⟩, ?_⟩
   · simp only [putsν, Act.put, List.setIfInBounds_toArray, List.set_cons_zero, List.set_cons_succ]
     have e1 := (hp 1 (by kernel_rfl) (by kernel_rfl)).val _ rfl
     simp only [e1]
     dsimp only at hU
     exact Yld.value (.pointer (some ⟨rb, 0, none⟩)) U (by kernel_rfl) (by go_simp) ⟨trivial, hU, Fx.fixed rfl rfl⟩
   refine ⟨⟨_, rfl, fun ν δ U hU h00 h1 h2 hp => ?_⟩, ?_⟩
   · simp only [putsν, Act.put, List.setIfInBounds_toArray, List.set_cons_zero, List.set_cons_succ]
     have e2 := (hp 2 (by kernel_rfl) (by kernel_rfl)).val _ rfl
     simp only [e2]
     dsimp only at hU
     exact Yld.value (.func (.func 91) #[.pointer (some ⟨rb, 0, none⟩)] #[]) U (by kernel_rfl) (by have hmf := run_make_func; go_simp) ⟨trivial, hU, Fx.fixed rfl rfl⟩
   refine ⟨⟨_, rfl, fun ν δ U hU h00 h1 h2 hp => ?_⟩, ?_⟩
   · simp only [putsν, Act.put, List.setIfInBounds_toArray, List.set_cons_zero, List.set_cons_succ]
     dsimp only at hU
     exact Yld.value (.pointer (some ⟨rb, 0, none⟩)) U (by kernel_rfl) (by go_simp) ⟨trivial, hU, Fx.fixed rfl rfl⟩
   refine ⟨⟨_, rfl, fun ν δ U hU h00 h1 h2 hp => ?_⟩, ?_⟩
   · simp only [putsν, Act.put, List.setIfInBounds_toArray, List.set_cons_zero, List.set_cons_succ]
     have e4 := (hp 4 (by kernel_rfl) (by kernel_rfl)).val _ rfl
     simp only [e4]
     dsimp only at hU
     exact Yld.value (.pointer (some ⟨rb, 0, none⟩)) U (by kernel_rfl) (by go_simp) ⟨trivial, hU, Fx.fixed rfl rfl⟩
   refine ⟨⟨_, rfl, fun ν δ U hU h00 h1 h2 hp => ?_⟩, ?_⟩
   · simp only [putsν, Act.put, List.setIfInBounds_toArray, List.set_cons_zero, List.set_cons_succ]
     have e5 := (hp 5 (by kernel_rfl) (by kernel_rfl)).val _ rfl
     simp only [e5]
     dsimp only at hU
     exact Yld.value (.pointer (some ⟨rb, 0, none⟩)) U (by kernel_rfl) (by go_simp) ⟨trivial, hU, Fx.fixed rfl rfl⟩
   refine ⟨⟨_, rfl, fun ν δ U hU h00 h1 h2 hp => ?_⟩, ?_⟩
   · simp only [putsν, Act.put, List.setIfInBounds_toArray, List.set_cons_zero, List.set_cons_succ]
     have e6 := (hp 6 (by kernel_rfl) (by kernel_rfl)).val _ rfl
     simp only [e6]
     dsimp only at hU
     exact Yld.value (.func (.func 92) #[.pointer (some ⟨rb, 0, none⟩)] #[]) U (by kernel_rfl) (by have hmf := run_make_func; go_simp) ⟨trivial, hU, Fx.fixed rfl rfl⟩
   refine ⟨⟨_, rfl, fun ν δ U hU h00 h1 h2 hp => ?_⟩, ?_⟩
   · simp only [putsν, Act.put, List.setIfInBounds_toArray, List.set_cons_zero, List.set_cons_succ]
     dsimp only at hU
     exact Yld.value (.pointer (some ⟨rb, 0, none⟩)) U (by kernel_rfl) (by go_simp) ⟨trivial, hU, Fx.fixed rfl rfl⟩
   refine ⟨⟨_, rfl, fun ν δ U hU h00 h1 h2 hp => ?_⟩, ?_⟩
   · simp only [putsν, Act.put, List.setIfInBounds_toArray, List.set_cons_zero, List.set_cons_succ]
     have e8 := (hp 8 (by kernel_rfl) (by kernel_rfl)).val _ rfl
     simp only [e8]
     dsimp only at hU
     exact Yld.value (.pointer (some ⟨rb, 0, none⟩)) U (by kernel_rfl) (by go_simp) ⟨trivial, hU, Fx.fixed rfl rfl⟩
   refine ⟨⟨_, rfl, fun ν δ U hU h00 h1 h2 hp => ?_⟩, ?_⟩
   · simp only [putsν, Act.put, List.setIfInBounds_toArray, List.set_cons_zero, List.set_cons_succ]
     have e9 := (hp 9 (by kernel_rfl) (by kernel_rfl)).val _ rfl
     simp only [e9]
     dsimp only at hU
     exact Yld.value (.pointer (some ⟨rb, 0, none⟩)) U (by kernel_rfl) (by go_simp) ⟨trivial, hU, Fx.fixed rfl rfl⟩
   refine ⟨⟨_, rfl, fun ν δ U hU h00 h1 h2 hp => ?_⟩, ?_⟩
   · simp only [putsν, Act.put, List.setIfInBounds_toArray, List.set_cons_zero, List.set_cons_succ]
     have e10 := (hp 10 (by kernel_rfl) (by kernel_rfl)).val _ rfl
     simp only [e10]
     dsimp only at hU
     exact Yld.value (.func (.func 92) #[.pointer (some ⟨rb, 0, none⟩)] #[]) U (by kernel_rfl) (by have hmf := run_make_func; go_simp) ⟨trivial, hU, Fx.fixed rfl rfl⟩
   refine ⟨⟨_, rfl, fun ν δ U hU h00 h1 h2 hp => ?_⟩, ?_⟩
   · simp only [putsν, Act.put, List.setIfInBounds_toArray, List.set_cons_zero, List.set_cons_succ]
     have e3 := (hp 3 (by kernel_rfl) (by kernel_rfl)).val _ rfl
     have e7 := (hp 7 (by kernel_rfl) (by kernel_rfl)).val _ rfl
     have e11 := (hp 11 (by kernel_rfl) (by kernel_rfl)).val _ rfl
     simp only [e3, e7, e11]
     dsimp only at hU
     exact Yld.value (.agg #[.func (.func 91) #[.pointer (some ⟨rb, 0, none⟩)] #[], .func (.func 92) #[.pointer (some ⟨rb, 0, none⟩)] #[], .func (.func 92) #[.pointer (some ⟨rb, 0, none⟩)] #[]]) U (by kernel_rfl) (by go_simp) ⟨trivial, hU, Fx.fixed rfl rfl⟩
   refine ⟨⟨_, rfl, fun ν δ U hU h00 h1 h2 hp => ?_⟩, ?_⟩
   · simp only [putsν, Act.put, List.setIfInBounds_toArray, List.set_cons_zero, List.set_cons_succ]
     dsimp only at hU
     exact Yld.value (.int .i64 1) U (by kernel_rfl) (by go_simp) ⟨trivial, hU, Fx.fixed rfl rfl⟩
   refine ⟨⟨_, rfl, fun ν δ U hU h00 h1 h2 hp => ?_⟩, ?_⟩
   · simp only [putsν, Act.put, List.setIfInBounds_toArray, List.set_cons_zero, List.set_cons_succ]
     have e13 := (hp 13 (by kernel_rfl) (by kernel_rfl)).val _ rfl
     simp only [e13]
     dsimp only at hU
     exact Yld.value (.int .i64 0) U (by kernel_rfl) (by have hw9 : IntKind.i64.wrap 0 = 0 := (by rw [IntKind.wrap_i64]; rfl); go_simp) ⟨trivial, hU, Fx.fixed rfl rfl⟩
   refine ⟨⟨_, rfl, fun ν δ U hU h00 h1 h2 hp => ?_⟩, ?_⟩
   · simp only [putsν, Act.put, List.setIfInBounds_toArray, List.set_cons_zero, List.set_cons_succ]
     have e12 := (hp 12 (by kernel_rfl) (by kernel_rfl)).val _ rfl
     have e14 := (hp 14 (by kernel_rfl) (by kernel_rfl)).val _ rfl
     simp only [e12, e14]
     dsimp only at hU
     exact Yld.value (.func (.func 91) #[.pointer (some ⟨rb, 0, none⟩)] #[]) U (by kernel_rfl) (by have hix := run_idxA0; go_simp) ⟨trivial, hU, Fx.fixed rfl rfl⟩
   refine ⟨⟨_, rfl, fun ν δ U hU h00 h1 h2 hp => ?_⟩, ?_⟩
   · simp only [putsν, Act.put, List.setIfInBounds_toArray, List.set_cons_zero, List.set_cons_succ]
     have e15 := (hp 15 (by kernel_rfl) (by kernel_rfl)).val _ rfl
     simp only [e15]
     dsimp only at hU
     exact Yld.value (.func (.func 91) #[.pointer (some ⟨rb, 0, none⟩)] #[]) U (by kernel_rfl) (by go_simp) ⟨trivial, hU, Fx.fixed rfl rfl⟩
   trivial
 intro ν δ w1 hS1 hd hf
 have e0 := (hf 0 (by kernel_rfl)).val _ rfl
 have e1 := (hf 1 (by kernel_rfl)).val _ rfl
 have e2 := (hf 2 (by kernel_rfl)).val _ rfl
 have e3 := (hf 3 (by kernel_rfl)).val _ rfl
 have e4 := (hf 4 (by kernel_rfl)).val _ rfl
 have e5 := (hf 5 (by kernel_rfl)).val _ rfl
 have e6 := (hf 6 (by kernel_rfl)).val _ rfl
 have e7 := (hf 7 (by kernel_rfl)).val _ rfl
 have e8 := (hf 8 (by kernel_rfl)).val _ rfl
 have e9 := (hf 9 (by kernel_rfl)).val _ rfl
 have e10 := (hf 10 (by kernel_rfl)).val _ rfl
 have e11 := (hf 11 (by kernel_rfl)).val _ rfl
 have e12 := (hf 12 (by kernel_rfl)).val _ rfl
 have e13 := (hf 13 (by kernel_rfl)).val _ rfl
 have e14 := (hf 14 (by kernel_rfl)).val _ rfl
 have e15 := (hf 15 (by kernel_rfl)).val _ rfl
 have e16 := (hf 16 (by kernel_rfl)).val _ rfl
 simp only [putsν, Act.put, List.setIfInBounds_toArray, List.set_cons_zero, List.set_cons_succ, e0, e1, e2, e3, e4, e5, e6, e7, e8, e9, e10, e11, e12, e13, e14, e15, e16]
 clear hf e0 e1 e2 e3 e4 e5 e6 e7 e8 e9 e10 e11 e12 e13 e14 e15 e16
 have HR1 := Lib.hid hS1
 clear hS1 hd HH
 refine wpAnyT_done (by kernel_rfl) ?_ _
 refine only_mk ?_
 have hix := run_idxB0
 go_wp2_with fail
 obtain ⟨sv, hr2⟩ := HSE.out w1 HR1.out; have HCT := Lib.hid (HCN.out w1 _ _ hr2); clear hr2 HSE HCN HR1
 refine HCT.out.mono ?_; rintro e w3 ⟨rfl, h1, -⟩
 have HC := Lib.hid (HAT.out w3 _ _ h1)
 clear h1 HCT HAT
 go_wp2_with fail
 refine HC.out.mono ?_; rintro e w4 ⟨rfl, h1, -⟩
 have H4 := Lib.hid h1
 clear h1 HC
 go_wp2_with fail
 go_loopw [7, 44] (fun v i wr => ∃ (k : Nat) (L : List Ix.Ent) (la en : Int) (ci : Ix.Cu) (q : Nat → EAt), i = .int .i64 k ∧ Ix.EntAt 1 S m c2 k L la en ci ∧ entL q k = L ∧ (∀ i, i < k → Ix.Tiny (q i).e) ∧ Es w wr rb ci S sv la en v k q) (fun _ i _ => m - (intOf i).toNat)
 case atStart => exact ⟨0, [], 0, 0, c2, fun _ => ⟨⟨[], 0, 0, 0⟩, none, 0⟩, rfl, HF0.out, rfl, (fun i hi => absurd hi (Nat.not_lt_zero i)), ⟨H4.out, World.ownsRow_nil _ _ _ _, fun i hi => absurd hi (Nat.not_lt_zero i)⟩⟩
 case round =>
  obtain ⟨k, L, la, en, ci, q, rfl, hf, hql, hti, hes⟩ := hrel
  have HF := Lib.hid hf; have HE := Lib.hid hes; have HQL := Lib.hid hql; have HQT := Lib.hid hti
  clear hf hes hql hti H4
  by_cases hkm : k < m
  · have d1 : decide ((k : Int) < (m : Int)) = true := decide_eq_true (Int.ofNat_lt.2 hkm)
    have HO := Lib.hid (rone (g := 1) (by decide) hSl HE.out.rd)
    have hst := HST.out k L la en ci HF.out hkm
    have htn := HTI.out la en ci
    generalize Ix.one 1 S la en ci = o at *
    obtain ⟨x, la2, en2, c3⟩ := o
    simp only at HO hst htn
    have HNX := Lib.hid hst; have HTN := Lib.hid htn
    clear hst htn
    go_wp2_with fail
    refine HO.out.mono ?_; rintro e w5 ⟨A, kk, rfl, hlr, hrd, hg⟩
    have hb6 : Below w5.heap.size w5 (w5.alloc (.cells (entC ⟨x, A, kk⟩) 59)) := (Below.refl _ _).alloc (Nat.le_refl _) _
    have HE6 := Lib.hid ((HE.out.step hrd hg).later hb6)
    have HLR := Lib.hid (hlr.later hb6)
    have HROW := Lib.hid (exE_row w5 ⟨x, A, kk⟩ 59)
    have hbb : w.heap.size ≤ (w5.alloc (.cells (entC ⟨x, A, kk⟩) 59)).heap.size := HE6.out.rd.bel.size
    have HBB := Lib.hid hbb; have HK20 : Hid (k ≤ 20) := Lib.hid (Nat.le_trans (Nat.le_of_lt hkm) hcle)
    unfold entC at HE6 HLR HROW HBB
    clear hlr hrd hg hb6 hbb HO HE
    go_wp2_with (at_builtin; go_must (refine wpList_append_row _ rfl _ _ 22 59 rfl 4 48 (.agg #[.slice none 0 0, .int .i64 0, .int .i64 0, .int .i64 0]) Tryz.underlying22 infoE rfl (by decide) (by decide) w.heap.size _ k (rcells 4 (ex q) k) rfl HE6.out.own ⟨w5.heap.size, 0, none⟩ 1 1 (exE ⟨x, A, kk⟩) (exE_one _) rfl HROW.out (by have := HK20.out; omega) HBB.out ?_); intro v8 w8 hown8 hg8; have HE8 := Lib.hid (HE6.out.more (x := ⟨x, A, kk⟩) HLR.out hg8 hown8); clear hown8 hg8)
    go_roundw
    case rel => exact ⟨k + 1, L ++ [x], la2, en2, c3, plus q k ⟨x, A, kk⟩, rfl, HNX.out, by rw [entL_plus, HQL.out], (fun i hi => by
     by_cases hik : i = k
     · subst hik; rw [plus_new]; exact HTN.out
     · rw [plus_old (by omega)]; exact HQT.out i (by omega)), HE8.out⟩
    case measure => exact meas_lt0 hkm
  · obtain rfl : k = m := Nat.le_antisymm HF.out.le (Nat.le_of_not_lt hkm)
    have d1 : decide ((k : Int) < (k : Int)) = false := decide_eq_false (Int.lt_irrefl _)
    have HRES := Lib.hid (HSP.out L la en ci HF.out)
    obtain ⟨A, kk, hv, hin⟩ := HE.out.in_ HQT.out hcle
    subst hv
    have HIN := Lib.hid hin
    clear hin
    go_wp2_with fail
    go_ret
    rw [HRES.out]
    have hl := HF.out.len
    exact ⟨A, kk, q, S, sv, la, en, by rw [hl]; rfl, by rw [hl]; exact HIN.out, by rw [hl]; exact HQL.out, HE.out.rd⟩
set_option maxRecDepth 100000 in
set_option maxHeartbeats 8000000 in
theorem rentries_2 {w U : World} {rb : Nat} {c : Ix.Cu} (h : Rdr w U rb c [] (.slice none 0 0) 0 0) :
 Calls Tryz.prog 57 #[.pointer (some ⟨rb, 0, none⟩), .int .i64 2] U (EntsOut w rb (Ix.rd 2 c).1 (Ix.rd 2 c).2) := by
 rw [Ix.rd_is (by decide) c]
 obtain ⟨hSl, hSz⟩ := Ix.symsOf_small 2 c
 have HH := Lib.hid h
 have HAT : Hid (∀ (V : World) (S : List ByteArray) (sv : Value), Rdr w V rb (Ix.cuOf 2 c).small.2 S sv 0 0 → Calls Tryz.prog 97 #[.pointer (some ⟨rb, 0, none⟩), .int .u64 (((Ix.cuOf 2 c).small.1 : Nat) : Int), .int .i64 20] V fun e V2 => e = .returned (.int .i64 (((Ix.cntOf 2 c).1 : Nat) : Int)) ∧ Rdr w V2 rb (Ix.cntOf 2 c).2 S sv 0 0 ∧ V.grownBy V2 (some rb)) := Lib.hid (fun V S sv hv => ratMost hv _ 20 (by omega)); have HCN : Hid (∀ (V : World) (S : List ByteArray) (sv : Value), Rdr w V rb (Ix.cuOf 2 c) S sv 0 0 → Calls Tryz.prog 92 #[.pointer (some ⟨rb, 0, none⟩)] V fun e V2 => e = .returned (.int .u64 (((Ix.cuOf 2 c).small.1 : Nat) : Int)) ∧ Rdr w V2 rb (Ix.cuOf 2 c).small.2 S sv 0 0 ∧ V.grownBy V2 (some rb)) := Lib.hid (fun V S sv hv => rsmall hv); have HSE : Hid (∀ V : World, Rdr w V rb c [] (.slice none 0 0) 0 0 → Calls Tryz.prog 96 #[.pointer (some ⟨rb, 0, none⟩), .bool false] V fun e V2 => ∃ sv, e = .returned (.tuple #[]) ∧ Rdr w V2 rb (Ix.cuOf 2 c) (Ix.symsOf 2 c) sv 0 0) := Lib.hid (fun V h => rsyms false h)
 have hcle : (Ix.cntOf 2 c).1 ≤ 20 := Ix.atMost_le 20 _
 have HTI := Lib.hid (fun la en c => Ix.one_tiny hSz 2 la en c)
 have HST := Lib.hid (fun k L la en ci (hf : Ix.EntAt 2 (Ix.symsOf 2 c) (Ix.cntOf 2 c).1 (Ix.cntOf 2 c).2 k L la en ci) hk => hf.step hk)
 have HSP := Lib.hid (fun L la en ci (hf : Ix.EntAt 2 (Ix.symsOf 2 c) (Ix.cntOf 2 c).1 (Ix.cntOf 2 c).2 (Ix.cntOf 2 c).1 L la en ci) => hf.stop)
 have HF0 := Lib.hid (Ix.EntAt.first 2 (Ix.symsOf 2 c) (Ix.cntOf 2 c).1 (Ix.cntOf 2 c).2)
 generalize Ix.symsOf 2 c = S at *
 have hpr : Ix.cntOf 2 c = ((Ix.cntOf 2 c).1, (Ix.cntOf 2 c).2) := rfl
 generalize Ix.cuOf 2 c = cu at *
 generalize Ix.cntOf 2 c = cn at *
 obtain ⟨m, c2⟩ := cn
 simp only at hcle HST HSP HF0 HAT ⊢
 generalize Ix.rdA 2 S m 0 0 c2 = res at *
 have hmf := run_make_func
 clear h hpr hSz
 go_enter Tryz.func57, Tryz.ntmps57
 go_upto_region 1 with fail
 refine plain_robD [(0, some 8), (1, some 9), (2, some 10), (3, some 11), (4, some 12), (5, some 13), (6, some 14), (7, some 15), (8, some 16), (9, some 17), (10, some 18), (11, some 19), (12, some 20), (13, some 21), (14, some 22), (15, some 23), (16, some 5)] [] (fun _ _ => True) (fun _ V => Rdr w V rb c [] (.slice none 0 0) 0 0) [(0, .pointer (some ⟨rb, 0, none⟩)), (1, .pointer (some ⟨rb, 0, none⟩)), (2, .pointer (some ⟨rb, 0, none⟩)), (3, .func (.func 91) #[.pointer (some ⟨rb, 0, none⟩)] #[]), (4, .pointer (some ⟨rb, 0, none⟩)), (5, .pointer (some ⟨rb, 0, none⟩)), (6, .pointer (some ⟨rb, 0, none⟩)), (7, .func (.func 92) #[.pointer (some ⟨rb, 0, none⟩)] #[]), (8, .pointer (some ⟨rb, 0, none⟩)), (9, .pointer (some ⟨rb, 0, none⟩)), (10, .pointer (some ⟨rb, 0, none⟩)), (11, .func (.func 92) #[.pointer (some ⟨rb, 0, none⟩)] #[]), (12, .agg #[.func (.func 91) #[.pointer (some ⟨rb, 0, none⟩)] #[], .func (.func 92) #[.pointer (some ⟨rb, 0, none⟩)] #[], .func (.func 92) #[.pointer (some ⟨rb, 0, none⟩)] #[]]), (13, .int .i64 2), (14, .int .i64 1), (15, .func (.func 92) #[.pointer (some ⟨rb, 0, none⟩)] #[]), (16, .func (.func 92) #[.pointer (some ⟨rb, 0, none⟩)] #[])] [] 0 (by kernel_rfl) (by kernel_rfl) (by kernel_rfl) (HH.out.later (Below.refl _ _).drew) ?_ ?_ ?_
 · intro p hp; cases hp
 · refine ⟨⟨_, rfl, fun ν δ U hU h00 h1 h2 hp => ?_⟩, ?_⟩
   · simp only [putsν, Act.put, List.setIfInBounds_toArray, List.set_cons_zero, List.set_cons_succ]
     dsimp only at hU
     exact Yld.value (.pointer (some ⟨rb, 0, none⟩)) U (by kernel_rfl) (by go_simp) ⟨trivial, hU, Fx.fixed rfl rfl⟩
   refine ⟨⟨_, rfl, fun ν δ U hU h00 h1 h2 hp => ?_⟩, ?_⟩
   · simp only [putsν, Act.put, List.setIfInBounds_toArray, List.set_cons_zero, List.set_cons_succ]
     have e0 := (hp 0 (by kernel_rfl) (by kernel_rfl)).val _ rfl
     simp only [e0]
     dsimp only at hU
     exact Yld.value (.pointer (some ⟨rb, 0, none⟩)) U (by kernel_rfl) (by go_simp) ⟨trivial, hU, Fx.fixed rfl rfl⟩
   refine ⟨⟨_, rfl, fun ν δ U hU h00 h1 h2 hp => ?_⟩, ?_⟩
   · simp only [putsν, Act.put, List.setIfInBounds_toArray, List.set_cons_zero, List.set_cons_succ]
     have e1 := (hp 1 (by kernel_rfl) (by kernel_rfl)).val _ rfl
     simp only [e1]
     dsimp only at hU
     exact Yld.value (.pointer (some ⟨rb, 0, none⟩)) U (by kernel_rfl) (by go_simp) ⟨trivial, hU, Fx.fixed rfl rfl⟩
   refine ⟨⟨_, rfl, fun ν δ U hU h00 h1 h2 hp => ?_⟩, ?_⟩
   · simp only [putsν, Act.put, List.setIfInBounds_toArray, List.set_cons_zero, List.set_cons_succ]
     have e2 := (hp 2 (by kernel_rfl) (by kernel_rfl)).val _ rfl
     simp only [e2]
     dsimp only at hU
     exact Yld.value (.func (.func 91) #[.pointer (some ⟨rb, 0, none⟩)] #[]) U (by kernel_rfl) (by have hmf := run_make_func; go_simp) ⟨trivial, hU, Fx.fixed rfl rfl⟩
   refine ⟨⟨_, rfl, fun ν δ U hU h00 h1 h2 hp => ?_⟩, ?_⟩
   · simp only [putsν, Act.put, List.setIfInBounds_toArray, List.set_cons_zero, List.set_cons_succ]
     dsimp only at hU
     exact Yld.value (.pointer (some ⟨rb, 0, none⟩)) U (by kernel_rfl) (by go_simp) ⟨trivial, hU, Fx.fixed rfl rfl⟩
   refine ⟨⟨_, rfl, fun ν δ U hU h00 h1 h2 hp => ?_⟩, ?_⟩
   · simp only [putsν, Act.put, List.setIfInBounds_toArray, List.set_cons_zero, List.set_cons_succ]
     have e4 := (hp 4 (by kernel_rfl) (by kernel_rfl)).val _ rfl
     simp only [e4]
     dsimp only at hU
     exact Yld.value (.pointer (some ⟨rb, 0, none⟩)) U (by kernel_rfl) (by go_simp) ⟨trivial, hU, Fx.fixed rfl rfl⟩
   refine ⟨⟨_, rfl, fun ν δ U hU h00 h1 h2 hp => ?_⟩, ?_⟩
   · simp only [putsν, Act.put, List.setIfInBounds_toArray, List.set_cons_zero, List.set_cons_succ]
     have e5 := (hp 5 (by kernel_rfl) (by kernel_rfl)).val _ rfl
     simp only [e5]
     dsimp only at hU
     exact Yld.value (.pointer (some ⟨rb, 0, none⟩)) U (by kernel_rfl) (by go_simp) ⟨trivial, hU, Fx.fixed rfl rfl⟩
   refine ⟨⟨_, rfl, fun ν δ U hU h00 h1 h2 hp => ?_⟩, ?_⟩
   · simp only [putsν, Act.put, List.setIfInBounds_toArray, List.set_cons_zero, List.set_cons_succ]
     have e6 := (hp 6 (by kernel_rfl) (by kernel_rfl)).val _ rfl
     simp only [e6]
     dsimp only at hU
     exact Yld.value (.func (.func 92) #[.pointer (some ⟨rb, 0, none⟩)] #[]) U (by kernel_rfl) (by have hmf := run_make_func; go_simp) ⟨trivial, hU, Fx.fixed rfl rfl⟩
   refine ⟨⟨_, rfl, fun ν δ U hU h00 h1 h2 hp => ?_⟩, ?_⟩
   · simp only [putsν, Act.put, List.setIfInBounds_toArray, List.set_cons_zero, List.set_cons_succ]
     dsimp only at hU
     exact Yld.value (.pointer (some ⟨rb, 0, none⟩)) U (by kernel_rfl) (by go_simp) ⟨trivial, hU, Fx.fixed rfl rfl⟩
   refine ⟨⟨_, rfl, fun ν δ U hU h00 h1 h2 hp => ?_⟩, ?_⟩
   · simp only [putsν, Act.put, List.setIfInBounds_toArray, List.set_cons_zero, List.set_cons_succ]
     have e8 := (hp 8 (by kernel_rfl) (by kernel_rfl)).val _ rfl
     simp only [e8]
     dsimp only at hU
     exact Yld.value (.pointer (some ⟨rb, 0, none⟩)) U (by kernel_rfl) (by go_simp) ⟨trivial, hU, Fx.fixed rfl rfl⟩
   refine ⟨⟨_, rfl, fun ν δ U hU h00 h1 h2 hp => ?_⟩, ?_⟩
   · simp only [putsν, Act.put, List.setIfInBounds_toArray, List.set_cons_zero, List.set_cons_succ]
     have e9 := (hp 9 (by kernel_rfl) (by kernel_rfl)).val _ rfl
     simp only [e9]
     dsimp only at hU
     exact Yld.value (.pointer (some ⟨rb, 0, none⟩)) U (by kernel_rfl) (by go_simp) ⟨trivial, hU, Fx.fixed rfl rfl⟩
   refine ⟨⟨_, rfl, fun ν δ U hU h00 h1 h2 hp => ?_⟩, ?_⟩
   · simp only [putsν, Act.put, List.setIfInBounds_toArray, List.set_cons_zero, List.set_cons_succ]
     have e10 := (hp 10 (by kernel_rfl) (by kernel_rfl)).val _ rfl
     simp only [e10]
     dsimp only at hU
     exact Yld.value (.func (.func 92) #[.pointer (some ⟨rb, 0, none⟩)] #[]) U (by kernel_rfl) (by have hmf := run_make_func; go_simp) ⟨trivial, hU, Fx.fixed rfl rfl⟩
   refine ⟨⟨_, rfl, fun ν δ U hU h00 h1 h2 hp => ?_⟩, ?_⟩
   · simp only [putsν, Act.put, List.setIfInBounds_toArray, List.set_cons_zero, List.set_cons_succ]
     have e3 := (hp 3 (by kernel_rfl) (by kernel_rfl)).val _ rfl
     have e7 := (hp 7 (by kernel_rfl) (by kernel_rfl)).val _ rfl
     have e11 := (hp 11 (by kernel_rfl) (by kernel_rfl)).val _ rfl
     simp only [e3, e7, e11]
     dsimp only at hU
     exact Yld.value (.agg #[.func (.func 91) #[.pointer (some ⟨rb, 0, none⟩)] #[], .func (.func 92) #[.pointer (some ⟨rb, 0, none⟩)] #[], .func (.func 92) #[.pointer (some ⟨rb, 0, none⟩)] #[]]) U (by kernel_rfl) (by go_simp) ⟨trivial, hU, Fx.fixed rfl rfl⟩
   refine ⟨⟨_, rfl, fun ν δ U hU h00 h1 h2 hp => ?_⟩, ?_⟩
   · simp only [putsν, Act.put, List.setIfInBounds_toArray, List.set_cons_zero, List.set_cons_succ]
     dsimp only at hU
     exact Yld.value (.int .i64 2) U (by kernel_rfl) (by go_simp) ⟨trivial, hU, Fx.fixed rfl rfl⟩
   refine ⟨⟨_, rfl, fun ν δ U hU h00 h1 h2 hp => ?_⟩, ?_⟩
   · simp only [putsν, Act.put, List.setIfInBounds_toArray, List.set_cons_zero, List.set_cons_succ]
     have e13 := (hp 13 (by kernel_rfl) (by kernel_rfl)).val _ rfl
     simp only [e13]
     dsimp only at hU
     exact Yld.value (.int .i64 1) U (by kernel_rfl) (by have hw9 : IntKind.i64.wrap 1 = 1 := (by rw [IntKind.wrap_i64]; rfl); go_simp) ⟨trivial, hU, Fx.fixed rfl rfl⟩
   refine ⟨⟨_, rfl, fun ν δ U hU h00 h1 h2 hp => ?_⟩, ?_⟩
   · simp only [putsν, Act.put, List.setIfInBounds_toArray, List.set_cons_zero, List.set_cons_succ]
     have e12 := (hp 12 (by kernel_rfl) (by kernel_rfl)).val _ rfl
     have e14 := (hp 14 (by kernel_rfl) (by kernel_rfl)).val _ rfl
     simp only [e12, e14]
     dsimp only at hU
     exact Yld.value (.func (.func 92) #[.pointer (some ⟨rb, 0, none⟩)] #[]) U (by kernel_rfl) (by have hix := run_idxA1; go_simp) ⟨trivial, hU, Fx.fixed rfl rfl⟩
   refine ⟨⟨_, rfl, fun ν δ U hU h00 h1 h2 hp => ?_⟩, ?_⟩
   · simp only [putsν, Act.put, List.setIfInBounds_toArray, List.set_cons_zero, List.set_cons_succ]
     have e15 := (hp 15 (by kernel_rfl) (by kernel_rfl)).val _ rfl
     simp only [e15]
     dsimp only at hU
     exact Yld.value (.func (.func 92) #[.pointer (some ⟨rb, 0, none⟩)] #[]) U (by kernel_rfl) (by go_simp) ⟨trivial, hU, Fx.fixed rfl rfl⟩
   trivial
 intro ν δ w1 hS1 hd hf
 have e0 := (hf 0 (by kernel_rfl)).val _ rfl
 have e1 := (hf 1 (by kernel_rfl)).val _ rfl
 have e2 := (hf 2 (by kernel_rfl)).val _ rfl
 have e3 := (hf 3 (by kernel_rfl)).val _ rfl
 have e4 := (hf 4 (by kernel_rfl)).val _ rfl
 have e5 := (hf 5 (by kernel_rfl)).val _ rfl
 have e6 := (hf 6 (by kernel_rfl)).val _ rfl
 have e7 := (hf 7 (by kernel_rfl)).val _ rfl
 have e8 := (hf 8 (by kernel_rfl)).val _ rfl
 have e9 := (hf 9 (by kernel_rfl)).val _ rfl
 have e10 := (hf 10 (by kernel_rfl)).val _ rfl
 have e11 := (hf 11 (by kernel_rfl)).val _ rfl
 have e12 := (hf 12 (by kernel_rfl)).val _ rfl
 have e13 := (hf 13 (by kernel_rfl)).val _ rfl
 have e14 := (hf 14 (by kernel_rfl)).val _ rfl
 have e15 := (hf 15 (by kernel_rfl)).val _ rfl
 have e16 := (hf 16 (by kernel_rfl)).val _ rfl
 simp only [putsν, Act.put, List.setIfInBounds_toArray, List.set_cons_zero, List.set_cons_succ, e0, e1, e2, e3, e4, e5, e6, e7, e8, e9, e10, e11, e12, e13, e14, e15, e16]
 clear hf e0 e1 e2 e3 e4 e5 e6 e7 e8 e9 e10 e11 e12 e13 e14 e15 e16
 have HR1 := Lib.hid hS1
 clear hS1 hd HH
 refine wpAnyT_done (by kernel_rfl) ?_ _
 refine only_mk ?_
 have hix := run_idxB1
 go_wp2_with fail
 refine (HSE.out w1 HR1.out).mono ?_; rintro e w2 ⟨sv, rfl, hr2⟩; have HCT := Lib.hid (HCN.out w2 _ _ hr2); clear hr2 HSE HCN HR1; go_wp2_with fail
 refine HCT.out.mono ?_; rintro e w3 ⟨rfl, h1, -⟩
 have HC := Lib.hid (HAT.out w3 _ _ h1)
 clear h1 HCT HAT
 go_wp2_with fail
 refine HC.out.mono ?_; rintro e w4 ⟨rfl, h1, -⟩
 have H4 := Lib.hid h1
 clear h1 HC
 go_wp2_with fail
 go_loopw [7, 44] (fun v i wr => ∃ (k : Nat) (L : List Ix.Ent) (la en : Int) (ci : Ix.Cu) (q : Nat → EAt), i = .int .i64 k ∧ Ix.EntAt 2 S m c2 k L la en ci ∧ entL q k = L ∧ (∀ i, i < k → Ix.Tiny (q i).e) ∧ Es w wr rb ci S sv la en v k q) (fun _ i _ => m - (intOf i).toNat)
 case atStart => exact ⟨0, [], 0, 0, c2, fun _ => ⟨⟨[], 0, 0, 0⟩, none, 0⟩, rfl, HF0.out, rfl, (fun i hi => absurd hi (Nat.not_lt_zero i)), ⟨H4.out, World.ownsRow_nil _ _ _ _, fun i hi => absurd hi (Nat.not_lt_zero i)⟩⟩
 case round =>
  obtain ⟨k, L, la, en, ci, q, rfl, hf, hql, hti, hes⟩ := hrel
  have HF := Lib.hid hf; have HE := Lib.hid hes; have HQL := Lib.hid hql; have HQT := Lib.hid hti
  clear hf hes hql hti H4
  by_cases hkm : k < m
  · have d1 : decide ((k : Int) < (m : Int)) = true := decide_eq_true (Int.ofNat_lt.2 hkm)
    have HO := Lib.hid (rone (g := 2) (by decide) hSl HE.out.rd)
    have hst := HST.out k L la en ci HF.out hkm
    have htn := HTI.out la en ci
    generalize Ix.one 2 S la en ci = o at *
    obtain ⟨x, la2, en2, c3⟩ := o
    simp only at HO hst htn
    have HNX := Lib.hid hst; have HTN := Lib.hid htn
    clear hst htn
    go_wp2_with fail
    refine HO.out.mono ?_; rintro e w5 ⟨A, kk, rfl, hlr, hrd, hg⟩
    have hb6 : Below w5.heap.size w5 (w5.alloc (.cells (entC ⟨x, A, kk⟩) 59)) := (Below.refl _ _).alloc (Nat.le_refl _) _
    have HE6 := Lib.hid ((HE.out.step hrd hg).later hb6)
    have HLR := Lib.hid (hlr.later hb6)
    have HROW := Lib.hid (exE_row w5 ⟨x, A, kk⟩ 59)
    have hbb : w.heap.size ≤ (w5.alloc (.cells (entC ⟨x, A, kk⟩) 59)).heap.size := HE6.out.rd.bel.size
    have HBB := Lib.hid hbb; have HK20 : Hid (k ≤ 20) := Lib.hid (Nat.le_trans (Nat.le_of_lt hkm) hcle)
    unfold entC at HE6 HLR HROW HBB
    clear hlr hrd hg hb6 hbb HO HE
    go_wp2_with (at_builtin; go_must (refine wpList_append_row _ rfl _ _ 22 59 rfl 4 48 (.agg #[.slice none 0 0, .int .i64 0, .int .i64 0, .int .i64 0]) Tryz.underlying22 infoE rfl (by decide) (by decide) w.heap.size _ k (rcells 4 (ex q) k) rfl HE6.out.own ⟨w5.heap.size, 0, none⟩ 1 1 (exE ⟨x, A, kk⟩) (exE_one _) rfl HROW.out (by have := HK20.out; omega) HBB.out ?_); intro v8 w8 hown8 hg8; have HE8 := Lib.hid (HE6.out.more (x := ⟨x, A, kk⟩) HLR.out hg8 hown8); clear hown8 hg8)
    go_roundw
    case rel => exact ⟨k + 1, L ++ [x], la2, en2, c3, plus q k ⟨x, A, kk⟩, rfl, HNX.out, by rw [entL_plus, HQL.out], (fun i hi => by
     by_cases hik : i = k
     · subst hik; rw [plus_new]; exact HTN.out
     · rw [plus_old (by omega)]; exact HQT.out i (by omega)), HE8.out⟩
    case measure => exact meas_lt0 hkm
  · obtain rfl : k = m := Nat.le_antisymm HF.out.le (Nat.le_of_not_lt hkm)
    have d1 : decide ((k : Int) < (k : Int)) = false := decide_eq_false (Int.lt_irrefl _)
    have HRES := Lib.hid (HSP.out L la en ci HF.out)
    obtain ⟨A, kk, hv, hin⟩ := HE.out.in_ HQT.out hcle
    subst hv
    have HIN := Lib.hid hin
    clear hin
    go_wp2_with fail
    go_ret
    rw [HRES.out]
    have hl := HF.out.len
    exact ⟨A, kk, q, S, sv, la, en, by rw [hl]; rfl, by rw [hl]; exact HIN.out, by rw [hl]; exact HQL.out, HE.out.rd⟩
set_option maxRecDepth 100000 in
set_option maxHeartbeats 8000000 in
theorem rentries_3 {w U : World} {rb : Nat} {c : Ix.Cu} (h : Rdr w U rb c [] (.slice none 0 0) 0 0) :
 Calls Tryz.prog 57 #[.pointer (some ⟨rb, 0, none⟩), .int .i64 3] U (EntsOut w rb (Ix.rd 3 c).1 (Ix.rd 3 c).2) := by
 rw [Ix.rd_is (by decide) c]
 obtain ⟨hSl, hSz⟩ := Ix.symsOf_small 3 c
 have HH := Lib.hid h
 have HAT : Hid (∀ (V : World) (S : List ByteArray) (sv : Value), Rdr w V rb (Ix.cuOf 3 c).small.2 S sv 0 0 → Calls Tryz.prog 97 #[.pointer (some ⟨rb, 0, none⟩), .int .u64 (((Ix.cuOf 3 c).small.1 : Nat) : Int), .int .i64 20] V fun e V2 => e = .returned (.int .i64 (((Ix.cntOf 3 c).1 : Nat) : Int)) ∧ Rdr w V2 rb (Ix.cntOf 3 c).2 S sv 0 0 ∧ V.grownBy V2 (some rb)) := Lib.hid (fun V S sv hv => ratMost hv _ 20 (by omega)); have HCN : Hid (∀ (V : World) (S : List ByteArray) (sv : Value), Rdr w V rb (Ix.cuOf 3 c) S sv 0 0 → Calls Tryz.prog 92 #[.pointer (some ⟨rb, 0, none⟩)] V fun e V2 => e = .returned (.int .u64 (((Ix.cuOf 3 c).small.1 : Nat) : Int)) ∧ Rdr w V2 rb (Ix.cuOf 3 c).small.2 S sv 0 0 ∧ V.grownBy V2 (some rb)) := Lib.hid (fun V S sv hv => rsmall hv); have HSE : Hid (∀ V : World, Rdr w V rb c [] (.slice none 0 0) 0 0 → Calls Tryz.prog 96 #[.pointer (some ⟨rb, 0, none⟩), .bool true] V fun e V2 => ∃ sv, e = .returned (.tuple #[]) ∧ Rdr w V2 rb (Ix.cuOf 3 c) (Ix.symsOf 3 c) sv 0 0) := Lib.hid (fun V h => rsyms true h)
 have hcle : (Ix.cntOf 3 c).1 ≤ 20 := Ix.atMost_le 20 _
 have HTI := Lib.hid (fun la en c => Ix.one_tiny hSz 3 la en c)
 have HST := Lib.hid (fun k L la en ci (hf : Ix.EntAt 3 (Ix.symsOf 3 c) (Ix.cntOf 3 c).1 (Ix.cntOf 3 c).2 k L la en ci) hk => hf.step hk)
 have HSP := Lib.hid (fun L la en ci (hf : Ix.EntAt 3 (Ix.symsOf 3 c) (Ix.cntOf 3 c).1 (Ix.cntOf 3 c).2 (Ix.cntOf 3 c).1 L la en ci) => hf.stop)
 have HF0 := Lib.hid (Ix.EntAt.first 3 (Ix.symsOf 3 c) (Ix.cntOf 3 c).1 (Ix.cntOf 3 c).2)
 generalize Ix.symsOf 3 c = S at *
 have hpr : Ix.cntOf 3 c = ((Ix.cntOf 3 c).1, (Ix.cntOf 3 c).2) := rfl
 generalize Ix.cuOf 3 c = cu at *
 generalize Ix.cntOf 3 c = cn at *
 obtain ⟨m, c2⟩ := cn
 simp only at hcle HST HSP HF0 HAT ⊢
 generalize Ix.rdA 3 S m 0 0 c2 = res at *
 have hmf := run_make_func
 clear h hpr hSz
 go_enter Tryz.func57, Tryz.ntmps57
 go_upto_region 1 with fail
 refine plain_robD [(0, some 8), (1, some 9), (2, some 10), (3, some 11), (4, some 12), (5, some 13), (6, some 14), (7, some 15), (8, some 16), (9, some 17), (10, some 18), (11, some 19), (12, some 20), (13, some 21), (14, some 22), (15, some 23), (16, some 5)] [] (fun _ _ => True) (fun _ V => Rdr w V rb c [] (.slice none 0 0) 0 0) [(0, .pointer (some ⟨rb, 0, none⟩)), (1, .pointer (some ⟨rb, 0, none⟩)), (2, .pointer (some ⟨rb, 0, none⟩)), (3, .func (.func 91) #[.pointer (some ⟨rb, 0, none⟩)] #[]), (4, .pointer (some ⟨rb, 0, none⟩)), (5, .pointer (some ⟨rb, 0, none⟩)), (6, .pointer (some ⟨rb, 0, none⟩)), (7, .func (.func 92) #[.pointer (some ⟨rb, 0, none⟩)] #[]), (8, .pointer (some ⟨rb, 0, none⟩)), (9, .pointer (some ⟨rb, 0, none⟩)), (10, .pointer (some ⟨rb, 0, none⟩)), (11, .func (.func 92) #[.pointer (some ⟨rb, 0, none⟩)] #[]), (12, .agg #[.func (.func 91) #[.pointer (some ⟨rb, 0, none⟩)] #[], .func (.func 92) #[.pointer (some ⟨rb, 0, none⟩)] #[], .func (.func 92) #[.pointer (some ⟨rb, 0, none⟩)] #[]]), (13, .int .i64 3), (14, .int .i64 2), (15, .func (.func 92) #[.pointer (some ⟨rb, 0, none⟩)] #[]), (16, .func (.func 92) #[.pointer (some ⟨rb, 0, none⟩)] #[])] [] 0 (by kernel_rfl) (by kernel_rfl) (by kernel_rfl) (HH.out.later (Below.refl _ _).drew) ?_ ?_ ?_
 · intro p hp; cases hp
 · refine ⟨⟨_, rfl, fun ν δ U hU h00 h1 h2 hp => ?_⟩, ?_⟩
   · simp only [putsν, Act.put, List.setIfInBounds_toArray, List.set_cons_zero, List.set_cons_succ]
     dsimp only at hU
     exact Yld.value (.pointer (some ⟨rb, 0, none⟩)) U (by kernel_rfl) (by go_simp) ⟨trivial, hU, Fx.fixed rfl rfl⟩
   refine ⟨⟨_, rfl, fun ν δ U hU h00 h1 h2 hp => ?_⟩, ?_⟩
   · simp only [putsν, Act.put, List.setIfInBounds_toArray, List.set_cons_zero, List.set_cons_succ]
     have e0 := (hp 0 (by kernel_rfl) (by kernel_rfl)).val _ rfl
     simp only [e0]
     dsimp only at hU
     exact Yld.value (.pointer (some ⟨rb, 0, none⟩)) U (by kernel_rfl) (by go_simp) ⟨trivial, hU, Fx.fixed rfl rfl⟩
   refine ⟨⟨_, rfl, fun ν δ U hU h00 h1 h2 hp => ?_⟩, ?_⟩
   · simp only [putsν, Act.put, List.setIfInBounds_toArray, List.set_cons_zero, List.set_cons_succ]
     have e1 := (hp 1 (by kernel_rfl) (by kernel_rfl)).val _ rfl
     simp only [e1]
     dsimp only at hU
     exact Yld.value (.pointer (some ⟨rb, 0, none⟩)) U (by kernel_rfl) (by go_simp) ⟨trivial, hU, Fx.fixed rfl rfl⟩
   refine ⟨⟨_, rfl, fun ν δ U hU h00 h1 h2 hp => ?_⟩, ?_⟩
   · simp only [putsν, Act.put, List.setIfInBounds_toArray, List.set_cons_zero, List.set_cons_succ]
     have e2 := (hp 2 (by kernel_rfl) (by kernel_rfl)).val _ rfl
     simp only [e2]
     dsimp only at hU
     exact Yld.value (.func (.func 91) #[.pointer (some ⟨rb, 0, none⟩)] #[]) U (by kernel_rfl) (by have hmf := run_make_func; go_simp) ⟨trivial, hU, Fx.fixed rfl rfl⟩
   refine ⟨⟨_, rfl, fun ν δ U hU h00 h1 h2 hp => ?_⟩, ?_⟩
   · simp only [putsν, Act.put, List.setIfInBounds_toArray, List.set_cons_zero, List.set_cons_succ]
     dsimp only at hU
     exact Yld.value (.pointer (some ⟨rb, 0, none⟩)) U (by kernel_rfl) (by go_simp) ⟨trivial, hU, Fx.fixed rfl rfl⟩
   refine ⟨⟨_, rfl, fun ν δ U hU h00 h1 h2 hp => ?_⟩, ?_⟩
   · simp only [putsν, Act.put, List.setIfInBounds_toArray, List.set_cons_zero, List.set_cons_succ]
     have e4 := (hp 4 (by kernel_rfl) (by kernel_rfl)).val _ rfl
     simp only [e4]
     dsimp only at hU
     exact Yld.value (.pointer (some ⟨rb, 0, none⟩)) U (by kernel_rfl) (by go_simp) ⟨trivial, hU, Fx.fixed rfl rfl⟩
   refine ⟨⟨_, rfl, fun ν δ U hU h00 h1 h2 hp => ?_⟩, ?_⟩
   · simp only [putsν, Act.put, List.setIfInBounds_toArray, List.set_cons_zero, List.set_cons_succ]
     have e5 := (hp 5 (by kernel_rfl) (by kernel_rfl)).val _ rfl
     simp only [e5]
     dsimp only at hU
     exact Yld.value (.pointer (some ⟨rb, 0, none⟩)) U (by kernel_rfl) (by go_simp) ⟨trivial, hU, Fx.fixed rfl rfl⟩
   refine ⟨⟨_, rfl, fun ν δ U hU h00 h1 h2 hp => ?_⟩, ?_⟩
   · simp only [putsν, Act.put, List.setIfInBounds_toArray, List.set_cons_zero, List.set_cons_succ]
     have e6 := (hp 6 (by kernel_rfl) (by kernel_rfl)).val _ rfl
     simp only [e6]
     dsimp only at hU
     exact Yld.value (.func (.func 92) #[.pointer (some ⟨rb, 0, none⟩)] #[]) U (by kernel_rfl) (by have hmf := run_make_func; go_simp) ⟨trivial, hU, Fx.fixed rfl rfl⟩
   refine ⟨⟨_, rfl, fun ν δ U hU h00 h1 h2 hp => ?_⟩, ?_⟩
   · simp only [putsν, Act.put, List.setIfInBounds_toArray, List.set_cons_zero, List.set_cons_succ]
     dsimp only at hU
     exact Yld.value (.pointer (some ⟨rb, 0, none⟩)) U (by kernel_rfl) (by go_simp) ⟨trivial, hU, Fx.fixed rfl rfl⟩
   refine ⟨⟨_, rfl, fun ν δ U hU h00 h1 h2 hp => ?_⟩, ?_⟩
   · simp only [putsν, Act.put, List.setIfInBounds_toArray, List.set_cons_zero, List.set_cons_succ]
     have e8 := (hp 8 (by kernel_rfl) (by kernel_rfl)).val _ rfl
     simp only [e8]
     dsimp only at hU
     exact Yld.value (.pointer (some ⟨rb, 0, none⟩)) U (by kernel_rfl) (by go_simp) ⟨trivial, hU, Fx.fixed rfl rfl⟩
   refine ⟨⟨_, rfl, fun ν δ U hU h00 h1 h2 hp => ?_⟩, ?_⟩
   · simp only [putsν, Act.put, List.setIfInBounds_toArray, List.set_cons_zero, List.set_cons_succ]
     have e9 := (hp 9 (by kernel_rfl) (by kernel_rfl)).val _ rfl
     simp only [e9]
     dsimp only at hU
     exact Yld.value (.pointer (some ⟨rb, 0, none⟩)) U (by kernel_rfl) (by go_simp) ⟨trivial, hU, Fx.fixed rfl rfl⟩
   refine ⟨⟨_, rfl, fun ν δ U hU h00 h1 h2 hp => ?_⟩, ?_⟩
   · simp only [putsν, Act.put, List.setIfInBounds_toArray, List.set_cons_zero, List.set_cons_succ]
     have e10 := (hp 10 (by kernel_rfl) (by kernel_rfl)).val _ rfl
     simp only [e10]
     dsimp only at hU
     exact Yld.value (.func (.func 92) #[.pointer (some ⟨rb, 0, none⟩)] #[]) U (by kernel_rfl) (by have hmf := run_make_func; go_simp) ⟨trivial, hU, Fx.fixed rfl rfl⟩
   refine ⟨⟨_, rfl, fun ν δ U hU h00 h1 h2 hp => ?_⟩, ?_⟩
   · simp only [putsν, Act.put, List.setIfInBounds_toArray, List.set_cons_zero, List.set_cons_succ]
     have e3 := (hp 3 (by kernel_rfl) (by kernel_rfl)).val _ rfl
     have e7 := (hp 7 (by kernel_rfl) (by kernel_rfl)).val _ rfl
     have e11 := (hp 11 (by kernel_rfl) (by kernel_rfl)).val _ rfl
     simp only [e3, e7, e11]
     dsimp only at hU
     exact Yld.value (.agg #[.func (.func 91) #[.pointer (some ⟨rb, 0, none⟩)] #[], .func (.func 92) #[.pointer (some ⟨rb, 0, none⟩)] #[], .func (.func 92) #[.pointer (some ⟨rb, 0, none⟩)] #[]]) U (by kernel_rfl) (by go_simp) ⟨trivial, hU, Fx.fixed rfl rfl⟩
   refine ⟨⟨_, rfl, fun ν δ U hU h00 h1 h2 hp => ?_⟩, ?_⟩
   · simp only [putsν, Act.put, List.setIfInBounds_toArray, List.set_cons_zero, List.set_cons_succ]
     dsimp only at hU
     exact Yld.value (.int .i64 3) U (by kernel_rfl) (by go_simp) ⟨trivial, hU, Fx.fixed rfl rfl⟩
   refine ⟨⟨_, rfl, fun ν δ U hU h00 h1 h2 hp => ?_⟩, ?_⟩
   · simp only [putsν, Act.put, List.setIfInBounds_toArray, List.set_cons_zero, List.set_cons_succ]
     have e13 := (hp 13 (by kernel_rfl) (by kernel_rfl)).val _ rfl
     simp only [e13]
     dsimp only at hU
     exact Yld.value (.int .i64 2) U (by kernel_rfl) (by have hw9 : IntKind.i64.wrap 2 = 2 := (by rw [IntKind.wrap_i64]; rfl); go_simp) ⟨trivial, hU, Fx.fixed rfl rfl⟩
   refine ⟨⟨_, rfl, fun ν δ U hU h00 h1 h2 hp => ?_⟩, ?_⟩
   · simp only [putsν, Act.put, List.setIfInBounds_toArray, List.set_cons_zero, List.set_cons_succ]
     have e12 := (hp 12 (by kernel_rfl) (by kernel_rfl)).val _ rfl
     have e14 := (hp 14 (by kernel_rfl) (by kernel_rfl)).val _ rfl
     simp only [e12, e14]
     dsimp only at hU
     exact Yld.value (.func (.func 92) #[.pointer (some ⟨rb, 0, none⟩)] #[]) U (by kernel_rfl) (by have hix := run_idxA2; go_simp) ⟨trivial, hU, Fx.fixed rfl rfl⟩
   refine ⟨⟨_, rfl, fun ν δ U hU h00 h1 h2 hp => ?_⟩, ?_⟩
   · simp only [putsν, Act.put, List.setIfInBounds_toArray, List.set_cons_zero, List.set_cons_succ]
     have e15 := (hp 15 (by kernel_rfl) (by kernel_rfl)).val _ rfl
     simp only [e15]
     dsimp only at hU
     exact Yld.value (.func (.func 92) #[.pointer (some ⟨rb, 0, none⟩)] #[]) U (by kernel_rfl) (by go_simp) ⟨trivial, hU, Fx.fixed rfl rfl⟩
   trivial
 intro ν δ w1 hS1 hd hf
 have e0 := (hf 0 (by kernel_rfl)).val _ rfl
 have e1 := (hf 1 (by kernel_rfl)).val _ rfl
 have e2 := (hf 2 (by kernel_rfl)).val _ rfl
 have e3 := (hf 3 (by kernel_rfl)).val _ rfl
 have e4 := (hf 4 (by kernel_rfl)).val _ rfl
 have e5 := (hf 5 (by kernel_rfl)).val _ rfl
 have e6 := (hf 6 (by kernel_rfl)).val _ rfl
 have e7 := (hf 7 (by kernel_rfl)).val _ rfl
 have e8 := (hf 8 (by kernel_rfl)).val _ rfl
 have e9 := (hf 9 (by kernel_rfl)).val _ rfl
 have e10 := (hf 10 (by kernel_rfl)).val _ rfl
 have e11 := (hf 11 (by kernel_rfl)).val _ rfl
 have e12 := (hf 12 (by kernel_rfl)).val _ rfl
 have e13 := (hf 13 (by kernel_rfl)).val _ rfl
 have e14 := (hf 14 (by kernel_rfl)).val _ rfl
 have e15 := (hf 15 (by kernel_rfl)).val _ rfl
 have e16 := (hf 16 (by kernel_rfl)).val _ rfl
 simp only [putsν, Act.put, List.setIfInBounds_toArray, List.set_cons_zero, List.set_cons_succ, e0, e1, e2, e3, e4, e5, e6, e7, e8, e9, e10, e11, e12, e13, e14, e15, e16]
 clear hf e0 e1 e2 e3 e4 e5 e6 e7 e8 e9 e10 e11 e12 e13 e14 e15 e16
 have HR1 := Lib.hid hS1
 clear hS1 hd HH
 refine wpAnyT_done (by kernel_rfl) ?_ _
 refine only_mk ?_
 have hix := run_idxB2
 go_wp2_with fail
 refine (HSE.out w1 HR1.out).mono ?_; rintro e w2 ⟨sv, rfl, hr2⟩; have HCT := Lib.hid (HCN.out w2 _ _ hr2); clear hr2 HSE HCN HR1; go_wp2_with fail
 refine HCT.out.mono ?_; rintro e w3 ⟨rfl, h1, -⟩
 have HC := Lib.hid (HAT.out w3 _ _ h1)
 clear h1 HCT HAT
 go_wp2_with fail
 refine HC.out.mono ?_; rintro e w4 ⟨rfl, h1, -⟩
 have H4 := Lib.hid h1
 clear h1 HC
 go_wp2_with fail
 go_loopw [7, 44] (fun v i wr => ∃ (k : Nat) (L : List Ix.Ent) (la en : Int) (ci : Ix.Cu) (q : Nat → EAt), i = .int .i64 k ∧ Ix.EntAt 3 S m c2 k L la en ci ∧ entL q k = L ∧ (∀ i, i < k → Ix.Tiny (q i).e) ∧ Es w wr rb ci S sv la en v k q) (fun _ i _ => m - (intOf i).toNat)
 case atStart => exact ⟨0, [], 0, 0, c2, fun _ => ⟨⟨[], 0, 0, 0⟩, none, 0⟩, rfl, HF0.out, rfl, (fun i hi => absurd hi (Nat.not_lt_zero i)), ⟨H4.out, World.ownsRow_nil _ _ _ _, fun i hi => absurd hi (Nat.not_lt_zero i)⟩⟩
 case round =>
  obtain ⟨k, L, la, en, ci, q, rfl, hf, hql, hti, hes⟩ := hrel
  have HF := Lib.hid hf; have HE := Lib.hid hes; have HQL := Lib.hid hql; have HQT := Lib.hid hti
  clear hf hes hql hti H4
  by_cases hkm : k < m
  · have d1 : decide ((k : Int) < (m : Int)) = true := decide_eq_true (Int.ofNat_lt.2 hkm)
    have HO := Lib.hid (rone (g := 3) (by decide) hSl HE.out.rd)
    have hst := HST.out k L la en ci HF.out hkm
    have htn := HTI.out la en ci
    generalize Ix.one 3 S la en ci = o at *
    obtain ⟨x, la2, en2, c3⟩ := o
    simp only at HO hst htn
    have HNX := Lib.hid hst; have HTN := Lib.hid htn
    clear hst htn
    go_wp2_with fail
    refine HO.out.mono ?_; rintro e w5 ⟨A, kk, rfl, hlr, hrd, hg⟩
    have hb6 : Below w5.heap.size w5 (w5.alloc (.cells (entC ⟨x, A, kk⟩) 59)) := (Below.refl _ _).alloc (Nat.le_refl _) _
    have HE6 := Lib.hid ((HE.out.step hrd hg).later hb6)
    have HLR := Lib.hid (hlr.later hb6)
    have HROW := Lib.hid (exE_row w5 ⟨x, A, kk⟩ 59)
    have hbb : w.heap.size ≤ (w5.alloc (.cells (entC ⟨x, A, kk⟩) 59)).heap.size := HE6.out.rd.bel.size
    have HBB := Lib.hid hbb; have HK20 : Hid (k ≤ 20) := Lib.hid (Nat.le_trans (Nat.le_of_lt hkm) hcle)
    unfold entC at HE6 HLR HROW HBB
    clear hlr hrd hg hb6 hbb HO HE
    go_wp2_with (at_builtin; go_must (refine wpList_append_row _ rfl _ _ 22 59 rfl 4 48 (.agg #[.slice none 0 0, .int .i64 0, .int .i64 0, .int .i64 0]) Tryz.underlying22 infoE rfl (by decide) (by decide) w.heap.size _ k (rcells 4 (ex q) k) rfl HE6.out.own ⟨w5.heap.size, 0, none⟩ 1 1 (exE ⟨x, A, kk⟩) (exE_one _) rfl HROW.out (by have := HK20.out; omega) HBB.out ?_); intro v8 w8 hown8 hg8; have HE8 := Lib.hid (HE6.out.more (x := ⟨x, A, kk⟩) HLR.out hg8 hown8); clear hown8 hg8)
    go_roundw
    case rel => exact ⟨k + 1, L ++ [x], la2, en2, c3, plus q k ⟨x, A, kk⟩, rfl, HNX.out, by rw [entL_plus, HQL.out], (fun i hi => by
     by_cases hik : i = k
     · subst hik; rw [plus_new]; exact HTN.out
     · rw [plus_old (by omega)]; exact HQT.out i (by omega)), HE8.out⟩
    case measure => exact meas_lt0 hkm
  · obtain rfl : k = m := Nat.le_antisymm HF.out.le (Nat.le_of_not_lt hkm)
    have d1 : decide ((k : Int) < (k : Int)) = false := decide_eq_false (Int.lt_irrefl _)
    have HRES := Lib.hid (HSP.out L la en ci HF.out)
    obtain ⟨A, kk, hv, hin⟩ := HE.out.in_ HQT.out hcle
    subst hv
    have HIN := Lib.hid hin
    clear hin
    go_wp2_with fail
    go_ret
    rw [HRES.out]
    have hl := HF.out.len
    exact ⟨A, kk, q, S, sv, la, en, by rw [hl]; rfl, by rw [hl]; exact HIN.out, by rw [hl]; exact HQL.out, HE.out.rd⟩
end Go.Proofs.YtliobahnekohmaaGreat
