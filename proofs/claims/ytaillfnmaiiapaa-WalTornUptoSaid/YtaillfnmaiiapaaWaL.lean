import Derived.Test.YtaillfnmaiiapaaWaJ
import Derived.Shelf.Abstract
/-
  A change as bytes, in generations 2 and 3: the walk.
-/
namespace Go.Proofs.Ytaillfnmaiiapaa
open Go.RowKit
/-- what tell holds on to -/
structure TellB (b3 b4 nb : Nat) (r : Wa.Rec) (A : Option Addr) (c : Nat) (U : World) : Prop where
  f : U.heap[b3]? = some (.cells #[.pointer (some ⟨nb, 0, none⟩)] 81 (0, 0))
  r : U.heap[b4]? = some (.cells #[.int .i64 r.kind, .slice A r.l.length c, .int .i64 r.t, .int .i64 r.hi, .int .u64 (r.v : Int)] 52 (0, 0))
theorem TellB.later {b3 b4 nb : Nat} {r : Wa.Rec} {A : Option Addr} {c : Nat} {U V : World} (h : TellB b3 b4 nb r A c U) (hb : Below U.heap.size U V) : TellB b3 b4 nb r A c V := ⟨heap_keep h.f hb, heap_keep h.r hb⟩
theorem TellB.nk {b3 b4 nb mb : Nat} {r : Wa.Rec} {A : Option Addr} {c : Nat} {U V : World} (h : TellB b3 b4 nb r A c U) (hk : NKeeps mb U V) (hm : ∀ e cs fr, U.heap[mb]? ≠ some (.cells cs e fr)) : TellB b3 b4 nb r A c V :=
  ⟨hk b3 _ h.f (by rintro rfl; exact hm _ _ _ h.f) (fun cs T fr e => by cases e; exact ⟨by decide, by decide⟩), hk b4 _ h.r (by rintro rfl; exact hm _ _ _ h.r) (fun cs T fr e => by cases e; exact ⟨by decide, by decide⟩)⟩
/-- what series leaves -/
structure SerDone (w : World) (base nb mb : Nat) (K : List ByteArray) (U : World) : Prop where
  nam : ∃ v', NamesIn U base nb mb v' K
  nk : NKeeps mb w U
  bel : Below base w U
theorem SerDone.later {w : World} {base nb mb : Nat} {K : List ByteArray} {U V : World} (h : SerDone w base nb mb K U) (hb : Below U.heap.size U V) (hw : base ≤ w.heap.size) : SerDone w base nb mb K V := by
  obtain ⟨v', hn⟩ := h.nam
  exact ⟨⟨v', hn.later hb⟩, h.nk.trans (NKeeps.below hb), h.bel.trans (hb.mono (by have := h.bel.size; omega))⟩
theorem SerDone.drew {w : World} {base nb mb : Nat} {K : List ByteArray} {U : World} (h : SerDone w base nb mb K U) : SerDone w base nb mb K U.drew := by
  obtain ⟨v', hn⟩ := h.nam
  exact ⟨⟨v', hn.later (Below.refl _ _).drew⟩, h.nk, h.bel.drew⟩
/-- what tell comes to -/
def TellEnd (w : World) (base nb mb : Nat) (J : World → World → Prop) (X : ByteArray × List ByteArray) (e : Ending) (V : World) : Prop := e = .returned (.string X.1) ∧ ∃ U, SerDone w base nb mb X.2 U ∧ J U V
theorem Wa.ser_size2 (K : List ByteArray) (l : List Lab) (hl : l.length ≤ 10) (hs : ∀ i, i < l.length → (La.at_ l i).1.size ≤ 300 ∧ (La.at_ l i).2.size ≤ 300) : (Wa.ser K l).1.size ≤ 7000 := by
  have h1 := La.key_length (La.at_ l) l.length hs
  have h2 : (Wa.key l).size = (La.key (La.at_ l) l.length).length := by unfold Wa.key La.keyB; rw [Lib.size_eq]
  unfold Wa.ser
  split
  · rename_i i _
    have := Fr.small_le i
    show (Num.smallB i).size ≤ _; omega
  · have a1 := Fr.small_le K.length
    have a2 := Fr.txt_size (Wa.key l)
    have a3 := Fr.small_le (Wa.key l).size
    show (Num.smallB K.length ++ Fr.txt (Wa.key l)).size ≤ _
    rw [ByteArray.size_append]; omega
theorem Wa.tell_0 (two : Bool) (K : List ByteArray) (t : Int) (v : Nat) {r : Wa.Rec} (h : r.kind = 0) : Wa.tell two K t v r = (Num.smallB 0 ++ (Wa.ser K r.l).1 ++ Wa.smp two t v r, (Wa.ser K r.l).2) := by unfold Wa.tell; rw [if_pos h]
theorem Wa.tell_1 (two : Bool) (K : List ByteArray) (t : Int) (v : Nat) {r : Wa.Rec} (h : r.kind = 1) : Wa.tell two K t v r = (Num.smallB 1 ++ (Wa.ser K r.l).1 ++ Num.smallB (Num.zig r.t) ++ Num.smallB (Num.zig r.hi), (Wa.ser K r.l).2) := by unfold Wa.tell; rw [if_neg (by rw [h]; decide), if_pos h]
theorem Wa.tell_2 (two : Bool) (K : List ByteArray) (t : Int) (v : Nat) {r : Wa.Rec} (h : r.kind = 2) : Wa.tell two K t v r = (Num.smallB 2 ++ Num.smallB r.t.toNat, K) := by unfold Wa.tell; rw [if_neg (by rw [h]; decide), if_neg (by rw [h]; decide)]
theorem Wa.smp_size (two : Bool) (t : Int) (v : Nat) (r : Wa.Rec) : (Wa.smp two t v r).size ≤ 20 := by
  unfold Wa.smp
  split
  · rw [ByteArray.size_append, Wa.wide_size]; have := Fr.small_le r.t.toNat; omega
  · rw [ByteArray.size_append]; have := Fr.small_le (Num.zig (r.t - t)); have := Fr.small_le (r.v ^^^ v); omega
theorem ser_step {b3 b4 nb : Nat} {r : Wa.Rec} {A : Option Addr} {c : Nat} {w : World} {base mb : Nat} {K : List ByteArray} {b : Bool} {U V : World} (h : TellB b3 b4 nb r A c U ∧ if b = true then SerDone w base nb mb K U else Below w.heap.size w U) (hb : Below U.heap.size U V) (hw : base ≤ w.heap.size) :
    TellB b3 b4 nb r A c V ∧ if b = true then SerDone w base nb mb K V else Below w.heap.size w V := by
  refine ⟨h.1.later hb, ?_⟩
  have h2 := h.2
  cases b
  · exact below_step h2 hb
  · exact SerDone.later h2 hb hw
set_option maxRecDepth 100000 in
set_option maxHeartbeats 1000000 in
theorem tell_0 {w : World} {base nb mb : Nat} {v : Value} {K : List ByteArray} (h : NamesIn w base nb mb v K) (hK : K.length ≤ 900000) (r : Wa.Rec) (A : Option Addr) (c : Nat) (hr : RecIn w A r) (hk : r.kind = 0) (two : Bool) (t0 : Int) (v0 : Nat)
    (F : FuncId) (cap : Array Value) (he : ∀ args U, (callFunc F args).run Try.prog U = .ok (.enter F args) U) (J : World → World → Prop)
    (hF : ∀ U, Below base w U → NKeeps mb w U → w.heap.size ≤ U.heap.size → Calls Try.prog F (#[.agg (recC r A c)] ++ cap) U (fun e V => e = .returned (.string (Wa.smp two t0 v0 r)) ∧ J U V)) :
    Calls Try.prog 80 #[.agg #[.pointer (some ⟨nb, 0, none⟩)], .agg (recC r A c), .func (.func F) #[] cap] w (TellEnd w base nb mb J (Wa.tell two K t0 v0 r)) := by
  rw [Wa.tell_0 two K t0 v0 hk]
  have hbs : base ≤ w.heap.size := by have h1 := (Array.getElem?_eq_some_iff.1 h.cells).1; have h2 := h.nlo; omega
  have hsr : ∀ U, NamesIn U base nb mb v K → LabRow U A r.l.length (La.at_ r.l) → _ := fun U hU hA => series_any hU hK r.l A c hA hr.len hr.small
  have zs := Wa.ser_size2 K r.l hr.len hr.small
  have zp := Wa.smp_size two t0 v0 r
  have z0 := Fr.small_le 0
  have HS0 := Lib.hid (fun W => Small_any 0 (Lib.hid (by decide)) W)
  have hrow := hr.row
  obtain ⟨kind, l, t, hi, vv⟩ := r
  simp only at hk hrow zs hsr ⊢
  subst hk
  have HSR := Lib.hid hsr; have HF := Lib.hid hF; have H := Lib.hid h; have HBS := Lib.hid hbs; have HROW := Lib.hid hrow
  generalize Wa.smp two t0 v0 _ = sp at *
  generalize Num.smallB 0 = k0 at *
  obtain ⟨X, hX⟩ : ∃ X, X = Wa.ser K l := ⟨_, rfl⟩
  rw [← hX] at zs ⊢
  rw [← hX] at HSR
  clear hsr hF h hbs hr hrow hX
  obtain ⟨sb, K2⟩ := X
  simp only at zs HSR ⊢
  have u0 : IntKind.u64.wrap (0 : Int) = ((0 : Nat) : Int) := by decide
  unfold recC at HF ⊢
  simp only at HF ⊢
  go_enter Try.func80, Try.ntmps80
  go_wp2_with fail
  obtain ⟨wa, hwa⟩ : ∃ wa, wa = (w.alloc (.cells #[.pointer (some ⟨nb, 0, none⟩)] 81)).alloc (.cells #[.int .i64 0, .slice A l.length c, .int .i64 t, .int .i64 hi, .int .u64 (vv : Int)] 52) := ⟨_, rfl⟩
  have hba : Below w.heap.size w wa := by rw [hwa]; exact ((Below.refl _ _).alloc (Nat.le_refl _) _).alloc (by simp) _
  have htb : TellB w.heap.size (w.heap.size + 1) nb ⟨0, l, t, hi, vv⟩ A c wa := by rw [hwa]; exact ⟨heap_alloc2_old w _ _, heap_alloc2_new w _ _⟩
  rw [← hwa]
  obtain ⟨b3, hb3⟩ : ∃ b3, b3 = w.heap.size := ⟨_, rfl⟩
  obtain ⟨b4, hb4⟩ : ∃ b4, b4 = w.heap.size + 1 := ⟨_, rfl⟩
  rw [← hb4, ← hb3] at htb ⊢
  have HBA := Lib.hid hba; have HTB := Lib.hid htb
  clear hwa hba htb hb3 hb4
  refine (HS0.out wa).mono ?_; rintro e w1 ⟨rfl, hb1⟩
  have HB1 := Lib.hid (below_step HBA.out hb1); have HTB1 := Lib.hid (HTB.out.later hb1)
  clear hb1 HBA HTB HS0
  have n1 : ¬ 9223372036854775807 < k0.size + sb.size := by omega
  have n2 : ¬ 9223372036854775807 < (k0 ++ sb).size + sp.size := by rw [ByteArray.size_append]; omega
  have n3 : ¬ 9223372036854775807 < k0.size + sb.size + sp.size := by omega
  clear zs zp z0
  have q0 := cell_of_row _ _ 0 _ _ _ HTB1.out.r
  simp only [List.getElem?_toArray, List.getElem?_cons_zero] at q0
  go_wp2_with fail
  clear q0
  refine plain_robD [(0, some 16), (1, some 17), (2, some 18), (3, some 19), (4, some 20), (5, some 21), (6, some 22), (7, some 23), (8, some 24), (9, some 25), (10, some 26), (11, some 6)] [] (fun _ _ => True) (fun δ U => if δ 9 = true then (∃ U1, SerDone w base nb mb K2 U1 ∧ J U1 U) else (TellB b3 b4 nb ⟨0, l, t, hi, vv⟩ A c U ∧ if δ 5 = true then SerDone w base nb mb K2 U else Below w.heap.size w U)) [(0, .string k0), (1, .pointer (some ⟨b3, 0, none⟩)), (2, .pointer (some ⟨nb, 0, none⟩)), (3, .pointer (some ⟨b4, 1, none⟩)), (4, .slice A l.length c), (5, .string sb), (6, .string (k0 ++ sb)), (7, .func (.func F) #[] cap), (8, .agg #[.int .i64 0, .slice A l.length c, .int .i64 t, .int .i64 hi, .int .u64 (vv : Int)]), (9, .string sp), (10, .string (k0 ++ sb ++ sp)), (11, .string (k0 ++ sb ++ sp))] [] 0 (by kernel_rfl) (by kernel_rfl) (by kernel_rfl) (⟨HTB1.out.later (Below.refl _ _).drew, HB1.out.drew⟩) ?_ ?_ ?_
  · intro p hp; cases hp
  · refine ⟨⟨_, rfl, fun ν δ U hU h00 h1 h2 hp => ?_⟩, ?_⟩
    · simp only [putsν, Act.put, List.setIfInBounds_toArray, List.set_cons_zero, List.set_cons_succ]
      dsimp only at hU
      exact Yld.value (.string k0) U (by kernel_rfl) (by go_simp) ⟨trivial, hU, Fx.fixed rfl rfl⟩
    refine ⟨⟨_, rfl, fun ν δ U hU h00 h1 h2 hp => ?_⟩, ?_⟩
    · simp only [putsν, Act.put, List.setIfInBounds_toArray, List.set_cons_zero, List.set_cons_succ]
      dsimp only at hU
      exact Yld.value (.pointer (some ⟨b3, 0, none⟩)) U (by kernel_rfl) (by go_simp) ⟨trivial, hU, Fx.fixed rfl rfl⟩
    refine ⟨⟨_, rfl, fun ν δ U hU h00 h1 h2 hp => ?_⟩, ?_⟩
    · simp only [putsν, Act.put, List.setIfInBounds_toArray, List.set_cons_zero, List.set_cons_succ]
      have e1 := (hp 1 (by kernel_rfl) (by kernel_rfl)).val _ rfl
      simp only [e1]
      dsimp only at hU
      exact Yld.value (.pointer (some ⟨nb, 0, none⟩)) U (by kernel_rfl) (by have hU1 := hU; rw [if_neg (by rw [h2 9 (by kernel_rfl) (by kernel_rfl)]; decide)] at hU1; have q0 := cell_of_row _ _ 0 _ _ _ hU1.1.f; simp only [List.getElem?_toArray, List.getElem?_cons_zero] at q0; go_simp) ⟨trivial, hU, Fx.fixed rfl rfl⟩
    refine ⟨⟨_, rfl, fun ν δ U hU h00 h1 h2 hp => ?_⟩, ?_⟩
    · simp only [putsν, Act.put, List.setIfInBounds_toArray, List.set_cons_zero, List.set_cons_succ]
      dsimp only at hU
      exact Yld.value (.pointer (some ⟨b4, 1, none⟩)) U (by kernel_rfl) (by go_simp) ⟨trivial, hU, Fx.fixed rfl rfl⟩
    refine ⟨⟨_, rfl, fun ν δ U hU h00 h1 h2 hp => ?_⟩, ?_⟩
    · simp only [putsν, Act.put, List.setIfInBounds_toArray, List.set_cons_zero, List.set_cons_succ]
      have e3 := (hp 3 (by kernel_rfl) (by kernel_rfl)).val _ rfl
      simp only [e3]
      dsimp only at hU
      exact Yld.value (.slice A l.length c) U (by kernel_rfl) (by have hU1 := hU; rw [if_neg (by rw [h2 9 (by kernel_rfl) (by kernel_rfl)]; decide)] at hU1; have q0 := cell_of_row _ _ 1 _ _ _ hU1.1.r; simp only [List.getElem?_toArray, List.getElem?_cons_zero, List.getElem?_cons_succ] at q0; go_simp) ⟨trivial, hU, Fx.fixed rfl rfl⟩
    refine ⟨⟨_, rfl, fun ν δ U hU h00 h1 h2 hp => ?_⟩, ?_⟩
    · simp only [putsν, Act.put, List.setIfInBounds_toArray, List.set_cons_zero, List.set_cons_succ]
      have e2 := (hp 2 (by kernel_rfl) (by kernel_rfl)).val _ rfl
      have e4 := (hp 4 (by kernel_rfl) (by kernel_rfl)).val _ rfl
      simp only [e2, e4]
      dsimp only at hU
      have hU1 := hU
      rw [if_neg (by rw [h2 9 (by kernel_rfl) (by kernel_rfl)]; decide), if_neg (by rw [h00]; decide)] at hU1
      refine Yld.call 89 #[.pointer (some ⟨nb, 0, none⟩), .slice A l.length c] (by kernel_rfl) (by go_simp) ?_
      have hcall := HSR.out U (H.out.later hU1.2) (HROW.out.later hU1.2)
      refine hcall.mono ?_
      rintro e V ⟨rfl, v9, hn, hk, hb⟩; exact ⟨_, rfl, trivial, by simpa [h2 9 (by kernel_rfl) (by kernel_rfl)] using And.intro (hU1.1.nk hk (H.out.later hU1.2).mcells) (SerDone.mk ⟨v9, hn⟩ ((NKeeps.below hU1.2).trans hk) ((hU1.2.mono HBS.out).trans hb)), Fx.fixed rfl rfl⟩
    refine ⟨⟨_, rfl, fun ν δ U hU h00 h1 h2 hp => ?_⟩, ?_⟩
    · simp only [putsν, Act.put, List.setIfInBounds_toArray, List.set_cons_zero, List.set_cons_succ]
      have e0 := (hp 0 (by kernel_rfl) (by kernel_rfl)).val _ rfl
      have e5 := (hp 5 (by kernel_rfl) (by kernel_rfl)).val _ rfl
      simp only [e0, e5]
      dsimp only at hU
      exact Yld.value (.string (k0 ++ sb)) U (by kernel_rfl) (by go_simp) ⟨trivial, hU, Fx.fixed rfl rfl⟩
    refine ⟨⟨_, rfl, fun ν δ U hU h00 h1 h2 hp => ?_⟩, ?_⟩
    · simp only [putsν, Act.put, List.setIfInBounds_toArray, List.set_cons_zero, List.set_cons_succ]
      dsimp only at hU
      exact Yld.value (.func (.func F) #[] cap) U (by kernel_rfl) (by go_simp) ⟨trivial, hU, Fx.fixed rfl rfl⟩
    refine ⟨⟨_, rfl, fun ν δ U hU h00 h1 h2 hp => ?_⟩, ?_⟩
    · simp only [putsν, Act.put, List.setIfInBounds_toArray, List.set_cons_zero, List.set_cons_succ]
      dsimp only at hU
      exact Yld.value (.agg #[.int .i64 0, .slice A l.length c, .int .i64 t, .int .i64 hi, .int .u64 (vv : Int)]) U (by kernel_rfl) (by have hU1 := hU; rw [if_neg (by rw [h2 9 (by kernel_rfl) (by kernel_rfl)]; decide)] at hU1; have hc := hU1.1.r; have x0 := cell_of_row _ _ 0 _ _ _ hc; have x1 := cell_of_row _ _ 1 _ _ _ hc; have x2 := cell_of_row _ _ 2 _ _ _ hc; have x3 := cell_of_row _ _ 3 _ _ _ hc; have x4 := cell_of_row _ _ 4 _ _ _ hc; simp only [List.getElem?_toArray, List.getElem?_cons_zero, List.getElem?_cons_succ] at x0 x1 x2 x3 x4; go_simp) ⟨trivial, hU, Fx.fixed rfl rfl⟩
    refine ⟨⟨_, rfl, fun ν δ U hU h00 h1 h2 hp => ?_⟩, ?_⟩
    · simp only [putsν, Act.put, List.setIfInBounds_toArray, List.set_cons_zero, List.set_cons_succ]
      have e7 := (hp 7 (by kernel_rfl) (by kernel_rfl)).val _ rfl
      have e8 := (hp 8 (by kernel_rfl) (by kernel_rfl)).val _ rfl
      simp only [e7, e8]
      dsimp only at hU
      have hU1 := hU
      rw [if_neg (by rw [h00]; decide), if_pos (h1 5 (by kernel_rfl) (by kernel_rfl))] at hU1
      refine Yld.call F (#[.agg #[.int .i64 0, .slice A l.length c, .int .i64 t, .int .i64 hi, .int .u64 (vv : Int)]] ++ cap) (by kernel_rfl) (by go_simp) ?_
      have hcall := HF.out U hU1.2.bel hU1.2.nk hU1.2.bel.size
      refine hcall.mono ?_
      rintro e V ⟨rfl, hj⟩; exact ⟨_, rfl, trivial, by rw [if_pos (by simp)]; exact ⟨U, hU1.2, hj⟩, Fx.fixed rfl rfl⟩
    refine ⟨⟨_, rfl, fun ν δ U hU h00 h1 h2 hp => ?_⟩, ?_⟩
    · simp only [putsν, Act.put, List.setIfInBounds_toArray, List.set_cons_zero, List.set_cons_succ]
      have e6 := (hp 6 (by kernel_rfl) (by kernel_rfl)).val _ rfl
      have e9 := (hp 9 (by kernel_rfl) (by kernel_rfl)).val _ rfl
      simp only [e6, e9]
      dsimp only at hU
      exact Yld.value (.string (k0 ++ sb ++ sp)) U (by kernel_rfl) (by go_simp) ⟨trivial, hU, Fx.fixed rfl rfl⟩
    refine ⟨⟨_, rfl, fun ν δ U hU h00 h1 h2 hp => ?_⟩, ?_⟩
    · simp only [putsν, Act.put, List.setIfInBounds_toArray, List.set_cons_zero, List.set_cons_succ]
      have e10 := (hp 10 (by kernel_rfl) (by kernel_rfl)).val _ rfl
      simp only [e10]
      dsimp only at hU
      exact Yld.value (.string (k0 ++ sb ++ sp)) U (by kernel_rfl) (by go_simp) ⟨trivial, hU, Fx.fixed rfl rfl⟩
    trivial
  intro ν δ w3 hS3 hd hf
  have e0 := (hf 0 (by kernel_rfl)).val _ rfl
  have e1 := (hf 1 (by kernel_rfl)).val _ rfl
  have e2 := (hf 2 (by kernel_rfl)).val _ rfl
  have e3 := (hf 3 (by kernel_rfl)).val _ rfl
  have e4 := (hf 4 (by kernel_rfl)).val _ rfl
  have e5 := (hf 5 (by kernel_rfl)).val _ rfl
  have e6 := (hf 6 (by kernel_rfl)).val _ rfl
  have e7 := (hf 7 (by kernel_rfl)).val _ rfl
  have e8 := (hf 8 (by kernel_rfl)).val _ rfl
  have e9 := (hf 9 (by kernel_rfl)).val _ rfl
  have e10 := (hf 10 (by kernel_rfl)).val _ rfl
  have e11 := (hf 11 (by kernel_rfl)).val _ rfl
  simp only [putsν, Act.put, List.setIfInBounds_toArray, List.set_cons_zero, List.set_cons_succ, e0, e1, e2, e3, e4, e5, e6, e7, e8, e9, e10, e11]
  clear hf e0 e1 e2 e3 e4 e5 e6 e7 e8 e9 e10 e11
  rw [if_pos (hd 9 (by kernel_rfl))] at hS3
  refine wpAnyT_done (by kernel_rfl) ?_ _
  refine only_mk ?_
  go_wp2_with fail
  go_ret
  exact ⟨rfl, hS3⟩
set_option maxRecDepth 100000 in
set_option maxHeartbeats 1000000 in
theorem tell_1 {w : World} {base nb mb : Nat} {v : Value} {K : List ByteArray} (h : NamesIn w base nb mb v K) (hK : K.length ≤ 900000) (r : Wa.Rec) (A : Option Addr) (c : Nat) (hr : RecIn w A r) (hk : r.kind = 1) (two : Bool) (t0 : Int) (v0 : Nat)
    (F : FuncId) (cap : Array Value) (J : World → World → Prop)
    (hF : ∀ U, J U U) :
    Calls Try.prog 80 #[.agg #[.pointer (some ⟨nb, 0, none⟩)], .agg (recC r A c), .func (.func F) #[] cap] w (TellEnd w base nb mb J (Wa.tell two K t0 v0 r)) := by
  rw [Wa.tell_1 two K t0 v0 hk]
  have hbs : base ≤ w.heap.size := by have h1 := (Array.getElem?_eq_some_iff.1 h.cells).1; have h2 := h.nlo; omega
  have hsr : ∀ U, NamesIn U base nb mb v K → LabRow U A r.l.length (La.at_ r.l) → _ := fun U hU hA => series_any hU hK r.l A c hA hr.len hr.small
  have zs := Wa.ser_size2 K r.l hr.len hr.small
  have zp1 := Fr.small_le (Num.zig r.t)
  have zp2 := Fr.small_le (Num.zig r.hi)
  have z0 := Fr.small_le 1
  have hw := hr.words
  have HZ1 := Lib.hid (fun W => Zig_any r.t (Lib.hid ⟨hw.t0, hw.t1⟩) W); have HZ2 := Lib.hid (fun W => Zig_any r.hi (Lib.hid ⟨hw.h0, hw.h1⟩) W)
  have HP1 := Lib.hid (fun W => Small_any (Num.zig r.t) (Lib.hid (Num.zig_lt r.t hw.t0 hw.t1)) W); have HP2 := Lib.hid (fun W => Small_any (Num.zig r.hi) (Lib.hid (Num.zig_lt r.hi hw.h0 hw.h1)) W)
  have HS0 := Lib.hid (fun W => Small_any 1 (Lib.hid (by decide)) W)
  clear hw
  have hrow := hr.row
  obtain ⟨kind, l, t, hi, vv⟩ := r
  simp only at hk hrow zs hsr ⊢
  subst hk
  have HSR := Lib.hid hsr; have HF := Lib.hid hF; have H := Lib.hid h; have HBS := Lib.hid hbs; have HROW := Lib.hid hrow
  simp only at zp1 zp2 HZ1 HZ2 HP1 HP2
  generalize Num.smallB (Num.zig t) = p1 at *
  generalize Num.smallB (Num.zig hi) = p2 at *
  generalize Num.zig t = y1 at *
  generalize Num.zig hi = y2 at *
  generalize Num.smallB 1 = k0 at *
  obtain ⟨X, hX⟩ : ∃ X, X = Wa.ser K l := ⟨_, rfl⟩
  rw [← hX] at zs ⊢
  rw [← hX] at HSR
  clear hsr hF h hbs hr hrow hX
  obtain ⟨sb, K2⟩ := X
  simp only at zs HSR ⊢
  have u0 : IntKind.u64.wrap (1 : Int) = ((1 : Nat) : Int) := by decide
  unfold recC
  simp only
  go_enter Try.func80, Try.ntmps80
  go_wp2_with fail
  obtain ⟨wa, hwa⟩ : ∃ wa, wa = (w.alloc (.cells #[.pointer (some ⟨nb, 0, none⟩)] 81)).alloc (.cells #[.int .i64 1, .slice A l.length c, .int .i64 t, .int .i64 hi, .int .u64 (vv : Int)] 52) := ⟨_, rfl⟩
  have hba : Below w.heap.size w wa := by rw [hwa]; exact ((Below.refl _ _).alloc (Nat.le_refl _) _).alloc (by simp) _
  have htb : TellB w.heap.size (w.heap.size + 1) nb ⟨1, l, t, hi, vv⟩ A c wa := by rw [hwa]; exact ⟨heap_alloc2_old w _ _, heap_alloc2_new w _ _⟩
  rw [← hwa]
  obtain ⟨b3, hb3⟩ : ∃ b3, b3 = w.heap.size := ⟨_, rfl⟩
  obtain ⟨b4, hb4⟩ : ∃ b4, b4 = w.heap.size + 1 := ⟨_, rfl⟩
  rw [← hb4, ← hb3] at htb ⊢
  have HBA := Lib.hid hba; have HTB := Lib.hid htb
  clear hwa hba htb hb3 hb4
  refine (HS0.out wa).mono ?_; rintro e w1 ⟨rfl, hb1⟩
  have HB1 := Lib.hid (below_step HBA.out hb1); have HTB1 := Lib.hid (HTB.out.later hb1)
  clear hb1 HBA HTB HS0
  have n1 : ¬ 9223372036854775807 < k0.size + sb.size := by omega
  have n2 : ¬ 9223372036854775807 < (k0 ++ sb).size + p1.size := by rw [ByteArray.size_append]; omega
  have n3 : ¬ 9223372036854775807 < k0.size + sb.size + p1.size := by omega
  have n4 : ¬ 9223372036854775807 < (k0 ++ sb ++ p1).size + p2.size := by rw [ByteArray.size_append, ByteArray.size_append]; omega
  have n5 : ¬ 9223372036854775807 < k0.size + sb.size + p1.size + p2.size := by omega
  clear zs zp1 zp2 z0
  have q0 := cell_of_row _ _ 0 _ _ _ HTB1.out.r
  simp only [List.getElem?_toArray, List.getElem?_cons_zero] at q0
  go_wp2_with fail
  clear q0
  refine plain_robD [(0, some 29), (1, some 30), (2, some 31), (3, some 32), (4, some 33), (5, some 34), (6, some 35), (7, some 36), (8, some 37), (9, some 38), (10, some 39), (11, some 40), (12, some 41), (13, some 42), (14, some 43), (15, some 44), (16, some 45), (17, some 6)] [] (fun _ _ => True) (fun δ U => TellB b3 b4 nb ⟨1, l, t, hi, vv⟩ A c U ∧ if δ 5 = true then SerDone w base nb mb K2 U else Below w.heap.size w U) [(0, .string k0), (1, .pointer (some ⟨b3, 0, none⟩)), (2, .pointer (some ⟨nb, 0, none⟩)), (3, .pointer (some ⟨b4, 1, none⟩)), (4, .slice A l.length c), (5, .string sb), (6, .string (k0 ++ sb)), (7, .pointer (some ⟨b4, 2, none⟩)), (8, .int .i64 t), (9, .int .u64 (y1 : Int)), (10, .string p1), (11, .string (k0 ++ sb ++ p1)), (12, .pointer (some ⟨b4, 3, none⟩)), (13, .int .i64 hi), (14, .int .u64 (y2 : Int)), (15, .string p2), (16, .string (k0 ++ sb ++ p1 ++ p2)), (17, .string (k0 ++ sb ++ p1 ++ p2))] [] 0 (by kernel_rfl) (by kernel_rfl) (by kernel_rfl) (⟨HTB1.out.later (Below.refl _ _).drew, HB1.out.drew⟩) ?_ ?_ ?_
  · intro p hp; cases hp
  · refine ⟨⟨_, rfl, fun ν δ U hU h00 h1 h2 hp => ?_⟩, ?_⟩
    · simp only [putsν, Act.put, List.setIfInBounds_toArray, List.set_cons_zero, List.set_cons_succ]
      dsimp only at hU
      exact Yld.value (.string k0) U (by kernel_rfl) (by go_simp) ⟨trivial, hU, Fx.fixed rfl rfl⟩
    refine ⟨⟨_, rfl, fun ν δ U hU h00 h1 h2 hp => ?_⟩, ?_⟩
    · simp only [putsν, Act.put, List.setIfInBounds_toArray, List.set_cons_zero, List.set_cons_succ]
      dsimp only at hU
      exact Yld.value (.pointer (some ⟨b3, 0, none⟩)) U (by kernel_rfl) (by go_simp) ⟨trivial, hU, Fx.fixed rfl rfl⟩
    refine ⟨⟨_, rfl, fun ν δ U hU h00 h1 h2 hp => ?_⟩, ?_⟩
    · simp only [putsν, Act.put, List.setIfInBounds_toArray, List.set_cons_zero, List.set_cons_succ]
      have e1 := (hp 1 (by kernel_rfl) (by kernel_rfl)).val _ rfl
      simp only [e1]
      dsimp only at hU
      exact Yld.value (.pointer (some ⟨nb, 0, none⟩)) U (by kernel_rfl) (by have q0 := cell_of_row _ _ 0 _ _ _ hU.1.f; simp only [List.getElem?_toArray, List.getElem?_cons_zero] at q0; go_simp) ⟨trivial, hU, Fx.fixed rfl rfl⟩
    refine ⟨⟨_, rfl, fun ν δ U hU h00 h1 h2 hp => ?_⟩, ?_⟩
    · simp only [putsν, Act.put, List.setIfInBounds_toArray, List.set_cons_zero, List.set_cons_succ]
      dsimp only at hU
      exact Yld.value (.pointer (some ⟨b4, 1, none⟩)) U (by kernel_rfl) (by go_simp) ⟨trivial, hU, Fx.fixed rfl rfl⟩
    refine ⟨⟨_, rfl, fun ν δ U hU h00 h1 h2 hp => ?_⟩, ?_⟩
    · simp only [putsν, Act.put, List.setIfInBounds_toArray, List.set_cons_zero, List.set_cons_succ]
      have e3 := (hp 3 (by kernel_rfl) (by kernel_rfl)).val _ rfl
      simp only [e3]
      dsimp only at hU
      exact Yld.value (.slice A l.length c) U (by kernel_rfl) (by have q0 := cell_of_row _ _ 1 _ _ _ hU.1.r; simp only [List.getElem?_toArray, List.getElem?_cons_zero, List.getElem?_cons_succ] at q0; go_simp) ⟨trivial, hU, Fx.fixed rfl rfl⟩
    refine ⟨⟨_, rfl, fun ν δ U hU h00 h1 h2 hp => ?_⟩, ?_⟩
    · simp only [putsν, Act.put, List.setIfInBounds_toArray, List.set_cons_zero, List.set_cons_succ]
      have e2 := (hp 2 (by kernel_rfl) (by kernel_rfl)).val _ rfl
      have e4 := (hp 4 (by kernel_rfl) (by kernel_rfl)).val _ rfl
      simp only [e2, e4]
      dsimp only at hU
      have hU1 := hU
      rw [if_neg (by rw [h00]; decide)] at hU1
      refine Yld.call 89 #[.pointer (some ⟨nb, 0, none⟩), .slice A l.length c] (by kernel_rfl) (by go_simp) ?_
      have hcall := HSR.out U (H.out.later hU1.2) (HROW.out.later hU1.2)
      refine hcall.mono ?_
      rintro e V ⟨rfl, v9, hn, hk, hb⟩; exact ⟨_, rfl, trivial, ⟨hU1.1.nk hk (H.out.later hU1.2).mcells, by rw [if_pos (by simp)]; exact SerDone.mk ⟨v9, hn⟩ ((NKeeps.below hU1.2).trans hk) ((hU1.2.mono HBS.out).trans hb)⟩, Fx.fixed rfl rfl⟩
    refine ⟨⟨_, rfl, fun ν δ U hU h00 h1 h2 hp => ?_⟩, ?_⟩
    · simp only [putsν, Act.put, List.setIfInBounds_toArray, List.set_cons_zero, List.set_cons_succ]
      have e0 := (hp 0 (by kernel_rfl) (by kernel_rfl)).val _ rfl
      have e5 := (hp 5 (by kernel_rfl) (by kernel_rfl)).val _ rfl
      simp only [e0, e5]
      dsimp only at hU
      exact Yld.value (.string (k0 ++ sb)) U (by kernel_rfl) (by go_simp) ⟨trivial, hU, Fx.fixed rfl rfl⟩
    refine ⟨⟨_, rfl, fun ν δ U hU h00 h1 h2 hp => ?_⟩, ?_⟩
    · simp only [putsν, Act.put, List.setIfInBounds_toArray, List.set_cons_zero, List.set_cons_succ]
      dsimp only at hU
      exact Yld.value (.pointer (some ⟨b4, 2, none⟩)) U (by kernel_rfl) (by go_simp) ⟨trivial, hU, Fx.fixed rfl rfl⟩
    refine ⟨⟨_, rfl, fun ν δ U hU h00 h1 h2 hp => ?_⟩, ?_⟩
    · simp only [putsν, Act.put, List.setIfInBounds_toArray, List.set_cons_zero, List.set_cons_succ]
      have e7 := (hp 7 (by kernel_rfl) (by kernel_rfl)).val _ rfl
      simp only [e7]
      dsimp only at hU
      exact Yld.value (.int .i64 t) U (by kernel_rfl) (by have q0 := cell_of_row _ _ 2 _ _ _ hU.1.r; simp only [List.getElem?_toArray, List.getElem?_cons_zero, List.getElem?_cons_succ] at q0; go_simp) ⟨trivial, hU, Fx.fixed rfl rfl⟩
    refine ⟨⟨_, rfl, fun ν δ U hU h00 h1 h2 hp => ?_⟩, ?_⟩
    · simp only [putsν, Act.put, List.setIfInBounds_toArray, List.set_cons_zero, List.set_cons_succ]
      have e8 := (hp 8 (by kernel_rfl) (by kernel_rfl)).val _ rfl
      simp only [e8]
      dsimp only at hU
      refine Yld.call 90 #[.int .i64 t] (by kernel_rfl) (by go_simp) ?_
      have hcall := HZ1.out U
      refine hcall.mono ?_
      rintro e V ⟨rfl, rfl⟩; exact ⟨_, rfl, trivial, hU, Fx.fixed rfl rfl⟩
    refine ⟨⟨_, rfl, fun ν δ U hU h00 h1 h2 hp => ?_⟩, ?_⟩
    · simp only [putsν, Act.put, List.setIfInBounds_toArray, List.set_cons_zero, List.set_cons_succ]
      have e9 := (hp 9 (by kernel_rfl) (by kernel_rfl)).val _ rfl
      simp only [e9]
      dsimp only at hU
      refine Yld.call 82 #[.int .u64 (y1 : Int)] (by kernel_rfl) (by go_simp) ?_
      have hcall := HP1.out U
      refine hcall.mono ?_
      rintro e V ⟨rfl, hb⟩; exact ⟨_, rfl, trivial, ser_step hU hb HBS.out, Fx.fixed rfl rfl⟩
    refine ⟨⟨_, rfl, fun ν δ U hU h00 h1 h2 hp => ?_⟩, ?_⟩
    · simp only [putsν, Act.put, List.setIfInBounds_toArray, List.set_cons_zero, List.set_cons_succ]
      have e6 := (hp 6 (by kernel_rfl) (by kernel_rfl)).val _ rfl
      have e10 := (hp 10 (by kernel_rfl) (by kernel_rfl)).val _ rfl
      simp only [e6, e10]
      dsimp only at hU
      exact Yld.value (.string (k0 ++ sb ++ p1)) U (by kernel_rfl) (by go_simp) ⟨trivial, hU, Fx.fixed rfl rfl⟩
    refine ⟨⟨_, rfl, fun ν δ U hU h00 h1 h2 hp => ?_⟩, ?_⟩
    · simp only [putsν, Act.put, List.setIfInBounds_toArray, List.set_cons_zero, List.set_cons_succ]
      dsimp only at hU
      exact Yld.value (.pointer (some ⟨b4, 3, none⟩)) U (by kernel_rfl) (by go_simp) ⟨trivial, hU, Fx.fixed rfl rfl⟩
    refine ⟨⟨_, rfl, fun ν δ U hU h00 h1 h2 hp => ?_⟩, ?_⟩
    · simp only [putsν, Act.put, List.setIfInBounds_toArray, List.set_cons_zero, List.set_cons_succ]
      have e12 := (hp 12 (by kernel_rfl) (by kernel_rfl)).val _ rfl
      simp only [e12]
      dsimp only at hU
      exact Yld.value (.int .i64 hi) U (by kernel_rfl) (by have q0 := cell_of_row _ _ 3 _ _ _ hU.1.r; simp only [List.getElem?_toArray, List.getElem?_cons_zero, List.getElem?_cons_succ] at q0; go_simp) ⟨trivial, hU, Fx.fixed rfl rfl⟩
    refine ⟨⟨_, rfl, fun ν δ U hU h00 h1 h2 hp => ?_⟩, ?_⟩
    · simp only [putsν, Act.put, List.setIfInBounds_toArray, List.set_cons_zero, List.set_cons_succ]
      have e13 := (hp 13 (by kernel_rfl) (by kernel_rfl)).val _ rfl
      simp only [e13]
      dsimp only at hU
      refine Yld.call 90 #[.int .i64 hi] (by kernel_rfl) (by go_simp) ?_
      have hcall := HZ2.out U
      refine hcall.mono ?_
      rintro e V ⟨rfl, rfl⟩; exact ⟨_, rfl, trivial, hU, Fx.fixed rfl rfl⟩
    refine ⟨⟨_, rfl, fun ν δ U hU h00 h1 h2 hp => ?_⟩, ?_⟩
    · simp only [putsν, Act.put, List.setIfInBounds_toArray, List.set_cons_zero, List.set_cons_succ]
      have e14 := (hp 14 (by kernel_rfl) (by kernel_rfl)).val _ rfl
      simp only [e14]
      dsimp only at hU
      refine Yld.call 82 #[.int .u64 (y2 : Int)] (by kernel_rfl) (by go_simp) ?_
      have hcall := HP2.out U
      refine hcall.mono ?_
      rintro e V ⟨rfl, hb⟩; exact ⟨_, rfl, trivial, ser_step hU hb HBS.out, Fx.fixed rfl rfl⟩
    refine ⟨⟨_, rfl, fun ν δ U hU h00 h1 h2 hp => ?_⟩, ?_⟩
    · simp only [putsν, Act.put, List.setIfInBounds_toArray, List.set_cons_zero, List.set_cons_succ]
      have e11 := (hp 11 (by kernel_rfl) (by kernel_rfl)).val _ rfl
      have e15 := (hp 15 (by kernel_rfl) (by kernel_rfl)).val _ rfl
      simp only [e11, e15]
      dsimp only at hU
      exact Yld.value (.string (k0 ++ sb ++ p1 ++ p2)) U (by kernel_rfl) (by go_simp) ⟨trivial, hU, Fx.fixed rfl rfl⟩
    refine ⟨⟨_, rfl, fun ν δ U hU h00 h1 h2 hp => ?_⟩, ?_⟩
    · simp only [putsν, Act.put, List.setIfInBounds_toArray, List.set_cons_zero, List.set_cons_succ]
      have e16 := (hp 16 (by kernel_rfl) (by kernel_rfl)).val _ rfl
      simp only [e16]
      dsimp only at hU
      exact Yld.value (.string (k0 ++ sb ++ p1 ++ p2)) U (by kernel_rfl) (by go_simp) ⟨trivial, hU, Fx.fixed rfl rfl⟩
    trivial
  intro ν δ w3 hS3 hd hf
  have e0 := (hf 0 (by kernel_rfl)).val _ rfl
  have e1 := (hf 1 (by kernel_rfl)).val _ rfl
  have e2 := (hf 2 (by kernel_rfl)).val _ rfl
  have e3 := (hf 3 (by kernel_rfl)).val _ rfl
  have e4 := (hf 4 (by kernel_rfl)).val _ rfl
  have e5 := (hf 5 (by kernel_rfl)).val _ rfl
  have e6 := (hf 6 (by kernel_rfl)).val _ rfl
  have e7 := (hf 7 (by kernel_rfl)).val _ rfl
  have e8 := (hf 8 (by kernel_rfl)).val _ rfl
  have e9 := (hf 9 (by kernel_rfl)).val _ rfl
  have e10 := (hf 10 (by kernel_rfl)).val _ rfl
  have e11 := (hf 11 (by kernel_rfl)).val _ rfl
  have e12 := (hf 12 (by kernel_rfl)).val _ rfl
  have e13 := (hf 13 (by kernel_rfl)).val _ rfl
  have e14 := (hf 14 (by kernel_rfl)).val _ rfl
  have e15 := (hf 15 (by kernel_rfl)).val _ rfl
  have e16 := (hf 16 (by kernel_rfl)).val _ rfl
  have e17 := (hf 17 (by kernel_rfl)).val _ rfl
  simp only [putsν, Act.put, List.setIfInBounds_toArray, List.set_cons_zero, List.set_cons_succ, e0, e1, e2, e3, e4, e5, e6, e7, e8, e9, e10, e11, e12, e13, e14, e15, e16, e17]
  clear hf e0 e1 e2 e3 e4 e5 e6 e7 e8 e9 e10 e11 e12 e13 e14 e15 e16 e17
  rw [if_pos (hd 5 (by kernel_rfl))] at hS3
  refine wpAnyT_done (by kernel_rfl) ?_ _
  refine only_mk ?_
  go_wp2_with fail
  go_ret
  exact ⟨rfl, w3, hS3.2, HF.out w3⟩
set_option maxRecDepth 100000 in
set_option maxHeartbeats 1000000 in
theorem tell_2 {w : World} {base nb mb : Nat} {v : Value} {K : List ByteArray} (h : NamesIn w base nb mb v K) (r : Wa.Rec) (A : Option Addr) (c : Nat) (hr : RecIn w A r) (hk : r.kind = 2) (hT : Wa.isT r.t = true) (two : Bool) (t0 : Int) (v0 : Nat)
    (F : FuncId) (cap : Array Value) (J : World → World → Prop) (hF : ∀ U, J U U) :
    Calls Try.prog 80 #[.agg #[.pointer (some ⟨nb, 0, none⟩)], .agg (recC r A c), .func (.func F) #[] cap] w (TellEnd w base nb mb J (Wa.tell two K t0 v0 r)) := by
  rw [Wa.tell_2 two K t0 v0 hk]
  have hbs : base ≤ w.heap.size := by have h1 := (Array.getElem?_eq_some_iff.1 h.cells).1; have h2 := h.nlo; omega
  have zp := Fr.small_le r.t.toNat
  have z0 := Fr.small_le 2
  unfold Wa.isT at hT
  simp only [decide_eq_true_eq] at hT
  have HP := Lib.hid (fun W => Small_any r.t.toNat (Lib.hid (by omega)) W)
  have HS0 := Lib.hid (fun W => Small_any 2 (Lib.hid (by decide)) W)
  have u1 : IntKind.u64.wrap r.t = ((r.t.toNat : Nat) : Int) := by rw [IntKind.wrap_u64]; omega
  obtain ⟨kind, l, t, hi, vv⟩ := r
  simp only at hk zp hT HP u1 ⊢
  subst hk
  have HF := Lib.hid hF; have H := Lib.hid h; have HBS := Lib.hid hbs
  have n1 : ¬ 9223372036854775807 < (Num.smallB 2).size + (Num.smallB t.toNat).size := by omega
  generalize Num.smallB t.toNat = p1 at *
  generalize t.toNat = y1 at *
  generalize Num.smallB 2 = k0 at *
  clear hF h hbs hr hT zp z0
  have u0 : IntKind.u64.wrap (2 : Int) = ((2 : Nat) : Int) := by decide
  unfold recC
  simp only
  go_enter Try.func80, Try.ntmps80
  go_wp2_with fail
  obtain ⟨wa, hwa⟩ : ∃ wa, wa = (w.alloc (.cells #[.pointer (some ⟨nb, 0, none⟩)] 81)).alloc (.cells #[.int .i64 2, .slice A l.length c, .int .i64 t, .int .i64 hi, .int .u64 (vv : Int)] 52) := ⟨_, rfl⟩
  have hba : Below w.heap.size w wa := by rw [hwa]; exact ((Below.refl _ _).alloc (Nat.le_refl _) _).alloc (by simp) _
  have htb : TellB w.heap.size (w.heap.size + 1) nb ⟨2, l, t, hi, vv⟩ A c wa := by rw [hwa]; exact ⟨heap_alloc2_old w _ _, heap_alloc2_new w _ _⟩
  rw [← hwa]
  obtain ⟨b3, hb3⟩ : ∃ b3, b3 = w.heap.size := ⟨_, rfl⟩
  obtain ⟨b4, hb4⟩ : ∃ b4, b4 = w.heap.size + 1 := ⟨_, rfl⟩
  rw [← hb4, ← hb3] at htb ⊢
  have HBA := Lib.hid hba; have HTB := Lib.hid htb
  clear hwa hba htb hb3 hb4
  refine (HS0.out wa).mono ?_; rintro e w1 ⟨rfl, hb1⟩
  have HB1 := Lib.hid (below_step HBA.out hb1); have HTB1 := Lib.hid (HTB.out.later hb1)
  clear hb1 HBA HTB HS0
  have q0 := cell_of_row _ _ 0 _ _ _ HTB1.out.r; have q2 := cell_of_row _ _ 2 _ _ _ HTB1.out.r
  simp only [List.getElem?_toArray, List.getElem?_cons_zero, List.getElem?_cons_succ] at q0 q2
  go_wp2_with fail
  refine (HP.out w1).mono ?_; rintro e w2 ⟨rfl, hb2⟩
  have HB2 := Lib.hid (below_step HB1.out hb2)
  clear hb2
  go_wp2_with fail
  go_ret
  exact ⟨rfl, w2, ⟨⟨v, H.out.later HB2.out⟩, NKeeps.below HB2.out, HB2.out.mono HBS.out⟩, HF.out w2⟩
end Go.Proofs.Ytaillfnmaiiapaa
/-
  Changes as bytes in generation 2: the walk.
-/
namespace Go.Proofs.Ytaillfnmaiiapaa
open Go.RowKit
theorem own_nkeeps {w w2 : World} {mb base e k n : Nat} {v : Value} {xs : List Value} (h : w.ownsRow base e k v n xs) (hk : NKeeps mb w w2) (hm : ∀ cs fr, w.heap[mb]? ≠ some (.cells cs e fr)) (he : e ≠ 78 ∧ e ≠ 9) : w2.ownsRow base e k v n xs := by
  refine ⟨h.1, ?_⟩
  rcases h.2 with h0 | ⟨g, cap, cur, rfl, hb, hc, hx⟩
  · exact Or.inl h0
  · exact Or.inr ⟨g, cap, cur, rfl, hb, hk g _ hc (by rintro rfl; exact hm _ _ hc) (fun cs T fr e2 => by cases e2; exact he), hx⟩
theorem BldAt.nk {w w2 : World} {mb base b : Nat} {l : List UInt8} (h : BldAt w base b l) (hk : NKeeps mb w w2) (hm : ∀ e cs fr, w.heap[mb]? ≠ some (.cells cs e fr)) : BldAt w2 base b l := by
  have one : ∀ {p : Value} {l : List Value}, Lib.BuilderAt 119 5 base b p l w → Lib.BuilderAt 119 5 base b p l w2 := by
    rintro p l ⟨h1, v, h2, h3, h4⟩
    exact ⟨h1, v, hk b _ h2 (by rintro rfl; exact hm _ _ _ h2) (fun cs T fr e => by cases e; exact ⟨by decide, by decide⟩), own_nkeeps h3 hk (hm _) ⟨by decide, by decide⟩, h4⟩
  rcases h with h | h
  · exact .inl (one h)
  · exact .inr (one h)
theorem BldAt.blk {w : World} {base b : Nat} {l : List UInt8} (h : BldAt w base b l) : ∃ cs, w.heap[b]? = some (.cells cs 119 (0, 0)) := by
  rcases h with ⟨h1, v, h2, h3, h4⟩ | ⟨h1, v, h2, h3, h4⟩
  · exact ⟨_, h2⟩
  · exact ⟨_, h2⟩
/-- a builder is written: what was told stays -/
theorem NamesIn.bld {w w2 : World} {base nb mb bb : Nat} {v : Value} {K : List ByteArray} (h : NamesIn w base nb mb v K) {cs : Array Value} (hbb : w.heap[bb]? = some (.cells cs 119 (0, 0))) (hb : Below bb w w2) (ho : Others bb w w2) (hm : mb < bb) : NamesIn w2 base nb mb v K := by
  have hne : nb ≠ bb := by rintro rfl; have := h.cells; rw [hbb] at this; cases this
  refine ⟨ho nb _ _ h.cells hne (by decide), ⟨h.keys.1, ?_⟩, ?_, h.nlo, h.mlo⟩
  · rcases h.keys.2 with h0 | ⟨g, cap, cur, rfl, hg, hc, hx⟩
    · exact Or.inl h0
    · exact Or.inr ⟨g, cap, cur, rfl, hg, ho g _ _ hc (by rintro rfl; rw [hbb] at hc; cases hc) (by decide), hx⟩
  · exact h.map.same (hb.block mb hm)
/-- a builder's text; what was told stays -/
theorem bldTextK (base b : Nat) (l : List UInt8) (w : World) (h : BldAt w base b l) (hBw : base ≤ w.heap.size) :
    Calls Try.prog 63 #[.pointer (some ⟨b, 0, none⟩)] w fun e w' => e = .returned (.string ⟨l.toArray⟩) ∧ Below base w w' ∧ Others b w w' := by
  refine (Try.Builder_String_any_k base b l w (h.imp Lib.BuilderAtF.of Lib.BuilderAtF.of) hBw).mono ?_
  rintro e w2 ⟨rfl, -, hb, ho⟩
  exact ⟨rfl, hb, fun k cs t hk hne ht => ho k _ hk (fun e => hne (Option.some.inj e)) (fun c fz e => by cases e; exact ht rfl)⟩
theorem Wa.smp_two (t : Int) (v : Nat) (r : Wa.Rec) : Wa.smp true t v r = Num.smallB r.t.toNat ++ Num.wideB r.v := rfl
set_option maxRecDepth 100000 in
set_option maxHeartbeats 1000000 in
theorem smp2_any (r : Wa.Rec) (A : Option Addr) (c : Nat) (hT : Wa.isT r.t = true) (hv : r.v < 18446744073709551616) (t0 : Int) (v0 : Nat) (w : World) :
    Calls Try.prog 81 #[.agg (recC r A c)] w fun e w' => e = .returned (.string (Wa.smp true t0 v0 r)) ∧ Below w.heap.size w w' := by
  rw [Wa.smp_two]
  unfold Wa.isT at hT
  simp only [decide_eq_true_eq] at hT
  have z1 := Fr.small_le r.t.toNat; have z2 := Wa.wide_size r.v
  have HP := Lib.hid (fun W => Small_any r.t.toNat (Lib.hid (by omega)) W); have HW := Lib.hid (fun W => Wide_any r.v W)
  have u1 : IntKind.u64.wrap r.t = ((r.t.toNat : Nat) : Int) := by rw [IntKind.wrap_u64]; omega
  obtain ⟨kind, l, t, hi, vv⟩ := r
  simp only at hT hv HP HW u1 z1 z2 ⊢
  have n1 : ¬ 9223372036854775807 < (Num.smallB t.toNat).size + (Num.wideB vv).size := by omega
  generalize Num.smallB t.toNat = p1 at *
  generalize Num.wideB vv = p2 at *
  generalize t.toNat = y1 at *
  clear z1 z2 hT hv
  unfold recC
  simp only
  go_enter Try.func81, Try.ntmps81
  go_wp2_with fail
  obtain ⟨wa, hwa⟩ : ∃ wa, wa = w.alloc (.cells #[.int .i64 kind, .slice A l.length c, .int .i64 t, .int .i64 hi, .int .u64 (vv : Int)] 52) := ⟨_, rfl⟩
  have hba : Below w.heap.size w wa := by rw [hwa]; exact (Below.refl _ _).alloc (Nat.le_refl _) _
  have hxa : wa.heap[w.heap.size]? = some (.cells #[.int .i64 kind, .slice A l.length c, .int .i64 t, .int .i64 hi, .int .u64 (vv : Int)] 52 (0, 0)) := by rw [hwa]; exact heap_alloc_new w _
  rw [← hwa]
  have HBA := Lib.hid hba
  obtain ⟨b0, hb0⟩ : ∃ b0, b0 = w.heap.size := ⟨_, rfl⟩
  rw [← hb0] at hxa ⊢
  have HXA := Lib.hid hxa; have HB0 := Lib.hid hb0
  clear hwa hba hxa hb0
  refine plain_robJ [(0, some 3), (1, some 4), (2, some 5), (3, some 6), (4, some 7), (5, some 8), (6, some 9), (7, some 10), (8, some 2)] [] (fun U V => Below U.heap.size U V) (fun U => Below w.heap.size w U ∧ U.heap[b0]? = some (.cells #[.int .i64 kind, .slice A l.length c, .int .i64 t, .int .i64 hi, .int .u64 (vv : Int)] 52 (0, 0))) [(0, .pointer (some ⟨b0, 2, none⟩)), (1, .int .i64 t), (2, .int .u64 (y1 : Int)), (3, .string p1), (4, .pointer (some ⟨b0, 4, none⟩)), (5, .int .u64 (vv : Int)), (6, .string p2), (7, .string (p1 ++ p2)), (8, .string (p1 ++ p2))] [] 0 (by kernel_rfl) (by kernel_rfl) (by kernel_rfl) (⟨HBA.out.drew, HXA.out⟩) (fun U V h hb => ⟨h.1.trans (hb.mono h.1.size), heap_keep h.2 hb⟩) ?_ ?_ ?_
  · intro p hp; cases hp
  · refine ⟨⟨_, rfl, fun ν U hU hp => ?_⟩, ?_⟩
    · simp only [putsν, Act.put, List.setIfInBounds_toArray, List.set_cons_zero, List.set_cons_succ]
      exact Yld.value (.pointer (some ⟨b0, 2, none⟩)) U (by kernel_rfl) (by go_simp) ⟨Below.refl _ _, Fx.fixed rfl rfl⟩
    refine ⟨⟨_, rfl, fun ν U hU hp => ?_⟩, ?_⟩
    · simp only [putsν, Act.put, List.setIfInBounds_toArray, List.set_cons_zero, List.set_cons_succ]
      have e0 := (hp 0 (by kernel_rfl) (by kernel_rfl)).val _ rfl
      simp only [e0]
      exact Yld.value (.int .i64 t) U (by kernel_rfl) (by have h0 : U.cell? ⟨b0, 2, none⟩ = some (.int .i64 t) := cell_of_row _ _ _ _ _ _ hU.2; go_simp) ⟨Below.refl _ _, Fx.fixed rfl rfl⟩
    refine ⟨⟨_, rfl, fun ν U hU hp => ?_⟩, ?_⟩
    · simp only [putsν, Act.put, List.setIfInBounds_toArray, List.set_cons_zero, List.set_cons_succ]
      have e1 := (hp 1 (by kernel_rfl) (by kernel_rfl)).val _ rfl
      simp only [e1]
      exact Yld.value (.int .u64 (y1 : Int)) U (by kernel_rfl) (by go_simp) ⟨Below.refl _ _, Fx.fixed rfl rfl⟩
    refine ⟨⟨_, rfl, fun ν U hU hp => ?_⟩, ?_⟩
    · simp only [putsν, Act.put, List.setIfInBounds_toArray, List.set_cons_zero, List.set_cons_succ]
      have e2 := (hp 2 (by kernel_rfl) (by kernel_rfl)).val _ rfl
      simp only [e2]
      refine Yld.call 82 #[.int .u64 (y1 : Int)] (by kernel_rfl) (by go_simp) ?_
      have hcall := HP.out U
      refine hcall.mono ?_
      rintro e V ⟨rfl, hb⟩; exact ⟨_, rfl, hb, Fx.fixed rfl rfl⟩
    refine ⟨⟨_, rfl, fun ν U hU hp => ?_⟩, ?_⟩
    · simp only [putsν, Act.put, List.setIfInBounds_toArray, List.set_cons_zero, List.set_cons_succ]
      exact Yld.value (.pointer (some ⟨b0, 4, none⟩)) U (by kernel_rfl) (by go_simp) ⟨Below.refl _ _, Fx.fixed rfl rfl⟩
    refine ⟨⟨_, rfl, fun ν U hU hp => ?_⟩, ?_⟩
    · simp only [putsν, Act.put, List.setIfInBounds_toArray, List.set_cons_zero, List.set_cons_succ]
      have e4 := (hp 4 (by kernel_rfl) (by kernel_rfl)).val _ rfl
      simp only [e4]
      exact Yld.value (.int .u64 (vv : Int)) U (by kernel_rfl) (by have h0 : U.cell? ⟨b0, 4, none⟩ = some (.int .u64 (vv : Int)) := cell_of_row _ _ _ _ _ _ hU.2; go_simp) ⟨Below.refl _ _, Fx.fixed rfl rfl⟩
    refine ⟨⟨_, rfl, fun ν U hU hp => ?_⟩, ?_⟩
    · simp only [putsν, Act.put, List.setIfInBounds_toArray, List.set_cons_zero, List.set_cons_succ]
      have e5 := (hp 5 (by kernel_rfl) (by kernel_rfl)).val _ rfl
      simp only [e5]
      refine Yld.call 66 #[.int .u64 (vv : Int)] (by kernel_rfl) (by go_simp) ?_
      have hcall := HW.out U
      refine hcall.mono ?_
      rintro e V ⟨rfl, hb⟩; exact ⟨_, rfl, hb, Fx.fixed rfl rfl⟩
    refine ⟨⟨_, rfl, fun ν U hU hp => ?_⟩, ?_⟩
    · simp only [putsν, Act.put, List.setIfInBounds_toArray, List.set_cons_zero, List.set_cons_succ]
      have e3 := (hp 3 (by kernel_rfl) (by kernel_rfl)).val _ rfl
      have e6 := (hp 6 (by kernel_rfl) (by kernel_rfl)).val _ rfl
      simp only [e3, e6]
      exact Yld.value (.string (p1 ++ p2)) U (by kernel_rfl) (by go_simp) ⟨Below.refl _ _, Fx.fixed rfl rfl⟩
    refine ⟨⟨_, rfl, fun ν U hU hp => ?_⟩, ?_⟩
    · simp only [putsν, Act.put, List.setIfInBounds_toArray, List.set_cons_zero, List.set_cons_succ]
      have e7 := (hp 7 (by kernel_rfl) (by kernel_rfl)).val _ rfl
      simp only [e7]
      exact Yld.value (.string (p1 ++ p2)) U (by kernel_rfl) (by go_simp) ⟨Below.refl _ _, Fx.fixed rfl rfl⟩
    trivial
  intro ν w2 hS2 hf
  have e0 := (hf 0 (by kernel_rfl)).val _ rfl
  have e1 := (hf 1 (by kernel_rfl)).val _ rfl
  have e2 := (hf 2 (by kernel_rfl)).val _ rfl
  have e3 := (hf 3 (by kernel_rfl)).val _ rfl
  have e4 := (hf 4 (by kernel_rfl)).val _ rfl
  have e5 := (hf 5 (by kernel_rfl)).val _ rfl
  have e6 := (hf 6 (by kernel_rfl)).val _ rfl
  have e7 := (hf 7 (by kernel_rfl)).val _ rfl
  have e8 := (hf 8 (by kernel_rfl)).val _ rfl
  simp only [putsν, Act.put, List.setIfInBounds_toArray, List.set_cons_zero, List.set_cons_succ, e0, e1, e2, e3, e4, e5, e6, e7, e8]
  clear hf e0 e1 e2 e3 e4 e5 e6 e7 e8
  refine wpAnyT_done (by kernel_rfl) ?_ _
  refine only_mk ?_
  go_wp2_with fail
  go_ret
  exact ⟨rfl, hS2.1⟩
theorem Wa.frs_succ (f : Nat → Wa.Rec) (K : List ByteArray) (i : Nat) : Wa.frs f K (i + 1) = ((Wa.frs f K i).1 ++ Fr.put (Wa.tell true (Wa.frs f K i).2 0 0 (f i)).1, (Wa.tell true (Wa.frs f K i).2 0 0 (f i)).2) := rfl
theorem Wa.put_size (s : ByteArray) (_h : s.size ≤ 20000) : (Fr.put s).size ≤ s.size + 14 := by
  rw [Fr.put_size]; have := Fr.small_le s.size; omega
theorem Wa.frs_bound (f : Nat → Wa.Rec) (K : List ByteArray) (n : Nat) (hf : ∀ i, i < n → Wa.may (f i) = true) : ∀ i, i ≤ n → (Wa.frs f K i).1.size ≤ 3800 * i ∧ (Wa.frs f K i).2.length ≤ K.length + i
  | 0, _ => ⟨Nat.le_refl _, Nat.le_refl _⟩
  | i + 1, hi => by
    obtain ⟨h1, h2⟩ := Wa.frs_bound f K n hf i (by omega)
    have h3 := Wa.tell_size (two := true) (K := (Wa.frs f K i).2) (t := 0) (v := 0) (hf i (by omega))
    have h4 := Wa.tell_len true (Wa.frs f K i).2 0 0 (f i)
    have h5 := Wa.put_size (Wa.tell true (Wa.frs f K i).2 0 0 (f i)).1 (by omega)
    rw [Wa.frs_succ]
    refine ⟨?_, ?_⟩
    · show ((Wa.frs f K i).1 ++ _).size ≤ _
      rw [ByteArray.size_append]; omega
    · show (Wa.tell true (Wa.frs f K i).2 0 0 (f i)).2.length ≤ _
      omega
/-- a change is told, in generation 2 -/
theorem tell2_any {w : World} {base nb mb : Nat} {v : Value} {K : List ByteArray} (h : NamesIn w base nb mb v K) (hK : K.length ≤ 900000) (r : Wa.Rec) (A : Option Addr) (c : Nat) (hr : RecIn w A r) (hm : Wa.may r = true) :
    Calls Try.prog 80 #[.agg #[.pointer (some ⟨nb, 0, none⟩)], .agg (recC r A c), .func (.func 81) #[] #[]] w fun e V => e = .returned (.string (Wa.tell true K 0 0 r).1) ∧ SerDone w base nb mb (Wa.tell true K 0 0 r).2 V := by
  have hbs : base ≤ w.heap.size := by have h1 := (Array.getElem?_eq_some_iff.1 h.cells).1; have h2 := h.nlo; omega
  have fin : ∀ e V, TellEnd w base nb mb (fun U V => Below U.heap.size U V) (Wa.tell true K 0 0 r) e V → e = .returned (.string (Wa.tell true K 0 0 r).1) ∧ SerDone w base nb mb (Wa.tell true K 0 0 r).2 V := by
    rintro e V ⟨rfl, U, hs, hb⟩
    exact ⟨rfl, hs.later hb hbs⟩
  obtain ⟨hk, -⟩ := Wa.may_kind hm
  rcases hk with hk | hk | hk
  · refine (tell_0 h hK r A c hr hk true 0 0 81 #[] (fun args U => by kernel_rfl) (fun U V => Below U.heap.size U V) (fun U _ _ _ => ?_)).mono fin
    refine smp2_any r A c ?_ hr.words.v1 0 0 U
    unfold Wa.may at hm
    rw [if_pos hk] at hm
    simp only [Bool.and_eq_true] at hm
    exact hm.1.2
  · exact (tell_1 h hK r A c hr hk true 0 0 81 #[] (fun U V => Below U.heap.size U V) (fun U => Below.refl _ _)).mono fin
  · refine (tell_2 h r A c hr hk ?_ true 0 0 81 #[] (fun U V => Below U.heap.size U V) (fun U => Below.refl _ _)).mono fin
    unfold Wa.may at hm
    rw [if_neg (by rw [hk]; decide), if_neg (by rw [hk]; decide), if_pos hk] at hm
    simp only [Bool.and_eq_true] at hm
    exact hm.1.1.2
set_option maxRecDepth 100000 in
set_option maxHeartbeats 4000000 in
theorem put2_any {w0 w : World} {nb mb : Nat} {v : Value} {K : List ByteArray} (h : NamesIn w w0.heap.size nb mb v K) (h0 : Below w0.heap.size w0 w) (hK : K.length ≤ 400000) (A : Option Addr) (n c : Nat) (q : Nat → RAt) (hA : RecsIn w0 A n q) (hq : ∀ i, i < n → Wa.may (recF q i) = true) (hn : n ≤ 100000) :
    Calls Try.prog 78 #[.agg #[.pointer (some ⟨nb, 0, none⟩)], .slice A n c] w fun e w' => e = .returned (.tuple #[.string (Wa.frs (recF q) K n).1, .bool true]) ∧ SerDone w w0.heap.size nb mb (Wa.frs (recF q) K n).2 w' := by
  have HA := Lib.hid hA; have HQ := Lib.hid hq; have H := Lib.hid h; have H0 := Lib.hid h0
  have HFS := Lib.hid (Wa.frs_succ (recF q) K); have HFZ := Lib.hid (Wa.frs_bound (recF q) K n hq)
  have HF0 : Hid (Wa.frs (recF q) K 0 = (ByteArray.empty, K)) := Lib.hid rfl
  have HNB : Hid (nb < w.heap.size ∧ mb < w.heap.size) := Lib.hid ⟨(Array.getElem?_eq_some_iff.1 h.cells).1, by obtain ⟨es, clock, hb, -⟩ := h.map; exact (Array.getElem?_eq_some_iff.1 hb).1⟩
  have HBS := Lib.hid h0.size
  generalize Wa.frs (recF q) K = fx at *
  clear h hA hq h0
  go_enter Try.func78, Try.ntmps78
  go_wp2_with fail
  obtain ⟨wa, hwa⟩ : ∃ wa, wa = w.alloc (.cells #[.pointer (some ⟨nb, 0, none⟩)] 81) := ⟨_, rfl⟩
  have hba : Below w.heap.size w wa := by rw [hwa]; exact (Below.refl _ _).alloc (Nat.le_refl _) _
  have hxa : wa.heap[w.heap.size]? = some (.cells #[.pointer (some ⟨nb, 0, none⟩)] 81 (0, 0)) := by rw [hwa]; exact heap_alloc_new w _
  have hs1 : wa.heap.size = w.heap.size + 1 := by rw [hwa]; simp
  rw [← hwa]
  have hbn := BldAt.new wa
  have hbb : Below wa.heap.size wa (wa.alloc (.cells #[.pointer none, .slice none 0 0] 119)) := (Below.refl _ _).alloc (Nat.le_refl _) _
  obtain ⟨wb, hwb⟩ : ∃ wb, wb = wa.alloc (.cells #[.pointer none, .slice none 0 0] 119) := ⟨_, rfl⟩
  have hlo := hba.size
  rw [← hwb] at hbn hbb ⊢
  have HB1 := Lib.hid (below_step hba hbb)
  have hxb := heap_keep hxa hbb
  rw [hs1] at hbn hlo
  obtain ⟨bb, hbbe⟩ : ∃ bb, bb = w.heap.size + 1 := ⟨_, rfl⟩
  have HLO : Hid (w.heap.size < bb) := Lib.hid (by omega)
  rw [← hbbe] at hbn ⊢
  obtain ⟨sb, hsb⟩ : ∃ sb, sb = w.heap.size := ⟨_, rfl⟩
  rw [← hsb] at hxb ⊢
  have HLS : Hid (sb = w.heap.size) := Lib.hid hsb
  have HBL1 := Lib.hid hbn; have HX1 := Lib.hid hxb
  clear hwa hba hwb hbb hbn hlo hbbe hs1 hxa hxb hsb
  have hmc := H.out.mcells
  go_loopw [8, 9, 12] (fun _ _ i wr => ∃ (k : Nat), k ≤ n ∧ i = .int .i64 k ∧ SerDone w w0.heap.size nb mb (fx k).2 wr ∧ BldAt wr bb bb (fx k).1.data.toList ∧ wr.heap[sb]? = some (.cells #[.pointer (some ⟨nb, 0, none⟩)] 81 (0, 0))) (fun _ _ i _ => n - (intOf i).toNat)
  case atStart => exact ⟨0, by omega, rfl, by rw [HF0.out]; exact ⟨⟨v, H.out.later HB1.out⟩, NKeeps.below HB1.out, HB1.out.mono HBS.out⟩, by rw [HF0.out]; exact HBL1.out, HX1.out⟩
  case round =>
    obtain ⟨k, hkn, rfl, hsd, hbl, hxs⟩ := hrel
    have HSD := Lib.hid hsd; have HBL := Lib.hid hbl; have HXS := Lib.hid hxs
    have HBW : Hid (Below w0.heap.size w0 wr) := Lib.hid (H0.out.trans hsd.bel)
    clear hsd hbl hxs
    have i0 : (0 : Int) ≤ (k : Int) := Int.natCast_nonneg _
    by_cases hlt : k < n
    · have i1 : (k : Int) < (n : Int) := by omega
      have d1 : decide ((k : Int) < (n : Int)) = true := decide_eq_true i1
      obtain ⟨ad, rfl, x0, x1, x2, x3, x4⟩ := HA.out.cells HBW.out hlt
      obtain ⟨w8, hw8⟩ : ∃ w8, w8 = wr.alloc (.cells (recC (q k).r (q k).A (q k).c) 52) := ⟨_, rfl⟩
      have hb8 : Below wr.heap.size wr w8 := by rw [hw8]; exact (Below.refl _ _).alloc (Nat.le_refl _) _
      have hy8 : w8.heap[wr.heap.size]? = some (.cells (recC (q k).r (q k).A (q k).c) 52 (0, 0)) := by rw [hw8]; exact heap_alloc_new wr _
      have HSD8 := Lib.hid (HSD.out.later hb8 HBS.out)
      have HBL8 := Lib.hid (HBL.out.keep hb8)
      have hxs8 := heap_keep HXS.out hb8
      have HXS8 := Lib.hid hxs8
      have hfz := HFZ.out k hkn
      obtain ⟨v8, hn8⟩ := HSD8.out.nam
      have HTL := Lib.hid (tell2_any hn8 (by have h1 := hfz.2; omega) (q k).r (q k).A (q k).c ((HA.out.each k hlt).later (H0.out.trans HSD8.out.bel)) (HQ.out k hlt))
      have hmc8 := hn8.mcells
      have hts := Wa.tell_size (two := true) (K := (fx k).2) (t := 0) (v := 0) (HQ.out k hlt)
      have hfs : fx (k + 1) = ((fx k).1 ++ Fr.put (Wa.tell true (fx k).2 0 0 (q k).r).1, (Wa.tell true (fx k).2 0 0 (q k).r).2) := HFS.out k
      unfold recC at hw8 hy8 HTL
      have y0 := cell_of_row _ _ 0 _ _ _ hy8; have y1 := cell_of_row _ _ 1 _ _ _ hy8; have y2 := cell_of_row _ _ 2 _ _ _ hy8; have y3 := cell_of_row _ _ 3 _ _ _ hy8; have y4 := cell_of_row _ _ 4 _ _ _ hy8
      have y5 := cell_of_row _ _ 0 _ _ _ hxs8
      simp only [List.getElem?_toArray, List.getElem?_cons_zero, List.getElem?_cons_succ] at y0 y1 y2 y3 y4 y5
      have hts2 : (Wa.tell true (fx k).2 0 0 (q k).r).1.size ≤ 3780 := hts
      obtain ⟨X, hX⟩ : ∃ X, X = Wa.tell true (fx k).2 0 0 (q k).r := ⟨_, rfl⟩
      rw [← hX] at hfs hts2 HTL
      have HS := Lib.hid hfs; have HZ := Lib.hid (And.intro hts2 hfz)
      have d3 : decide (20000 < (X.1.size : Int)) = false := decide_eq_false (by omega)
      have d4 : decide (20000 < X.1.size) = false := decide_eq_false (by omega)
      have HPT := Lib.hid (fun W => Put_any X.1 (by omega) W)
      have HPZ := Lib.hid (Wa.put_size X.1 (by omega))
      clear hb8 hy8 hfs hfz hts hX hts2 hn8
      go_upto_region 5 with fail
      rw [← hw8]
      clear hw8 x0 x1 x2 x3 x4
      go_wp2_with fail
      refine HTL.out.mono ?_; rintro e w9 ⟨rfl, hsd9⟩
      have HSD9 : Hid (SerDone w w0.heap.size nb mb X.2 w9) := Lib.hid ⟨hsd9.nam, HSD8.out.nk.trans hsd9.nk, HSD8.out.bel.trans hsd9.bel⟩
      have HBL9 := Lib.hid (HBL8.out.nk hsd9.nk hmc8)
      have HXS9 := Lib.hid (hsd9.nk sb _ HXS8.out (by rintro rfl; exact hmc8 _ _ _ HXS8.out) (fun cs T fr e => by cases e; exact ⟨by decide, by decide⟩))
      clear hsd9 y0 y1 y2 y3 y4 y5 hxs8
      go_wp2_with fail
      refine (HPT.out w9).mono ?_; rintro e w10 ⟨rfl, hb10⟩
      have HSD10 := Lib.hid (HSD9.out.later hb10 HBS.out); have HBL10 := Lib.hid (HBL9.out.keep hb10); have HXS10 := Lib.hid (heap_keep HXS9.out hb10)
      clear hb10
      have hll : (fx k).1.data.toList.length + (Fr.put X.1).size ≤ 1099511627776 := by
        have h1 : (fx k).1.data.toList.length = (fx k).1.size := by simp
        have h2 := HZ.out; have h3 := HPZ.out; omega
      have HWS := Lib.hid (bldString bb bb (fx k).1.data.toList (Fr.put X.1) w10 HBL10.out hll (by have h1 := HBL10.out.lt; omega))
      clear hll
      go_wp2_with fail
      refine HWS.out.mono ?_; rintro e w11 ⟨rfl, hl11, hb11, ho11⟩
      have HSD11 : Hid (SerDone w w0.heap.size nb mb (fx (k + 1)).2 w11) := Lib.hid (by
        rw [HS.out]
        obtain ⟨v10, hn10⟩ := HSD10.out.nam
        obtain ⟨cs, hcs⟩ := HBL10.out.blk
        have hlo := HLO.out; have hnb := HNB.out; have hbs := HBS.out
        refine ⟨⟨v10, hn10.bld hcs hb11 ho11 (by omega)⟩, ?_, HSD10.out.bel.trans (hb11.mono (by omega))⟩
        intro g o hg hgm hgt
        have h1 := HSD10.out.nk g o hg hgm hgt
        exact (hb11.block g (by have := (Array.getElem?_eq_some_iff.1 hg).1; omega)).trans h1)
      have HBL11 : Hid (BldAt w11 bb bb (fx (k + 1)).1.data.toList) := Lib.hid (by
        rw [HS.out]
        have e : ((fx k).1 ++ Fr.put X.1).data.toList = (fx k).1.data.toList ++ (Fr.put X.1).data.toList := by simp
        rw [e]; exact hl11)
      have HXS11 := Lib.hid ((hb11.block sb (by have := HLS.out; have := HLO.out; omega)).trans HXS10.out)
      clear hl11 hb11 ho11
      go_wp2_with fail
      go_roundw
      case rel => exact ⟨k + 1, by omega, by go_num, HSD11.out, HBL11.out, HXS11.out⟩
      case measure => simp [intOf]; omega
    · obtain rfl : k = n := by omega
      have d1 : decide ((k : Int) < (k : Int)) = false := decide_eq_false (by omega)
      have HST := Lib.hid (bldTextK bb bb _ wr HBL.out (by have := HBL.out.lt; omega))
      go_wp2_with fail
      refine HST.out.mono ?_; rintro e w3 ⟨rfl, hb3, ho3⟩
      have e1 : (⟨(fx k).1.data.toList.toArray⟩ : ByteArray) = (fx k).1 := by simp
      rw [e1]
      have HFIN : Hid (SerDone w w0.heap.size nb mb (fx k).2 w3) := Lib.hid (by
        obtain ⟨v10, hn10⟩ := HSD.out.nam
        obtain ⟨cs, hcs⟩ := HBL.out.blk
        have hlo := HLO.out; have hnb := HNB.out; have hbs := HBS.out
        refine ⟨⟨v10, hn10.bld hcs hb3 ho3 (by omega)⟩, ?_, HSD.out.bel.trans (hb3.mono (by omega))⟩
        intro g o hg hgm hgt
        have h1 := HSD.out.nk g o hg hgm hgt
        exact (hb3.block g (by have := (Array.getElem?_eq_some_iff.1 hg).1; omega)).trans h1)
      clear hb3 ho3
      go_wp2_with fail
      go_ret2
      exact ⟨rfl, HFIN.out⟩
end Go.Proofs.Ytaillfnmaiiapaa
