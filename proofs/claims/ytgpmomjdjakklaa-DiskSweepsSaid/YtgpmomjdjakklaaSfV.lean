/-
  A machine crashes: its names.
-/
import Derived.Test.YtgpmomjdjakklaaSfU
namespace Go.Proofs.Ytgpmomjdjakklaa
open Go.RowKit
theorem nm_iface (c : Sf.Nm) : ∃ T v f, c.val = .iface T v ∧ (∀ U, (nilAhead 240 T v "alluvium/simfs.name").run Try.prog U = .ok (some false) U) ∧ (∀ U, (method 240 T v "alluvium/simfs.name").run Try.prog U = .ok (f, v) U) ∧ (∀ args w, (callFunc f args).run Try.prog w = .ok (.enter f args) w) ∧
    ∀ (d : Sf.D) (w : World) (b : Nat), Sf.Nice d → c.ok d → NamesAt w b d → Calls Try.prog f #[v, .map (some b)] w fun e w' => e = .returned (.tuple #[]) ∧ NamesAt w' b (c.app d) ∧ w.grownBy w' (some b) := by
  have h100 : 100 ≤ maxLen := by unfold maxLen; omega
  cases c with
  | cre s h =>
    refine ⟨_, _, _, rfl, fun U => (nil_name _ _ _ (.inl ⟨rfl, rfl⟩) U).1, fun U => (nil_name _ _ _ (.inl ⟨rfl, rfl⟩) U).2, enters_of Try.func101 (by kernel_rfl) rfl, ?_⟩
    intro d w b hn hc hm
    exact created_any s h w b d (Nat.le_trans hc h100) hm (Nat.le_trans hn.few (by decide))
  | ren a t =>
    refine ⟨_, _, _, rfl, fun U => (nil_name _ _ _ (.inr (.inl ⟨rfl, rfl⟩)) U).1, fun U => (nil_name _ _ _ (.inr (.inl ⟨rfl, rfl⟩)) U).2, enters_of Try.func105 (by kernel_rfl) rfl, ?_⟩
    intro d w b hn hc hm
    obtain ⟨⟨x, hx⟩, ht⟩ := hc
    exact renamed_any a t x w b d (Nat.le_trans (hn.short a (Sf.look_some hx)) h100) (Nat.le_trans ht h100) hm hn.files hn.tidy hx (Nat.le_trans hn.few (by decide))
  | rem a =>
    refine ⟨_, _, _, rfl, fun U => (nil_name _ _ _ (.inr (.inr ⟨rfl, rfl⟩)) U).1, fun U => (nil_name _ _ _ (.inr (.inr ⟨rfl, rfl⟩)) U).2, enters_of Try.func104 (by kernel_rfl) rfl, ?_⟩
    intro d w b hn hc hm
    exact removed_any a w b d (Nat.le_trans hc h100) hm
namespace Sf
/-- the names' files crash, one behind the other -/
def crashTo (k : Keep) (d : D) (l : List (List UInt8)) (S : St) : Nat → St
  | 0 => S
  | j + 1 => match look d (bs (l.getD j [])) with
    | some x => (crashTo k d l S j).file x (whole (((crashTo k d l S j).F x).survive k (1 + 2 * j)))
    | none => crashTo k d l S j
/-- the names that are left -/
def St.now (S : St) (k : Keep) : D := Sf.names S.synced (S.chg.take (share k 0 S.chg.length))
def St.crash (S : St) (k : Keep) : St :=
  { names := S.now k, synced := S.now k, chg := [], room := S.room, steps := S.steps, fuse := -1, dead := false, F := (crashTo k (S.now k) (list (S.now k)) S (list (S.now k)).length).F }
theorem now_nice {B N : Nat} {S : St} (h : StOk B N S) (k : Keep) : Nice (S.now k) := hist_take _ _ _ h.his
theorem now_live {B N : Nat} {S : St} (h : StOk B N S) (k : Keep) {s : ByteArray} {x : Nat} (hl : look (S.now k) s = some x) : live S.synced S.chg x := live_take (live_names _ _ (hist_taken _ _ _ h.his) s x hl)
theorem crashTo_ok {B N : Nat} {S : St} (k : Keep) (d : D) (l : List (List UInt8)) (L : Nat → Prop) (hF : ∀ x, L x → FileOk B N (S.F x)) : ∀ j x, L x → FileOk B N ((crashTo k d l S j).F x)
  | 0, x, hx => hF x hx
  | j + 1, x, hx => by
    unfold crashTo
    split
    · rename_i y hy
      show FileOk B N (if x = y then _ else _)
      split
      · rename_i e
        subst e
        exact whole_ok (survive_size (crashTo_ok k d l L hF j x hx) k _)
      · exact crashTo_ok k d l L hF j x hx
    · exact crashTo_ok k d l L hF j x hx
theorem StOk.crash {B N : Nat} {S : St} (h : StOk B N S) (k : Keep) : StOk B N (S.crash k) :=
  ⟨rfl, now_nice h k, (fun x hx => by
    rcases hx with ⟨s, hs⟩ | ⟨c, hc, -⟩
    · exact crashTo_ok k _ _ (live S.synced S.chg) h.file _ x (now_live h k hs)
    · cases hc), Nat.zero_le _, Int.le_refl _, (by show (-1 : Int) ≤ _; decide), h.s1, h.s2, h.r1, h.r2⟩
theorem crashTo_same (k : Keep) (d : D) (l : List (List UInt8)) (S : St) : ∀ j, crashTo k d l S j = { S with F := (crashTo k d l S j).F }
  | 0 => rfl
  | j + 1 => by
    have ih := crashTo_same k d l S j
    unfold crashTo
    split
    · rw [ih]; rfl
    · exact ih
theorem names_take_succ (d : D) {L : List Nm} {i : Nat} (hi : i < L.length) : names d (L.take (i + 1)) = (L.getD i (.rem ByteArray.empty)).app (names d (L.take i)) := by
  rw [← names_snoc, List.take_succ_eq_append_getElem hi]
  simp [List.getD, hi]
end Sf
theorem rcells_enc (l : List (List UInt8)) : l.map encStr = rcells 1 (fun i _ => encStr (l.getD i [])) l.length := by
  apply List.ext_getElem?
  intro i
  by_cases h : i < l.length
  · have h2 := rcells_get 1 (fun i _ => encStr (l.getD i [])) l.length i 0 h (by omega)
    rw [Nat.mul_one, Nat.add_zero] at h2
    rw [h2, List.getElem?_map, List.getElem?_eq_getElem h]
    simp [List.getD, h]
  · rw [List.getElem?_eq_none (by simp; omega), List.getElem?_eq_none (by rw [rcells_length]; omega)]
theorem FsIn.crashed {w w2 : World} {base fb : Nat} {S : Sf.St} {L : Nat → Prop} {mb sb : Nat} {cv : Value} {cvs : Nat → Value} (h : FsIn w base fb S L mb sb cv cvs) (hg : w.grownBy w2 (some fb)) (d : Sf.D) (na nb : Nat) (hna : base ≤ na) (hnb : base ≤ nb) (hne : na ≠ nb) (h1 : NamesAt w na d) (h2 : NamesAt w nb d)
    (hb : w2.heap[fb]? = some (.cells #[.map (some na), .map (some nb), .slice none 0 0, .int .i64 S.room, .int .i64 S.steps, .int .i64 (-1), .bool false] 50 (0, 0))) :
    FsIn w2 base fb { names := d, synced := d, chg := [], room := S.room, steps := S.steps, fuse := -1, dead := false, F := S.F } L na nb (.slice none 0 0) cvs :=
  ⟨h.lo, hna, hnb, hne, hb, h1.kept hg (fun e => by cases e; exact names_ne h1 h.blk rfl), h2.kept hg (fun e => by cases e; exact names_ne h2 h.blk rfl), World.ownsRow_nil _ _ _ _,
    fun x hx => (h.fil x hx).other hg (by
      rintro rfl
      have h1 := (h.fil _ hx).blk
      rw [h.blk] at h1
      injection h1 with h1
      injection h1 with h1 h2
      exact absurd h2 (by decide)) (own_ne (h.fil x hx).row h.blk (by decide)), h.apart⟩
theorem crash_wraps (j p q : Nat) (h : j ≤ 64) (hq : q = 2 * j) (hp : p = 1 + 2 * j) : IntKind.i64.wrap ((j : Int) + 1) = ((j + 1 : Nat) : Int) ∧ wrap64 ((j : Int) + 1) = ((j + 1 : Nat) : Int) ∧ IntKind.i64.wrap (2 * (j : Int)) = ((q : Nat) : Int) ∧ wrap64 (2 * (j : Int)) = ((q : Nat) : Int) ∧
    IntKind.i64.wrap (1 + ((q : Nat) : Int)) = ((p : Nat) : Int) ∧ wrap64 (1 + ((q : Nat) : Int)) = ((p : Nat) : Int) := by
  have e1 : (j : Int) + 1 = ((j + 1 : Nat) : Int) := by rw [Int.natCast_add]; rfl
  have e2 : 2 * (j : Int) = ((q : Nat) : Int) := by rw [hq, Int.natCast_mul]; rfl
  have e3 : 1 + ((q : Nat) : Int) = ((p : Nat) : Int) := by rw [hp, hq, Int.natCast_add]; rfl
  rw [e1, e2, e3]
  exact ⟨IntWalk.i64_in _ (by omega), IntWalk.wrap64_in _ (by omega), IntWalk.i64_in _ (by omega), IntWalk.wrap64_in _ (by omega), IntWalk.i64_in _ (by omega), IntWalk.wrap64_in _ (by omega)⟩
theorem mem_strKeys {w : World} {b : Nat} {d : Sf.D} (h : NamesAt w b d) {x : List UInt8} (hx : x ∈ strKeys d) : Go.Maps.has d (.string x) = true := by
  obtain ⟨es, rfl, hko⟩ := World.ownsMap.keysOf h
  obtain ⟨p, hp, rfl⟩ := List.mem_map.1 hx
  obtain ⟨v, hv⟩ := hko p hp
  obtain ⟨y, -, hy, -⟩ := Go.Maps.keyOf_str Try.underlying9 hv
  refine List.any_eq_true.2 ⟨p, hp, ?_⟩
  show p.1.sameKey (.string (strOf p.1)) = true
  rw [hy]
  simp [strOf, Lit.sameKey]
theorem list_look {w : World} {b : Nat} {d : Sf.D} (h : NamesAt w b d) (hn : Sf.Nice d) (j : Nat) (hj : j < (Sf.list d).length) : ∃ x, Sf.look d (bs ((Sf.list d).getD j [])) = some x ∧ (bs ((Sf.list d).getD j [])).size ≤ maxLen := by
  have e : (Sf.list d).getD j [] = (Sf.list d)[j] := by simp [List.getD, hj]
  have hm : (Sf.list d)[j] ∈ strKeys d := (List.mergeSort_perm (strKeys d) leB).mem_iff.1 (List.getElem_mem hj)
  rw [e]
  have hh := mem_strKeys h hm
  obtain ⟨x, hx, -⟩ := Sf.look_has hn.files (s := bs (Sf.list d)[j]) hh
  exact ⟨x, hx, Nat.le_trans (hn.short _ hh) (by unfold maxLen; omega)⟩
theorem crash_step {w W w5 : World} {base fb b4 nm n4 x : Nat} {S T : Sf.St} {L : Nat → Prop} {mb sb : Nat} {cv : Value} {cvs : Nat → Value} {v4 : Value} {xs : List Value} {d : Sf.D} {b : ByteArray} (hfs : FsIn W base fb T L mb sb cv cvs) (hx : L x) (hnm : NamesAt W nm d) (hrw : W.ownsRow b4 9 1 v4 n4 xs) (hbl : Below base w W) (hbW : base ≤ W.heap.size) (hst : Stays w W)
    (hg : W.grownBy w5 (some x)) (hb : w5.heap[x]? = some (.cells #[.string b, .string b, .slice none 0 0] 66 (0, 0))) (hS : S = T.file x (Sf.whole b)) :
    ∃ cvs2, FsIn w5 base fb S L mb sb cv cvs2 ∧ NamesAt w5 nm d ∧ w5.ownsRow b4 9 1 v4 n4 xs ∧ Below base w w5 ∧ Stays w w5 := by
  have hbx := (hfs.fil x hx).blk
  subst hS
  exact ⟨_, hfs.rewhole hx hg b hb, hnm.kept hg (fun e => by cases e; exact names_ne hnm hbx rfl), row_kept hrw hg (fun r e => by cases e; exact own_ne hrw hbx (by decide)),
    hbl.grown hg hbW (fun r e => by cases e; exact (hfs.fil x hx).lo), hst.trans (Stays.grown hg (fun cs T fr e => by rw [hbx] at e; cases e; exact .inr (.inl rfl)))⟩
set_option maxRecDepth 100000 in
set_option maxHeartbeats 2000000 in
theorem Crash_any {w : World} {base fb B N : Nat} {S : Sf.St} (h : FsAt w base fb S) (hbase : base ≤ w.heap.size) (hok : Sf.StOk B N S) (hN : N ≤ 999) (hB : B ≤ 1000000000) {A : Option Addr} {kc : Nat} {k : Sf.Keep} (hk : ∀ W, Below base w W → Stays w W → KeepIn W A kc k) :
    Calls Try.prog 13 #[.pointer (some ⟨fb, 0, none⟩), .slice A k.n kc] w fun e w' => e = .returned (.tuple #[]) ∧ Left w base fb (S.crash k) w' := by
  obtain ⟨mb, sb, cv, cvs, hfs⟩ := h
  have HFS := Lib.hid hfs; have HOK := Lib.hid hok; have HK := Lib.hid hk
  have c1 : w.cell? ⟨fb, 1, none⟩ = some (.map (some sb)) := cell_of_row _ _ _ _ _ _ hfs.blk
  have HAN := Lib.hid (anew_any sb S.synced w hfs.syn (Nat.le_trans (Sf.hist_nice hok.his).few (by decide)))
  obtain ⟨A1, kc1, hcv, hc1, hc2, hnone, hrow⟩ := own_row hfs.row
  have hblk := hfs.blk
  rw [hcv] at hblk
  have HBK := Lib.hid hblk; have HROW := Lib.hid hrow
  have hm : S.chg.length ≤ 999 := Nat.le_trans hok.few hN
  obtain ⟨nm, hnm⟩ : ∃ nm, nm = w.heap.size := ⟨_, rfl⟩
  rw [← hnm] at HAN
  have HNM : Hid (w.heap.size ≤ nm) := Lib.hid (by omega)
  clear hfs hok hk hblk hrow
  go_enter Try.func13, Try.ntmps13
  go_wp2_with fail
  refine HAN.out.mono ?_; rintro e w1 ⟨rfl, hnm1, hb1⟩
  have HB1 := Lib.hid (hnm ▸ hb1 : Below w.heap.size w w1)
  have HN1 := Lib.hid hnm1
  clear hnm1 hb1 c1 hnm
  have HSH : Hid (∀ U, Below w.heap.size w U → Calls Try.prog 37 #[.slice A k.n kc, .int .i64 0, .int .i64 (S.chg.length : Int)] U fun e w' => e = .returned (.int .i64 (Sf.share k 0 S.chg.length : Nat)) ∧ w' = U) := Lib.hid (fun U hU => keep_share (HK.out U (hU.mono hbase) (Stays.below hU)) 0 S.chg.length (by omega) (by omega))
  have hle := Sf.share_le k 0 S.chg.length
  have HNOW : Hid (S.now k = Sf.names S.synced (S.chg.take (Sf.share k 0 S.chg.length))) := Lib.hid rfl
  have HNI : Hid (∀ i, Sf.Nice (Sf.names S.synced (S.chg.take i))) := Lib.hid (fun i => Sf.hist_take _ _ i HOK.out.his)
  have HST : Hid (∀ i (hi : i < S.chg.length), (S.chg.getD i (.rem ByteArray.empty)).ok (Sf.names S.synced (S.chg.take i)) ∧ Sf.names S.synced (S.chg.take (i + 1)) = (S.chg.getD i (.rem ByteArray.empty)).app (Sf.names S.synced (S.chg.take i))) := Lib.hid (fun i hi => ⟨by
    have := Sf.hist_at _ _ i hi HOK.out.his
    simpa [List.getD, hi] using this, Sf.names_take_succ _ hi⟩)
  generalize hml : S.chg.length = m at *
  generalize hnn : Sf.share k 0 m = n at *
  have i1 : (n : Int) ≤ (kc1 : Int) := by omega
  have i2 : (0 : Int) ≤ (n : Int) := by omega
  clear hml hnn hcv
  go_wp2_with fail
  refine plain_T (fun U => Below w.heap.size w U) [] (by kernel_rfl) ?_
  have HD : Hid (Below w.heap.size w w1.drew) := Lib.hid HB1.out.drew
  have HND : Hid (NamesAt w1.drew nm S.synced) := Lib.hid (HN1.out.later (Below.refl _ _).drew)
  generalize w1.drew = wd at HD HND ⊢
  refine wpAnyT_pick (S := (fun U => Below w.heap.size w U)) (by kernel_rfl) Only.panic Only.keepsIn (w := wd) HD.out [0, 1, 2, 3, 4, 5, 6, 7, 8, 9, 13] 3 _ _ (by kernel_rfl) ?_
  refine PickT.value (d := some 14) (.pointer (some ⟨fb, 0, none⟩)) rfl rfl (by kernel_rfl) (fun U hU => (by go_simp)) ?_
  refine PickT.value (d := some 15) (.pointer (some ⟨fb, 0, none⟩)) rfl rfl (by kernel_rfl) (fun U hU => (by go_simp)) ?_
  refine PickT.value (d := some 16) (.pointer (some ⟨fb, 2, none⟩)) rfl rfl (by kernel_rfl) (fun U hU => (by go_simp)) ?_
  refine PickT.value (d := some 17) (.slice A1 m kc1) rfl rfl (by kernel_rfl) (fun U hU => (by have h0 : U.cell? ⟨fb, 2, none⟩ = some (.slice A1 m kc1) := cell_of_row _ _ _ _ _ _ (heap_keep HBK.out hU); go_simp)) ?_
  refine PickT.value (d := some 18) (.slice A k.n kc) rfl rfl (by kernel_rfl) (fun U hU => (by go_simp)) ?_
  refine PickT.value (d := some 19) (.pointer (some ⟨fb, 0, none⟩)) rfl rfl (by kernel_rfl) (fun U hU => (by go_simp)) ?_
  refine PickT.value (d := some 20) (.pointer (some ⟨fb, 0, none⟩)) rfl rfl (by kernel_rfl) (fun U hU => (by go_simp)) ?_
  refine PickT.value (d := some 21) (.pointer (some ⟨fb, 2, none⟩)) rfl rfl (by kernel_rfl) (fun U hU => (by go_simp)) ?_
  refine PickT.value (d := some 22) (.slice A1 m kc1) rfl rfl (by kernel_rfl) (fun U hU => (by have h0 : U.cell? ⟨fb, 2, none⟩ = some (.slice A1 m kc1) := cell_of_row _ _ _ _ _ _ (heap_keep HBK.out hU); go_simp)) ?_
  refine PickT.value (d := some 23) (.int .i64 (m : Int)) rfl rfl (by kernel_rfl) (fun U hU => (by go_simp)) ?_
  refine PickT.value (d := some 27) (.int .i64 0) rfl rfl (by kernel_rfl) (fun U hU => (by go_simp)) ?_
  simp only [PickT, Act.put, List.setIfInBounds_toArray, List.set_cons_zero, List.set_cons_succ]
  refine wpAnyT_one (i := 10) (by kernel_rfl) rfl (by kernel_rfl) ?_
  intro K hK
  unfold Oper.wp
  go_simp
  refine (HSH.out _ HD.out).mono ?_; rintro e w9 ⟨rfl, hw9⟩
  rw [hw9]
  clear hw9
  refine hK _ _ (fun _ => HD.out) ?_
  clear hK K
  refine wpAnyT_pick (S := (fun U => Below w.heap.size w U)) (by kernel_rfl) Only.panic Only.keepsIn (w := wd) HD.out [11, 12] 0 _ _ (by kernel_rfl) ?_
  refine PickT.value (d := some 25) (.slice A1 n kc1) rfl rfl (by kernel_rfl) (fun U hU => (by go_simp)) ?_
  refine PickT.value (d := some 26) (.int .i64 (n : Int)) rfl rfl (by kernel_rfl) (fun U hU => (by go_simp)) ?_
  simp only [PickT, Act.put, List.setIfInBounds_toArray, List.set_cons_zero, List.set_cons_succ]
  refine wpAnyT_done (by kernel_rfl) ?_ _
  refine only_mk ?_
  clear HSH HAN HN1 HB1
  go_wp2_with fail
  go_loopw [27] (fun vi wr => ∃ i : Nat, vi = .int .i64 (i : Int) ∧ i ≤ n ∧ NamesAt wr nm (Sf.names S.synced (S.chg.take i)) ∧ Below w.heap.size w wr) (fun vi _ => n - (intOf vi).toNat)
  case atStart => exact ⟨0, rfl, Nat.zero_le _, HND.out, HD.out⟩
  case round =>
    obtain ⟨i, rfl, hin, hnr, hbel⟩ := hrel
    have HBL := Lib.hid hbel
    by_cases hlt : i < n
    · have him : i < m := by omega
      obtain ⟨ad, rfl, x0, -⟩ := HROW.out.at_ hbel him
      have x0 := x0 (by omega)
      rw [Nat.mul_one] at x0
      obtain ⟨T, v, f, hv, hna, hme, hfn, hcall⟩ := nm_iface (S.chg.getD i (.rem ByteArray.empty))
      have e0 : nx S.chg i 0 = .iface T v := hv
      rw [e0] at x0
      have HC := Lib.hid (hcall _ wr nm (HNI.out i) (HST.out i him).1 hnr)
      have HS2 := Lib.hid (HST.out i him).2
      have d0 : decide ((i : Int) < (n : Int)) = true := decide_eq_true (by omega)
      have j0 : (0 : Int) ≤ (i : Int) := by omega
      have j1 : (i : Int) < (n : Int) := by omega
      have hwr : IntKind.i64.wrap ((i : Int) + 1) = ((i + 1 : Nat) : Int) := by rw [Int.natCast_add]; exact IntWalk.i64_in _ (by omega)
      have hwr2 : wrap64 ((i : Int) + 1) = ((i + 1 : Nat) : Int) := by rw [Int.natCast_add]; exact IntWalk.wrap64_in _ (by omega)
      have hi1 : i + 1 ≤ n := hlt
      have hms : n - (i + 1) < n - i := by clear hwr hwr2 i1 i2 j0 j1 d0; omega
      have HI1 := Lib.hid hi1; have HMS := Lib.hid hms
      clear hcall e0 hv hbel hin hnr hi1 hms
      go_wp2_with fail
      refine HC.out.mono ?_; rintro e w3 ⟨rfl, hn3, hg3⟩
      have HB3 := Lib.hid (HBL.out.grown hg3 HBL.out.size (fun r e => by cases e; exact HNM.out))
      have HN3 := Lib.hid hn3
      clear hn3 hg3
      go_wp2_with fail
      go_roundw
      case rel => exact ⟨i + 1, rfl, HI1.out, by rw [HS2.out]; exact HN3.out, HB3.out⟩
      case measure => exact HMS.out
    · obtain rfl : i = n := by omega
      have d0 : decide ((i : Int) < (i : Int)) = false := decide_eq_false (by omega)
      rw [← HNOW.out] at hnr
      have HNR := Lib.hid hnr
      have HNC := Lib.hid (Sf.now_nice HOK.out k)
      have HSO := Lib.hid (sorted_any nm (S.now k) wr hnr (Nat.le_trans HNC.out.few (by decide)))
      clear hbel hin hnr HST HNI HND HD hlt
      go_wp2_with fail
      refine HSO.out.mono ?_; rintro e w4 ⟨v4, rfl, hrow4, hb4⟩
      have hB4 := below_step HBL.out hb4
      have HLK := Lib.hid (list_look HNR.out HNC.out)
      have hl64 : (Sf.list (S.now k)).length ≤ 64 := by rw [Sf.list_length]; exact HNC.out.few
      rw [rcells_enc] at hrow4
      obtain ⟨l, hl⟩ : ∃ l, l = Sf.list (S.now k) := ⟨_, rfl⟩
      obtain ⟨b4, hb4e⟩ : ∃ b4, b4 = wr.heap.size := ⟨_, rfl⟩
      rw [← hl] at hrow4 HLK hl64
      rw [← hb4e] at hrow4
      have HL := Lib.hid hl
      obtain ⟨A4, c4, hv4, -, -, -, -⟩ := own_row hrow4
      subst hv4
      have HRW := Lib.hid hrow4
      have HF4 := Lib.hid (HFS.out.far hB4)
      have HN4 := Lib.hid (HNR.out.later hb4)
      have HB4 := Lib.hid (hB4.mono hbase)
      have HS4 := Lib.hid (Stays.below hB4)
      clear hrow4 hb4 hB4 HSO HFS HNR HBL HROW d0 hl hb4e
      go_wp2_with fail
      go_loopw [38] (fun vj W => ∃ (j : Nat) (cvs2 : Nat → Value), vj = .int .i64 (j : Int) ∧ j ≤ l.length ∧ FsIn W base fb (Sf.crashTo k (S.now k) l S j) (Sf.live S.synced S.chg) mb sb cv cvs2 ∧ NamesAt W nm (S.now k) ∧ W.ownsRow b4 9 1 (.slice A4 l.length c4) l.length (rcells 1 (fun i _ => encStr (l.getD i [])) l.length) ∧ Below base w W ∧ Stays w W) (fun vj _ => l.length - (intOf vj).toNat)
      case atStart => exact ⟨0, cvs, rfl, Nat.zero_le _, HF4.out, HN4.out, HRW.out, HB4.out, HS4.out⟩
      case round =>
        obtain ⟨j, cvs2, rfl, hjl, hfs, hnn, hrw, hbl, hst⟩ := hrel
        have HFX := Lib.hid hfs; have HNX := Lib.hid hnn; have HRX := Lib.hid hrw; have HBX := Lib.hid hbl; have HSX := Lib.hid hst
        have HBW := Lib.hid (Nat.le_trans hbase hbl.size)
        by_cases hlt2 : j < l.length
        · obtain ⟨x, hx, hxs⟩ := HLK.out j hlt2
          obtain ⟨A5, c5, e5, -, -, -, hrow⟩ := own_row hrw
          cases e5
          obtain ⟨ad, rfl, xa, -⟩ := hrow.at_ (Below.refl _ _) hlt2
          have xb := xa (by omega)
          rw [Nat.mul_one] at xb
          have x0 : wr.cell? (ad.add j) = some (.string (bs (l.getD j []))) := xb
          clear xa xb
          have hlk := look_read hnn HNC.out.files hxs hx
          have hlive := Sf.now_live HOK.out k hx
          have HCR := Lib.hid (crash_any (hfs.fil x hlive) (Sf.crashTo_ok k (S.now k) l _ HOK.out.file j x hlive) (by omega) hB (HK.out _ hbl hst) (1 + 2 * j) (by omega))
          have hsucc : Sf.crashTo k (S.now k) l S (j + 1) = (Sf.crashTo k (S.now k) l S j).file x (Sf.whole (((Sf.crashTo k (S.now k) l S j).F x).survive k (1 + 2 * j))) := by
            show (match Sf.look (S.now k) (bs (l.getD j [])) with | some x => _ | none => _) = _
            rw [hx]
          have HPOST := Lib.hid (fun w5 hg hb => crash_step (w5 := w5) HFX.out hlive HNX.out HRX.out HBX.out HBW.out HSX.out hg hb hsucc)
          have d0 : decide ((j : Int) < (l.length : Int)) = true := decide_eq_true (by omega)
          have j0 : (0 : Int) ≤ (j : Int) := by omega
          have j1 : (j : Int) < (l.length : Int) := by omega
          have hl64 := hl64
          obtain ⟨q, hq⟩ : ∃ q, q = 2 * j := ⟨_, rfl⟩
          obtain ⟨p, hp⟩ : ∃ p, p = 1 + 2 * j := ⟨_, rfl⟩
          obtain ⟨hw1, hw2, hw3, hw4, hw5, hw6⟩ := crash_wraps j p q (Nat.le_of_lt (Nat.lt_of_lt_of_le hlt2 hl64)) hq hp
          rw [← hp] at HCR HPOST
          clear hq hp
          have HJ1 : Hid (j + 1 ≤ l.length) := Lib.hid hlt2
          have HMS : Hid (l.length - (j + 1) < l.length - j) := Lib.hid (Nat.sub_lt_sub_left hlt2 (Nat.lt_succ_self j))
          generalize bs (l.getD j []) = nmv at *
          clear hfs hnn hrw hbl hst hjl hrow hx hxs hlive hsucc i1 i2
          go_wp2_with fail
          refine HCR.out.mono ?_; rintro e w5 ⟨rfl, hg5, hbk5⟩
          have HP := Lib.hid (HPOST.out w5 hg5 hbk5)
          clear hg5 hbk5
          go_wp2_with fail
          obtain ⟨cvs5, hp⟩ := HP.out
          have HP2 := Lib.hid hp
          clear hp
          go_roundw
          case rel => exact ⟨j + 1, cvs5, rfl, HJ1.out, HP2.out⟩
          case measure => exact HMS.out
        · obtain rfl : j = l.length := by omega
          have d0 : decide ((l.length : Int) < (l.length : Int)) = false := decide_eq_false (by omega)
          clear hfs hnn hrw hbl hst hjl i1 i2 hlt2
          obtain ⟨F2, hF2⟩ : ∃ F2, F2 = (Sf.crashTo k (S.now k) l S l.length).F := ⟨_, rfl⟩
          have HG : Hid (FsIn wr base fb { S with F := F2 } (Sf.live S.synced S.chg) mb sb cv cvs2) := Lib.hid (by rw [hF2, ← Sf.crashTo_same]; exact HFX.out)
          have HEQ : Hid (S.crash k = { names := S.now k, synced := S.now k, chg := [], room := S.room, steps := S.steps, fuse := -1, dead := false, F := F2 }) := Lib.hid (by rw [hF2, HL.out]; rfl)
          have HBK3 : Hid (wr.heap[fb]? = some (.cells #[.map (some mb), .map (some sb), cv, .int .i64 S.room, .int .i64 S.steps, .int .i64 S.fuse, .bool S.dead] 50 (0, 0))) := Lib.hid HG.out.blk
          have HBN : Hid (base ≤ nm) := Lib.hid (Nat.le_trans hbase HNM.out)
          clear hF2
          go_wp2_with fail
          refine plain_T (fun U => Below wr.heap.size wr U) [14] (by kernel_rfl) ?_
          have HD2 : Hid (Below wr.heap.size wr wr.drew) := Lib.hid (Below.refl _ _).drew
          generalize wr.drew = wd2 at HD2 ⊢
          refine wpAnyT_pick (S := (fun U => Below wr.heap.size wr U)) (by kernel_rfl) Only.panic Only.keepsIn (w := wd2) HD2.out [0, 1, 2, 4, 5, 6, 7, 8, 9, 10, 11] 4 _ _ (by kernel_rfl) ?_
          refine PickT.value (d := some 52) (.pointer (some ⟨fb, 0, none⟩)) rfl rfl (by kernel_rfl) (fun U hU => (by go_simp)) ?_
          refine PickT.value (d := some 53) (.map (some nm)) rfl rfl (by kernel_rfl) (fun U hU => (by go_simp)) ?_
          refine PickT.value (d := some 54) (.map (some nm)) rfl rfl (by kernel_rfl) (fun U hU => (by go_simp)) ?_
          refine PickT.value (d := some 56) (.pointer (some ⟨fb, 0, none⟩)) rfl rfl (by kernel_rfl) (fun U hU => (by go_simp)) ?_
          refine PickT.value (d := some 57) (.pointer (some ⟨fb, 0, none⟩)) rfl rfl (by kernel_rfl) (fun U hU => (by go_simp)) ?_
          refine PickT.value (d := some 58) (.pointer (some ⟨fb, 3, none⟩)) rfl rfl (by kernel_rfl) (fun U hU => (by go_simp)) ?_
          refine PickT.value (d := some 59) (.int .i64 S.room) rfl rfl (by kernel_rfl) (fun U hU => (by have h0 : U.cell? ⟨fb, 3, none⟩ = some (.int .i64 S.room) := cell_of_row _ _ _ _ _ _ (heap_keep HBK3.out hU); go_simp)) ?_
          refine PickT.value (d := some 60) (.pointer (some ⟨fb, 0, none⟩)) rfl rfl (by kernel_rfl) (fun U hU => (by go_simp)) ?_
          refine PickT.value (d := some 61) (.pointer (some ⟨fb, 0, none⟩)) rfl rfl (by kernel_rfl) (fun U hU => (by go_simp)) ?_
          refine PickT.value (d := some 62) (.pointer (some ⟨fb, 4, none⟩)) rfl rfl (by kernel_rfl) (fun U hU => (by go_simp)) ?_
          refine PickT.value (d := some 63) (.int .i64 S.steps) rfl rfl (by kernel_rfl) (fun U hU => (by have h0 : U.cell? ⟨fb, 4, none⟩ = some (.int .i64 S.steps) := cell_of_row _ _ _ _ _ _ (heap_keep HBK3.out hU); go_simp)) ?_
          simp only [PickT, Act.put, List.setIfInBounds_toArray, List.set_cons_zero, List.set_cons_succ]
          refine wpAnyT_one (i := 3) (by kernel_rfl) rfl (by kernel_rfl) ?_
          intro K hK
          unfold Oper.wp
          go_simp
          refine (anew_any nm (S.now k) wd2 (HNX.out.later HD2.out) (Nat.le_trans HNC.out.few (by decide))).mono ?_; rintro e w6 ⟨rfl, hn6, hb6⟩
          have hlt6 : nm < wd2.heap.size := (HNX.out.later HD2.out).lt
          obtain ⟨n2, hn2⟩ : ∃ n2, n2 = wd2.heap.size := ⟨_, rfl⟩
          have hbn6 : base ≤ wd2.heap.size := Nat.le_trans HBW.out HD2.out.size
          rw [← hn2] at hn6 hlt6 hbn6 ⊢
          have HN6 := Lib.hid (And.intro hbn6 (And.intro (Nat.ne_of_lt hlt6) hn6))
          have HB6 := Lib.hid (below_step HD2.out hb6)
          have HBK6 := Lib.hid (heap_keep HBK3.out HB6.out)
          clear hb6 hbn6 hlt6 hn6 hn2
          refine hK _ _ (fun _ => HB6.out) ?_
          clear hK K
          refine wpAnyT_pick (S := (fun U => Below wr.heap.size wr U)) (by kernel_rfl) Only.panic Only.keepsIn (w := w6) HB6.out [12, 13] 1 _ _ (by kernel_rfl) ?_
          refine PickT.value (d := some 64) (.agg #[.map (some nm), .map (some n2), .slice none 0 0, .int .i64 S.room, .int .i64 S.steps, .int .i64 (-1), .bool false]) rfl rfl (by kernel_rfl) (fun U hU => (by go_simp)) ?_
          refine PickT.value (d := some 65) (.pointer (some ⟨fb, 0, none⟩)) rfl rfl (by kernel_rfl) (fun U hU => (by go_simp)) ?_
          simp only [PickT, Act.put, List.setIfInBounds_toArray]
          have z0 : w6.cell? ⟨fb, 0, none⟩ = some (.map (some mb)) := cell_of_row _ _ _ _ _ _ HBK6.out
          have f0 : w6.frozen? ⟨fb, 0, none⟩ = false := frozen_of_row _ _ _ _ _ HBK6.out
          have z1 : w6.cell? ⟨fb, 1, none⟩ = some (.map (some sb)) := cell_of_row _ _ _ _ _ _ HBK6.out
          have f1 : w6.frozen? ⟨fb, 1, none⟩ = false := frozen_of_row _ _ _ _ _ HBK6.out
          have z2 : w6.cell? ⟨fb, 2, none⟩ = some cv := cell_of_row _ _ _ _ _ _ HBK6.out
          have f2 : w6.frozen? ⟨fb, 2, none⟩ = false := frozen_of_row _ _ _ _ _ HBK6.out
          have z3 : w6.cell? ⟨fb, 3, none⟩ = some (.int .i64 S.room) := cell_of_row _ _ _ _ _ _ HBK6.out
          have f3 : w6.frozen? ⟨fb, 3, none⟩ = false := frozen_of_row _ _ _ _ _ HBK6.out
          have z4 : w6.cell? ⟨fb, 4, none⟩ = some (.int .i64 S.steps) := cell_of_row _ _ _ _ _ _ HBK6.out
          have f4 : w6.frozen? ⟨fb, 4, none⟩ = false := frozen_of_row _ _ _ _ _ HBK6.out
          have z5 : w6.cell? ⟨fb, 5, none⟩ = some (.int .i64 S.fuse) := cell_of_row _ _ _ _ _ _ HBK6.out
          have f5 : w6.frozen? ⟨fb, 5, none⟩ = false := frozen_of_row _ _ _ _ _ HBK6.out
          have z6 : w6.cell? ⟨fb, 6, none⟩ = some (.bool S.dead) := cell_of_row _ _ _ _ _ _ HBK6.out
          have f6 : w6.frozen? ⟨fb, 6, none⟩ = false := frozen_of_row _ _ _ _ _ HBK6.out
          refine wpAnyT_one (i := 14) (by kernel_rfl) rfl (by kernel_rfl) ?_
          intro K hK
          unfold Oper.wp
          go_simp
          clear z0 z1 z2 z3 z4 z5 z6 f0 f1 f2 f3 f4 f5 f6
          refine hK _ _ (fun h => absurd h (by decide)) ?_
          clear hK K
          have hg := grown_trans (grown_trans (grown_trans (grown_trans (grown_trans (grown_trans (grown_setCell w6 fb 0 (.map (some nm))) (grown_setCell _ fb 1 (.map (some n2)))) (grown_setCell _ fb 2 (.slice none 0 0))) (grown_setCell _ fb 3 (.int .i64 S.room))) (grown_setCell _ fb 4 (.int .i64 S.steps))) (grown_setCell _ fb 5 (.int .i64 (-1)))) (grown_setCell _ fb 6 (.bool false))
          have hblk := heap_setCell_same _ fb 6 _ _ (.bool false) (heap_setCell_same _ fb 5 _ _ (.int .i64 (-1)) (heap_setCell_same _ fb 4 _ _ (.int .i64 S.steps) (heap_setCell_same _ fb 3 _ _ (.int .i64 S.room) (heap_setCell_same _ fb 2 _ _ (.slice none 0 0) (heap_setCell_same _ fb 1 _ _ (.map (some n2)) (heap_setCell_same _ fb 0 _ _ (.map (some nm)) HBK6.out))))))
          have hfs6 := (HG.out.far HB6.out).crashed hg (S.now k) nm n2 HBN.out HN6.out.1 HN6.out.2.1 (HNX.out.later HB6.out) HN6.out.2.2 (hblk.trans rfl)
          have hlo : base ≤ fb := HG.out.lo
          have HFIN := Lib.hid (show Left w base fb (S.crash k) _ from ⟨by
            rw [HEQ.out]
            exact FsL.weaken ⟨nm, n2, _, cvs2, hfs6⟩ (fun x hx => by
              rcases hx with ⟨s, hs⟩ | ⟨c, hc, -⟩
              · exact Sf.now_live HOK.out k hs
              · cases hc), (HBX.out.trans (HB6.out.mono HBW.out)).grown hg (Nat.le_trans HBW.out HB6.out.size) (fun r e => by cases e; exact hlo), (HSX.out.trans (Stays.below HB6.out)).trans (Stays.grown hg (fun cs T fr e => by rw [HBK6.out] at e; cases e; exact .inl rfl))⟩)
          clear hg hblk hfs6 hlo
          refine wpAnyT_done (by kernel_rfl) ?_ _
          refine only_mk ?_
          go_wp2_with fail
          go_end0
          exact ⟨rfl, HFIN.out⟩
end Go.Proofs.Ytgpmomjdjakklaa
