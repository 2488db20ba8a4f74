import Derived.Test.YtfibapfehgglhaaGreatDoorNumF
import Derived.Test.YtfibapfehgglhaaGreatDoorNumM
import Derived.ArgAppend
import Derived.Deep.DeepCutAuto
/-
  What the functions of package num come to: the cursor's methods.
-/
namespace Go.Proofs.YtfibapfehgglhaaGreatDoor
open Go.RowKit

set_option maxHeartbeats 400000 in
theorem curSmall (b : Nat) (s : ByteArray) (hs : s.size ≤ maxLen) (bad : Bool) (w : World) (hc : CurAt b s bad w) :
    Calls Tryz.prog 112 #[.pointer (some ⟨b, 0, none⟩)] w fun e w' => e = .returned (.int .u64 ((Num.curV bad ((Num.decp 0 0 s.data.toList).2.2) (Num.decp 0 0 s.data.toList).1 0 : Nat) : Int)) ∧ CurAt b (Num.curV bad ((Num.decp 0 0 s.data.toList).2.2) (s.extract ((Num.decp 0 0 s.data.toList).2.1) s.size) s) (bad || !(Num.decp 0 0 s.data.toList).2.2) w' ∧ w.grownBy w' (some b) := by
  have ht := take_small b s hs bad w hc
  generalize (Num.decp 0 0 s.data.toList).1 = v at *
  generalize (Num.decp 0 0 s.data.toList).2.1 = n at *
  generalize (Num.decp 0 0 s.data.toList).2.2 = ok at *
  have HT := Lib.hid ht; clear ht hc
  go_enter Tryz.func112, Tryz.ntmps112
  go_wp2_with fail
  refine HT.out.mono ?_
  rintro e w1 ⟨rfl, h1, h2⟩
  have H1 := Lib.hid h1; have H2 := Lib.hid h2; clear h1 h2
  go_wp2_with fail
  go_ret
  exact ⟨rfl, H1.out, H2.out⟩

set_option maxHeartbeats 400000 in
theorem curWide (b : Nat) (s : ByteArray) (hs : s.size ≤ maxLen) (bad : Bool) (w : World) (hc : CurAt b s bad w) :
    Calls Tryz.prog 115 #[.pointer (some ⟨b, 0, none⟩)] w fun e w' => e = .returned (.int .u64 ((Num.curV bad ((decide (8 ≤ s.size))) (if decide (8 ≤ s.size) = true then Num.num (s.data.toList.take 8) else 0) 0 : Nat) : Int)) ∧ CurAt b (Num.curV bad ((decide (8 ≤ s.size))) (s.extract ((if decide (8 ≤ s.size) = true then 8 else 0)) s.size) s) (bad || !(decide (8 ≤ s.size))) w' ∧ w.grownBy w' (some b) := by
  have ht := take_wide b s hs bad w hc
  generalize (if decide (8 ≤ s.size) = true then Num.num (s.data.toList.take 8) else 0) = v at *
  generalize (if decide (8 ≤ s.size) = true then 8 else 0) = n at *
  generalize (decide (8 ≤ s.size)) = ok at *
  have HT := Lib.hid ht; clear ht hc
  go_enter Tryz.func115, Tryz.ntmps115
  go_wp2_with fail
  refine HT.out.mono ?_
  rintro e w1 ⟨rfl, h1, h2⟩
  have H1 := Lib.hid h1; have H2 := Lib.hid h2; clear h1 h2
  go_wp2_with fail
  go_ret
  exact ⟨rfl, H1.out, H2.out⟩

set_option maxHeartbeats 400000 in
theorem curText (b : Nat) (s : ByteArray) (hs : s.size ≤ maxLen) (bad : Bool) (m : Int) (hm : Hid (-9223372036854775808 ≤ m ∧ m ≤ 9223372036854775807)) (w : World) (hc : CurAt b s bad w) :
    Calls Tryz.prog 292 #[.pointer (some ⟨b, 0, none⟩), .int .i64 m] w fun e w' => e = .returned (.string (Num.curV bad ((Num.xOk m s)) ((if Num.xOk m s = true then Num.xV s else ByteArray.empty)) ByteArray.empty)) ∧ CurAt b (Num.curV bad ((Num.xOk m s)) (s.extract ((if Num.xOk m s = true then Num.xN s else 0)) s.size) s) (bad || !(Num.xOk m s)) w' ∧ w.grownBy w' (some b) := by
  have hc1 : CurAt b s bad (w.alloc (.cells #[.int .i64 m] 3)) := heap_keep hc ((Below.refl _ w).alloc (Nat.le_refl _) _)
  have ht := take_text b s hs bad m hm w.heap.size (w.alloc (.cells #[.int .i64 m] 3)) hc1 (cell_of_row _ _ 0 _ _ _ (heap_alloc_new w _))
  generalize (if Num.xOk m s = true then Num.xV s else ByteArray.empty) = v at *
  generalize (if Num.xOk m s = true then Num.xN s else 0) = n at *
  generalize (Num.xOk m s) = ok at *
  have HT := Lib.hid ht; clear ht hc hc1
  go_enter Tryz.func292, Tryz.ntmps292
  go_wp2_with fail
  refine HT.out.mono ?_
  rintro e w1 ⟨rfl, h1, h2⟩
  have H1 := Lib.hid h1; have H2 := Lib.hid (grown_trans (World.grownBy_alloc w _ _) h2); clear h1 h2
  go_wp2_with fail
  go_ret
  exact ⟨rfl, H1.out, H2.out⟩

set_option maxHeartbeats 400000 in
theorem curTake (b : Nat) (s : ByteArray) (hs : s.size ≤ maxLen) (bad : Bool) (m : Int) (w : World) (hc : CurAt b s bad w) :
    Calls Tryz.prog 113 #[.pointer (some ⟨b, 0, none⟩), .int .i64 m] w fun e w' => e = .returned (.string (Num.curV bad ((Num.tOk m s)) ((if Num.tOk m s = true then s.extract 0 m.toNat else ByteArray.empty)) ByteArray.empty)) ∧ CurAt b (Num.curV bad ((Num.tOk m s)) (s.extract ((if Num.tOk m s = true then m.toNat else 0)) s.size) s) (bad || !(Num.tOk m s)) w' ∧ w.grownBy w' (some b) := by
  have hc1 : CurAt b s bad (w.alloc (.cells #[.int .i64 m] 3)) := heap_keep hc ((Below.refl _ w).alloc (Nat.le_refl _) _)
  have ht := take_take b s hs bad m w.heap.size (w.alloc (.cells #[.int .i64 m] 3)) hc1 (cell_of_row _ _ 0 _ _ _ (heap_alloc_new w _))
  generalize (if Num.tOk m s = true then s.extract 0 m.toNat else ByteArray.empty) = v at *
  generalize (if Num.tOk m s = true then m.toNat else 0) = n at *
  generalize (Num.tOk m s) = ok at *
  have HT := Lib.hid ht; clear ht hc hc1
  go_enter Tryz.func113, Tryz.ntmps113
  go_wp2_with fail
  refine HT.out.mono ?_
  rintro e w1 ⟨rfl, h1, h2⟩
  have H1 := Lib.hid h1; have H2 := Lib.hid (grown_trans (World.grownBy_alloc w _ _) h2); clear h1 h2
  go_wp2_with fail
  go_ret
  exact ⟨rfl, H1.out, H2.out⟩

set_option maxHeartbeats 400000 in
theorem curFixed (b : Nat) (s : ByteArray) (hs : s.size ≤ maxLen) (bad : Bool) (k : Int) (w : World) (hc : CurAt b s bad w) :
    Calls Tryz.prog 290 #[.pointer (some ⟨b, 0, none⟩), .int .i64 k] w fun e w' => e = .returned (.string (Num.curV bad ((Num.fAll (Num.sz k) s)) ((Num.fT (Num.sz k) s)) ByteArray.empty)) ∧ CurAt b (Num.curV bad ((Num.fAll (Num.sz k) s)) (s.extract ((Num.fN (Num.sz k) s)) s.size) s) (bad || !(Num.fAll (Num.sz k) s)) w' ∧ w.grownBy w' (some b) := by
  go_enter Tryz.func290, Tryz.ntmps290
  have HC := Lib.hid hc; clear hc
  go_wp2_with fail
  refine (size_any k _).mono ?_; rintro e wx ⟨rfl, rfl⟩
  have hc1 : CurAt b s bad (w.alloc (.cells #[.int .i64 (Num.sz k : Nat)] 3)) := heap_keep HC.out ((Below.refl _ w).alloc (Nat.le_refl _) _)
  have ht := take_fixed b s hs bad (Num.sz k) (Num.sz_le k) w.heap.size (w.alloc (.cells #[.int .i64 (Num.sz k : Nat)] 3)) hc1 (cell_of_row _ _ 0 _ _ _ (heap_alloc_new w _))
  have HT := Lib.hid ht; clear ht hc1
  generalize hK : Num.sz k = kk at *
  have HK := Lib.hid hK; clear hK
  go_wp2_with fail
  refine HT.out.mono ?_
  rintro e w1 ⟨rfl, h1, h2⟩
  have H1 := Lib.hid h1; have H2 := Lib.hid (grown_trans (World.grownBy_alloc w _ _) h2); clear h1 h2
  go_wp2_with fail
  go_ret
  have hk := HK.out
  subst hk
  exact ⟨rfl, H1.out, H2.out⟩

end Go.Proofs.YtfibapfehgglhaaGreatDoor
/-
  What the functions of the reference alluviumref03 come to: Small, Wide, Text, Zig, Zag.
-/
namespace Go.Proofs.YtfibapfehgglhaaGreatDoor
open Go.RowKit

theorem Tryz.info5 : (Tryz.prog.info? 5).map (fun i => (i.zero, i.size, i.bytes)) = some (some (.int .u8 0), 1, 1) := by kernel_rfl

theorem Num.wrap_div128 (m : Nat) (h : m < 18446744073709551616) : IntKind.u64.wrap ((m : Int) / 128) = (m : Int) / 128 := by
  rw [IntKind.wrap_u64]; omega
theorem Num.wrap_div256 (m : Nat) (h : m < 18446744073709551616) : IntKind.u64.wrap ((m : Int) / 256) = (m : Int) / 256 := by
  rw [IntKind.wrap_u64]; omega

theorem Num.small_size (n : Nat) : (smallB n).size ≤ 10 := Num.enc_length_le 9 _

end Go.Proofs.YtfibapfehgglhaaGreatDoor
/-
  Bytes of the call's own in a block of whatever mark, told by their cells.
-/
namespace Go.Proofs.YtfibapfehgglhaaGreatDoor
open Go.RowKit

def OwnsM (W : World) (base : Nat) (v : Value) (l : List UInt8) : Prop :=
  ∃ g cap, v = .slice (some ⟨g, 0, none⟩) l.length cap ∧ base ≤ g ∧ g < W.heap.size ∧ l.length ≤ cap ∧ cap ≤ maxLen ∧
    (∀ j, j < cap → (W.cell? ⟨g, j, none⟩).isSome = true ∧ W.frozen? ⟨g, j, none⟩ = false) ∧
    (∀ j (h : j < l.length), W.cell? ⟨g, j, none⟩ = some (.int .u8 (l[j].toNat : Int)))

theorem OwnsM.text {P : Program} {w : World} {base src dst e : TypeId} {v : Value} {l : List UInt8} (h : OwnsM w base v l)
    (hs : P.underlying src = some (.slice e)) (he : P.underlying e = some (.int .u8)) (hd : P.underlying dst = some .string) :
    (convert src dst v).run P w = .ok (.string ⟨l.toArray⟩) w := by
  obtain ⟨g, cap, rfl, _, _, _, _, _, hc⟩ := h
  exact run_convert_bytes_back w src dst e ⟨g, 0, none⟩ cap l hs he hd (fun j hj => by rw [Addr.add_lit, Nat.zero_add]; exact hc j hj)

theorem OwnsM.keep {w w' : World} {base : Nat} {v : Value} {l : List UInt8} (h : OwnsM w base v l) (hb : Below w.heap.size w w') : OwnsM w' base v l := by
  obtain ⟨g, cap, rfl, h1, h2, h3, h4, h5, h6⟩ := h
  have hsz := hb.size
  refine ⟨g, cap, rfl, h1, by omega, h3, h4, fun j hj => ?_, fun j hj => ?_⟩
  · rw [hb.cell (p := ⟨g, j, none⟩) h2, hb.frozen (p := ⟨g, j, none⟩) h2]; exact h5 j hj
  · rw [hb.cell (p := ⟨g, j, none⟩) h2]; exact h6 j hj

theorem OwnsM.of_row {w : World} {base n : Nat} {e : TypeId} {v : Value} {l : List UInt8} (h : w.ownsRow base e 1 v n (byteVals l)) (hn : 0 < n) : OwnsM w base v l := by
  have hl : l.length = n := by have := h.1; simpa [byteVals] using this
  rcases h.2 with ⟨_, h0⟩ | ⟨g, cap, cur, rfl, hb, hg, hc, hm, hs, ht⟩
  · omega
  · subst hl
    refine ⟨g, cap, rfl, hb, (Array.getElem?_eq_some_iff.1 hg).1, hc, hm, fun j hj => ⟨?_, frozen_of_row _ _ _ _ _ hg⟩, fun j hj => ?_⟩
    · rw [cell_of_row _ _ _ _ _ _ hg, Array.getElem?_eq_getElem (by omega)]; rfl
    · rw [World.ownsRow.cellAt h j (by omega)]
      simp [byteVals, hj]

theorem OwnsM.of_string {w : World} {base : Nat} {s : ByteArray} {cap : Nat} {e : TypeId} (hb : base ≤ w.heap.size) (h1 : s.size ≤ cap) (h2 : cap ≤ maxLen) :
    OwnsM (w.drew.alloc (.cells (bytesRow s cap) e ((bytesRow s cap).size, (bytesRow s cap).size + 1))) base (.slice (some ⟨w.heap.size, 0, none⟩) s.size cap) s.data.toList := by
  have hz : (bytesRow s cap).size = cap := by
    have : s.data.size = s.size := rfl
    simp [bytesRow]; omega
  have hg := heap_alloc_new w.drew (.cells (bytesRow s cap) e ((bytesRow s cap).size, (bytesRow s cap).size + 1))
  have hl : s.data.toList.length = s.size := by simp
  generalize hW : w.drew.alloc (.cells (bytesRow s cap) e ((bytesRow s cap).size, (bytesRow s cap).size + 1)) = W at *
  have hg' : W.heap[w.heap.size]? = some (.cells (bytesRow s cap) e ((bytesRow s cap).size, (bytesRow s cap).size + 1)) := hg
  refine ⟨w.heap.size, cap, by rw [hl], hb, (Array.getElem?_eq_some_iff.1 hg').1, by omega, h2, fun j hj => ⟨?_, ?_⟩, fun j hj => ?_⟩
  · rw [cell_of_row _ _ _ _ _ _ hg', Array.getElem?_eq_getElem (by omega)]; rfl
  · simp [World.frozen?, hg', hz]; omega
  · rw [cell_of_row _ _ _ _ _ _ hg', bytesRow_at s cap j (by simpa using hj)]
    simp

theorem wpList_appM {P : Program} (w : World) {ops : Array Oper} {rest : List Oper} {o : Oper} {a : Act} {Q : Exit → Act → World → Prop}
    (hg : o.guard = none) (s x : Operand) (t : TypeId) (hop : o.op = Op.call { callee := Callee.builtin Builtin.append, args := #[s, x], argTypes := #[t, t] })
    (e : TypeId) (i : TypeInfo) (z : Value) (h1 : P.underlying t = some (.slice e)) (h2 : P.info? e = some i) (h3 : i.zero = some z) (h4 : i.size = 1) (h5 : i.bytes = 1) (h6 : z.cells.size = 1)
    (base : Nat) (v : Value) (l : List UInt8) (hs : a.eval s = v) (hown : OwnsM w base v l)
    (ad : Addr) (c : Nat) (nv : UInt8) (nw : Int) (hnv : (nv.toNat : Int) = nw) (hx : a.eval x = .slice (some ad) 1 c) (hc : ∀ j u, [Value.int .u8 nw][j]? = some u → w.cell? (ad.add j) = some u)
    (b1 : l.length ≤ 1000000)
    (h : ∀ v' w', OwnsM w' base v' (l ++ [nv]) → w.grownBy w' v.ownBlock → wpList P ops Q rest (a.put o.dst v') w') :
    wpList P ops Q (o :: rest) a w := by
  subst hnv
  obtain ⟨g, cap, rfl, hb, hlt, hlc, hcm, hcs, hcl⟩ := hown
  refine wpList_append_arg w hg s x t hop e i z 1 1 h1 h2 h3 h4 h5 h6 (by decide) g 0 l.length cap (byteVals l) hs (by simp [byteVals]) (fun j u hj => ?_) ad 1 c [.int .u8 (nv.toNat : Int)] hx rfl hc (by simp [Value.oneCell']) (fun hr j hj => ?_) (by unfold maxLen; omega) (by omega) (fun hr => ?_) (fun hr v' w' ho hgr => ?_)
  · rw [Nat.zero_add]
    have hjl : j < l.length := by have := (List.getElem?_eq_some_iff.1 hj).1; simpa [byteVals] using this
    rw [hcl j hjl, ← hj]; simp [byteVals, hjl]
  · have : j = 0 := by simp at hj; exact hj
    subst this
    simpa using hcs l.length (by omega)
  · have hin := World.cell?_setCells_in g [.int .u8 (nv.toNat : Int)] (0 + l.length * 1) w (fun j hj => by
      have : j = 0 := by simp at hj; exact hj
      subst this; simpa using (hcs l.length (by omega)).1) 0 (by simp)
    have hout := fun (j : Nat) (hj : j ≠ l.length) => World.cell?_setCells_out g [.int .u8 (nv.toNat : Int)] (0 + l.length * 1) w ⟨g, j, none⟩ (fun _ _ => by simp; omega)
    have hfz := fun (j : Nat) => World.frozen?_setCells g [.int .u8 (nv.toNat : Int)] (0 + l.length * 1) w ⟨g, j, none⟩
    have hkb := World.keptBut_setCells g (may := fun p => p.block = g) [.int .u8 (nv.toNat : Int)] (0 + l.length * 1) w (fun _ _ => rfl)
    have hsize : (w.setCells g (0 + l.length * 1) [.int .u8 (nv.toNat : Int)]).heap.size = w.heap.size := by simp [World.setCells, World.setCell]
    have htape : (w.setCells g (0 + l.length * 1) [.int .u8 (nv.toNat : Int)]).tape = w.tape := rfl
    have hos : (w.setCells g (0 + l.length * 1) [.int .u8 (nv.toNat : Int)]).os = w.os := rfl
    have hou : (w.setCells g (0 + l.length * 1) [.int .u8 (nv.toNat : Int)]).output = w.output := rfl
    generalize w.setCells g (0 + l.length * 1) [.int .u8 (nv.toNat : Int)] = w' at *
    simp only [Nat.zero_add, Nat.mul_one, Nat.add_zero, List.getElem_cons_zero] at hin
    refine h _ w' ⟨g, cap, by simp, hb, by omega, by simpa using hr, hcm, fun j hj => ?_, fun j hj => ?_⟩ ⟨hos, htape, hou, by omega, fun k hk hne => ?_⟩
    · rw [hfz]
      by_cases hj2 : j = l.length
      · subst hj2; rw [hin]; exact ⟨rfl, (hcs _ hj).2⟩
      · rw [hout j hj2]; exact hcs j hj
    · by_cases hj2 : j = l.length
      · subst hj2; rw [hin]; simp
      · have hjl : j < l.length := by simp at hj; omega
        rw [hout j hj2, hcl j hjl, List.getElem_append_left hjl]
    · exact hkb.block hk (fun _ hp e => hne (by simp only [Value.ownBlock]; rw [← e, hp]))
  · refine h v' w' ?_ ⟨hgr.os, hgr.tape, hgr.output, hgr.size, fun k hk _ => hgr.block k hk (by simp)⟩
    have : w'.ownsRow w.heap.size e 1 v' (l.length + 1) (byteVals (l ++ [nv])) := by rw [byteVals_append]; exact ho
    obtain ⟨g', cap', q1, q2, q3⟩ := OwnsM.of_row this (by omega)
    exact ⟨g', cap', q1, by omega, q3⟩
end Go.Proofs.YtfibapfehgglhaaGreatDoor
/-
  What the functions of the reference alluviumref03 come to: Fixed.
-/
namespace Go.Proofs.YtfibapfehgglhaaGreatDoor
open Go.RowKit

def rowLen : Value → Nat
  | .slice _ n _ => n
  | _ => 0

end Go.Proofs.YtfibapfehgglhaaGreatDoor
/-
  NumPuts, NumZig, NumSizes: the walks of the laws, given what works comes to.
-/
namespace Go.Proofs.YtfibapfehgglhaaGreatDoor
open Go.RowKit

theorem u64_nat (c : Int) (h : (Lit.int .u64 c).wf = true) : ∃ n : Nat, c = n ∧ Hid (n < 18446744073709551616) := by
  have hx : 0 ≤ c ∧ c ≤ 18446744073709551615 := by simpa [Lit.wf, IntKind.min, IntKind.max, IntKind.signed, IntKind.bits] using h
  exact ⟨c.toNat, by omega, Lib.hid (by omega)⟩
theorem i64_bd (c : Int) (h : (Lit.int .i64 c).wf = true) : Hid (-9223372036854775808 ≤ c ∧ c ≤ 9223372036854775807) := by
  have hx : -9223372036854775808 ≤ c ∧ c ≤ 9223372036854775807 := by simpa [Lit.wf, IntKind.min, IntKind.max, IntKind.signed, IntKind.bits] using h
  exact Lib.hid hx

theorem Num.small_pos (n : Nat) : 1 ≤ (smallB n).size := Num.enc_length_pos 9 _
theorem Num.small_mono (a b : Nat) (h : a ≤ b) : (smallB a).size ≤ (smallB b).size := Num.enc_mono 9 a b h
theorem Num.wideB_size (n : Nat) : (wideB n).size = 8 := Num.le_length _ _

end Go.Proofs.YtfibapfehgglhaaGreatDoor
/-
  What is written is read again: the mathematics.
-/
namespace Go.Proofs.YtfibapfehgglhaaGreatDoor
open Go.RowKit
namespace Num

theorem decp_get (l : List UInt8) (n k : Nat) (h : get l = some (n, k)) : decp 0 0 l = (n, k, true) := by
  unfold get at h
  rw [decp_dec] at h
  split at h
  · next h2 =>
    simp only [Option.some.injEq, Prod.mk.injEq] at h
    obtain ⟨h3, h4⟩ := h
    calc decp 0 0 l = ((decp 0 0 l).1, (decp 0 0 l).2.1, (decp 0 0 l).2.2) := rfl
      _ = (n, k, true) := by rw [h3, h4, h2]
  · simp at h
theorem app_list (a b : ByteArray) : (a ++ b).data.toList = a.data.toList ++ b.data.toList := by simp
theorem decp_small (n : Nat) (hn : n < 18446744073709551616) (r : ByteArray) : decp 0 0 (smallB n ++ r).data.toList = (n, (smallB n).size, true) := by
  rw [app_list]
  exact decp_get _ _ _ (get_small n hn r.data.toList)
theorem drop_app (a b : ByteArray) : (a ++ b).extract a.size (a ++ b).size = b := by
  apply ByteArray.ext; apply Array.toList_inj.1
  have h1 : a.data.toList.length = a.size := by simp
  have h2 : b.data.toList.length = b.size := by simp
  simp only [ByteArray.data_extract, Array.toList_extract, List.extract_eq_take_drop, app_list, ByteArray.size_append]
  rw [List.drop_left' h1, List.take_of_length_le (by omega)]
theorem take_app (a b : ByteArray) : (a ++ b).extract 0 a.size = a := by
  apply ByteArray.ext; apply Array.toList_inj.1
  have h1 : a.data.toList.length = a.size := by simp
  simp [ByteArray.data_extract, Array.toList_extract]
  rw [List.take_of_length_le (by omega)]
theorem num_le (n : Nat) : ∀ k, num (le n k) = n % 256 ^ k
  | 0 => by simp [le, num, Nat.mod_one]
  | k + 1 => by
    rw [le, num_append, num_le n k, le_length]
    have h1 : num [UInt8.ofNat (n / 256 ^ k % 256)] = n / 256 ^ k % 256 := by simp [num]
    rw [h1, Nat.pow_succ, Nat.mod_mul]
theorem num_wide (n : Nat) (hn : n < 18446744073709551616) (r : ByteArray) : num ((wideB n ++ r).data.toList.take 8) = n := by
  rw [app_list, List.take_left' (show (wideB n).data.toList.length = 8 from le_length n 8)]
  show num (le n 8) = n
  rw [num_le]
  exact Nat.mod_eq_of_lt hn
theorem text_app (t r : ByteArray) (ht : t.size ≤ 300) : xOk (t.size : Nat) ((smallB t.size ++ t) ++ r) = true ∧ xV ((smallB t.size ++ t) ++ r) = t ∧ xN ((smallB t.size ++ t) ++ r) = (smallB t.size ++ t).size := by
  have h := decp_small t.size (by omega) (t ++ r)
  rw [← ByteArray.append_assoc] at h
  have hn : xN ((smallB t.size ++ t) ++ r) = (smallB t.size ++ t).size := by
    unfold xN; rw [h, ByteArray.size_append]
  refine ⟨?_, ?_, hn⟩
  · unfold xOk
    rw [h]
    simp [ByteArray.size_append]; omega
  · unfold xV
    rw [hn, h, ByteArray.append_assoc]
    have h1 : (smallB t.size).data.toList.length = (smallB t.size).size := by simp
    have h2 : t.data.toList.length = t.size := by simp
    apply ByteArray.ext; apply Array.toList_inj.1
    simp only [ByteArray.data_extract, Array.toList_extract, List.extract_eq_take_drop, app_list, ByteArray.size_append]
    rw [List.drop_left' h1, List.take_left' (by omega)]
theorem fixed_at (t r : ByteArray) (z : Nat) (_hz : z ≤ 255) : byteAt (fixedB t z ++ r) z = min z t.size := by
  unfold byteAt
  rw [app_list]
  show ((fixL t.data.toList z ++ r.data.toList).getD z 0).toNat = _
  have h1 : t.data.toList.length = t.size := by simp
  have h2 : (t.data.toList.take z ++ List.replicate (z - (t.data.toList.take z).length) (0 : UInt8)).length = z := by simp; omega
  unfold fixL
  rw [List.append_assoc, List.getD_eq_getElem?_getD, List.getElem?_append_right (by omega), h2]
  simp
  omega
theorem fixed_app (t r : ByteArray) (z : Nat) (hz : z ≤ 255) : fAll z (fixedB t z ++ r) = true ∧ fT z (fixedB t z ++ r) = t.extract 0 z ∧ fN z (fixedB t z ++ r) = (fixedB t z).size := by
  have h0 := fixedB_size t z
  have h1 := fixed_at t r z hz
  have hc : z < (fixedB t z ++ r).size ∧ byteAt (fixedB t z ++ r) z ≤ z := by rw [h1, ByteArray.size_append]; omega
  have hl : t.data.toList.length = t.size := by simp
  have hv : fV z (fixedB t z ++ r) = t.extract 0 z := by
    unfold fV
    rw [h1]
    apply ByteArray.ext; apply Array.toList_inj.1
    simp only [ByteArray.data_extract, Array.toList_extract, List.extract_eq_take_drop, app_list, List.drop_zero, Nat.sub_zero]
    show (fixL t.data.toList z ++ r.data.toList).take (min z t.size) = _
    unfold fixL
    rw [List.append_assoc, List.append_assoc, List.take_left' (by simp)]
  refine ⟨?_, ?_, ?_⟩
  · unfold fAll fOk
    rw [hv, show z + 1 = (fixedB t z).size from h0.symm, take_app]
    have : fixedB (t.extract 0 z) z = fixedB t z := by
      unfold fixedB
      congr 2
      simp only [ByteArray.data_extract, Array.toList_extract, List.extract_eq_take_drop, List.drop_zero, Nat.sub_zero]
      unfold fixL
      rw [List.take_take, Nat.min_self]
    simp only [this, decide_true, Bool.and_true, decide_eq_true_eq]
    exact hc
  · unfold fT; rw [if_pos hc, hv]
  · unfold fN; rw [if_pos hc, h0]
end Num
end Go.Proofs.YtfibapfehgglhaaGreatDoor
/-
  Nothing else is read: the mathematics, and the cursor's calls told so.
-/
namespace Go.Proofs.YtfibapfehgglhaaGreatDoor
open Go.RowKit
namespace Num

theorem split_at (s : ByteArray) (k : Nat) : s.extract 0 k ++ s.extract k s.size = s := by
  have h : s.data.toList.length = s.size := by simp
  apply ByteArray.ext; apply Array.toList_inj.1
  rw [app_list]
  simp only [ByteArray.data_extract, Array.toList_extract, List.extract_eq_take_drop, List.drop_zero, Nat.sub_zero]
  rw [List.take_of_length_le (l := List.drop k _) (by simp), List.take_append_drop]
theorem small_back (s : ByteArray) (h : (decp 0 0 s.data.toList).2.2 = true) : smallB (decp 0 0 s.data.toList).1 = s.extract 0 (decp 0 0 s.data.toList).2.1 ∧ (decp 0 0 s.data.toList).1 < 18446744073709551616 := by
  have hg : get s.data.toList = some ((decp 0 0 s.data.toList).1, (decp 0 0 s.data.toList).2.1) := by
    unfold get; rw [decp_dec, if_pos h]
  obtain ⟨h1, _, _, h4⟩ := small_get _ _ _ hg
  refine ⟨?_, h4⟩
  apply ByteArray.ext; apply Array.toList_inj.1
  simp only [ByteArray.data_extract, Array.toList_extract, List.extract_eq_take_drop, List.drop_zero, Nat.sub_zero]
  exact h1
theorem num_bound (l : List UInt8) : num l < 256 ^ l.length := num_lt l
theorem le_cons (b : UInt8) (n : Nat) : ∀ k, le (b.toNat + 256 * n) (k + 1) = b :: le n k
  | 0 => by simp [le]
  | k + 1 => by
    have hb := b.toNat_lt
    have h1 : (b.toNat + 256 * n) / 256 ^ (k + 1) = n / 256 ^ k := by
      rw [Nat.pow_succ, Nat.mul_comm (256 ^ k), ← Nat.div_div_eq_div_mul]
      congr 1; omega
    rw [le, le_cons b n k, h1, le]
    simp
theorem le_num : ∀ l : List UInt8, le (num l) l.length = l
  | [] => rfl
  | b :: r => by rw [List.length_cons, num, le_cons, le_num r]
theorem wide_back (s : ByteArray) (h : 8 ≤ s.size) : wideB (num (s.data.toList.take 8)) = s.extract 0 8 ∧ num (s.data.toList.take 8) < 18446744073709551616 := by
  have hl : (s.data.toList.take 8).length = 8 := by simp; omega
  constructor
  · apply ByteArray.ext; apply Array.toList_inj.1
    simp only [ByteArray.data_extract, Array.toList_extract, List.extract_eq_take_drop, List.drop_zero, Nat.sub_zero]
    show le (num (s.data.toList.take 8)) 8 = _
    have := le_num (s.data.toList.take 8)
    rw [hl] at this
    exact this
  · have := num_lt (s.data.toList.take 8)
    rw [hl] at this
    exact this
end Num

theorem curSmall_or (b : Nat) (s : ByteArray) (hs : s.size ≤ maxLen) (w : World) (hc : CurAt b s false w) :
    Calls Tryz.prog 112 #[.pointer (some ⟨b, 0, none⟩)] w fun e w' => ∃ (n : Nat) (r : ByteArray) (bad : Bool), e = .returned (.int .u64 n) ∧ CurAt b r bad w' ∧ w.grownBy w' (some b) ∧ n < 18446744073709551616 ∧ (bad = false → Num.smallB n ++ r = s) ∧ bad = !(Num.decp 0 0 s.data.toList).2.2 := by
  refine (curSmall b s hs false w hc).mono ?_
  rintro e w' ⟨rfl, h1, h2⟩
  by_cases hd : (Num.decp 0 0 s.data.toList).2.2 = true
  · obtain ⟨h3, h4⟩ := Num.small_back s hd
    refine ⟨(Num.decp 0 0 s.data.toList).1, s.extract (Num.decp 0 0 s.data.toList).2.1 s.size, false, by simp [Num.curV, hd], by simpa [Num.curV, hd] using h1, h2, h4, fun _ => ?_, by simp [hd]⟩
    rw [h3, Num.split_at]
  · exact ⟨0, s, true, by simp [Num.curV, hd], by simpa [Num.curV, hd] using h1, h2, by decide, (fun h => by cases h), by simpa using hd⟩
theorem curWide_or (b : Nat) (s : ByteArray) (hs : s.size ≤ maxLen) (w : World) (hc : CurAt b s false w) :
    Calls Tryz.prog 115 #[.pointer (some ⟨b, 0, none⟩)] w fun e w' => ∃ (n : Nat) (r : ByteArray) (bad : Bool), e = .returned (.int .u64 n) ∧ CurAt b r bad w' ∧ w.grownBy w' (some b) ∧ (bad = false → Num.wideB n ++ r = s) ∧ bad = !decide (8 ≤ s.size) := by
  refine (curWide b s hs false w hc).mono ?_
  rintro e w' ⟨rfl, h1, h2⟩
  by_cases hd : 8 ≤ s.size
  · obtain ⟨h3, h4⟩ := Num.wide_back s hd
    refine ⟨Num.num (s.data.toList.take 8), s.extract 8 s.size, false, by simp [Num.curV, hd], by simpa [Num.curV, hd] using h1, h2, fun _ => ?_, by simp [hd]⟩
    rw [h3, Num.split_at]
  · exact ⟨0, s, true, by simp [Num.curV, hd], by simpa [Num.curV, hd] using h1, h2, (fun h => by cases h), by simpa using hd⟩
theorem Num.text_back (m : Int) (s : ByteArray) (h : Num.xOk m s = true) : (Num.smallB (Num.xV s).size ++ Num.xV s) ++ s.extract (Num.xN s) s.size = s ∧ ((Num.xV s).size : Int) ≤ m := by
  have hx := h
  unfold Num.xOk at h
  simp only [Bool.and_eq_true, decide_eq_true_eq] at h
  obtain ⟨h0, h1, h2, h3⟩ := h
  obtain ⟨h4, -⟩ := Num.small_back s h0
  have hz : (Num.xV s).size = (Num.decp 0 0 s.data.toList).1 := by unfold Num.xV Num.xN; simp; omega
  refine ⟨?_, by omega⟩
  rw [hz, h4]
  unfold Num.xV
  have hl : s.data.toList.length = s.size := by simp
  have hN : (Num.decp 0 0 s.data.toList).2.1 ≤ Num.xN s := by unfold Num.xN; omega
  have hN2 : Num.xN s ≤ s.size := by unfold Num.xN; omega
  generalize (Num.decp 0 0 s.data.toList).2.1 = j at *
  generalize Num.xN s = N at *
  have e : s.extract 0 j ++ s.extract j N = s.extract 0 N := by
    apply ByteArray.ext; apply Array.toList_inj.1
    rw [Num.app_list]
    simp only [ByteArray.data_extract, Array.toList_extract, List.extract_eq_take_drop, List.drop_zero, Nat.sub_zero]
    rw [← List.take_add, show j + (N - j) = N from by omega]
  rw [e, Num.split_at]
theorem curText_or (b : Nat) (s : ByteArray) (hs : s.size ≤ 300) (m : Int) (hm : Hid (-9223372036854775808 ≤ m ∧ m ≤ 9223372036854775807)) (w : World) (hc : CurAt b s false w) :
    Calls Tryz.prog 292 #[.pointer (some ⟨b, 0, none⟩), .int .i64 m] w fun e w' => ∃ (t r : ByteArray) (bad : Bool), e = .returned (.string t) ∧ CurAt b r bad w' ∧ w.grownBy w' (some b) ∧ t.size ≤ 300 ∧ (bad = false → (Num.smallB t.size ++ t) ++ r = s ∧ (t.size : Int) ≤ m) := by
  refine (curText b s (by unfold maxLen; omega) false m hm w hc).mono ?_
  rintro e w' ⟨rfl, h1, h2⟩
  by_cases hd : Num.xOk m s = true
  · refine ⟨Num.xV s, s.extract (Num.xN s) s.size, false, by simp [Num.curV, hd], by simpa [Num.curV, hd] using h1, h2, ?_, fun _ => Num.text_back m s hd⟩
    unfold Num.xV; simp; omega
  · exact ⟨ByteArray.empty, s, true, by simp [Num.curV, hd], by simpa [Num.curV, hd] using h1, h2, by simp, fun h => by cases h⟩
theorem curFixed_or (b : Nat) (s : ByteArray) (hs : s.size ≤ 300) (k : Int) (w : World) (hc : CurAt b s false w) :
    Calls Tryz.prog 290 #[.pointer (some ⟨b, 0, none⟩), .int .i64 k] w fun e w' => ∃ (t r : ByteArray) (bad : Bool), e = .returned (.string t) ∧ CurAt b r bad w' ∧ w.grownBy w' (some b) ∧ t.size ≤ maxLen ∧ (bad = false → Num.fixedB t (Num.sz k) ++ r = s) := by
  refine (curFixed b s (by unfold maxLen; omega) false k w hc).mono ?_
  rintro e w' ⟨rfl, h1, h2⟩
  generalize Num.sz k = z at *
  by_cases hd : Num.fAll z s = true
  · have hx := hd
    unfold Num.fAll at hx
    simp only [Bool.and_eq_true, decide_eq_true_eq] at hx
    obtain ⟨h3, h4⟩ := hx
    have hT : Num.fT z s = Num.fV z s := by unfold Num.fT; rw [if_pos h3]
    have hN : Num.fN z s = z + 1 := by unfold Num.fN; rw [if_pos h3]
    refine ⟨Num.fT z s, s.extract (Num.fN z s) s.size, false, by simp [Num.curV, hd], by simpa [Num.curV, hd] using h1, h2, ?_, fun _ => ?_⟩
    · rw [hT]; unfold Num.fV maxLen; simp; omega
    · unfold Num.fOk at h4
      rw [hT, of_decide_eq_true h4, hN, Num.split_at]
  · exact ⟨ByteArray.empty, s, true, by simp [Num.curV, hd], by simpa [Num.curV, hd] using h1, h2, by simp [maxLen], fun h => by cases h⟩
end Go.Proofs.YtfibapfehgglhaaGreatDoor
