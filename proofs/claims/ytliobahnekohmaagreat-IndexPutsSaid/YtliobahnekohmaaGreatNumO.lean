import Derived.Test.YtliobahnekohmaaGreatNumG
import Derived.Test.YtliobahnekohmaaGreatArr
import Derived.ArgAppend
import Derived.Deep.DeepCutAuto
/-
  What the functions of the reference alluviumref03 come to: Small, Wide, Text, Zig, Zag.
-/
namespace Go.Proofs.YtliobahnekohmaaGreat
open Go.RowKit
theorem Tryz.info5 : (Tryz.prog.info? 5).map (fun i => (i.zero, i.size, i.bytes)) = some (some (.int .u8 0), 1, 1) := by kernel_rfl
theorem Num.wrap_div128 (m : Nat) (h : m < 18446744073709551616) : IntKind.u64.wrap ((m : Int) / 128) = (m : Int) / 128 := by
 rw [IntKind.wrap_u64]; omega
theorem Num.wrap_div256 (m : Nat) (h : m < 18446744073709551616) : IntKind.u64.wrap ((m : Int) / 256) = (m : Int) / 256 := by
 rw [IntKind.wrap_u64]; omega
set_option maxRecDepth 100000 in
set_option maxHeartbeats 400000 in
theorem rSmall_any (n : Nat) (hn0 : Hid (n < 18446744073709551616)) (w : World) :
 Calls Tryz.prog 77 #[.int .u64 n] w fun e w' => e = .returned (.string (Num.smallB n)) ∧ Below w.heap.size w w' := by
 obtain ⟨i0, hi, hz0, hz1, hz2⟩ := info_parts Tryz.info5
 go_enter Tryz.func77, Tryz.ntmps77
 go_wp2
 go_loopw [0, 3] (fun v b wr => ∃ (pre : List UInt8) (m : Nat), v = .int .u64 m ∧ pre.length ≤ 9 ∧ m < 2 * 128 ^ (9 - pre.length) ∧ Num.small n = pre ++ Num.enc (9 - pre.length) m ∧ wr.ownsRow w.heap.size 5 1 b pre.length (byteVals pre) ∧ Below w.heap.size w wr) (fun v _ _ => (intOf v).toNat)
 case atStart => exact ⟨[], n, rfl, by simp, by have hn := hn0.out; simp; omega, rfl, World.ownsRow_nil _ _ _ _, Below.refl _ _⟩
 case round =>
  obtain ⟨pre, m, rfl, hp, hm, hs, hown, hb⟩ := hrel
  have hmm : m < 18446744073709551616 := Nat.lt_of_lt_of_le hm (by have : 128 ^ (9 - pre.length) ≤ 128 ^ 9 := Nat.pow_le_pow_right (by decide) (by omega); omega)
  have HS := Lib.hid hs; clear hs
  have HMM := Lib.hid hmm; clear hmm
  have hbs := hb.size
  by_cases hc : 128 ≤ m
  · have hp8 : pre.length ≤ 8 := by
     rcases Nat.lt_or_ge pre.length 9 with h | h
     · omega
     · rw [show 9 - pre.length = 0 from by omega] at hm; simp at hm; omega
    have hx : (((UInt8.ofNat (m % 128 + 128)).toNat : Nat) : Int) = (m : Int) % 128 + 128 := by simp; omega
    have HX := Lib.hid hx; clear hx
    have HM := Lib.hid hm; clear hm
    have hwm := Num.wrap_div128 m HMM.out
    go_wp2_with (at_builtin; go_must (refine wpList_append_own _ rfl _ _ 63 rfl (w.heap.size) 5 i0 (.int .u8 0) 1 1 Tryz.underlying63 hi hz0 hz1 hz2 rfl (by decide) _ _ _ rfl (hown.alloc _) ⟨(wr).heap.size, 0, none⟩ 1 1 [.int .u8 ((m : Int) % 128 + 128)] rfl rfl (cell_one_new _ _ _) (by simp [Value.oneCell']) (by unfold maxLen; omega) (by omega) (by simp; omega) ?_); intro v' w1 hown' hgrow _)
    go_roundw
    case rel =>
     refine ⟨pre ++ [UInt8.ofNat (m % 128 + 128)], m / 128, by go_num, by simp; omega, ?_, ?_, ?_, (hb.alloc hbs _).grown hgrow (by simp; omega) (fun b hv => (hown.lt b hv).1)⟩
     · have h2 := Num.pow_split pre.length hp8
       have h3 := HM.out
       simp only [List.length_append, List.length_cons, List.length_nil, Nat.zero_add]
       rw [h2] at h3
       omega
     · rw [HS.out, List.append_assoc]
       congr 1
       rw [show 9 - pre.length = (9 - (pre ++ [UInt8.ofNat (m % 128 + 128)]).length) + 1 from by simp; omega, Num.enc, if_pos hc]
       rfl
     · rw [byteVals_append, List.length_append]
       show w1.ownsRow _ _ _ _ _ (byteVals pre ++ [Value.int .u8 (((UInt8.ofNat (m % 128 + 128)).toNat : Nat) : Int)])
       rw [HX.out]; exact hown'
    case measure => simp [intOf]; omega
  · have hfin : Num.small n = pre ++ [UInt8.ofNat m] := by
     rw [HS.out]
     congr 1
     cases 9 - pre.length with
     | zero => rfl
     | succ f => rw [Num.enc, if_neg hc]
    have hx : (((UInt8.ofNat m).toNat : Nat) : Int) = (m : Int) := by simp; omega
    have HX := Lib.hid hx; have HF := Lib.hid hfin; clear hx hfin
    go_wp2_with (at_builtin; go_must (refine wpList_append_own _ rfl _ _ 63 rfl (w.heap.size) 5 i0 (.int .u8 0) 1 1 Tryz.underlying63 hi hz0 hz1 hz2 rfl (by decide) _ _ _ rfl (hown.alloc _) ⟨(wr).heap.size, 0, none⟩ 1 1 [.int .u8 (m : Int)] rfl rfl (cell_one_new _ _ _) (by simp [Value.oneCell']) (by unfold maxLen; omega) (by omega) (by simp; omega) ?_); intro v' w1 hown' hgrow _)
    have hown2 : w1.ownsRow w.heap.size 5 1 v' (pre.length + 1) (byteVals (pre ++ [UInt8.ofNat m])) := by
     rw [byteVals_append]
     show w1.ownsRow _ _ _ _ _ (byteVals pre ++ [Value.int .u8 (((UInt8.ofNat m).toNat : Nat) : Int)])
     rw [HX.out]; exact hown'
    rw [own_bytes (P := Tryz.prog) (src := 63) (dst := 9) _ Tryz.underlying63 Tryz.underlying5 Tryz.underlying9 hown2]
    go_wp2
    go_ret
    refine ⟨?_, (hb.alloc hbs _).grown hgrow (by simp; omega) (fun b hv => (hown.lt b hv).1)⟩
    unfold Num.smallB
    rw [HF.out]; rfl
set_option maxRecDepth 100000 in
set_option maxHeartbeats 400000 in
theorem rWide_any (n : Nat) (hn0 : Hid (n < 18446744073709551616)) (w : World) :
 Calls Tryz.prog 71 #[.int .u64 n] w fun e w' => e = .returned (.string (Num.wideB n)) ∧ Below w.heap.size w w' := by
 obtain ⟨i0, hi, hz0, hz1, hz2⟩ := info_parts Tryz.info5
 go_enter Tryz.func71, Tryz.ntmps71
 go_wp2
 go_loopw [0, 3, 4] (fun v b i wr => ∃ k : Nat, k ≤ 8 ∧ i = .int .i64 k ∧ v = .int .u64 (n / 256 ^ k : Nat) ∧ wr.ownsRow w.heap.size 5 1 b k (byteVals (Num.le n k)) ∧ Below w.heap.size w wr) (fun _ _ i _ => 8 - (intOf i).toNat)
 case atStart => exact ⟨0, by omega, rfl, by simp, World.ownsRow_nil _ _ _ _, Below.refl _ _⟩
 case round =>
  obtain ⟨k, hk, rfl, rfl, hown, hb⟩ := hrel
  have hbs := hb.size
  by_cases h8 : k < 8
  · have hx : (((UInt8.ofNat (n / 256 ^ k % 256)).toNat : Nat) : Int) = ((n / 256 ^ k : Nat) : Int) % 256 := by simp
    have hnx : n / 256 ^ (k + 1) = n / 256 ^ k / 256 := by rw [Nat.pow_succ, Nat.div_div_eq_div_mul]
    have hq : n / 256 ^ k < 18446744073709551616 := Nat.lt_of_le_of_lt (Nat.div_le_self _ _) hn0.out
    have hwq := Num.wrap_div256 _ hq
    have HX := Lib.hid hx; have HNX := Lib.hid hnx
    clear hx hnx hq
    obtain ⟨q, hq⟩ : ∃ q, n / 256 ^ k = q := ⟨_, rfl⟩
    rw [hq] at hwq ⊢
    have HQ := Lib.hid hq; clear hq
    go_wp2_with (at_builtin; go_must (refine wpList_append_own _ rfl _ _ 63 rfl (w.heap.size) 5 i0 (.int .u8 0) 1 1 Tryz.underlying63 hi hz0 hz1 hz2 rfl (by decide) _ _ _ rfl (hown.alloc _) ⟨(wr).heap.size, 0, none⟩ 1 1 [.int .u8 ((q : Int) % 256)] rfl rfl (cell_one_new _ _ _) (by simp [Value.oneCell']) (by unfold maxLen; omega) (by omega) (by simp; omega) ?_); intro v' w1 hown' hgrow _)
    go_roundw
    case rel =>
     refine ⟨k + 1, by omega, by go_num, by rw [HNX.out, HQ.out]; go_num, ?_, (hb.alloc hbs _).grown hgrow (by simp; omega) (fun b hv => (hown.lt b hv).1)⟩
     show w1.ownsRow _ _ _ _ _ (byteVals (Num.le n k ++ [UInt8.ofNat (n / 256 ^ k % 256)]))
     rw [byteVals_append]
     show w1.ownsRow _ _ _ _ _ (byteVals (Num.le n k) ++ [Value.int .u8 (((UInt8.ofNat (n / 256 ^ k % 256)).toNat : Nat) : Int)])
     rw [HX.out, HQ.out]; exact hown'
    case measure => simp [intOf]; omega
  · obtain rfl : k = 8 := by omega
    have hc := own_bytes (P := Tryz.prog) (src := 63) (dst := 9) _ Tryz.underlying63 Tryz.underlying5 Tryz.underlying9 hown
    go_wp2
    go_ret
    exact ⟨rfl, hb⟩
theorem Num.small_size (n : Nat) : (smallB n).size ≤ 10 := Num.enc_length_le 9 _
set_option maxRecDepth 100000 in
set_option maxHeartbeats 400000 in
theorem rText_any (s : ByteArray) (hs : s.size ≤ 300) (w : World) :
 Calls Tryz.prog 74 #[.string s] w fun e w' => e = .returned (.string (Num.smallB s.size ++ s)) ∧ Below w.heap.size w w' := by
 have hw := Num.wrap_small s.size (by omega)
 have hz := Num.small_size s.size
 have HZ := Lib.hid hz; clear hz
 go_enter Tryz.func74, Tryz.ntmps74
 go_wp2_with fail
 refine (rSmall_any s.size (Lib.hid (by omega)) _).mono ?_; rintro e w1 ⟨rfl, hb1⟩; have HB1 := Lib.hid hb1; clear hb1
 have hz := HZ.out
 go_wp2_with fail
 go_ret
 exact ⟨rfl, HB1.out⟩
set_option maxRecDepth 100000 in
set_option maxHeartbeats 400000 in
theorem rZig_any (n : Int) (hn : Hid (-9223372036854775808 ≤ n ∧ n ≤ 9223372036854775807)) (w : World) :
 Calls Tryz.prog 78 #[.int .i64 n] w fun e w' => e = .returned (.int .u64 (Num.zig n : Nat)) ∧ w = w' := by
 by_cases hp : 0 ≤ n
 all_goals
  go_enter Tryz.func78, Tryz.ntmps78
  go_wp2
  go_ret
  refine ⟨ret_int ?_, rfl⟩
  have h := hn.out
  unfold Num.zig
  first | rw [if_pos hp] | rw [if_neg (by omega)]
  simp only [wrap64, IntKind.wrap_u64]
  omega
end Go.Proofs.YtliobahnekohmaaGreat
/-
  Bytes of the call's own in a block of whatever mark, told by their cells.
-/
namespace Go.Proofs.YtliobahnekohmaaGreat
open Go.RowKit
def OwnsM (W : World) (base : Nat) (v : Value) (l : List UInt8) : Prop :=
 ∃ g cap, v = .slice (some ⟨g, 0, none⟩) l.length cap ∧ base ≤ g ∧ g < W.heap.size ∧ l.length ≤ cap ∧ cap ≤ maxLen ∧
  (∀ j, j < cap → (W.cell? ⟨g, j, none⟩).isSome = true ∧ W.frozen? ⟨g, j, none⟩ = false) ∧
  (∀ j (h : j < l.length), W.cell? ⟨g, j, none⟩ = some (.int .u8 (l[j].toNat : Int)))
theorem OwnsM.text {P : Program} {w : World} {base src dst e : TypeId} {v : Value} {l : List UInt8} (h : OwnsM w base v l)
 (hs : P.underlying src = some (.slice e)) (he : P.underlying e = some (.int .u8)) (hd : P.underlying dst = some .string) :
 (convert src dst v).run P w = .ok (.string ⟨l.toArray⟩) w := by
 obtain ⟨g, cap, rfl, _, _, _, _, _, hc⟩ := h
 exact run_convert_bytes_back w src dst e ⟨g, 0, none⟩ cap l hs he hd (fun j hj => by rw [Addr.add_lit, Nat.zero_add]; exact hc j hj)
theorem OwnsM.keep {w w' : World} {base : Nat} {v : Value} {l : List UInt8} (h : OwnsM w base v l) (hb : Below w.heap.size w w') : OwnsM w' base v l := by
 obtain ⟨g, cap, rfl, h1, h2, h3, h4, h5, h6⟩ := h
 have hsz := hb.size
 refine ⟨g, cap, rfl, h1, by omega, h3, h4, fun j hj => ?_, fun j hj => ?_⟩
 · rw [hb.cell (p := ⟨g, j, none⟩) h2, hb.frozen (p := ⟨g, j, none⟩) h2]; exact h5 j hj
 · rw [hb.cell (p := ⟨g, j, none⟩) h2]; exact h6 j hj
theorem OwnsM.of_row {w : World} {base n : Nat} {e : TypeId} {v : Value} {l : List UInt8} (h : w.ownsRow base e 1 v n (byteVals l)) (hn : 0 < n) : OwnsM w base v l := by
 have hl : l.length = n := by have := h.1; simpa [byteVals] using this
 rcases h.2 with ⟨_, h0⟩ | ⟨g, cap, cur, rfl, hb, hg, hc, hm, hs, ht⟩
 · omega
 · subst hl
   refine ⟨g, cap, rfl, hb, (Array.getElem?_eq_some_iff.1 hg).1, hc, hm, fun j hj => ⟨?_, frozen_of_row _ _ _ _ _ hg⟩, fun j hj => ?_⟩
   · rw [cell_of_row _ _ _ _ _ _ hg, Array.getElem?_eq_getElem (by omega)]; rfl
   · rw [World.ownsRow.cellAt h j (by omega)]
     simp [byteVals, hj]
theorem OwnsM.of_string {w : World} {base : Nat} {s : ByteArray} {cap : Nat} {e : TypeId} (hb : base ≤ w.heap.size) (h1 : s.size ≤ cap) (h2 : cap ≤ maxLen) :
 OwnsM (w.drew.alloc (.cells (bytesRow s cap) e ((bytesRow s cap).size, (bytesRow s cap).size + 1))) base (.slice (some ⟨w.heap.size, 0, none⟩) s.size cap) s.data.toList := by
 have hz : (bytesRow s cap).size = cap := by
  have : s.data.size = s.size := rfl
  simp [bytesRow]; omega
 have hg := heap_alloc_new w.drew (.cells (bytesRow s cap) e ((bytesRow s cap).size, (bytesRow s cap).size + 1))
 have hl : s.data.toList.length = s.size := by simp
 generalize hW : w.drew.alloc (.cells (bytesRow s cap) e ((bytesRow s cap).size, (bytesRow s cap).size + 1)) = W at *
 have hg' : W.heap[w.heap.size]? = some (.cells (bytesRow s cap) e ((bytesRow s cap).size, (bytesRow s cap).size + 1)) := hg
 refine ⟨w.heap.size, cap, by rw [hl], hb, (Array.getElem?_eq_some_iff.1 hg').1, by omega, h2, fun j hj => ⟨?_, ?_⟩, fun j hj => ?_⟩
 · rw [cell_of_row _ _ _ _ _ _ hg', Array.getElem?_eq_getElem (by omega)]; rfl
 · simp [World.frozen?, hg', hz]; omega
 · rw [cell_of_row _ _ _ _ _ _ hg', bytesRow_at s cap j (by simpa using hj)]
   simp
theorem wpList_appM {P : Program} (w : World) {ops : Array Oper} {rest : List Oper} {o : Oper} {a : Act} {Q : Exit → Act → World → Prop}
 (hg : o.guard = none) (s x : Operand) (t : TypeId) (hop : o.op = Op.call { callee := Callee.builtin Builtin.append, args := #[s, x], argTypes := #[t, t] })
 (e : TypeId) (i : TypeInfo) (z : Value) (h1 : P.underlying t = some (.slice e)) (h2 : P.info? e = some i) (h3 : i.zero = some z) (h4 : i.size = 1) (h5 : i.bytes = 1) (h6 : z.cells.size = 1)
 (base : Nat) (v : Value) (l : List UInt8) (hs : a.eval s = v) (hown : OwnsM w base v l)
 (ad : Addr) (c : Nat) (nv : UInt8) (nw : Int) (hnv : (nv.toNat : Int) = nw) (hx : a.eval x = .slice (some ad) 1 c) (hc : ∀ j u, [Value.int .u8 nw][j]? = some u → w.cell? (ad.add j) = some u)
 (b1 : l.length ≤ 1000000)
 (h : ∀ v' w', OwnsM w' base v' (l ++ [nv]) → w.grownBy w' v.ownBlock → wpList P ops Q rest (a.put o.dst v') w') :
 wpList P ops Q (o :: rest) a w := by
 subst hnv
 obtain ⟨g, cap, rfl, hb, hlt, hlc, hcm, hcs, hcl⟩ := hown
 refine wpList_append_arg w hg s x t hop e i z 1 1 h1 h2 h3 h4 h5 h6 (by decide) g 0 l.length cap (byteVals l) hs (by simp [byteVals]) (fun j u hj => ?_) ad 1 c [.int .u8 (nv.toNat : Int)] hx rfl hc (by simp [Value.oneCell']) (fun hr j hj => ?_) (by unfold maxLen; omega) (by omega) (fun hr => ?_) (fun hr v' w' ho hgr => ?_)
 · rw [Nat.zero_add]
   have hjl : j < l.length := by have := (List.getElem?_eq_some_iff.1 hj).1; simpa [byteVals] using this
   rw [hcl j hjl, ← hj]; simp [byteVals, hjl]
 · have : j = 0 := by simp at hj; exact hj
   subst this
   simpa using hcs l.length (by omega)
 · have hin := World.cell?_setCells_in g [.int .u8 (nv.toNat : Int)] (0 + l.length * 1) w (fun j hj => by
    have : j = 0 := by simp at hj; exact hj
    subst this; simpa using (hcs l.length (by omega)).1) 0 (by simp)
   have hout := fun (j : Nat) (hj : j ≠ l.length) => World.cell?_setCells_out g [.int .u8 (nv.toNat : Int)] (0 + l.length * 1) w ⟨g, j, none⟩ (fun _ _ => by simp; omega)
   have hfz := fun (j : Nat) => World.frozen?_setCells g [.int .u8 (nv.toNat : Int)] (0 + l.length * 1) w ⟨g, j, none⟩
   have hkb := World.keptBut_setCells g (may := fun p => p.block = g) [.int .u8 (nv.toNat : Int)] (0 + l.length * 1) w (fun _ _ => rfl)
   have hsize : (w.setCells g (0 + l.length * 1) [.int .u8 (nv.toNat : Int)]).heap.size = w.heap.size := by simp [World.setCells, World.setCell]
   have htape : (w.setCells g (0 + l.length * 1) [.int .u8 (nv.toNat : Int)]).tape = w.tape := rfl
   have hos : (w.setCells g (0 + l.length * 1) [.int .u8 (nv.toNat : Int)]).os = w.os := rfl
   have hou : (w.setCells g (0 + l.length * 1) [.int .u8 (nv.toNat : Int)]).output = w.output := rfl
   generalize w.setCells g (0 + l.length * 1) [.int .u8 (nv.toNat : Int)] = w' at *
   simp only [Nat.zero_add, Nat.mul_one, Nat.add_zero, List.getElem_cons_zero] at hin
   refine h _ w' ⟨g, cap, by simp, hb, by omega, by simpa using hr, hcm, fun j hj => ?_, fun j hj => ?_⟩ ⟨hos, htape, hou, by omega, fun k hk hne => ?_⟩
   · rw [hfz]
     by_cases hj2 : j = l.length
     · subst hj2; rw [hin]; exact ⟨rfl, (hcs _ hj).2⟩
     · rw [hout j hj2]; exact hcs j hj
   · by_cases hj2 : j = l.length
     · subst hj2; rw [hin]; simp
     · have hjl : j < l.length := by simp at hj; omega
       rw [hout j hj2, hcl j hjl, List.getElem_append_left hjl]
   · exact hkb.block hk (fun _ hp e => hne (by simp only [Value.ownBlock]; rw [← e, hp]))
 · refine h v' w' ?_ ⟨hgr.os, hgr.tape, hgr.output, hgr.size, fun k hk _ => hgr.block k hk (by simp)⟩
   have : w'.ownsRow w.heap.size e 1 v' (l.length + 1) (byteVals (l ++ [nv])) := by rw [byteVals_append]; exact ho
   obtain ⟨g', cap', q1, q2, q3⟩ := OwnsM.of_row this (by omega)
   exact ⟨g', cap', q1, by omega, q3⟩
end Go.Proofs.YtliobahnekohmaaGreat
/-
  What the functions of the reference alluviumref03 come to: Fixed.
-/
namespace Go.Proofs.YtliobahnekohmaaGreat
open Go.RowKit
def rowLen : Value → Nat
 | .slice _ n _ => n
 | _ => 0
set_option maxRecDepth 100000 in
set_option maxHeartbeats 400000 in
theorem rFixed_any (s : ByteArray) (hs : s.size ≤ 300) (n : Int) (w : World) :
 Calls Tryz.prog 72 #[.string s, .int .i64 n] w fun e w' => e = .returned (.string (Num.fixedB s (Num.sz n))) ∧ Below w.heap.size w w' := by
 obtain ⟨i0, hi, hz0, hz1, hz2⟩ := info_parts Tryz.info5
 have hk := Num.sz_le n
 have hn : n < 0 ∧ Num.sz n = 0 ∨ (0 ≤ n ∧ n ≤ 255 ∧ (Num.sz n : Int) = n) ∨ (255 < n ∧ Num.sz n = 255) := by unfold Num.sz; omega
 generalize hK : Num.sz n = k at *
 go_enter Tryz.func72, Tryz.ntmps72
 go_upto_region 1 with fail
 go_cut [1] (fun s1 wx => s1 = .int .i64 (k : Nat) ∧ w = wx)
 case first =>
  rcases hn with ⟨h1, rfl⟩ | ⟨h1, h2, rfl⟩ | ⟨h1, rfl⟩
  all_goals go_wp2_with fail
  all_goals go_meet
  all_goals exact ⟨rfl, rfl⟩
 case rest =>
 obtain ⟨rfl, rfl⟩ := hcut
 go_upto_region 2 with fail
 go_cut [0] (fun s0 wx => s0 = .string (s.extract 0 k) ∧ w = wx)
 case first =>
  have hall : s.size ≤ k → s = s.extract 0 k := fun h => by
   apply ByteArray.ext; apply Array.toList_inj.1
   simp [ByteArray.data_extract, Array.toList_extract]
   rw [List.take_of_length_le (by simp; omega)]
  have HALL := Lib.hid hall; clear hall
  rcases Nat.le_total k s.size with h1 | h1
  all_goals go_wp2_with fail
  all_goals go_meet
  all_goals first | exact ⟨rfl, rfl⟩ | exact ⟨congrArg Value.string (HALL.out (by omega)), rfl⟩
 case rest =>
 obtain ⟨rfl, rfl⟩ := hcut
 have hL : (s.extract 0 k).size = min k s.size := by simp
 have hD : (s.extract 0 k).data.toList = s.data.toList.take k := by simp [ByteArray.data_extract, Array.toList_extract]
 generalize s.extract 0 k = t at *
 have hm : t.size ≤ k := by omega
 have hcv := run_bytes_of_string (P := Tryz.prog) w 9 63 5 t Tryz.underlying9 Tryz.underlying63 Tryz.underlying5
 have hg1 := grownCap_ge w t.size 0 5
 have hg2 := grownCap_le_maxLen w t.size 0 5 (by unfold maxLen; omega)
 generalize grownCap w t.size 0 5 = cap at *
 have hown0 := OwnsM.of_string (w := w) (base := w.heap.size) (s := t) (cap := cap) (e := 5) (Nat.le_refl _) hg1 hg2
 have hb0 : Below w.heap.size w (w.drew.alloc (.cells (bytesRow t cap) 5 ((bytesRow t cap).size, (bytesRow t cap).size + 1))) := (Below.drew (Below.refl _ _)).alloc (Nat.le_refl _) _
 generalize w.drew.alloc (.cells (bytesRow t cap) 5 ((bytesRow t cap).size, (bytesRow t cap).size + 1)) = w0 at *
 have hT : t.data.toList.length = t.size := by simp
 have HLL := Lib.hid hL; clear hL
 go_wp2_with fail
 go_loopw [5] (fun b wr => ∃ l : List UInt8, OwnsM wr w.heap.size b l ∧ l.length ≤ k ∧ t.size ≤ l.length ∧ l = t.data.toList ++ List.replicate (l.length - t.size) 0 ∧ Below w.heap.size w wr) (fun b _ => k - rowLen b)
 case atStart => exact ⟨t.data.toList, hown0, by omega, by omega, by simp, hb0⟩
 case round =>
  obtain ⟨l, hown, hlk, htl, hl, hb⟩ := hrel
  have hbs := hb.size
  have HL := Lib.hid hl; have HD := Lib.hid hD; have HT := Lib.hid hT; clear hl hD hT
  have hown1 := fun o => hown.keep (Below.alloc (Below.refl _ wr) (Nat.le_refl _) o)
  obtain ⟨g, c, rfl, hgb, -⟩ := id hown
  by_cases hc : l.length < k
  · go_wp2_with (at_builtin; go_must (refine wpList_appM _ rfl _ _ 63 rfl 5 i0 (.int .u8 0) Tryz.underlying63 hi hz0 hz1 hz2 rfl w.heap.size _ l rfl (hown1 _) ⟨wr.heap.size, 0, none⟩ 1 0 0 (by simp) rfl (cell_one_new _ _ _) (by omega) ?_); intro v' w1 hown' hgrow)
    go_roundw
    case rel =>
     refine ⟨l ++ [0], hown', by simp; omega, by simp; omega, ?_, (hb.alloc hbs _).grown hgrow (by simp; omega) (fun b hv => ?_)⟩
     · have h := HL.out
       rw [List.length_append, List.length_singleton, show l.length + 1 - t.size = (l.length - t.size) + 1 from by omega, List.replicate_succ', ← List.append_assoc, ← h]
     · cases hv; exact hgb
    case measure =>
     obtain ⟨g', c', rfl, -⟩ := hown'
     simp [rowLen]; omega
  · go_wp2_with (at_builtin; go_must (refine wpList_appM _ rfl _ _ 63 rfl 5 i0 (.int .u8 0) Tryz.underlying63 hi hz0 hz1 hz2 rfl w.heap.size _ l rfl (hown1 _) ⟨wr.heap.size, 0, none⟩ 1 (UInt8.ofNat t.size) (t.size : Nat) (by simp; omega) rfl (cell_one_new _ _ _) (by omega) ?_); intro v' w1 hown' hgrow)
    rw [hown'.text (P := Tryz.prog) (src := 63) (dst := 9) Tryz.underlying63 Tryz.underlying5 Tryz.underlying9]
    go_wp2
    go_ret
    refine ⟨?_, (hb.alloc hbs _).grown hgrow (by simp; omega) (fun b hv => by cases hv; exact hgb)⟩
    have e1 : l ++ [UInt8.ofNat t.size] = Num.fixL s.data.toList k := by
     have h := HL.out
     rw [show l.length - t.size = k - t.size from by omega] at h
     unfold Num.fixL
     rw [← HD.out, HT.out, ← h]
    rw [e1]
    rfl
end Go.Proofs.YtliobahnekohmaaGreat
/-
  NumPuts, NumZig, NumSizes: the walks of the laws, given what works comes to.
-/
namespace Go.Proofs.YtliobahnekohmaaGreat
open Go.RowKit
theorem i64_bd (c : Int) (h : (Lit.int .i64 c).wf = true) : Hid (-9223372036854775808 ≤ c ∧ c ≤ 9223372036854775807) := by
 have hx : -9223372036854775808 ≤ c ∧ c ≤ 9223372036854775807 := by simpa [Lit.wf, IntKind.min, IntKind.max, IntKind.signed, IntKind.bits] using h
 exact Lib.hid hx
theorem Num.small_pos (n : Nat) : 1 ≤ (smallB n).size := Num.enc_length_pos 9 _
end Go.Proofs.YtliobahnekohmaaGreat
/-
  What is written is read again: the mathematics.
-/
namespace Go.Proofs.YtliobahnekohmaaGreat
open Go.RowKit
namespace Num
theorem decp_get (l : List UInt8) (n k : Nat) (h : get l = some (n, k)) : decp 0 0 l = (n, k, true) := by
 unfold get at h
 rw [decp_dec] at h
 split at h
 · next h2 =>
   simp only [Option.some.injEq, Prod.mk.injEq] at h
   obtain ⟨h3, h4⟩ := h
   calc decp 0 0 l = ((decp 0 0 l).1, (decp 0 0 l).2.1, (decp 0 0 l).2.2) := rfl
    _ = (n, k, true) := by rw [h3, h4, h2]
 · simp at h
theorem app_list (a b : ByteArray) : (a ++ b).data.toList = a.data.toList ++ b.data.toList := by simp
theorem decp_small (n : Nat) (hn : n < 18446744073709551616) (r : ByteArray) : decp 0 0 (smallB n ++ r).data.toList = (n, (smallB n).size, true) := by
 rw [app_list]
 exact decp_get _ _ _ (get_small n hn r.data.toList)
theorem drop_app (a b : ByteArray) : (a ++ b).extract a.size (a ++ b).size = b := by
 apply ByteArray.ext; apply Array.toList_inj.1
 have h1 : a.data.toList.length = a.size := by simp
 have h2 : b.data.toList.length = b.size := by simp
 simp only [ByteArray.data_extract, Array.toList_extract, List.extract_eq_take_drop, app_list, ByteArray.size_append]
 rw [List.drop_left' h1, List.take_of_length_le (by omega)]
theorem take_app (a b : ByteArray) : (a ++ b).extract 0 a.size = a := by
 apply ByteArray.ext; apply Array.toList_inj.1
 have h1 : a.data.toList.length = a.size := by simp
 simp [ByteArray.data_extract, Array.toList_extract]
 rw [List.take_of_length_le (by omega)]
theorem num_le (n : Nat) : ∀ k, num (le n k) = n % 256 ^ k
 | 0 => by simp [le, num, Nat.mod_one]
 | k + 1 => by
  rw [le, num_append, num_le n k, le_length]
  have h1 : num [UInt8.ofNat (n / 256 ^ k % 256)] = n / 256 ^ k % 256 := by simp [num]
  rw [h1, Nat.pow_succ, Nat.mod_mul]
theorem num_wide (n : Nat) (hn : n < 18446744073709551616) (r : ByteArray) : num ((wideB n ++ r).data.toList.take 8) = n := by
 rw [app_list, List.take_left' (show (wideB n).data.toList.length = 8 from le_length n 8)]
 show num (le n 8) = n
 rw [num_le]
 exact Nat.mod_eq_of_lt hn
theorem fixed_at (t r : ByteArray) (z : Nat) (_hz : z ≤ 255) : byteAt (fixedB t z ++ r) z = min z t.size := by
 unfold byteAt
 rw [app_list]
 show ((fixL t.data.toList z ++ r.data.toList).getD z 0).toNat = _
 have h1 : t.data.toList.length = t.size := by simp
 have h2 : (t.data.toList.take z ++ List.replicate (z - (t.data.toList.take z).length) (0 : UInt8)).length = z := by simp; omega
 unfold fixL
 rw [List.append_assoc, List.getD_eq_getElem?_getD, List.getElem?_append_right (by omega), h2]
 simp
 omega
theorem fixed_app (t r : ByteArray) (z : Nat) (hz : z ≤ 255) : fAll z (fixedB t z ++ r) = true ∧ fT z (fixedB t z ++ r) = t.extract 0 z ∧ fN z (fixedB t z ++ r) = (fixedB t z).size := by
 have h0 := fixedB_size t z
 have h1 := fixed_at t r z hz
 have hc : z < (fixedB t z ++ r).size ∧ byteAt (fixedB t z ++ r) z ≤ z := by rw [h1, ByteArray.size_append]; omega
 have hl : t.data.toList.length = t.size := by simp
 have hv : fV z (fixedB t z ++ r) = t.extract 0 z := by
  unfold fV
  rw [h1]
  apply ByteArray.ext; apply Array.toList_inj.1
  simp only [ByteArray.data_extract, Array.toList_extract, List.extract_eq_take_drop, app_list, List.drop_zero, Nat.sub_zero]
  show (fixL t.data.toList z ++ r.data.toList).take (min z t.size) = _
  unfold fixL
  rw [List.append_assoc, List.append_assoc, List.take_left' (by simp)]
 refine ⟨?_, ?_, ?_⟩
 · unfold fAll fOk
   rw [hv, show z + 1 = (fixedB t z).size from h0.symm, take_app]
   have : fixedB (t.extract 0 z) z = fixedB t z := by
    unfold fixedB
    congr 2
    simp only [ByteArray.data_extract, Array.toList_extract, List.extract_eq_take_drop, List.drop_zero, Nat.sub_zero]
    unfold fixL
    rw [List.take_take, Nat.min_self]
   simp only [this, decide_true, Bool.and_true, decide_eq_true_eq]
   exact hc
 · unfold fT; rw [if_pos hc, hv]
 · unfold fN; rw [if_pos hc, h0]
end Num
end Go.Proofs.YtliobahnekohmaaGreat
/-
  Nothing else is read: the mathematics, and the cursor's calls told so.
-/
namespace Go.Proofs.YtliobahnekohmaaGreat
open Go.RowKit
namespace Num
end Num
end Go.Proofs.YtliobahnekohmaaGreat
