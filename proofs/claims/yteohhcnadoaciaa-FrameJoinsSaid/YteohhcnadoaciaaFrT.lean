/-
  A frame in which one byte is another one: the mathematics.
-/
import Derived.Test.YteohhcnadoaciaaFrM
namespace Go.Proofs.Yteohhcnadoaciaa
open Go.RowKit
namespace Fr

theorem run_cons (c : Nat) (x : UInt8) (l : List UInt8) : Crc.run c (x :: l) = Crc.run (Crc.byte c x.toNat) l := rfl
theorem byte_inj {c : Nat} {x y : UInt8} (hc : c < 4294967296) (h : Crc.byte c x.toNat = Crc.byte c y.toNat) : x = y := by
  have h1 := Crc.steps_inj 8 (Crc.xor_lt hc (Crc.u8_lt x)) (Crc.xor_lt hc (Crc.u8_lt y)) h
  have h2 : x.toNat ^^^ c = y.toNat ^^^ c := by rw [Nat.xor_comm, h1, Nat.xor_comm]
  exact UInt8.toNat_inj.1 (Crc.xor_cancel h2)
theorem run_set (T : List UInt8) (i : Nat) (v : UInt8) (hi : i < T.length) (hv : T[i] ≠ v) : Crc.run 4294967295 T ≠ Crc.run 4294967295 (T.set i v) := by
  have e1 : T = T.take i ++ T[i] :: T.drop (i + 1) := by
    conv => lhs; rw [← List.take_append_drop i T, List.drop_eq_getElem_cons hi]
  have e2 : T.set i v = T.take i ++ v :: T.drop (i + 1) := List.set_eq_take_append_cons_drop .. |>.trans (by rw [if_pos hi])
  intro h
  rw [e2] at h
  conv at h => lhs; rw [e1]
  rw [Crc.run_append, Crc.run_append, run_cons, run_cons] at h
  have hr := Crc.run_lt (T.take i) (c := 4294967295) (by omega)
  have := Crc.run_inj _ (Crc.byte_lt hr (Crc.u8_lt _)) (Crc.byte_lt hr (Crc.u8_lt _)) h
  exact hv (byte_inj hr this)
theorem get_turned (b r s : ByteArray) (i : Nat) (v : UInt8) (most : Int) (hm : (b.size : Int) ≤ most) (hb : b.size < 18446744073709551616) (h0 : (Num.smallB b.size).size ≤ i) (h1 : i < (put b).size)
    (hs : s.data.toList = (put b ++ r).data.toList.set i v) (hv : (put b ++ r).data.toList[i]? ≠ some v) : (get s most).2.2 = 2 := by
  have hsl := Crc.size_list (Num.smallB b.size)
  have hps := put_size b
  have hpl := Crc.size_list (put b)
  have hn : num s = (b.size, (Num.smallB b.size).size, true) := by
    unfold num
    have e : (put b ++ r).data.toList = (Num.smallB b.size).data.toList ++ (b ++ Crc.four (Crc.ofB (txt b)) ++ r).data.toList := by
      rw [← Crc.data_append]
      unfold put
      conv => lhs; arg 1; arg 1; arg 1; arg 1; unfold txt
      rw [ByteArray.append_assoc, ByteArray.append_assoc, ByteArray.append_assoc]
    rw [hs, e, List.set_append_right _ _ (by omega)]
    exact Num.decp_get _ _ _ (Num.get_small b.size hb _)
  have hg : mayGo s = false := num_ok_stop _ (by rw [hn])
  have hz : s.size = (put b ++ r).size := by rw [← Crc.size_list s, hs, List.length_set, Crc.size_list]
  rw [ByteArray.size_append] at hz
  have hT : (put b ++ r).data.toList.take ((Num.smallB b.size).size + b.size) = (txt b).data.toList := by
    unfold put
    rw [Crc.data_append, Crc.data_append, List.append_assoc, List.take_left' (by rw [Crc.size_list, txt_size])]
  have hF : ((put b ++ r).data.toList.drop ((Num.smallB b.size).size + b.size)).take 4 = (Crc.four (Crc.ofB (txt b))).data.toList := by
    unfold put
    rw [Crc.data_append, Crc.data_append, List.append_assoc, List.drop_left' (by rw [Crc.size_list, txt_size]), List.take_left' (by rw [Crc.size_list, Crc.four_size])]
  have hlen : (put b ++ r).data.toList.length = (put b).size + r.size := by rw [Crc.size_list, ByteArray.size_append]
  unfold get
  rw [hg, hn]
  simp only [Bool.false_eq_true, if_false]
  rw [if_neg (by rintro (h | h | h) <;> first | cases h | omega), if_neg (by omega)]
  split
  · next h4 =>
    exfalso
    generalize (put b ++ r).data.toList = L at *
    generalize hk : (Num.smallB b.size).size + b.size = k at *
    have h5 : (s.extract k (k + 4)).data.toList = (Crc.four (Crc.ofB (s.extract 0 k))).data.toList := by rw [h4]
    rw [Crc.extract_data', show k + 4 - k = 4 from by omega, hs] at h5
    rcases Nat.lt_or_ge i k with hlt | hge
    · rw [List.drop_set_of_lt hlt, hF] at h5
      have h6 := Crc.four_inj (Crc.ofB_lt _) (Crc.ofB_lt _) (Crc.ba_ext h5)
      have hr1 := Crc.run_lt (txt b).data.toList (c := 4294967295) (by omega)
      have hr2 := Crc.run_lt (s.extract 0 k).data.toList (c := 4294967295) (by omega)
      unfold Crc.ofB at h6
      have h7 : Crc.run 4294967295 (txt b).data.toList = Crc.run 4294967295 (s.extract 0 k).data.toList := by omega
      rw [Crc.extract_data', hs, List.drop_zero, Nat.sub_zero, List.take_set, hT] at h7
      have hil : i < (txt b).data.toList.length := by rw [Crc.size_list, txt_size]; omega
      refine run_set _ i v hil ?_ h7
      intro e
      apply hv
      have : (txt b).data.toList[i]? = some v := by rw [List.getElem?_eq_getElem hil, e]
      rw [← hT, List.getElem?_take_of_lt hlt] at this
      exact this
    · have e0 : (s.extract 0 k) = txt b := by
        apply Crc.ba_ext
        rw [Crc.extract_data', hs, List.drop_zero, Nat.sub_zero, List.take_set_of_le hge, hT]
      rw [e0, List.drop_set, if_neg (by omega), List.take_set, hF] at h5
      have hi4 : i - k < (Crc.four (Crc.ofB (txt b))).data.toList.length := by rw [Crc.size_list, Crc.four_size]; omega
      have h8 := congrArg (fun l : List UInt8 => l[i - k]?) h5
      simp only [List.getElem?_set_self hi4] at h8
      apply hv
      rw [← hF, List.getElem?_take_of_lt (by omega), List.getElem?_drop, show k + (i - k) = i from by omega] at h8
      exact h8.symm
  · rfl
end Fr
end Go.Proofs.Yteohhcnadoaciaa
