import Derived.Test.YtfibapfehgglhaaGreatDoorMeP
/-
  What Parse of package meta comes to.
-/
namespace Go.Proofs.YtfibapfehgglhaaGreatDoor
open Go.RowKit
namespace Me
def wal : ByteArray := ⟨#[119, 97, 108]⟩
def block : ByteArray := ⟨#[98, 108, 111, 99, 107]⟩
def cutK (name : ByteArray) : ByteArray := ⟨(Lib.cut name.data.toList [45]).1.toArray⟩
def cutT (name : ByteArray) : ByteArray := ⟨(Lib.cut name.data.toList [45]).2.1.toArray⟩
def parseAt (name k : ByteArray) (v : Int) : ByteArray × Int × Bool := if (k = wal ∨ k = block) ∧ nameB k v = name then (k, v, true) else (ByteArray.empty, 0, false)
/-- of what file a name is -/
def parse (name : ByteArray) : ByteArray × Int × Bool := match Lib.atoiAll (cutT name).data.toList with
  | .ok v => parseAt name (cutK name) v
  | _ => (ByteArray.empty, 0, false)
theorem cut_len (l s : List UInt8) : (Lib.cut l s).1.length ≤ l.length ∧ (Lib.cut l s).2.1.length ≤ l.length := by
  unfold Lib.cut
  split
  · dsimp only
    rw [List.length_take, List.length_drop]
    omega
  · dsimp only
    exact ⟨Nat.le_refl _, Nat.zero_le _⟩
theorem cut_sizes (name : ByteArray) : (cutK name).size ≤ name.size ∧ (cutT name).size ≤ name.size := by
  have h := cut_len name.data.toList [45]
  have h2 : name.data.toList.length = name.size := by simp
  have e1 := ba_len (Lib.cut name.data.toList [45]).1
  have e2 := ba_len (Lib.cut name.data.toList [45]).2.1
  unfold cutK cutT
  omega
theorem toList_iff (k : ByteArray) (l : List UInt8) : k.toList = l ↔ k = ⟨l.toArray⟩ := by
  rw [ByteArray.toList_eq]
  constructor
  · rintro rfl; exact (ba_list k).symm
  · rintro rfl; rfl
end Me

set_option maxRecDepth 100000 in
set_option maxHeartbeats 1000000 in
theorem Parse_any (name : ByteArray) (hz : name.size ≤ 1000) (w : World) (hE : Env w) :
    Calls Tryz.prog 63 #[.string name] w fun e w' => e = .returned (.tuple #[.string (Me.parse name).1, .int .i64 (Me.parse name).2.1, .bool (Me.parse name).2.2]) ∧ Below w.heap.size w w' := by
  obtain ⟨hk, ht⟩ := Me.cut_sizes name
  have hcut : ∀ W, Env W → Calls Tryz.prog 108 #[.string name, .string ⟨#[45]⟩] W fun e w' => e = .returned (.tuple #[.string (Me.cutK name), .string (Me.cutT name), .bool (Lib.cut name.data.toList [45]).2.2]) ∧ ∃ n, w' = W.drewN n := fun W h => by
    obtain ⟨m, hm⟩ := h.cap
    exact Tryz.strings_Cut name ⟨#[45]⟩ m W (by omega) hm
  have hps : Me.parse name = match Lib.atoiAll (Me.cutT name).data.toList with | .ok v => Me.parseAt name (Me.cutK name) v | _ => (ByteArray.empty, 0, false) := rfl
  have hok := fun v h W => Tryz.strconv_Atoi_ok (Me.cutT name) (by omega) v h W
  have hbad : (∀ v, Lib.atoiAll (Me.cutT name).data.toList ≠ .ok v) → ∀ W, Env W → Calls Tryz.prog 109 #[.string (Me.cutT name)] W fun e w' => (∃ z t N, e = .returned (.tuple #[.int .i64 z, .iface t (.pointer (some ⟨N, 0, none⟩))])) ∧ Below W.heap.size W w' := fun hno W hW => by
    rcases ha : Lib.atoiAll (Me.cutT name).data.toList with v | _ | _
    · exact absurd ha (hno v)
    · obtain ⟨ev, hv, hev⟩ := hW.syn
      refine (Tryz.strconv_Atoi_syntax (Me.cutT name) (by omega) ha ev W hv hev).mono ?_
      rintro e w' ⟨N, he, _, _, hb⟩
      exact ⟨⟨_, _, N, he⟩, hb⟩
    · obtain ⟨ev, hv, hev⟩ := hW.rng
      refine (Tryz.strconv_Atoi_range (Me.cutT name) (by omega) ha ev W hv hev).mono ?_
      rintro e w' ⟨N, he, _, _, hb⟩
      exact ⟨⟨_, _, N, he⟩, hb⟩
  have hnm := fun v W h => Name_any (Me.cutK name) (by omega) v W h
  have HC := Lib.hid hcut; have HN := Lib.hid hnm; have HE := Lib.hid hE
  generalize Me.parse name = P at *
  generalize Me.cutT name = T at *
  generalize Me.cutK name = K at *
  generalize (Lib.cut name.data.toList [45]).2.2 = fd at *
  clear hcut hnm hE
  have herr : ∀ (hcall : ∀ W, Env W → Calls Tryz.prog 109 #[.string T] W fun e w' => (∃ z t N, e = .returned (.tuple #[.int .i64 z, .iface t (.pointer (some ⟨N, 0, none⟩))])) ∧ Below W.heap.size W w'), Calls Tryz.prog 63 #[.string name] w fun e w' => e = .returned (.tuple #[.string ByteArray.empty, .int .i64 0, .bool false]) ∧ Below w.heap.size w w' := fun hcall => by
    have HA := Lib.hid hcall; clear hcall hok hbad hps
    go_enter Tryz.func63, Tryz.ntmps63
    go_wp2_with fail
    refine (HC.out _ HE.out).mono ?_; rintro e w2 ⟨rfl, n, rfl⟩
    have HB2 := Lib.hid (below_drewN (Below.refl w.heap.size w) n)
    have HE2 := Lib.hid (HE.out.later HB2.out)
    go_wp2_with fail
    refine (HA.out _ HE2.out).mono ?_; rintro e w3 ⟨⟨z, t, N, rfl⟩, hb3⟩
    have HB3 := Lib.hid (below_step HB2.out hb3); clear hb3
    go_wp2_with fail
    go_ret3
    exact ⟨rfl, HB3.out⟩
  by_cases hno : ∀ v, Lib.atoiAll T.data.toList ≠ .ok v
  · have hpe : P = (ByteArray.empty, 0, false) := by
      rw [hps]
      split
      · rename_i v hv; exact absurd hv (hno v)
      · rfl
    rw [hpe]
    exact herr (hbad hno)
  · obtain ⟨v, ha⟩ : ∃ v, Lib.atoiAll T.data.toList = .ok v := by
      by_cases h : ∃ v, Lib.atoiAll T.data.toList = .ok v
      · exact h
      · exact absurd (fun v hv => h ⟨v, hv⟩) hno
    clear hno hbad
    rw [ha] at hps
    have hatoi : ∀ W, Calls Tryz.prog 109 #[.string T] W fun e w' => e = .returned (.tuple #[.int .i64 v, .nilIface]) ∧ Below W.heap.size W w' := fun W => by
      refine (hok v ha W).mono ?_
      rintro e w' ⟨he, rfl | ⟨t, rfl⟩⟩
      · exact ⟨he, Below.refl _ _⟩
      · exact ⟨he, Lib.bytesWorld_below _ _ _⟩
    have hpv : P = Me.parseAt name K v := hps
    have HA := Lib.hid hatoi
    clear hatoi hok hps herr ha
    have q1 := Me.toList_iff K [119, 97, 108]
    have q2 := Me.toList_iff K [98, 108, 111, 99, 107]
    have hq : (K.toList = [119, 97, 108] ∨ (¬ K.toList = [119, 97, 108] ∧ K.toList = [98, 108, 111, 99, 107])) ∨ (¬ (K = Me.wal ∨ K = Me.block) ∧ ¬ K.toList = [119, 97, 108] ∧ ¬ K.toList = [98, 108, 111, 99, 107]) := by
      by_cases h1 : K = Me.wal
      · exact .inl (.inl (q1.2 h1))
      · by_cases h2 : K = Me.block
        · exact .inl (.inr ⟨fun e => h1 (q1.1 e), q2.2 h2⟩)
        · exact .inr ⟨fun e => e.elim h1 h2, fun e => h1 (q1.1 e), fun e => h2 (q2.1 e)⟩
    have hkk : (K.toList = [119, 97, 108] ∨ (¬ K.toList = [119, 97, 108] ∧ K.toList = [98, 108, 111, 99, 107])) → (K = Me.wal ∨ K = Me.block) := fun h => h.elim (fun e => .inl (q1.1 e)) (fun e => .inr (q2.1 e.2))
    clear q1 q2
    rcases hq with hq | ⟨hkd, q1, q2⟩
    · have hkd := hkk hq
      have hN := HN.out v
      have hbe := str_beq (Me.nameB K v) name
      clear hkk
      by_cases hn : Me.nameB K v = name
      · have hp : P = (K, v, true) := by rw [hpv]; unfold Me.parseAt; rw [if_pos ⟨hkd, hn⟩]
        have d1 : ((Me.nameB K v).toList == name.toList) = true := by rw [hbe]; simpa using hn
        rw [hp]
        have HNN := Lib.hid hN
        clear hN hpv hp hn HN hbe hkd
        generalize Me.nameB K v = nb at *
        rcases hq with q1 | ⟨q1, q2⟩
        all_goals
          go_enter Tryz.func63, Tryz.ntmps63
          go_wp2_with fail
          refine (HC.out _ HE.out).mono ?_; rintro e w2 ⟨rfl, n, rfl⟩
          have HB2 := Lib.hid (below_drewN (Below.refl w.heap.size w) n)
          have HE2 := Lib.hid (HE.out.later HB2.out)
          go_wp2_with fail
          refine (HA.out _).mono ?_; rintro e w3 ⟨rfl, hb3⟩
          have HB3 := Lib.hid (below_step HB2.out hb3); have HE3 := Lib.hid (HE2.out.later hb3); clear hb3
          go_wp2_with fail
          refine (HNN.out _ HE3.out).mono ?_; rintro e w4 ⟨rfl, hb4⟩
          have HB4 := Lib.hid (below_step HB3.out hb4); clear hb4
          go_wp2_with fail
          go_ret3
          exact ⟨rfl, HB4.out⟩
      · have hp : P = (ByteArray.empty, 0, false) := by rw [hpv]; unfold Me.parseAt; rw [if_neg (fun e => hn e.2)]
        have d1 : ((Me.nameB K v).toList == name.toList) = false := by rw [hbe]; simpa using hn
        rw [hp]
        have HNN := Lib.hid hN
        clear hN hpv hp hn HN hbe hkd
        generalize Me.nameB K v = nb at *
        rcases hq with q1 | ⟨q1, q2⟩
        all_goals
          go_enter Tryz.func63, Tryz.ntmps63
          go_wp2_with fail
          refine (HC.out _ HE.out).mono ?_; rintro e w2 ⟨rfl, n, rfl⟩
          have HB2 := Lib.hid (below_drewN (Below.refl w.heap.size w) n)
          have HE2 := Lib.hid (HE.out.later HB2.out)
          go_wp2_with fail
          refine (HA.out _).mono ?_; rintro e w3 ⟨rfl, hb3⟩
          have HB3 := Lib.hid (below_step HB2.out hb3); have HE3 := Lib.hid (HE2.out.later hb3); clear hb3
          go_wp2_with fail
          refine (HNN.out _ HE3.out).mono ?_; rintro e w4 ⟨rfl, hb4⟩
          have HB4 := Lib.hid (below_step HB3.out hb4); clear hb4
          go_wp2_with fail
          go_ret3
          exact ⟨rfl, HB4.out⟩
    · have hp : P = (ByteArray.empty, 0, false) := by rw [hpv]; unfold Me.parseAt; rw [if_neg (fun e => hkd e.1)]
      rw [hp]
      clear hpv hp hkd hkk HN
      go_enter Tryz.func63, Tryz.ntmps63
      go_wp2_with fail
      refine (HC.out _ HE.out).mono ?_; rintro e w2 ⟨rfl, n, rfl⟩
      have HB2 := Lib.hid (below_drewN (Below.refl w.heap.size w) n)
      go_wp2_with fail
      refine (HA.out _).mono ?_; rintro e w3 ⟨rfl, hb3⟩
      have HB3 := Lib.hid (below_step HB2.out hb3); clear hb3
      go_wp2_with fail
      go_ret3
      exact ⟨rfl, HB3.out⟩
end Go.Proofs.YtfibapfehgglhaaGreatDoor
