/-
  MetaBack, MetaGens: the walks of the laws, and a meta that came in.
-/
import Derived.Test.YtokofifecdpmfaaGreatDoorMeW
import Derived.Test.YtokofifecdpmfaaGreatDoorFrP0
import Derived.OpenShut
namespace Go.Proofs.YtokofifecdpmfaaGreatDoor
open Go.RowKit
open Go.ChangeShapes Go.WideShapes Go.Deep in
theorem ints_of_trod {H : Type} {enc : TypeId × Value → H} {w : World} {spare : Nat → Bool} {held : Bool} {fuel : Nat} {v : Value} {x : DataW H × List MemPlace} (h : DataW.trod enc Tryz.prog w 0 spare held fuel 22 [v] = some x) :
    ∃ (A : Option Addr) (c : Nat) (L : List Int), v = .slice A L.length c ∧ L.length ≤ maxLen ∧ Ints w A c L := by
  rcases open_ints Tryz.underlying22 Tryz.underlying3 (by kernel_rfl) h with ⟨hcs, _⟩ | ⟨a, len, cap, zs, hcs, _, hl, hm, hz, _, hcell, hwz⟩
  · exact ⟨none, 0, [], (List.cons.inj hcs).1, by simp, Ints.zero w⟩
  · have hlm : len ≤ zs.length := by rw [hz]; split <;> omega
    have hlen : (zs.take len).length = len := by rw [List.length_take]; omega
    refine ⟨some a, cap, zs.take len, by rw [hlen]; exact (List.cons.inj hcs).1, by rw [hlen]; omega, fun hn => ⟨a, rfl, ?_, fun i hi => ?_⟩, (fun h => by cases h), by rw [hlen]; exact hl⟩
    · rw [hlen] at hn
      have := block_lt_of_cell (hcell 0 (by omega))
      rwa [addr_add_block] at this
    · rw [hlen] at hi
      rw [hcell i (by omega)]
      simp [List.getD, hi]
set_option maxRecDepth 100000 in
open Go.ChangeShapes Go.WideShapes Go.Deep in
theorem open_meta {H : Type} {enc : TypeId × Value → H} {w : World} {r : Reach} {b0 : Nat} {spare : Nat → Bool} {held : Bool} {v : Value} {d : DataW H} {p : List MemPlace} (hv : Value.okWide Tryz.prog w r b0 24 v) (h : DataW.Trod enc Tryz.prog w 0 spare held 24 v d p) :
    ∃ (m : Me.M) (A : Option Addr) (c : Nat), v = .agg #[.int .i64 m.gen, .int .i64 m.next, .int .i64 m.wal, .slice A m.bs.length c] ∧ m.bs.length ≤ maxLen ∧ Ints w A c m.bs := by
  obtain ⟨cs, rfl, hcs⟩ := okWide_struct Tryz.underlying24 hv
  obtain ⟨fuel, hfu⟩ := h
  obtain ⟨xs, k, hk, hxy, hlen, hxl, hf⟩ := DataW.trod_struct Tryz.underlying24 hfu
  have hc : Tryz.prog.cellsOf 24 = 4 := by kernel_rfl
  rw [hc] at hlen
  have c0 : (Value.agg cs).cells.toList = cs.toList := rfl
  rw [c0] at hlen hf
  match xs, hxl, hcl : cs.toList, hlen with
  | [y0, y1, y2, y3], _, [v0, v1, v2, v3], _ =>
    rw [hcl] at hf
    have g0 := hf 0 _ rfl
    have g1 := hf 1 _ rfl
    have g2 := hf 2 _ rfl
    have g3 := hf 3 _ rfl
    have e0 : Tryz.prog.cellsOf 3 = 1 := by kernel_rfl
    have e1 : Tryz.prog.cellsOf 22 = 1 := by kernel_rfl
    simp [e0, e1] at g0 g1 g2 g3
    obtain ⟨a, ha, _⟩ := DataW.trod_int Tryz.underlying3 g0
    obtain ⟨b, hb, _⟩ := DataW.trod_int Tryz.underlying3 g1
    obtain ⟨d, hd, _⟩ := DataW.trod_int Tryz.underlying3 g2
    obtain ⟨A, c, L, h3, h4, h5⟩ := ints_of_trod g3
    refine ⟨⟨a, b, d, L⟩, A, c, ?_, h4, h5⟩
    have e : cs = #[.int .i64 a, .int .i64 b, .int .i64 d, .slice A L.length c] := Array.toList_inj.1 (by rw [hcl, (List.cons.inj ha).1, (List.cons.inj hb).1, (List.cons.inj hd).1, h3])
    rw [e]

end Go.Proofs.YtokofifecdpmfaaGreatDoor
