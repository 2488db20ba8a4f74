/-
  What an act comes to.
-/
import Derived.Test.YtgpmomjdjakklaaSfY
namespace Go.Proofs.Ytgpmomjdjakklaa
open Go.RowKit
theorem Sf.StOk.room {B N : Nat} {S : Sf.St} (h : Sf.StOk B N S) (n : Int) (hn : n ≤ 9223372036854775807) : Sf.StOk B N { S with room := max n 0 } :=
  ⟨h.nam, h.his, h.file, h.few, h.f1, h.f2, h.s1, h.s2, (by show 0 ≤ max n 0; omega), (by show max n 0 ≤ _; omega)⟩
theorem Sf.StOk.setFuse {B N : Nat} {S : Sf.St} (h : Sf.StOk B N S) (n : Int) : Sf.StOk B N { S with fuse := Sf.fuseOf n } :=
  ⟨h.nam, h.his, h.file, h.few, (by show -1 ≤ Sf.fuseOf n; unfold Sf.fuseOf; omega), (by show Sf.fuseOf n ≤ _; unfold Sf.fuseOf; omega), h.s1, h.s2, h.r1, h.r2⟩
theorem Left.after {w w1 w2 : World} {base fb : Nat} {S2 : Sf.St} (hb : Below base w w1) (hs : Stays w w1) (h : Left w1 base fb S2 w2) : Left w base fb S2 w2 := ⟨h.fs, hb.trans h.bel, hs.trans h.st⟩
end Go.Proofs.Ytgpmomjdjakklaa
