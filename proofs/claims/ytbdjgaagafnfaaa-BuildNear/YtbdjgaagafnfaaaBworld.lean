/-
  Walk of BuildWorld.
-/
import Derived.Test.YtbdjgaagafnfaaaBframe
set_option maxRecDepth 20000
namespace Go.Proofs.Ytbdjgaagafnfaaa
open C Go.RowKit

theorem ok_cols {hs bs : List (List Int)} (h : okG 128 hs) (k : okG 4 bs) {i : Nat} (hi : i < 9) : okCols (hs.getD i []) (bs.getD i []) := ⟨(h.2 i hi).1, (k.2 i hi).1, fun j hj => by
  have := (h.2 i hi).2 j hj
  have := (k.2 i hi).2 j hj
  omega⟩
theorem no_spots (w : World) (B : Nat) : SpotsAt w B none 0 [] := ⟨rfl, fun i hi => (by omega), fun i hi => (by omega)⟩
end Go.Proofs.Ytbdjgaagafnfaaa