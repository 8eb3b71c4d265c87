/-
  Cells: what runs and single numbers make is cells of a chunk.
-/
import Derived.Test.YtlllmmceoeihkaaGreatKMores
import Derived.Deep.DeepCutAuto
namespace Go.Proofs.YtlllmmceoeihkaaGreat.K
open Go.RowKit
theorem rem_in (x m:Int) (hm:0<m):∃ y:Nat,(y:Int)<m∧(x.tmod m+m).tmod m=y ∧ -m<x.tmod m∧x.tmod m<m:=by
 have h1:=Int.lt_tmod_of_pos x hm
 have h2:=Int.tmod_lt_of_pos x hm
 have h3:0<=(x.tmod m+m).tmod m:=Int.tmod_nonneg _ (by omega)
 have h4:=Int.tmod_lt_of_pos (x.tmod m+m) hm
 obtain ⟨y,hy⟩:=Int.eq_ofNat_of_zero_le h3
 exact ⟨y,by omega,hy,h1,h2⟩
theorem Kinds.put {cs:List Int} (h:Kinds cs) (n:Nat) {k:Int} (h0:0<=k) (h1:k<=16):Kinds (cs.set n k):=by
 intro x hx
 rcases List.mem_or_eq_of_mem_set hx with h' | h'
 ·exact h x h'
 ·subst h';exact ⟨h0,h1⟩
end Go.Proofs.YtlllmmceoeihkaaGreat.K
