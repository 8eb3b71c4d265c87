/-
  The chapter's examples, and what a text of bytes is.
-/
import Derived.Test.YtlllmmceoeihkaaGreatDv
import Derived.Test.YtlllmmceoeihkaaGreatKFroms
import Derived.Lib.Walk
namespace Go.Proofs.YtlllmmceoeihkaaGreat.K
open Go.RowKit
theorem B64k.lt {w:World} {b:Nat} {t:TypeId} {l:List Int} (h:B64k w b t l):b<w.heap.size:=(Array.getElem?_eq_some_iff.1 h).1
theorem B64k.below {w w':World} {b n:Nat} {t:TypeId} {l:List Int} (h:B64k w b t l) (hb:Below n w w') (hn:b<n):B64k w' b t l:=(hb.block b hn).trans h
theorem conv_c {w:World} {a:Option Addr} {n cap:Nat} {bs:List Int} (h:Src w a n bs):(convert 61 9 (.slice a n cap)).run Tryz.prog w = .ok (.string (strOfNums bs)) w:=by
 have hn:=h.len
 rcases n with _ | n
 ·obtain rfl:=List.eq_nil_of_length_eq_zero hn
  cases a with
  | none=>exact run_convert_bytes_nil w 61 5 Tryz.underlying61 Tryz.underlying5 0 cap 9 Tryz.underlying9
  | some x =>
    rw [run_convert_bytes_string w 61 9 5 _ 0 cap Tryz.underlying61 Tryz.underlying5 Tryz.underlying9,run_bytesToString w x 0 cap [] (by simpa using run_loadCells_list (P:=Tryz.prog) w x [] (by simp))]
    rfl
 ·obtain ⟨b,o,rfl,_,_⟩:=h.cells 0 (by omega)
  exact run_convert_bytes_arg w 61 5 Tryz.underlying61 Tryz.underlying5 b o (n+1) cap bs hn (fun i hi=>by
   obtain ⟨b',o',e,_,hc⟩:=h.cells i hi
   cases e
   exact hc) 9 Tryz.underlying9
end Go.Proofs.YtlllmmceoeihkaaGreat.K
