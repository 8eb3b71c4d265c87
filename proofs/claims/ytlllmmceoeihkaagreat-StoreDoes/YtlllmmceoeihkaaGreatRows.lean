/-
  No cell of these rows narrows 'for every input' (looked for: loops, veiled, ifaces, maps, wideKeys, modest, calm, conditions, laid).
  DERIVED. THE GIVEN ROWS OF THIS SEAT. 6 by the template 'for every input the law returns true; each argument reads behind the call as it read before'; 0 by the template 'total and deterministic' (their statements: YtlllmmceoeihkaaGreatTotals.lean).
  GIVEN WITH THE SEED: the statements are not yours to turn. If you find one false, say at which input.
  Laid BY PROGRAM, IN A SANDBOX (cutbox-rows.mjs): the forced cells as the released guide's own fill.sh prints them over the translation 2f527371572d8f58… (all of the seat's roots in one cut). By AI agents, Wed Nov 11 2026. No macro, syntax, notation, axiom, sorry.
-/
import Derived.Test.YtlllmmceoeihkaaGreatChecked
import GoSem.Claim
import GoSem.ClaimJoined
import GoSem.ClaimMapViews
import Derived.JoinedTies
import Derived.KernelRfl
namespace Go.Proofs.YtlllmmceoeihkaaGreat
/- THE CELL 'sum', in the pinned program and in every row, IS THE sha256 OF THE DUMP (.gsa) THAT YtlllmmceoeihkaaGreatProg.lean LOADS. Nothing in Lean hashes anything: it is a label: what it is worth is what the hold of that sum in a sandbox is worth. -/
noncomputable def Tryz.pinned : Pinned := { name := "ytlllmmceoeihkaagreat", sum := "2f527371572d8f58acd1e94a2bf6bbaff21a8cf5699b0d3b04027f9b5da4fc35", checked := Tryz.checked }
namespace Rows
def none {H : Type} : Left H := { results := [], args := [] }

/-- 'outcroplaw22.StoreDoes': WHATEVER THE INPUT: true; the input reads as it did. -/
def storeDoesSpec : ChangeSpec := { name := "storeDoes", fn := fun _ => fun
  | [d] => { results := [.lit (.bool true)], args := [d] }
  | _ => none }
def storeDoesRow : OpenClaim := { program := "ytlllmmceoeihkaagreat", sum := "2f527371572d8f58acd1e94a2bf6bbaff21a8cf5699b0d3b04027f9b5da4fc35", func := "outcrop/outcroplaw22.StoreDoes", spec := "storeDoes", unfollowed := true, recurses := true, plainKeys := false, apart := false }
def StoreDoesSaid : Prop := storeDoesRow.holds Tryz.pinned (OpenSpec.ofChange storeDoesSpec)

/-- ITS FALSE NEIGHBOUR: 'it returns false'. Refute it at one input. -/
def storeDoesWrong : ChangeSpec := { name := "storeDoes", fn := fun _ => fun
  | [d] => { results := [.lit (.bool false)], args := [d] }
  | _ => none }
def StoreDoesWrongFalsely : Prop := storeDoesRow.holds Tryz.pinned (OpenSpec.ofChange storeDoesWrong)

/-- 'outcroplaw22.StoreWhole': WHATEVER THE INPUT: true; the input reads as it did. -/
def storeWholeSpec : ChangeSpec := { name := "storeWhole", fn := fun _ => fun
  | [d1, d2, d3, d4] => { results := [.lit (.bool true)], args := [d1, d2, d3, d4] }
  | _ => none }
def storeWholeRow : OpenClaim := { program := "ytlllmmceoeihkaagreat", sum := "2f527371572d8f58acd1e94a2bf6bbaff21a8cf5699b0d3b04027f9b5da4fc35", func := "outcrop/outcroplaw22.StoreWhole", spec := "storeWhole", unfollowed := true, recurses := true, plainKeys := false, apart := false }
def StoreWholeSaid : Prop := storeWholeRow.holds Tryz.pinned (OpenSpec.ofChange storeWholeSpec)

/-- ITS FALSE NEIGHBOUR: 'it returns false'. Refute it at one input. -/
def storeWholeWrong : ChangeSpec := { name := "storeWhole", fn := fun _ => fun
  | [d1, d2, d3, d4] => { results := [.lit (.bool false)], args := [d1, d2, d3, d4] }
  | _ => none }
def StoreWholeWrongFalsely : Prop := storeWholeRow.holds Tryz.pinned (OpenSpec.ofChange storeWholeWrong)

/-- 'outcroplaw22.StoreBack': WHATEVER THE INPUT: true; the input reads as it did. -/
def storeBackSpec : ChangeSpec := { name := "storeBack", fn := fun _ => fun
  | [d1, d2] => { results := [.lit (.bool true)], args := [d1, d2] }
  | _ => none }
def storeBackRow : OpenClaim := { program := "ytlllmmceoeihkaagreat", sum := "2f527371572d8f58acd1e94a2bf6bbaff21a8cf5699b0d3b04027f9b5da4fc35", func := "outcrop/outcroplaw22.StoreBack", spec := "storeBack", unfollowed := true, recurses := true, plainKeys := false, apart := false }
def StoreBackSaid : Prop := storeBackRow.holds Tryz.pinned (OpenSpec.ofChange storeBackSpec)

/-- ITS FALSE NEIGHBOUR: 'it returns false'. Refute it at one input. -/
def storeBackWrong : ChangeSpec := { name := "storeBack", fn := fun _ => fun
  | [d1, d2] => { results := [.lit (.bool false)], args := [d1, d2] }
  | _ => none }
def StoreBackWrongFalsely : Prop := storeBackRow.holds Tryz.pinned (OpenSpec.ofChange storeBackWrong)

/-- 'outcroplaw22.StoreReserves': WHATEVER THE INPUT: true; the input reads as it did. -/
def storeReservesSpec : ChangeSpec := { name := "storeReserves", fn := fun _ => fun
  | [d] => { results := [.lit (.bool true)], args := [d] }
  | _ => none }
def storeReservesRow : OpenClaim := { program := "ytlllmmceoeihkaagreat", sum := "2f527371572d8f58acd1e94a2bf6bbaff21a8cf5699b0d3b04027f9b5da4fc35", func := "outcrop/outcroplaw22.StoreReserves", spec := "storeReserves", unfollowed := true, recurses := true, plainKeys := false, apart := false }
def StoreReservesSaid : Prop := storeReservesRow.holds Tryz.pinned (OpenSpec.ofChange storeReservesSpec)

/-- ITS FALSE NEIGHBOUR: 'it returns false'. Refute it at one input. -/
def storeReservesWrong : ChangeSpec := { name := "storeReserves", fn := fun _ => fun
  | [d] => { results := [.lit (.bool false)], args := [d] }
  | _ => none }
def StoreReservesWrongFalsely : Prop := storeReservesRow.holds Tryz.pinned (OpenSpec.ofChange storeReservesWrong)

/-- 'outcroplaw22.StoreStays': WHATEVER THE INPUT: true; the input reads as it did. -/
def storeStaysSpec : ChangeSpec := { name := "storeStays", fn := fun _ => fun
  | [d1, d2] => { results := [.lit (.bool true)], args := [d1, d2] }
  | _ => none }
def storeStaysRow : OpenClaim := { program := "ytlllmmceoeihkaagreat", sum := "2f527371572d8f58acd1e94a2bf6bbaff21a8cf5699b0d3b04027f9b5da4fc35", func := "outcrop/outcroplaw22.StoreStays", spec := "storeStays", unfollowed := true, recurses := true, plainKeys := false, apart := false }
def StoreStaysSaid : Prop := storeStaysRow.holds Tryz.pinned (OpenSpec.ofChange storeStaysSpec)

/-- ITS FALSE NEIGHBOUR: 'it returns false'. Refute it at one input. -/
def storeStaysWrong : ChangeSpec := { name := "storeStays", fn := fun _ => fun
  | [d1, d2] => { results := [.lit (.bool false)], args := [d1, d2] }
  | _ => none }
def StoreStaysWrongFalsely : Prop := storeStaysRow.holds Tryz.pinned (OpenSpec.ofChange storeStaysWrong)

/-- 'outcroplaw22.StoreSlots': WHATEVER THE INPUT: true; the input reads as it did. -/
def storeSlotsSpec : ChangeSpec := { name := "storeSlots", fn := fun _ => fun
  | [d] => { results := [.lit (.bool true)], args := [d] }
  | _ => none }
def storeSlotsRow : OpenClaim := { program := "ytlllmmceoeihkaagreat", sum := "2f527371572d8f58acd1e94a2bf6bbaff21a8cf5699b0d3b04027f9b5da4fc35", func := "outcrop/outcroplaw22.StoreSlots", spec := "storeSlots", unfollowed := true, recurses := true, plainKeys := false, apart := false }
def StoreSlotsSaid : Prop := storeSlotsRow.holds Tryz.pinned (OpenSpec.ofChange storeSlotsSpec)

/-- ITS FALSE NEIGHBOUR: 'it returns false'. Refute it at one input. -/
def storeSlotsWrong : ChangeSpec := { name := "storeSlots", fn := fun _ => fun
  | [d] => { results := [.lit (.bool false)], args := [d] }
  | _ => none }
def StoreSlotsWrongFalsely : Prop := storeSlotsRow.holds Tryz.pinned (OpenSpec.ofChange storeSlotsWrong)

/- THE SECOND FORM. 'bulk': how many values and letters a reading holds, each counted each time it is reached (what is shared counts as often as it is met; a slice's spare places count too). A statement '..UptoSaid' is the law's where the arguments, and the package variables that the reading takes, are together of bulk at most 1048576: NARROWER than '..Said'. Prove '..Said' where nothing that the law and all that it calls make is longer than what came in: it says more and counts as full. Else prove '..UptoSaid'. A law counts once. -/
mutual
def uptoBulk {H : Type} : DataW H → Nat
  | .lit (.string bytes) => bytes.length + 1
  | .lit _ => 1
  | .nil => 1
  | .ptr d => uptoBulk d + 1
  | .slice elems spare => uptoBulkAll elems + uptoBulkAll spare + 1
  | .agg parts => uptoBulkAll parts + 1
  | .iface _ d => uptoBulk d + 1
  | .map entries => uptoBulkEntries entries + 1
  | .held _ => 1
def uptoBulkAll {H : Type} : List (DataW H) → Nat
  | [] => 0
  | d :: r => uptoBulk d + uptoBulkAll r
def uptoBulkEntries {H : Type} : List (Lit × DataW H) → Nat
  | [] => 0
  | x :: r => uptoBulkEntry x + uptoBulkEntries r
def uptoBulkEntry {H : Type} : Lit × DataW H → Nat
  | (.string bytes, d) => bytes.length + uptoBulk d + 1
  | (_, d) => uptoBulk d + 1
 end
def uptoSmall : (H : Type) → List (DataW H) → Bool := fun _ ds => decide (uptoBulkAll ds ≤ 1048576)
def OpenSpec.upto (s : _root_.Go.ChangeSpec) : _root_.Go.OpenSpec := { _root_.Go.OpenSpec.ofChange s with cond := some uptoSmall }

/-- 'outcroplaw22.StoreDoes', WHERE WHAT IT READS IS OF BULK AT MOST 1048576: true; the input reads as it did. -/
def storeDoesUptoRow : OpenClaim := { program := "ytlllmmceoeihkaagreat", sum := "2f527371572d8f58acd1e94a2bf6bbaff21a8cf5699b0d3b04027f9b5da4fc35", func := "outcrop/outcroplaw22.StoreDoes", spec := "storeDoes", unfollowed := true, recurses := true, plainKeys := false, apart := false, narrowed := true }
def StoreDoesUptoSaid : Prop := storeDoesUptoRow.holds Tryz.pinned (OpenSpec.upto storeDoesSpec)

/-- 'outcroplaw22.StoreWhole', WHERE WHAT IT READS IS OF BULK AT MOST 1048576: true; the input reads as it did. -/
def storeWholeUptoRow : OpenClaim := { program := "ytlllmmceoeihkaagreat", sum := "2f527371572d8f58acd1e94a2bf6bbaff21a8cf5699b0d3b04027f9b5da4fc35", func := "outcrop/outcroplaw22.StoreWhole", spec := "storeWhole", unfollowed := true, recurses := true, plainKeys := false, apart := false, narrowed := true }
def StoreWholeUptoSaid : Prop := storeWholeUptoRow.holds Tryz.pinned (OpenSpec.upto storeWholeSpec)

/-- 'outcroplaw22.StoreBack', WHERE WHAT IT READS IS OF BULK AT MOST 1048576: true; the input reads as it did. -/
def storeBackUptoRow : OpenClaim := { program := "ytlllmmceoeihkaagreat", sum := "2f527371572d8f58acd1e94a2bf6bbaff21a8cf5699b0d3b04027f9b5da4fc35", func := "outcrop/outcroplaw22.StoreBack", spec := "storeBack", unfollowed := true, recurses := true, plainKeys := false, apart := false, narrowed := true }
def StoreBackUptoSaid : Prop := storeBackUptoRow.holds Tryz.pinned (OpenSpec.upto storeBackSpec)

/-- 'outcroplaw22.StoreReserves', WHERE WHAT IT READS IS OF BULK AT MOST 1048576: true; the input reads as it did. -/
def storeReservesUptoRow : OpenClaim := { program := "ytlllmmceoeihkaagreat", sum := "2f527371572d8f58acd1e94a2bf6bbaff21a8cf5699b0d3b04027f9b5da4fc35", func := "outcrop/outcroplaw22.StoreReserves", spec := "storeReserves", unfollowed := true, recurses := true, plainKeys := false, apart := false, narrowed := true }
def StoreReservesUptoSaid : Prop := storeReservesUptoRow.holds Tryz.pinned (OpenSpec.upto storeReservesSpec)

/-- 'outcroplaw22.StoreStays', WHERE WHAT IT READS IS OF BULK AT MOST 1048576: true; the input reads as it did. -/
def storeStaysUptoRow : OpenClaim := { program := "ytlllmmceoeihkaagreat", sum := "2f527371572d8f58acd1e94a2bf6bbaff21a8cf5699b0d3b04027f9b5da4fc35", func := "outcrop/outcroplaw22.StoreStays", spec := "storeStays", unfollowed := true, recurses := true, plainKeys := false, apart := false, narrowed := true }
def StoreStaysUptoSaid : Prop := storeStaysUptoRow.holds Tryz.pinned (OpenSpec.upto storeStaysSpec)

/-- 'outcroplaw22.StoreSlots', WHERE WHAT IT READS IS OF BULK AT MOST 1048576: true; the input reads as it did. -/
def storeSlotsUptoRow : OpenClaim := { program := "ytlllmmceoeihkaagreat", sum := "2f527371572d8f58acd1e94a2bf6bbaff21a8cf5699b0d3b04027f9b5da4fc35", func := "outcrop/outcroplaw22.StoreSlots", spec := "storeSlots", unfollowed := true, recurses := true, plainKeys := false, apart := false, narrowed := true }
def StoreSlotsUptoSaid : Prop := storeSlotsUptoRow.holds Tryz.pinned (OpenSpec.upto storeSlotsSpec)

end Rows
end Go.Proofs.YtlllmmceoeihkaaGreat
