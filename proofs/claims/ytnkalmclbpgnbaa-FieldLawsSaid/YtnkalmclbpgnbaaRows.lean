/-
  No cell of these rows narrows 'for every input' (looked for: loops, veiled, ifaces, maps, wideKeys, modest, calm, conditions, laid).
  DERIVED. THE GIVEN ROWS OF THIS SEAT. 5 by the template 'for every input the law returns true; each argument reads behind the call as it read before'; 0 by the template 'total and deterministic' (their statements: YtnkalmclbpgnbaaTotals.lean).
  GIVEN WITH THE SEED: the statements are not yours to turn. If you find one false, say at which input.
  Laid BY PROGRAM, IN A SANDBOX (cutbox-rows.mjs): the forced cells as the released guide's own fill.sh prints them over the translation 40ccdd02ebe1a707… (all of the seat's roots in one cut). By AI agents, Wed Nov 11 2026. No macro, syntax, notation, axiom, sorry.
-/
import Derived.Test.YtnkalmclbpgnbaaChecked
import GoSem.Claim
import GoSem.ClaimJoined
import GoSem.ClaimMapViews
import Derived.JoinedTies
import Derived.KernelRfl
namespace Go.Proofs.Ytnkalmclbpgnbaa
/- THE CELL 'sum', in the pinned program and in every row, IS THE sha256 OF THE DUMP (.gsa) THAT YtnkalmclbpgnbaaProg.lean LOADS. Nothing in Lean hashes anything: it is a label: what it is worth is what the hold of that sum in a sandbox is worth. -/
noncomputable def Try.pinned : Pinned := { name := "ytnkalmclbpgnbaa", sum := "40ccdd02ebe1a707a0f2910e1bcccc59f692587a0ac9803f2d5d18cb43f17fc6", checked := Try.checked }
namespace Rows
def none {H : Type} : Left H := { results := [], args := [] }

/-- 'quaestorlaw07.FieldTables': WHATEVER THE INPUT: true; the input reads as it did. -/
def fieldTablesSpec : ChangeSpec := { name := "fieldTables", fn := fun _ => fun
  | [d] => { results := [.lit (.bool true)], args := [d] }
  | _ => none }
def fieldTablesRow : OpenClaim := { program := "ytnkalmclbpgnbaa", sum := "40ccdd02ebe1a707a0f2910e1bcccc59f692587a0ac9803f2d5d18cb43f17fc6", func := "quaestor/quaestorlaw07.FieldTables", spec := "fieldTables", apart := false }
def FieldTablesSaid : Prop := fieldTablesRow.holds Try.pinned (OpenSpec.ofChange fieldTablesSpec)

/-- ITS FALSE NEIGHBOUR: 'it returns false'. Refute it at one input. -/
def fieldTablesWrong : ChangeSpec := { name := "fieldTables", fn := fun _ => fun
  | [d] => { results := [.lit (.bool false)], args := [d] }
  | _ => none }
def FieldTablesWrongFalsely : Prop := fieldTablesRow.holds Try.pinned (OpenSpec.ofChange fieldTablesWrong)

/-- 'quaestorlaw07.FieldAsks': WHATEVER THE INPUT: true; the input reads as it did. -/
def fieldAsksSpec : ChangeSpec := { name := "fieldAsks", fn := fun _ => fun
  | [d1, d2, d3] => { results := [.lit (.bool true)], args := [d1, d2, d3] }
  | _ => none }
def fieldAsksRow : OpenClaim := { program := "ytnkalmclbpgnbaa", sum := "40ccdd02ebe1a707a0f2910e1bcccc59f692587a0ac9803f2d5d18cb43f17fc6", func := "quaestor/quaestorlaw07.FieldAsks", spec := "fieldAsks", apart := false }
def FieldAsksSaid : Prop := fieldAsksRow.holds Try.pinned (OpenSpec.ofChange fieldAsksSpec)

/-- ITS FALSE NEIGHBOUR: 'it returns false'. Refute it at one input. -/
def fieldAsksWrong : ChangeSpec := { name := "fieldAsks", fn := fun _ => fun
  | [d1, d2, d3] => { results := [.lit (.bool false)], args := [d1, d2, d3] }
  | _ => none }
def FieldAsksWrongFalsely : Prop := fieldAsksRow.holds Try.pinned (OpenSpec.ofChange fieldAsksWrong)

/-- 'quaestorlaw07.FieldLaws': WHATEVER THE INPUT: true; the input reads as it did. -/
def fieldLawsSpec : ChangeSpec := { name := "fieldLaws", fn := fun _ => fun
  | [d1, d2, d3] => { results := [.lit (.bool true)], args := [d1, d2, d3] }
  | _ => none }
def fieldLawsRow : OpenClaim := { program := "ytnkalmclbpgnbaa", sum := "40ccdd02ebe1a707a0f2910e1bcccc59f692587a0ac9803f2d5d18cb43f17fc6", func := "quaestor/quaestorlaw07.FieldLaws", spec := "fieldLaws", apart := false }
def FieldLawsSaid : Prop := fieldLawsRow.holds Try.pinned (OpenSpec.ofChange fieldLawsSpec)

/-- ITS FALSE NEIGHBOUR: 'it returns false'. Refute it at one input. -/
def fieldLawsWrong : ChangeSpec := { name := "fieldLaws", fn := fun _ => fun
  | [d1, d2, d3] => { results := [.lit (.bool false)], args := [d1, d2, d3] }
  | _ => none }
def FieldLawsWrongFalsely : Prop := fieldLawsRow.holds Try.pinned (OpenSpec.ofChange fieldLawsWrong)

/-- 'quaestorlaw07.FieldAny': WHATEVER THE INPUT: true; the input reads as it did. -/
def fieldAnySpec : ChangeSpec := { name := "fieldAny", fn := fun _ => fun
  | [d1, d2, d3, d4] => { results := [.lit (.bool true)], args := [d1, d2, d3, d4] }
  | _ => none }
def fieldAnyRow : OpenClaim := { program := "ytnkalmclbpgnbaa", sum := "40ccdd02ebe1a707a0f2910e1bcccc59f692587a0ac9803f2d5d18cb43f17fc6", func := "quaestor/quaestorlaw07.FieldAny", spec := "fieldAny", apart := false }
def FieldAnySaid : Prop := fieldAnyRow.holds Try.pinned (OpenSpec.ofChange fieldAnySpec)

/-- ITS FALSE NEIGHBOUR: 'it returns false'. Refute it at one input. -/
def fieldAnyWrong : ChangeSpec := { name := "fieldAny", fn := fun _ => fun
  | [d1, d2, d3, d4] => { results := [.lit (.bool false)], args := [d1, d2, d3, d4] }
  | _ => none }
def FieldAnyWrongFalsely : Prop := fieldAnyRow.holds Try.pinned (OpenSpec.ofChange fieldAnyWrong)

/-- 'quaestorlaw07.FieldSums': WHATEVER THE INPUT: true; the input reads as it did. -/
def fieldSumsSpec : ChangeSpec := { name := "fieldSums", fn := fun _ => fun
  | [d1, d2, d3] => { results := [.lit (.bool true)], args := [d1, d2, d3] }
  | _ => none }
def fieldSumsRow : OpenClaim := { program := "ytnkalmclbpgnbaa", sum := "40ccdd02ebe1a707a0f2910e1bcccc59f692587a0ac9803f2d5d18cb43f17fc6", func := "quaestor/quaestorlaw07.FieldSums", spec := "fieldSums", apart := false }
def FieldSumsSaid : Prop := fieldSumsRow.holds Try.pinned (OpenSpec.ofChange fieldSumsSpec)

/-- ITS FALSE NEIGHBOUR: 'it returns false'. Refute it at one input. -/
def fieldSumsWrong : ChangeSpec := { name := "fieldSums", fn := fun _ => fun
  | [d1, d2, d3] => { results := [.lit (.bool false)], args := [d1, d2, d3] }
  | _ => none }
def FieldSumsWrongFalsely : Prop := fieldSumsRow.holds Try.pinned (OpenSpec.ofChange fieldSumsWrong)

/- THE SECOND FORM. 'bulk': how many values and letters a reading holds, each counted each time it is reached (what is shared counts as often as it is met; a slice's spare places count too). A statement '..UptoSaid' is the law's where the arguments, and the package variables that the reading takes, are together of bulk at most 1048576: NARROWER than '..Said'. Prove '..Said' where nothing that the law and all that it calls make is longer than what came in: it says more and counts as full. Else prove '..UptoSaid'. A law counts once. -/
mutual
def uptoBulk {H : Type} : DataW H → Nat
  | .lit (.string bytes) => bytes.length + 1
  | .lit _ => 1
  | .nil => 1
  | .ptr d => uptoBulk d + 1
  | .slice elems spare => uptoBulkAll elems + uptoBulkAll spare + 1
  | .agg parts => uptoBulkAll parts + 1
  | .iface _ d => uptoBulk d + 1
  | .map entries => uptoBulkEntries entries + 1
  | .held _ => 1
def uptoBulkAll {H : Type} : List (DataW H) → Nat
  | [] => 0
  | d :: r => uptoBulk d + uptoBulkAll r
def uptoBulkEntries {H : Type} : List (Lit × DataW H) → Nat
  | [] => 0
  | x :: r => uptoBulkEntry x + uptoBulkEntries r
def uptoBulkEntry {H : Type} : Lit × DataW H → Nat
  | (.string bytes, d) => bytes.length + uptoBulk d + 1
  | (_, d) => uptoBulk d + 1
 end
def uptoSmall : (H : Type) → List (DataW H) → Bool := fun _ ds => decide (uptoBulkAll ds ≤ 1048576)
def OpenSpec.upto (s : _root_.Go.ChangeSpec) : _root_.Go.OpenSpec := { _root_.Go.OpenSpec.ofChange s with cond := some uptoSmall }

/-- 'quaestorlaw07.FieldTables', WHERE WHAT IT READS IS OF BULK AT MOST 1048576: true; the input reads as it did. -/
def fieldTablesUptoRow : OpenClaim := { program := "ytnkalmclbpgnbaa", sum := "40ccdd02ebe1a707a0f2910e1bcccc59f692587a0ac9803f2d5d18cb43f17fc6", func := "quaestor/quaestorlaw07.FieldTables", spec := "fieldTables", apart := false, narrowed := true }
def FieldTablesUptoSaid : Prop := fieldTablesUptoRow.holds Try.pinned (OpenSpec.upto fieldTablesSpec)

/-- 'quaestorlaw07.FieldAsks', WHERE WHAT IT READS IS OF BULK AT MOST 1048576: true; the input reads as it did. -/
def fieldAsksUptoRow : OpenClaim := { program := "ytnkalmclbpgnbaa", sum := "40ccdd02ebe1a707a0f2910e1bcccc59f692587a0ac9803f2d5d18cb43f17fc6", func := "quaestor/quaestorlaw07.FieldAsks", spec := "fieldAsks", apart := false, narrowed := true }
def FieldAsksUptoSaid : Prop := fieldAsksUptoRow.holds Try.pinned (OpenSpec.upto fieldAsksSpec)

/-- 'quaestorlaw07.FieldLaws', WHERE WHAT IT READS IS OF BULK AT MOST 1048576: true; the input reads as it did. -/
def fieldLawsUptoRow : OpenClaim := { program := "ytnkalmclbpgnbaa", sum := "40ccdd02ebe1a707a0f2910e1bcccc59f692587a0ac9803f2d5d18cb43f17fc6", func := "quaestor/quaestorlaw07.FieldLaws", spec := "fieldLaws", apart := false, narrowed := true }
def FieldLawsUptoSaid : Prop := fieldLawsUptoRow.holds Try.pinned (OpenSpec.upto fieldLawsSpec)

/-- 'quaestorlaw07.FieldAny', WHERE WHAT IT READS IS OF BULK AT MOST 1048576: true; the input reads as it did. -/
def fieldAnyUptoRow : OpenClaim := { program := "ytnkalmclbpgnbaa", sum := "40ccdd02ebe1a707a0f2910e1bcccc59f692587a0ac9803f2d5d18cb43f17fc6", func := "quaestor/quaestorlaw07.FieldAny", spec := "fieldAny", apart := false, narrowed := true }
def FieldAnyUptoSaid : Prop := fieldAnyUptoRow.holds Try.pinned (OpenSpec.upto fieldAnySpec)

/-- 'quaestorlaw07.FieldSums', WHERE WHAT IT READS IS OF BULK AT MOST 1048576: true; the input reads as it did. -/
def fieldSumsUptoRow : OpenClaim := { program := "ytnkalmclbpgnbaa", sum := "40ccdd02ebe1a707a0f2910e1bcccc59f692587a0ac9803f2d5d18cb43f17fc6", func := "quaestor/quaestorlaw07.FieldSums", spec := "fieldSums", apart := false, narrowed := true }
def FieldSumsUptoSaid : Prop := fieldSumsUptoRow.holds Try.pinned (OpenSpec.upto fieldSumsSpec)

end Rows
end Go.Proofs.Ytnkalmclbpgnbaa
