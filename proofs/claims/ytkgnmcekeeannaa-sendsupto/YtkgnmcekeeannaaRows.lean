/-
  No cell of these rows narrows 'for every input' (looked for: loops, veiled, ifaces, maps, wideKeys, modest, calm, conditions, laid).
  DERIVED. THE GIVEN ROWS OF THIS SEAT. 10 by the template 'for every input the law returns true; each argument reads behind the call as it read before'; 0 by the template 'total and deterministic' (their statements: YtkgnmcekeeannaaTotals.lean).
  GIVEN WITH THE SEED: the statements are not yours to turn. If you find one false, say at which input.
  Laid BY PROGRAM, IN A SANDBOX (cutbox-rows.mjs): the forced cells as the released guide's own fill.sh prints them over the translation a8e45feb310d5cd6… (all of the seat's roots in one cut). By AI agents, Wed Nov 11 2026. No macro, syntax, notation, axiom, sorry.
-/
import Derived.Test.YtkgnmcekeeannaaChecked
import GoSem.Claim
import GoSem.ClaimJoined
import GoSem.ClaimMapViews
import Derived.JoinedTies
import Derived.KernelRfl
namespace Go.Proofs.Ytkgnmcekeeannaa
/- THE CELL 'sum', in the pinned program and in every row, IS THE sha256 OF THE DUMP (.gsa) THAT YtkgnmcekeeannaaProg.lean LOADS. Nothing in Lean hashes anything: it is a label: what it is worth is what the hold of that sum in a sandbox is worth. -/
noncomputable def Try.pinned : Pinned := { name := "ytkgnmcekeeannaa", sum := "a8e45feb310d5cd681c57da9548a9205752c54fc984c70a1ddb29c1e63c8c16a", checked := Try.checked }
namespace Rows
def none {H : Type} : Left H := { results := [], args := [] }

/-- 'reservelaw.Fields': WHATEVER THE INPUT: true; the input reads as it did. -/
def fieldsSpec : ChangeSpec := { name := "fields", fn := fun _ => fun
  | [d1, d2] => { results := [.lit (.bool true)], args := [d1, d2] }
  | _ => none }
def fieldsRow : OpenClaim := { program := "ytkgnmcekeeannaa", sum := "a8e45feb310d5cd681c57da9548a9205752c54fc984c70a1ddb29c1e63c8c16a", func := "reserve/reservelaw.Fields", spec := "fields", apart := false }
def FieldsSaid : Prop := fieldsRow.holds Try.pinned (OpenSpec.ofChange fieldsSpec)

/-- ITS FALSE NEIGHBOUR: 'it returns false'. Refute it at one input. -/
def fieldsWrong : ChangeSpec := { name := "fields", fn := fun _ => fun
  | [d1, d2] => { results := [.lit (.bool false)], args := [d1, d2] }
  | _ => none }
def FieldsWrongFalsely : Prop := fieldsRow.holds Try.pinned (OpenSpec.ofChange fieldsWrong)

/-- 'reservelaw.Sums': WHATEVER THE INPUT: true; the input reads as it did. -/
def sumsSpec : ChangeSpec := { name := "sums", fn := fun _ => fun
  | [d] => { results := [.lit (.bool true)], args := [d] }
  | _ => none }
def sumsRow : OpenClaim := { program := "ytkgnmcekeeannaa", sum := "a8e45feb310d5cd681c57da9548a9205752c54fc984c70a1ddb29c1e63c8c16a", func := "reserve/reservelaw.Sums", spec := "sums", apart := false }
def SumsSaid : Prop := sumsRow.holds Try.pinned (OpenSpec.ofChange sumsSpec)

/-- ITS FALSE NEIGHBOUR: 'it returns false'. Refute it at one input. -/
def sumsWrong : ChangeSpec := { name := "sums", fn := fun _ => fun
  | [d] => { results := [.lit (.bool false)], args := [d] }
  | _ => none }
def SumsWrongFalsely : Prop := sumsRow.holds Try.pinned (OpenSpec.ofChange sumsWrong)

/-- 'reservelaw.Encodes': WHATEVER THE INPUT: true; the input reads as it did. -/
def encodesSpec : ChangeSpec := { name := "encodes", fn := fun _ => fun
  | [d1, d2, d3] => { results := [.lit (.bool true)], args := [d1, d2, d3] }
  | _ => none }
def encodesRow : OpenClaim := { program := "ytkgnmcekeeannaa", sum := "a8e45feb310d5cd681c57da9548a9205752c54fc984c70a1ddb29c1e63c8c16a", func := "reserve/reservelaw.Encodes", spec := "encodes", apart := false }
def EncodesSaid : Prop := encodesRow.holds Try.pinned (OpenSpec.ofChange encodesSpec)

/-- ITS FALSE NEIGHBOUR: 'it returns false'. Refute it at one input. -/
def encodesWrong : ChangeSpec := { name := "encodes", fn := fun _ => fun
  | [d1, d2, d3] => { results := [.lit (.bool false)], args := [d1, d2, d3] }
  | _ => none }
def EncodesWrongFalsely : Prop := encodesRow.holds Try.pinned (OpenSpec.ofChange encodesWrong)

/-- 'reservelaw.Decodes': WHATEVER THE INPUT: true; the input reads as it did. -/
def decodesSpec : ChangeSpec := { name := "decodes", fn := fun _ => fun
  | [d1, d2, d3] => { results := [.lit (.bool true)], args := [d1, d2, d3] }
  | _ => none }
def decodesRow : OpenClaim := { program := "ytkgnmcekeeannaa", sum := "a8e45feb310d5cd681c57da9548a9205752c54fc984c70a1ddb29c1e63c8c16a", func := "reserve/reservelaw.Decodes", spec := "decodes", apart := false }
def DecodesSaid : Prop := decodesRow.holds Try.pinned (OpenSpec.ofChange decodesSpec)

/-- ITS FALSE NEIGHBOUR: 'it returns false'. Refute it at one input. -/
def decodesWrong : ChangeSpec := { name := "decodes", fn := fun _ => fun
  | [d1, d2, d3] => { results := [.lit (.bool false)], args := [d1, d2, d3] }
  | _ => none }
def DecodesWrongFalsely : Prop := decodesRow.holds Try.pinned (OpenSpec.ofChange decodesWrong)

/-- 'reservelaw.Writes': WHATEVER THE INPUT: true; the input reads as it did. -/
def writesSpec : ChangeSpec := { name := "writes", fn := fun _ => fun
  | [d] => { results := [.lit (.bool true)], args := [d] }
  | _ => none }
def writesRow : OpenClaim := { program := "ytkgnmcekeeannaa", sum := "a8e45feb310d5cd681c57da9548a9205752c54fc984c70a1ddb29c1e63c8c16a", func := "reserve/reservelaw.Writes", spec := "writes", apart := false }
def WritesSaid : Prop := writesRow.holds Try.pinned (OpenSpec.ofChange writesSpec)

/-- ITS FALSE NEIGHBOUR: 'it returns false'. Refute it at one input. -/
def writesWrong : ChangeSpec := { name := "writes", fn := fun _ => fun
  | [d] => { results := [.lit (.bool false)], args := [d] }
  | _ => none }
def WritesWrongFalsely : Prop := writesRow.holds Try.pinned (OpenSpec.ofChange writesWrong)

/-- 'reservelaw.Reads': WHATEVER THE INPUT: true; the input reads as it did. -/
def readsSpec : ChangeSpec := { name := "reads", fn := fun _ => fun
  | [d1, d2] => { results := [.lit (.bool true)], args := [d1, d2] }
  | _ => none }
def readsRow : OpenClaim := { program := "ytkgnmcekeeannaa", sum := "a8e45feb310d5cd681c57da9548a9205752c54fc984c70a1ddb29c1e63c8c16a", func := "reserve/reservelaw.Reads", spec := "reads", apart := false }
def ReadsSaid : Prop := readsRow.holds Try.pinned (OpenSpec.ofChange readsSpec)

/-- ITS FALSE NEIGHBOUR: 'it returns false'. Refute it at one input. -/
def readsWrong : ChangeSpec := { name := "reads", fn := fun _ => fun
  | [d1, d2] => { results := [.lit (.bool false)], args := [d1, d2] }
  | _ => none }
def ReadsWrongFalsely : Prop := readsRow.holds Try.pinned (OpenSpec.ofChange readsWrong)

/-- 'reservelaw.Sends': WHATEVER THE INPUT: true; the input reads as it did. -/
def sendsSpec : ChangeSpec := { name := "sends", fn := fun _ => fun
  | [d1, d2, d3] => { results := [.lit (.bool true)], args := [d1, d2, d3] }
  | _ => none }
def sendsRow : OpenClaim := { program := "ytkgnmcekeeannaa", sum := "a8e45feb310d5cd681c57da9548a9205752c54fc984c70a1ddb29c1e63c8c16a", func := "reserve/reservelaw.Sends", spec := "sends", apart := false }
def SendsSaid : Prop := sendsRow.holds Try.pinned (OpenSpec.ofChange sendsSpec)

/-- ITS FALSE NEIGHBOUR: 'it returns false'. Refute it at one input. -/
def sendsWrong : ChangeSpec := { name := "sends", fn := fun _ => fun
  | [d1, d2, d3] => { results := [.lit (.bool false)], args := [d1, d2, d3] }
  | _ => none }
def SendsWrongFalsely : Prop := sendsRow.holds Try.pinned (OpenSpec.ofChange sendsWrong)

/-- 'reservekeep.Ring': WHATEVER THE INPUT: true; the input reads as it did. -/
def ringSpec : ChangeSpec := { name := "ring", fn := fun _ => fun
  | [d1, d2, d3] => { results := [.lit (.bool true)], args := [d1, d2, d3] }
  | _ => none }
def ringRow : OpenClaim := { program := "ytkgnmcekeeannaa", sum := "a8e45feb310d5cd681c57da9548a9205752c54fc984c70a1ddb29c1e63c8c16a", func := "reserve/reservekeep.Ring", spec := "ring", apart := false }
def RingSaid : Prop := ringRow.holds Try.pinned (OpenSpec.ofChange ringSpec)

/-- ITS FALSE NEIGHBOUR: 'it returns false'. Refute it at one input. -/
def ringWrong : ChangeSpec := { name := "ring", fn := fun _ => fun
  | [d1, d2, d3] => { results := [.lit (.bool false)], args := [d1, d2, d3] }
  | _ => none }
def RingWrongFalsely : Prop := ringRow.holds Try.pinned (OpenSpec.ofChange ringWrong)

/-- 'reservekeep.Blend': WHATEVER THE INPUT: true; the input reads as it did. -/
def blendSpec : ChangeSpec := { name := "blend", fn := fun _ => fun
  | [d1, d2, d3, d4, d5] => { results := [.lit (.bool true)], args := [d1, d2, d3, d4, d5] }
  | _ => none }
def blendRow : OpenClaim := { program := "ytkgnmcekeeannaa", sum := "a8e45feb310d5cd681c57da9548a9205752c54fc984c70a1ddb29c1e63c8c16a", func := "reserve/reservekeep.Blend", spec := "blend", apart := false }
def BlendSaid : Prop := blendRow.holds Try.pinned (OpenSpec.ofChange blendSpec)

/-- ITS FALSE NEIGHBOUR: 'it returns false'. Refute it at one input. -/
def blendWrong : ChangeSpec := { name := "blend", fn := fun _ => fun
  | [d1, d2, d3, d4, d5] => { results := [.lit (.bool false)], args := [d1, d2, d3, d4, d5] }
  | _ => none }
def BlendWrongFalsely : Prop := blendRow.holds Try.pinned (OpenSpec.ofChange blendWrong)

/-- 'reservekeep.AnyK': WHATEVER THE INPUT: true; the input reads as it did. -/
def anyKSpec : ChangeSpec := { name := "anyK", fn := fun _ => fun
  | [d1, d2, d3, d4] => { results := [.lit (.bool true)], args := [d1, d2, d3, d4] }
  | _ => none }
def anyKRow : OpenClaim := { program := "ytkgnmcekeeannaa", sum := "a8e45feb310d5cd681c57da9548a9205752c54fc984c70a1ddb29c1e63c8c16a", func := "reserve/reservekeep.AnyK", spec := "anyK", apart := false }
def AnyKSaid : Prop := anyKRow.holds Try.pinned (OpenSpec.ofChange anyKSpec)

/-- ITS FALSE NEIGHBOUR: 'it returns false'. Refute it at one input. -/
def anyKWrong : ChangeSpec := { name := "anyK", fn := fun _ => fun
  | [d1, d2, d3, d4] => { results := [.lit (.bool false)], args := [d1, d2, d3, d4] }
  | _ => none }
def AnyKWrongFalsely : Prop := anyKRow.holds Try.pinned (OpenSpec.ofChange anyKWrong)

/- THE SECOND FORM. 'bulk': how many values and letters a reading holds, each counted each time it is reached (what is shared counts as often as it is met; a slice's spare places count too). A statement '..UptoSaid' is the law's where the arguments, and the package variables that the reading takes, are together of bulk at most 1048576: NARROWER than '..Said'. Prove '..Said' where nothing that the law and all that it calls make is longer than what came in: it says more and counts as full. Else prove '..UptoSaid'. A law counts once. -/
mutual
def uptoBulk {H : Type} : DataW H → Nat
  | .lit (.string bytes) => bytes.length + 1
  | .lit _ => 1
  | .nil => 1
  | .ptr d => uptoBulk d + 1
  | .slice elems spare => uptoBulkAll elems + uptoBulkAll spare + 1
  | .agg parts => uptoBulkAll parts + 1
  | .iface _ d => uptoBulk d + 1
  | .map entries => uptoBulkEntries entries + 1
  | .held _ => 1
def uptoBulkAll {H : Type} : List (DataW H) → Nat
  | [] => 0
  | d :: r => uptoBulk d + uptoBulkAll r
def uptoBulkEntries {H : Type} : List (Lit × DataW H) → Nat
  | [] => 0
  | x :: r => uptoBulkEntry x + uptoBulkEntries r
def uptoBulkEntry {H : Type} : Lit × DataW H → Nat
  | (.string bytes, d) => bytes.length + uptoBulk d + 1
  | (_, d) => uptoBulk d + 1
 end
def uptoSmall : (H : Type) → List (DataW H) → Bool := fun _ ds => decide (uptoBulkAll ds ≤ 1048576)
def OpenSpec.upto (s : _root_.Go.ChangeSpec) : _root_.Go.OpenSpec := { _root_.Go.OpenSpec.ofChange s with cond := some uptoSmall }

/-- 'reservelaw.Fields', WHERE WHAT IT READS IS OF BULK AT MOST 1048576: true; the input reads as it did. -/
def fieldsUptoRow : OpenClaim := { program := "ytkgnmcekeeannaa", sum := "a8e45feb310d5cd681c57da9548a9205752c54fc984c70a1ddb29c1e63c8c16a", func := "reserve/reservelaw.Fields", spec := "fields", apart := false, narrowed := true }
def FieldsUptoSaid : Prop := fieldsUptoRow.holds Try.pinned (OpenSpec.upto fieldsSpec)

/-- 'reservelaw.Sums', WHERE WHAT IT READS IS OF BULK AT MOST 1048576: true; the input reads as it did. -/
def sumsUptoRow : OpenClaim := { program := "ytkgnmcekeeannaa", sum := "a8e45feb310d5cd681c57da9548a9205752c54fc984c70a1ddb29c1e63c8c16a", func := "reserve/reservelaw.Sums", spec := "sums", apart := false, narrowed := true }
def SumsUptoSaid : Prop := sumsUptoRow.holds Try.pinned (OpenSpec.upto sumsSpec)

/-- 'reservelaw.Encodes', WHERE WHAT IT READS IS OF BULK AT MOST 1048576: true; the input reads as it did. -/
def encodesUptoRow : OpenClaim := { program := "ytkgnmcekeeannaa", sum := "a8e45feb310d5cd681c57da9548a9205752c54fc984c70a1ddb29c1e63c8c16a", func := "reserve/reservelaw.Encodes", spec := "encodes", apart := false, narrowed := true }
def EncodesUptoSaid : Prop := encodesUptoRow.holds Try.pinned (OpenSpec.upto encodesSpec)

/-- 'reservelaw.Decodes', WHERE WHAT IT READS IS OF BULK AT MOST 1048576: true; the input reads as it did. -/
def decodesUptoRow : OpenClaim := { program := "ytkgnmcekeeannaa", sum := "a8e45feb310d5cd681c57da9548a9205752c54fc984c70a1ddb29c1e63c8c16a", func := "reserve/reservelaw.Decodes", spec := "decodes", apart := false, narrowed := true }
def DecodesUptoSaid : Prop := decodesUptoRow.holds Try.pinned (OpenSpec.upto decodesSpec)

/-- 'reservelaw.Writes', WHERE WHAT IT READS IS OF BULK AT MOST 1048576: true; the input reads as it did. -/
def writesUptoRow : OpenClaim := { program := "ytkgnmcekeeannaa", sum := "a8e45feb310d5cd681c57da9548a9205752c54fc984c70a1ddb29c1e63c8c16a", func := "reserve/reservelaw.Writes", spec := "writes", apart := false, narrowed := true }
def WritesUptoSaid : Prop := writesUptoRow.holds Try.pinned (OpenSpec.upto writesSpec)

/-- 'reservelaw.Reads', WHERE WHAT IT READS IS OF BULK AT MOST 1048576: true; the input reads as it did. -/
def readsUptoRow : OpenClaim := { program := "ytkgnmcekeeannaa", sum := "a8e45feb310d5cd681c57da9548a9205752c54fc984c70a1ddb29c1e63c8c16a", func := "reserve/reservelaw.Reads", spec := "reads", apart := false, narrowed := true }
def ReadsUptoSaid : Prop := readsUptoRow.holds Try.pinned (OpenSpec.upto readsSpec)

/-- 'reservelaw.Sends', WHERE WHAT IT READS IS OF BULK AT MOST 1048576: true; the input reads as it did. -/
def sendsUptoRow : OpenClaim := { program := "ytkgnmcekeeannaa", sum := "a8e45feb310d5cd681c57da9548a9205752c54fc984c70a1ddb29c1e63c8c16a", func := "reserve/reservelaw.Sends", spec := "sends", apart := false, narrowed := true }
def SendsUptoSaid : Prop := sendsUptoRow.holds Try.pinned (OpenSpec.upto sendsSpec)

/-- 'reservekeep.Ring', WHERE WHAT IT READS IS OF BULK AT MOST 1048576: true; the input reads as it did. -/
def ringUptoRow : OpenClaim := { program := "ytkgnmcekeeannaa", sum := "a8e45feb310d5cd681c57da9548a9205752c54fc984c70a1ddb29c1e63c8c16a", func := "reserve/reservekeep.Ring", spec := "ring", apart := false, narrowed := true }
def RingUptoSaid : Prop := ringUptoRow.holds Try.pinned (OpenSpec.upto ringSpec)

/-- 'reservekeep.Blend', WHERE WHAT IT READS IS OF BULK AT MOST 1048576: true; the input reads as it did. -/
def blendUptoRow : OpenClaim := { program := "ytkgnmcekeeannaa", sum := "a8e45feb310d5cd681c57da9548a9205752c54fc984c70a1ddb29c1e63c8c16a", func := "reserve/reservekeep.Blend", spec := "blend", apart := false, narrowed := true }
def BlendUptoSaid : Prop := blendUptoRow.holds Try.pinned (OpenSpec.upto blendSpec)

/-- 'reservekeep.AnyK', WHERE WHAT IT READS IS OF BULK AT MOST 1048576: true; the input reads as it did. -/
def anyKUptoRow : OpenClaim := { program := "ytkgnmcekeeannaa", sum := "a8e45feb310d5cd681c57da9548a9205752c54fc984c70a1ddb29c1e63c8c16a", func := "reserve/reservekeep.AnyK", spec := "anyK", apart := false, narrowed := true }
def AnyKUptoSaid : Prop := anyKUptoRow.holds Try.pinned (OpenSpec.upto anyKSpec)

end Rows
end Go.Proofs.Ytkgnmcekeeannaa
