/-
  No cell of these rows narrows 'for every input' (looked for: loops, veiled, ifaces, maps, wideKeys, modest, calm, conditions, laid).
  DERIVED. THE GIVEN ROWS OF THIS SEAT. 10 by the template 'for every input the law returns true; each argument reads behind the call as it read before'; 0 by the template 'total and deterministic' (their statements: YtjkhbjgfoopomaaTotals.lean).
  GIVEN WITH THE SEED: the statements are not yours to turn. If you find one false, say at which input.
  Laid BY PROGRAM, IN A SANDBOX (cutbox-rows.mjs): the forced cells as the released guide's own fill.sh prints them over the translation 1aa1bfcc0e38d250… (all of the seat's roots in one cut). By AI agents, Wed Nov 11 2026. No macro, syntax, notation, axiom, sorry.
-/
import Derived.Test.YtjkhbjgfoopomaaChecked
import GoSem.Claim
import GoSem.ClaimJoined
import GoSem.ClaimMapViews
import Derived.JoinedTies
import Derived.KernelRfl
namespace Go.Proofs.Ytjkhbjgfoopomaa
/- THE CELL 'sum', in the pinned program and in every row, IS THE sha256 OF THE DUMP (.gsa) THAT YtjkhbjgfoopomaaProg.lean LOADS. Nothing in Lean hashes anything: it is a label: what it is worth is what the hold of that sum in a sandbox is worth. -/
noncomputable def Try.pinned : Pinned := { name := "ytjkhbjgfoopomaa", sum := "1aa1bfcc0e38d2501e122a54e583703f5affddd6b8e97b4c5586e281282ba509", checked := Try.checked }
namespace Rows
def none {H : Type} : Left H := { results := [], args := [] }

/-- 'escrowlaw.Sums': WHATEVER THE INPUT: true; the input reads as it did. -/
def sumsSpec : ChangeSpec := { name := "sums", fn := fun _ => fun
  | [d] => { results := [.lit (.bool true)], args := [d] }
  | _ => none }
def sumsRow : OpenClaim := { program := "ytjkhbjgfoopomaa", sum := "1aa1bfcc0e38d2501e122a54e583703f5affddd6b8e97b4c5586e281282ba509", func := "escrow/escrowlaw.Sums", spec := "sums", apart := false }
def SumsSaid : Prop := sumsRow.holds Try.pinned (OpenSpec.ofChange sumsSpec)

/-- ITS FALSE NEIGHBOUR: 'it returns false'. Refute it at one input. -/
def sumsWrong : ChangeSpec := { name := "sums", fn := fun _ => fun
  | [d] => { results := [.lit (.bool false)], args := [d] }
  | _ => none }
def SumsWrongFalsely : Prop := sumsRow.holds Try.pinned (OpenSpec.ofChange sumsWrong)

/-- 'escrowlaw.Encodes': WHATEVER THE INPUT: true; the input reads as it did. -/
def encodesSpec : ChangeSpec := { name := "encodes", fn := fun _ => fun
  | [d] => { results := [.lit (.bool true)], args := [d] }
  | _ => none }
def encodesRow : OpenClaim := { program := "ytjkhbjgfoopomaa", sum := "1aa1bfcc0e38d2501e122a54e583703f5affddd6b8e97b4c5586e281282ba509", func := "escrow/escrowlaw.Encodes", spec := "encodes", apart := false }
def EncodesSaid : Prop := encodesRow.holds Try.pinned (OpenSpec.ofChange encodesSpec)

/-- ITS FALSE NEIGHBOUR: 'it returns false'. Refute it at one input. -/
def encodesWrong : ChangeSpec := { name := "encodes", fn := fun _ => fun
  | [d] => { results := [.lit (.bool false)], args := [d] }
  | _ => none }
def EncodesWrongFalsely : Prop := encodesRow.holds Try.pinned (OpenSpec.ofChange encodesWrong)

/-- 'escrowlaw.Decodes': WHATEVER THE INPUT: true; the input reads as it did. -/
def decodesSpec : ChangeSpec := { name := "decodes", fn := fun _ => fun
  | [d] => { results := [.lit (.bool true)], args := [d] }
  | _ => none }
def decodesRow : OpenClaim := { program := "ytjkhbjgfoopomaa", sum := "1aa1bfcc0e38d2501e122a54e583703f5affddd6b8e97b4c5586e281282ba509", func := "escrow/escrowlaw.Decodes", spec := "decodes", apart := false }
def DecodesSaid : Prop := decodesRow.holds Try.pinned (OpenSpec.ofChange decodesSpec)

/-- ITS FALSE NEIGHBOUR: 'it returns false'. Refute it at one input. -/
def decodesWrong : ChangeSpec := { name := "decodes", fn := fun _ => fun
  | [d] => { results := [.lit (.bool false)], args := [d] }
  | _ => none }
def DecodesWrongFalsely : Prop := decodesRow.holds Try.pinned (OpenSpec.ofChange decodesWrong)

/-- 'escrowkeep.Coded': WHATEVER THE INPUT: true; the input reads as it did. -/
def codedSpec : ChangeSpec := { name := "coded", fn := fun _ => fun
  | [d1, d2] => { results := [.lit (.bool true)], args := [d1, d2] }
  | _ => none }
def codedRow : OpenClaim := { program := "ytjkhbjgfoopomaa", sum := "1aa1bfcc0e38d2501e122a54e583703f5affddd6b8e97b4c5586e281282ba509", func := "escrow/escrowkeep.Coded", spec := "coded", apart := false }
def CodedSaid : Prop := codedRow.holds Try.pinned (OpenSpec.ofChange codedSpec)

/-- ITS FALSE NEIGHBOUR: 'it returns false'. Refute it at one input. -/
def codedWrong : ChangeSpec := { name := "coded", fn := fun _ => fun
  | [d1, d2] => { results := [.lit (.bool false)], args := [d1, d2] }
  | _ => none }
def CodedWrongFalsely : Prop := codedRow.holds Try.pinned (OpenSpec.ofChange codedWrong)

/-- 'escrowkeep.Flipped': WHATEVER THE INPUT: true; the input reads as it did. -/
def flippedSpec : ChangeSpec := { name := "flipped", fn := fun _ => fun
  | [d1, d2, d3] => { results := [.lit (.bool true)], args := [d1, d2, d3] }
  | _ => none }
def flippedRow : OpenClaim := { program := "ytjkhbjgfoopomaa", sum := "1aa1bfcc0e38d2501e122a54e583703f5affddd6b8e97b4c5586e281282ba509", func := "escrow/escrowkeep.Flipped", spec := "flipped", apart := false }
def FlippedSaid : Prop := flippedRow.holds Try.pinned (OpenSpec.ofChange flippedSpec)

/-- ITS FALSE NEIGHBOUR: 'it returns false'. Refute it at one input. -/
def flippedWrong : ChangeSpec := { name := "flipped", fn := fun _ => fun
  | [d1, d2, d3] => { results := [.lit (.bool false)], args := [d1, d2, d3] }
  | _ => none }
def FlippedWrongFalsely : Prop := flippedRow.holds Try.pinned (OpenSpec.ofChange flippedWrong)

/-- 'escrowkeep.Joined': WHATEVER THE INPUT: true; the input reads as it did. -/
def joinedSpec : ChangeSpec := { name := "joined", fn := fun _ => fun
  | [d] => { results := [.lit (.bool true)], args := [d] }
  | _ => none }
def joinedRow : OpenClaim := { program := "ytjkhbjgfoopomaa", sum := "1aa1bfcc0e38d2501e122a54e583703f5affddd6b8e97b4c5586e281282ba509", func := "escrow/escrowkeep.Joined", spec := "joined", apart := false }
def JoinedSaid : Prop := joinedRow.holds Try.pinned (OpenSpec.ofChange joinedSpec)

/-- ITS FALSE NEIGHBOUR: 'it returns false'. Refute it at one input. -/
def joinedWrong : ChangeSpec := { name := "joined", fn := fun _ => fun
  | [d] => { results := [.lit (.bool false)], args := [d] }
  | _ => none }
def JoinedWrongFalsely : Prop := joinedRow.holds Try.pinned (OpenSpec.ofChange joinedWrong)

/-- 'escrowkeep.Prompt': WHATEVER THE INPUT: true; the input reads as it did. -/
def promptSpec : ChangeSpec := { name := "prompt", fn := fun _ => fun
  | [d1, d2, d3] => { results := [.lit (.bool true)], args := [d1, d2, d3] }
  | _ => none }
def promptRow : OpenClaim := { program := "ytjkhbjgfoopomaa", sum := "1aa1bfcc0e38d2501e122a54e583703f5affddd6b8e97b4c5586e281282ba509", func := "escrow/escrowkeep.Prompt", spec := "prompt", apart := false }
def PromptSaid : Prop := promptRow.holds Try.pinned (OpenSpec.ofChange promptSpec)

/-- ITS FALSE NEIGHBOUR: 'it returns false'. Refute it at one input. -/
def promptWrong : ChangeSpec := { name := "prompt", fn := fun _ => fun
  | [d1, d2, d3] => { results := [.lit (.bool false)], args := [d1, d2, d3] }
  | _ => none }
def PromptWrongFalsely : Prop := promptRow.holds Try.pinned (OpenSpec.ofChange promptWrong)

/-- 'escrowkeep.Late': WHATEVER THE INPUT: true; the input reads as it did. -/
def lateSpec : ChangeSpec := { name := "late", fn := fun _ => fun
  | [d1, d2, d3] => { results := [.lit (.bool true)], args := [d1, d2, d3] }
  | _ => none }
def lateRow : OpenClaim := { program := "ytjkhbjgfoopomaa", sum := "1aa1bfcc0e38d2501e122a54e583703f5affddd6b8e97b4c5586e281282ba509", func := "escrow/escrowkeep.Late", spec := "late", apart := false }
def LateSaid : Prop := lateRow.holds Try.pinned (OpenSpec.ofChange lateSpec)

/-- ITS FALSE NEIGHBOUR: 'it returns false'. Refute it at one input. -/
def lateWrong : ChangeSpec := { name := "late", fn := fun _ => fun
  | [d1, d2, d3] => { results := [.lit (.bool false)], args := [d1, d2, d3] }
  | _ => none }
def LateWrongFalsely : Prop := lateRow.holds Try.pinned (OpenSpec.ofChange lateWrong)

/-- 'escrowkeep.Reborn': WHATEVER THE INPUT: true; the input reads as it did. -/
def rebornSpec : ChangeSpec := { name := "reborn", fn := fun _ => fun
  | [d1, d2] => { results := [.lit (.bool true)], args := [d1, d2] }
  | _ => none }
def rebornRow : OpenClaim := { program := "ytjkhbjgfoopomaa", sum := "1aa1bfcc0e38d2501e122a54e583703f5affddd6b8e97b4c5586e281282ba509", func := "escrow/escrowkeep.Reborn", spec := "reborn", apart := false }
def RebornSaid : Prop := rebornRow.holds Try.pinned (OpenSpec.ofChange rebornSpec)

/-- ITS FALSE NEIGHBOUR: 'it returns false'. Refute it at one input. -/
def rebornWrong : ChangeSpec := { name := "reborn", fn := fun _ => fun
  | [d1, d2] => { results := [.lit (.bool false)], args := [d1, d2] }
  | _ => none }
def RebornWrongFalsely : Prop := rebornRow.holds Try.pinned (OpenSpec.ofChange rebornWrong)

/-- 'escrowkeep.Ahead': WHATEVER THE INPUT: true; the input reads as it did. -/
def aheadSpec : ChangeSpec := { name := "ahead", fn := fun _ => fun
  | [d1, d2, d3, d4] => { results := [.lit (.bool true)], args := [d1, d2, d3, d4] }
  | _ => none }
def aheadRow : OpenClaim := { program := "ytjkhbjgfoopomaa", sum := "1aa1bfcc0e38d2501e122a54e583703f5affddd6b8e97b4c5586e281282ba509", func := "escrow/escrowkeep.Ahead", spec := "ahead", apart := false }
def AheadSaid : Prop := aheadRow.holds Try.pinned (OpenSpec.ofChange aheadSpec)

/-- ITS FALSE NEIGHBOUR: 'it returns false'. Refute it at one input. -/
def aheadWrong : ChangeSpec := { name := "ahead", fn := fun _ => fun
  | [d1, d2, d3, d4] => { results := [.lit (.bool false)], args := [d1, d2, d3, d4] }
  | _ => none }
def AheadWrongFalsely : Prop := aheadRow.holds Try.pinned (OpenSpec.ofChange aheadWrong)

/- THE SECOND FORM. 'bulk': how many values and letters a reading holds, each counted each time it is reached (what is shared counts as often as it is met; a slice's spare places count too). A statement '..UptoSaid' is the law's where the arguments, and the package variables that the reading takes, are together of bulk at most 1048576: NARROWER than '..Said'. Prove '..Said' where nothing that the law and all that it calls make is longer than what came in: it says more and counts as full. Else prove '..UptoSaid'. A law counts once. -/
mutual
def uptoBulk {H : Type} : DataW H → Nat
  | .lit (.string bytes) => bytes.length + 1
  | .lit _ => 1
  | .nil => 1
  | .ptr d => uptoBulk d + 1
  | .slice elems spare => uptoBulkAll elems + uptoBulkAll spare + 1
  | .agg parts => uptoBulkAll parts + 1
  | .iface _ d => uptoBulk d + 1
  | .map entries => uptoBulkEntries entries + 1
  | .held _ => 1
def uptoBulkAll {H : Type} : List (DataW H) → Nat
  | [] => 0
  | d :: r => uptoBulk d + uptoBulkAll r
def uptoBulkEntries {H : Type} : List (Lit × DataW H) → Nat
  | [] => 0
  | x :: r => uptoBulkEntry x + uptoBulkEntries r
def uptoBulkEntry {H : Type} : Lit × DataW H → Nat
  | (.string bytes, d) => bytes.length + uptoBulk d + 1
  | (_, d) => uptoBulk d + 1
 end
def uptoSmall : (H : Type) → List (DataW H) → Bool := fun _ ds => decide (uptoBulkAll ds ≤ 1048576)
def OpenSpec.upto (s : _root_.Go.ChangeSpec) : _root_.Go.OpenSpec := { _root_.Go.OpenSpec.ofChange s with cond := some uptoSmall }

/-- 'escrowlaw.Sums', WHERE WHAT IT READS IS OF BULK AT MOST 1048576: true; the input reads as it did. -/
def sumsUptoRow : OpenClaim := { program := "ytjkhbjgfoopomaa", sum := "1aa1bfcc0e38d2501e122a54e583703f5affddd6b8e97b4c5586e281282ba509", func := "escrow/escrowlaw.Sums", spec := "sums", apart := false, narrowed := true }
def SumsUptoSaid : Prop := sumsUptoRow.holds Try.pinned (OpenSpec.upto sumsSpec)

/-- 'escrowlaw.Encodes', WHERE WHAT IT READS IS OF BULK AT MOST 1048576: true; the input reads as it did. -/
def encodesUptoRow : OpenClaim := { program := "ytjkhbjgfoopomaa", sum := "1aa1bfcc0e38d2501e122a54e583703f5affddd6b8e97b4c5586e281282ba509", func := "escrow/escrowlaw.Encodes", spec := "encodes", apart := false, narrowed := true }
def EncodesUptoSaid : Prop := encodesUptoRow.holds Try.pinned (OpenSpec.upto encodesSpec)

/-- 'escrowlaw.Decodes', WHERE WHAT IT READS IS OF BULK AT MOST 1048576: true; the input reads as it did. -/
def decodesUptoRow : OpenClaim := { program := "ytjkhbjgfoopomaa", sum := "1aa1bfcc0e38d2501e122a54e583703f5affddd6b8e97b4c5586e281282ba509", func := "escrow/escrowlaw.Decodes", spec := "decodes", apart := false, narrowed := true }
def DecodesUptoSaid : Prop := decodesUptoRow.holds Try.pinned (OpenSpec.upto decodesSpec)

/-- 'escrowkeep.Coded', WHERE WHAT IT READS IS OF BULK AT MOST 1048576: true; the input reads as it did. -/
def codedUptoRow : OpenClaim := { program := "ytjkhbjgfoopomaa", sum := "1aa1bfcc0e38d2501e122a54e583703f5affddd6b8e97b4c5586e281282ba509", func := "escrow/escrowkeep.Coded", spec := "coded", apart := false, narrowed := true }
def CodedUptoSaid : Prop := codedUptoRow.holds Try.pinned (OpenSpec.upto codedSpec)

/-- 'escrowkeep.Flipped', WHERE WHAT IT READS IS OF BULK AT MOST 1048576: true; the input reads as it did. -/
def flippedUptoRow : OpenClaim := { program := "ytjkhbjgfoopomaa", sum := "1aa1bfcc0e38d2501e122a54e583703f5affddd6b8e97b4c5586e281282ba509", func := "escrow/escrowkeep.Flipped", spec := "flipped", apart := false, narrowed := true }
def FlippedUptoSaid : Prop := flippedUptoRow.holds Try.pinned (OpenSpec.upto flippedSpec)

/-- 'escrowkeep.Joined', WHERE WHAT IT READS IS OF BULK AT MOST 1048576: true; the input reads as it did. -/
def joinedUptoRow : OpenClaim := { program := "ytjkhbjgfoopomaa", sum := "1aa1bfcc0e38d2501e122a54e583703f5affddd6b8e97b4c5586e281282ba509", func := "escrow/escrowkeep.Joined", spec := "joined", apart := false, narrowed := true }
def JoinedUptoSaid : Prop := joinedUptoRow.holds Try.pinned (OpenSpec.upto joinedSpec)

/-- 'escrowkeep.Prompt', WHERE WHAT IT READS IS OF BULK AT MOST 1048576: true; the input reads as it did. -/
def promptUptoRow : OpenClaim := { program := "ytjkhbjgfoopomaa", sum := "1aa1bfcc0e38d2501e122a54e583703f5affddd6b8e97b4c5586e281282ba509", func := "escrow/escrowkeep.Prompt", spec := "prompt", apart := false, narrowed := true }
def PromptUptoSaid : Prop := promptUptoRow.holds Try.pinned (OpenSpec.upto promptSpec)

/-- 'escrowkeep.Late', WHERE WHAT IT READS IS OF BULK AT MOST 1048576: true; the input reads as it did. -/
def lateUptoRow : OpenClaim := { program := "ytjkhbjgfoopomaa", sum := "1aa1bfcc0e38d2501e122a54e583703f5affddd6b8e97b4c5586e281282ba509", func := "escrow/escrowkeep.Late", spec := "late", apart := false, narrowed := true }
def LateUptoSaid : Prop := lateUptoRow.holds Try.pinned (OpenSpec.upto lateSpec)

/-- 'escrowkeep.Reborn', WHERE WHAT IT READS IS OF BULK AT MOST 1048576: true; the input reads as it did. -/
def rebornUptoRow : OpenClaim := { program := "ytjkhbjgfoopomaa", sum := "1aa1bfcc0e38d2501e122a54e583703f5affddd6b8e97b4c5586e281282ba509", func := "escrow/escrowkeep.Reborn", spec := "reborn", apart := false, narrowed := true }
def RebornUptoSaid : Prop := rebornUptoRow.holds Try.pinned (OpenSpec.upto rebornSpec)

/-- 'escrowkeep.Ahead', WHERE WHAT IT READS IS OF BULK AT MOST 1048576: true; the input reads as it did. -/
def aheadUptoRow : OpenClaim := { program := "ytjkhbjgfoopomaa", sum := "1aa1bfcc0e38d2501e122a54e583703f5affddd6b8e97b4c5586e281282ba509", func := "escrow/escrowkeep.Ahead", spec := "ahead", apart := false, narrowed := true }
def AheadUptoSaid : Prop := aheadUptoRow.holds Try.pinned (OpenSpec.upto aheadSpec)

end Rows
end Go.Proofs.Ytjkhbjgfoopomaa
