/-
  No cell of these rows narrows 'for every input' (looked for: loops, veiled, ifaces, maps, wideKeys, modest, calm, conditions, laid).
  DERIVED. THE GIVEN ROWS OF THIS SEAT. 5 by the template 'for every input the law returns true; each argument reads behind the call as it read before'; 0 by the template 'total and deterministic' (their statements: YtekbnpocmmfkkaaTotals.lean).
  GIVEN WITH THE SEED: the statements are not yours to turn. If you find one false, say at which input.
  Laid BY PROGRAM, IN A SANDBOX (cutbox-rows.mjs): the forced cells as the released guide's own fill.sh prints them over the translation 746434cfd8d8152f… (all of the seat's roots in one cut). By AI agents, Wed Nov 11 2026. No macro, syntax, notation, axiom, sorry.
-/
import Derived.Test.YtekbnpocmmfkkaaChecked
import GoSem.Claim
import GoSem.ClaimJoined
import GoSem.ClaimMapViews
import Derived.JoinedTies
import Derived.KernelRfl
namespace Go.Proofs.Ytekbnpocmmfkkaa
/- THE CELL 'sum', in the pinned program and in every row, IS THE sha256 OF THE DUMP (.gsa) THAT YtekbnpocmmfkkaaProg.lean LOADS. Nothing in Lean hashes anything: it is a label: what it is worth is what the hold of that sum in a sandbox is worth. -/
noncomputable def Try.pinned : Pinned := { name := "ytekbnpocmmfkkaa", sum := "746434cfd8d8152f87790edb9e0d82c82d9fcef5c3eaee4e65bdae3a7bb6b73a", checked := Try.checked }
namespace Rows
def none {H : Type} : Left H := { results := [], args := [] }

/-- 'jacinthlaw11.ChannelPlays': WHATEVER THE INPUT: true; the input reads as it did. -/
def channelPlaysSpec : ChangeSpec := { name := "channelPlays", fn := fun _ => fun
  | [d1, d2] => { results := [.lit (.bool true)], args := [d1, d2] }
  | _ => none }
def channelPlaysRow : OpenClaim := { program := "ytekbnpocmmfkkaa", sum := "746434cfd8d8152f87790edb9e0d82c82d9fcef5c3eaee4e65bdae3a7bb6b73a", func := "jacinth/jacinthlaw11.ChannelPlays", spec := "channelPlays", unfollowed := true, recurses := true, apart := false }
def ChannelPlaysSaid : Prop := channelPlaysRow.holds Try.pinned (OpenSpec.ofChange channelPlaysSpec)

/-- ITS FALSE NEIGHBOUR: 'it returns false'. Refute it at one input. -/
def channelPlaysWrong : ChangeSpec := { name := "channelPlays", fn := fun _ => fun
  | [d1, d2] => { results := [.lit (.bool false)], args := [d1, d2] }
  | _ => none }
def ChannelPlaysWrongFalsely : Prop := channelPlaysRow.holds Try.pinned (OpenSpec.ofChange channelPlaysWrong)

/-- 'jacinthlaw11.ChannelKeeps': WHATEVER THE INPUT: true; the input reads as it did. -/
def channelKeepsSpec : ChangeSpec := { name := "channelKeeps", fn := fun _ => fun
  | [d1, d2] => { results := [.lit (.bool true)], args := [d1, d2] }
  | _ => none }
def channelKeepsRow : OpenClaim := { program := "ytekbnpocmmfkkaa", sum := "746434cfd8d8152f87790edb9e0d82c82d9fcef5c3eaee4e65bdae3a7bb6b73a", func := "jacinth/jacinthlaw11.ChannelKeeps", spec := "channelKeeps", unfollowed := true, recurses := true, apart := false }
def ChannelKeepsSaid : Prop := channelKeepsRow.holds Try.pinned (OpenSpec.ofChange channelKeepsSpec)

/-- ITS FALSE NEIGHBOUR: 'it returns false'. Refute it at one input. -/
def channelKeepsWrong : ChangeSpec := { name := "channelKeeps", fn := fun _ => fun
  | [d1, d2] => { results := [.lit (.bool false)], args := [d1, d2] }
  | _ => none }
def ChannelKeepsWrongFalsely : Prop := channelKeepsRow.holds Try.pinned (OpenSpec.ofChange channelKeepsWrong)

/-- 'jacinthlaw11.ChannelOrder': WHATEVER THE INPUT: true; the input reads as it did. -/
def channelOrderSpec : ChangeSpec := { name := "channelOrder", fn := fun _ => fun
  | [d1, d2] => { results := [.lit (.bool true)], args := [d1, d2] }
  | _ => none }
def channelOrderRow : OpenClaim := { program := "ytekbnpocmmfkkaa", sum := "746434cfd8d8152f87790edb9e0d82c82d9fcef5c3eaee4e65bdae3a7bb6b73a", func := "jacinth/jacinthlaw11.ChannelOrder", spec := "channelOrder", unfollowed := true, recurses := true, apart := false }
def ChannelOrderSaid : Prop := channelOrderRow.holds Try.pinned (OpenSpec.ofChange channelOrderSpec)

/-- ITS FALSE NEIGHBOUR: 'it returns false'. Refute it at one input. -/
def channelOrderWrong : ChangeSpec := { name := "channelOrder", fn := fun _ => fun
  | [d1, d2] => { results := [.lit (.bool false)], args := [d1, d2] }
  | _ => none }
def ChannelOrderWrongFalsely : Prop := channelOrderRow.holds Try.pinned (OpenSpec.ofChange channelOrderWrong)

/-- 'jacinthlaw11.ChannelCalls': WHATEVER THE INPUT: true; the input reads as it did. -/
def channelCallsSpec : ChangeSpec := { name := "channelCalls", fn := fun _ => fun
  | [d1, d2, d3] => { results := [.lit (.bool true)], args := [d1, d2, d3] }
  | _ => none }
def channelCallsRow : OpenClaim := { program := "ytekbnpocmmfkkaa", sum := "746434cfd8d8152f87790edb9e0d82c82d9fcef5c3eaee4e65bdae3a7bb6b73a", func := "jacinth/jacinthlaw11.ChannelCalls", spec := "channelCalls", unfollowed := true, recurses := true, apart := false }
def ChannelCallsSaid : Prop := channelCallsRow.holds Try.pinned (OpenSpec.ofChange channelCallsSpec)

/-- ITS FALSE NEIGHBOUR: 'it returns false'. Refute it at one input. -/
def channelCallsWrong : ChangeSpec := { name := "channelCalls", fn := fun _ => fun
  | [d1, d2, d3] => { results := [.lit (.bool false)], args := [d1, d2, d3] }
  | _ => none }
def ChannelCallsWrongFalsely : Prop := channelCallsRow.holds Try.pinned (OpenSpec.ofChange channelCallsWrong)

/-- 'jacinthlaw11.ChannelEnds': WHATEVER THE INPUT: true; the input reads as it did. -/
def channelEndsSpec : ChangeSpec := { name := "channelEnds", fn := fun _ => fun
  | [d1, d2] => { results := [.lit (.bool true)], args := [d1, d2] }
  | _ => none }
def channelEndsRow : OpenClaim := { program := "ytekbnpocmmfkkaa", sum := "746434cfd8d8152f87790edb9e0d82c82d9fcef5c3eaee4e65bdae3a7bb6b73a", func := "jacinth/jacinthlaw11.ChannelEnds", spec := "channelEnds", unfollowed := true, recurses := true, apart := false }
def ChannelEndsSaid : Prop := channelEndsRow.holds Try.pinned (OpenSpec.ofChange channelEndsSpec)

/-- ITS FALSE NEIGHBOUR: 'it returns false'. Refute it at one input. -/
def channelEndsWrong : ChangeSpec := { name := "channelEnds", fn := fun _ => fun
  | [d1, d2] => { results := [.lit (.bool false)], args := [d1, d2] }
  | _ => none }
def ChannelEndsWrongFalsely : Prop := channelEndsRow.holds Try.pinned (OpenSpec.ofChange channelEndsWrong)

/- THE SECOND FORM. 'bulk': how many values and letters a reading holds, each counted each time it is reached (what is shared counts as often as it is met; a slice's spare places count too). A statement '..UptoSaid' is the law's where the arguments, and the package variables that the reading takes, are together of bulk at most 1048576: NARROWER than '..Said'. Prove '..Said' where nothing that the law and all that it calls make is longer than what came in: it says more and counts as full. Else prove '..UptoSaid'. A law counts once. -/
mutual
def uptoBulk {H : Type} : DataW H → Nat
  | .lit (.string bytes) => bytes.length + 1
  | .lit _ => 1
  | .nil => 1
  | .ptr d => uptoBulk d + 1
  | .slice elems spare => uptoBulkAll elems + uptoBulkAll spare + 1
  | .agg parts => uptoBulkAll parts + 1
  | .iface _ d => uptoBulk d + 1
  | .map entries => uptoBulkEntries entries + 1
  | .held _ => 1
def uptoBulkAll {H : Type} : List (DataW H) → Nat
  | [] => 0
  | d :: r => uptoBulk d + uptoBulkAll r
def uptoBulkEntries {H : Type} : List (Lit × DataW H) → Nat
  | [] => 0
  | x :: r => uptoBulkEntry x + uptoBulkEntries r
def uptoBulkEntry {H : Type} : Lit × DataW H → Nat
  | (.string bytes, d) => bytes.length + uptoBulk d + 1
  | (_, d) => uptoBulk d + 1
 end
def uptoSmall : (H : Type) → List (DataW H) → Bool := fun _ ds => decide (uptoBulkAll ds ≤ 1048576)
def OpenSpec.upto (s : _root_.Go.ChangeSpec) : _root_.Go.OpenSpec := { _root_.Go.OpenSpec.ofChange s with cond := some uptoSmall }

/-- 'jacinthlaw11.ChannelPlays', WHERE WHAT IT READS IS OF BULK AT MOST 1048576: true; the input reads as it did. -/
def channelPlaysUptoRow : OpenClaim := { program := "ytekbnpocmmfkkaa", sum := "746434cfd8d8152f87790edb9e0d82c82d9fcef5c3eaee4e65bdae3a7bb6b73a", func := "jacinth/jacinthlaw11.ChannelPlays", spec := "channelPlays", unfollowed := true, recurses := true, apart := false, narrowed := true }
def ChannelPlaysUptoSaid : Prop := channelPlaysUptoRow.holds Try.pinned (OpenSpec.upto channelPlaysSpec)

/-- 'jacinthlaw11.ChannelKeeps', WHERE WHAT IT READS IS OF BULK AT MOST 1048576: true; the input reads as it did. -/
def channelKeepsUptoRow : OpenClaim := { program := "ytekbnpocmmfkkaa", sum := "746434cfd8d8152f87790edb9e0d82c82d9fcef5c3eaee4e65bdae3a7bb6b73a", func := "jacinth/jacinthlaw11.ChannelKeeps", spec := "channelKeeps", unfollowed := true, recurses := true, apart := false, narrowed := true }
def ChannelKeepsUptoSaid : Prop := channelKeepsUptoRow.holds Try.pinned (OpenSpec.upto channelKeepsSpec)

/-- 'jacinthlaw11.ChannelOrder', WHERE WHAT IT READS IS OF BULK AT MOST 1048576: true; the input reads as it did. -/
def channelOrderUptoRow : OpenClaim := { program := "ytekbnpocmmfkkaa", sum := "746434cfd8d8152f87790edb9e0d82c82d9fcef5c3eaee4e65bdae3a7bb6b73a", func := "jacinth/jacinthlaw11.ChannelOrder", spec := "channelOrder", unfollowed := true, recurses := true, apart := false, narrowed := true }
def ChannelOrderUptoSaid : Prop := channelOrderUptoRow.holds Try.pinned (OpenSpec.upto channelOrderSpec)

/-- 'jacinthlaw11.ChannelCalls', WHERE WHAT IT READS IS OF BULK AT MOST 1048576: true; the input reads as it did. -/
def channelCallsUptoRow : OpenClaim := { program := "ytekbnpocmmfkkaa", sum := "746434cfd8d8152f87790edb9e0d82c82d9fcef5c3eaee4e65bdae3a7bb6b73a", func := "jacinth/jacinthlaw11.ChannelCalls", spec := "channelCalls", unfollowed := true, recurses := true, apart := false, narrowed := true }
def ChannelCallsUptoSaid : Prop := channelCallsUptoRow.holds Try.pinned (OpenSpec.upto channelCallsSpec)

/-- 'jacinthlaw11.ChannelEnds', WHERE WHAT IT READS IS OF BULK AT MOST 1048576: true; the input reads as it did. -/
def channelEndsUptoRow : OpenClaim := { program := "ytekbnpocmmfkkaa", sum := "746434cfd8d8152f87790edb9e0d82c82d9fcef5c3eaee4e65bdae3a7bb6b73a", func := "jacinth/jacinthlaw11.ChannelEnds", spec := "channelEnds", unfollowed := true, recurses := true, apart := false, narrowed := true }
def ChannelEndsUptoSaid : Prop := channelEndsUptoRow.holds Try.pinned (OpenSpec.upto channelEndsSpec)

end Rows
end Go.Proofs.Ytekbnpocmmfkkaa
