/-
  No cell of these rows narrows 'for every input' (looked for: loops, veiled, ifaces, maps, wideKeys, modest, calm, conditions, laid).
  DERIVED. THE GIVEN ROWS OF THIS SEAT. 6 by the template 'for every input the law returns true; each argument reads behind the call as it read before'; 0 by the template 'total and deterministic' (their statements: YtcbphfpfdfgehaaTotals.lean).
  GIVEN WITH THE SEED: the statements are not yours to turn. If you find one false, say at which input.
  Laid BY PROGRAM, IN A SANDBOX (cutbox-rows.mjs): the forced cells as the released guide's own fill.sh prints them over the translation 5b76e3e751cc9905… (all of the seat's roots in one cut). By AI agents, Wed Nov 11 2026. No macro, syntax, notation, axiom, sorry.
-/
import Derived.Test.YtcbphfpfdfgehaaChecked
import GoSem.Claim
import GoSem.ClaimJoined
import GoSem.ClaimMapViews
import Derived.JoinedTies
import Derived.KernelRfl
namespace Go.Proofs.Ytcbphfpfdfgehaa
/- THE CELL 'sum', in the pinned program and in every row, IS THE sha256 OF THE DUMP (.gsa) THAT YtcbphfpfdfgehaaProg.lean LOADS. Nothing in Lean hashes anything: it is a label: what it is worth is what the hold of that sum in a sandbox is worth. -/
noncomputable def Try.pinned : Pinned := { name := "ytcbphfpfdfgehaa", sum := "5b76e3e751cc99051ef2350d894b1fc9350c184fa635942baaaa1b88afdfd9a2", checked := Try.checked }
namespace Rows
def none {H : Type} : Left H := { results := [], args := [] }

/-- 'jacinthlaw11.ChannelPlays': WHATEVER THE INPUT: true; the input reads as it did. -/
def channelPlaysSpec : ChangeSpec := { name := "channelPlays", fn := fun _ => fun
  | [d1, d2] => { results := [.lit (.bool true)], args := [d1, d2] }
  | _ => none }
def channelPlaysRow : OpenClaim := { program := "ytcbphfpfdfgehaa", sum := "5b76e3e751cc99051ef2350d894b1fc9350c184fa635942baaaa1b88afdfd9a2", func := "jacinth/jacinthlaw11.ChannelPlays", spec := "channelPlays", unfollowed := true, recurses := true, apart := false }
def ChannelPlaysSaid : Prop := channelPlaysRow.holds Try.pinned (OpenSpec.ofChange channelPlaysSpec)

/-- ITS FALSE NEIGHBOUR: 'it returns false'. Refute it at one input. -/
def channelPlaysWrong : ChangeSpec := { name := "channelPlays", fn := fun _ => fun
  | [d1, d2] => { results := [.lit (.bool false)], args := [d1, d2] }
  | _ => none }
def ChannelPlaysWrongFalsely : Prop := channelPlaysRow.holds Try.pinned (OpenSpec.ofChange channelPlaysWrong)

/-- 'jacinthlaw14.TimerPlays': WHATEVER THE INPUT: true; the input reads as it did. -/
def timerPlaysSpec : ChangeSpec := { name := "timerPlays", fn := fun _ => fun
  | [d1, d2] => { results := [.lit (.bool true)], args := [d1, d2] }
  | _ => none }
def timerPlaysRow : OpenClaim := { program := "ytcbphfpfdfgehaa", sum := "5b76e3e751cc99051ef2350d894b1fc9350c184fa635942baaaa1b88afdfd9a2", func := "jacinth/jacinthlaw14.TimerPlays", spec := "timerPlays", unfollowed := true, recurses := true, apart := false }
def TimerPlaysSaid : Prop := timerPlaysRow.holds Try.pinned (OpenSpec.ofChange timerPlaysSpec)

/-- ITS FALSE NEIGHBOUR: 'it returns false'. Refute it at one input. -/
def timerPlaysWrong : ChangeSpec := { name := "timerPlays", fn := fun _ => fun
  | [d1, d2] => { results := [.lit (.bool false)], args := [d1, d2] }
  | _ => none }
def TimerPlaysWrongFalsely : Prop := timerPlaysRow.holds Try.pinned (OpenSpec.ofChange timerPlaysWrong)

/-- 'jacinthlaw14.TimerOnce': WHATEVER THE INPUT: true; the input reads as it did. -/
def timerOnceSpec : ChangeSpec := { name := "timerOnce", fn := fun _ => fun
  | [d1, d2] => { results := [.lit (.bool true)], args := [d1, d2] }
  | _ => none }
def timerOnceRow : OpenClaim := { program := "ytcbphfpfdfgehaa", sum := "5b76e3e751cc99051ef2350d894b1fc9350c184fa635942baaaa1b88afdfd9a2", func := "jacinth/jacinthlaw14.TimerOnce", spec := "timerOnce", unfollowed := true, recurses := true, apart := false }
def TimerOnceSaid : Prop := timerOnceRow.holds Try.pinned (OpenSpec.ofChange timerOnceSpec)

/-- ITS FALSE NEIGHBOUR: 'it returns false'. Refute it at one input. -/
def timerOnceWrong : ChangeSpec := { name := "timerOnce", fn := fun _ => fun
  | [d1, d2] => { results := [.lit (.bool false)], args := [d1, d2] }
  | _ => none }
def TimerOnceWrongFalsely : Prop := timerOnceRow.holds Try.pinned (OpenSpec.ofChange timerOnceWrong)

/-- 'jacinthlaw14.TimerOne': WHATEVER THE INPUT: true; the input reads as it did. -/
def timerOneSpec : ChangeSpec := { name := "timerOne", fn := fun _ => fun
  | [d1, d2] => { results := [.lit (.bool true)], args := [d1, d2] }
  | _ => none }
def timerOneRow : OpenClaim := { program := "ytcbphfpfdfgehaa", sum := "5b76e3e751cc99051ef2350d894b1fc9350c184fa635942baaaa1b88afdfd9a2", func := "jacinth/jacinthlaw14.TimerOne", spec := "timerOne", unfollowed := true, recurses := true, apart := false }
def TimerOneSaid : Prop := timerOneRow.holds Try.pinned (OpenSpec.ofChange timerOneSpec)

/-- ITS FALSE NEIGHBOUR: 'it returns false'. Refute it at one input. -/
def timerOneWrong : ChangeSpec := { name := "timerOne", fn := fun _ => fun
  | [d1, d2] => { results := [.lit (.bool false)], args := [d1, d2] }
  | _ => none }
def TimerOneWrongFalsely : Prop := timerOneRow.holds Try.pinned (OpenSpec.ofChange timerOneWrong)

/-- 'jacinthlaw14.TimerParts': WHATEVER THE INPUT: true; the input reads as it did. -/
def timerPartsSpec : ChangeSpec := { name := "timerParts", fn := fun _ => fun
  | [d1, d2] => { results := [.lit (.bool true)], args := [d1, d2] }
  | _ => none }
def timerPartsRow : OpenClaim := { program := "ytcbphfpfdfgehaa", sum := "5b76e3e751cc99051ef2350d894b1fc9350c184fa635942baaaa1b88afdfd9a2", func := "jacinth/jacinthlaw14.TimerParts", spec := "timerParts", unfollowed := true, recurses := true, apart := false }
def TimerPartsSaid : Prop := timerPartsRow.holds Try.pinned (OpenSpec.ofChange timerPartsSpec)

/-- ITS FALSE NEIGHBOUR: 'it returns false'. Refute it at one input. -/
def timerPartsWrong : ChangeSpec := { name := "timerParts", fn := fun _ => fun
  | [d1, d2] => { results := [.lit (.bool false)], args := [d1, d2] }
  | _ => none }
def TimerPartsWrongFalsely : Prop := timerPartsRow.holds Try.pinned (OpenSpec.ofChange timerPartsWrong)

/-- 'jacinthlaw14.TimerRoom': WHATEVER THE INPUT: true; the input reads as it did. -/
def timerRoomSpec : ChangeSpec := { name := "timerRoom", fn := fun _ => fun
  | [d1, d2] => { results := [.lit (.bool true)], args := [d1, d2] }
  | _ => none }
def timerRoomRow : OpenClaim := { program := "ytcbphfpfdfgehaa", sum := "5b76e3e751cc99051ef2350d894b1fc9350c184fa635942baaaa1b88afdfd9a2", func := "jacinth/jacinthlaw14.TimerRoom", spec := "timerRoom", unfollowed := true, recurses := true, apart := false }
def TimerRoomSaid : Prop := timerRoomRow.holds Try.pinned (OpenSpec.ofChange timerRoomSpec)

/-- ITS FALSE NEIGHBOUR: 'it returns false'. Refute it at one input. -/
def timerRoomWrong : ChangeSpec := { name := "timerRoom", fn := fun _ => fun
  | [d1, d2] => { results := [.lit (.bool false)], args := [d1, d2] }
  | _ => none }
def TimerRoomWrongFalsely : Prop := timerRoomRow.holds Try.pinned (OpenSpec.ofChange timerRoomWrong)

/- THE SECOND FORM. 'bulk': how many values and letters a reading holds, each counted each time it is reached (what is shared counts as often as it is met; a slice's spare places count too). A statement '..UptoSaid' is the law's where the arguments, and the package variables that the reading takes, are together of bulk at most 1048576: NARROWER than '..Said'. Prove '..Said' where nothing that the law and all that it calls make is longer than what came in: it says more and counts as full. Else prove '..UptoSaid'. A law counts once. -/
mutual
def uptoBulk {H : Type} : DataW H → Nat
  | .lit (.string bytes) => bytes.length + 1
  | .lit _ => 1
  | .nil => 1
  | .ptr d => uptoBulk d + 1
  | .slice elems spare => uptoBulkAll elems + uptoBulkAll spare + 1
  | .agg parts => uptoBulkAll parts + 1
  | .iface _ d => uptoBulk d + 1
  | .map entries => uptoBulkEntries entries + 1
  | .held _ => 1
def uptoBulkAll {H : Type} : List (DataW H) → Nat
  | [] => 0
  | d :: r => uptoBulk d + uptoBulkAll r
def uptoBulkEntries {H : Type} : List (Lit × DataW H) → Nat
  | [] => 0
  | x :: r => uptoBulkEntry x + uptoBulkEntries r
def uptoBulkEntry {H : Type} : Lit × DataW H → Nat
  | (.string bytes, d) => bytes.length + uptoBulk d + 1
  | (_, d) => uptoBulk d + 1
 end
def uptoSmall : (H : Type) → List (DataW H) → Bool := fun _ ds => decide (uptoBulkAll ds ≤ 1048576)
def OpenSpec.upto (s : _root_.Go.ChangeSpec) : _root_.Go.OpenSpec := { _root_.Go.OpenSpec.ofChange s with cond := some uptoSmall }

/-- 'jacinthlaw11.ChannelPlays', WHERE WHAT IT READS IS OF BULK AT MOST 1048576: true; the input reads as it did. -/
def channelPlaysUptoRow : OpenClaim := { program := "ytcbphfpfdfgehaa", sum := "5b76e3e751cc99051ef2350d894b1fc9350c184fa635942baaaa1b88afdfd9a2", func := "jacinth/jacinthlaw11.ChannelPlays", spec := "channelPlays", unfollowed := true, recurses := true, apart := false, narrowed := true }
def ChannelPlaysUptoSaid : Prop := channelPlaysUptoRow.holds Try.pinned (OpenSpec.upto channelPlaysSpec)

/-- 'jacinthlaw14.TimerPlays', WHERE WHAT IT READS IS OF BULK AT MOST 1048576: true; the input reads as it did. -/
def timerPlaysUptoRow : OpenClaim := { program := "ytcbphfpfdfgehaa", sum := "5b76e3e751cc99051ef2350d894b1fc9350c184fa635942baaaa1b88afdfd9a2", func := "jacinth/jacinthlaw14.TimerPlays", spec := "timerPlays", unfollowed := true, recurses := true, apart := false, narrowed := true }
def TimerPlaysUptoSaid : Prop := timerPlaysUptoRow.holds Try.pinned (OpenSpec.upto timerPlaysSpec)

/-- 'jacinthlaw14.TimerOnce', WHERE WHAT IT READS IS OF BULK AT MOST 1048576: true; the input reads as it did. -/
def timerOnceUptoRow : OpenClaim := { program := "ytcbphfpfdfgehaa", sum := "5b76e3e751cc99051ef2350d894b1fc9350c184fa635942baaaa1b88afdfd9a2", func := "jacinth/jacinthlaw14.TimerOnce", spec := "timerOnce", unfollowed := true, recurses := true, apart := false, narrowed := true }
def TimerOnceUptoSaid : Prop := timerOnceUptoRow.holds Try.pinned (OpenSpec.upto timerOnceSpec)

/-- 'jacinthlaw14.TimerOne', WHERE WHAT IT READS IS OF BULK AT MOST 1048576: true; the input reads as it did. -/
def timerOneUptoRow : OpenClaim := { program := "ytcbphfpfdfgehaa", sum := "5b76e3e751cc99051ef2350d894b1fc9350c184fa635942baaaa1b88afdfd9a2", func := "jacinth/jacinthlaw14.TimerOne", spec := "timerOne", unfollowed := true, recurses := true, apart := false, narrowed := true }
def TimerOneUptoSaid : Prop := timerOneUptoRow.holds Try.pinned (OpenSpec.upto timerOneSpec)

/-- 'jacinthlaw14.TimerParts', WHERE WHAT IT READS IS OF BULK AT MOST 1048576: true; the input reads as it did. -/
def timerPartsUptoRow : OpenClaim := { program := "ytcbphfpfdfgehaa", sum := "5b76e3e751cc99051ef2350d894b1fc9350c184fa635942baaaa1b88afdfd9a2", func := "jacinth/jacinthlaw14.TimerParts", spec := "timerParts", unfollowed := true, recurses := true, apart := false, narrowed := true }
def TimerPartsUptoSaid : Prop := timerPartsUptoRow.holds Try.pinned (OpenSpec.upto timerPartsSpec)

/-- 'jacinthlaw14.TimerRoom', WHERE WHAT IT READS IS OF BULK AT MOST 1048576: true; the input reads as it did. -/
def timerRoomUptoRow : OpenClaim := { program := "ytcbphfpfdfgehaa", sum := "5b76e3e751cc99051ef2350d894b1fc9350c184fa635942baaaa1b88afdfd9a2", func := "jacinth/jacinthlaw14.TimerRoom", spec := "timerRoom", unfollowed := true, recurses := true, apart := false, narrowed := true }
def TimerRoomUptoSaid : Prop := timerRoomUptoRow.holds Try.pinned (OpenSpec.upto timerRoomSpec)

end Rows
end Go.Proofs.Ytcbphfpfdfgehaa
