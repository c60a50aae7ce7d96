/-
  No cell of these rows narrows 'for every input' (looked for: loops, veiled, ifaces, maps, wideKeys, modest, calm, conditions, laid).
  DERIVED. THE GIVEN ROWS OF THIS SEAT. 11 by the template 'for every input the law returns true; each argument reads behind the call as it read before'; 0 by the template 'total and deterministic' (their statements: YtdddmjdlikjedaaTotals.lean).
  GIVEN WITH THE SEED: the statements are not yours to turn. If you find one false, say at which input.
  Laid BY PROGRAM, IN A SANDBOX (cutbox-rows.mjs): the forced cells as the released guide's own fill.sh prints them over the translation 5c2079211327d2a6… (all of the seat's roots in one cut). By AI agents, Wed Nov 11 2026. No macro, syntax, notation, axiom, sorry.
-/
import Derived.Test.YtdddmjdlikjedaaChecked
import GoSem.Claim
import GoSem.ClaimJoined
import GoSem.ClaimMapViews
import Derived.JoinedTies
import Derived.KernelRfl
namespace Go.Proofs.Ytdddmjdlikjedaa
/- THE CELL 'sum', in the pinned program and in every row, IS THE sha256 OF THE DUMP (.gsa) THAT YtdddmjdlikjedaaProg.lean LOADS. Nothing in Lean hashes anything: it is a label: what it is worth is what the hold of that sum in a sandbox is worth. -/
noncomputable def Try.pinned : Pinned := { name := "ytdddmjdlikjedaa", sum := "5c2079211327d2a66609410590928ffae5a91901ff6b715cb5f94950ad7463ef", checked := Try.checked }
namespace Rows
def none {H : Type} : Left H := { results := [], args := [] }

/-- 'jacinthlaw08.VmoApart': WHATEVER THE INPUT: true; the input reads as it did. -/
def vmoApartSpec : ChangeSpec := { name := "vmoApart", fn := fun _ => fun
  | [d] => { results := [.lit (.bool true)], args := [d] }
  | _ => none }
def vmoApartRow : OpenClaim := { program := "ytdddmjdlikjedaa", sum := "5c2079211327d2a66609410590928ffae5a91901ff6b715cb5f94950ad7463ef", func := "jacinth/jacinthlaw08.VmoApart", spec := "vmoApart", unfollowed := true, recurses := true, apart := false }
def VmoApartSaid : Prop := vmoApartRow.holds Try.pinned (OpenSpec.ofChange vmoApartSpec)

/-- ITS FALSE NEIGHBOUR: 'it returns false'. Refute it at one input. -/
def vmoApartWrong : ChangeSpec := { name := "vmoApart", fn := fun _ => fun
  | [d] => { results := [.lit (.bool false)], args := [d] }
  | _ => none }
def VmoApartWrongFalsely : Prop := vmoApartRow.holds Try.pinned (OpenSpec.ofChange vmoApartWrong)

/-- 'jacinthlaw08.VmoEnds': WHATEVER THE INPUT: true; the input reads as it did. -/
def vmoEndsSpec : ChangeSpec := { name := "vmoEnds", fn := fun _ => fun
  | [d1, d2] => { results := [.lit (.bool true)], args := [d1, d2] }
  | _ => none }
def vmoEndsRow : OpenClaim := { program := "ytdddmjdlikjedaa", sum := "5c2079211327d2a66609410590928ffae5a91901ff6b715cb5f94950ad7463ef", func := "jacinth/jacinthlaw08.VmoEnds", spec := "vmoEnds", unfollowed := true, recurses := true, apart := false }
def VmoEndsSaid : Prop := vmoEndsRow.holds Try.pinned (OpenSpec.ofChange vmoEndsSpec)

/-- ITS FALSE NEIGHBOUR: 'it returns false'. Refute it at one input. -/
def vmoEndsWrong : ChangeSpec := { name := "vmoEnds", fn := fun _ => fun
  | [d1, d2] => { results := [.lit (.bool false)], args := [d1, d2] }
  | _ => none }
def VmoEndsWrongFalsely : Prop := vmoEndsRow.holds Try.pinned (OpenSpec.ofChange vmoEndsWrong)

/-- 'jacinthlaw08.VmoSizes': WHATEVER THE INPUT: true; the input reads as it did. -/
def vmoSizesSpec : ChangeSpec := { name := "vmoSizes", fn := fun _ => fun
  | [d1, d2, d3] => { results := [.lit (.bool true)], args := [d1, d2, d3] }
  | _ => none }
def vmoSizesRow : OpenClaim := { program := "ytdddmjdlikjedaa", sum := "5c2079211327d2a66609410590928ffae5a91901ff6b715cb5f94950ad7463ef", func := "jacinth/jacinthlaw08.VmoSizes", spec := "vmoSizes", unfollowed := true, recurses := true, apart := false }
def VmoSizesSaid : Prop := vmoSizesRow.holds Try.pinned (OpenSpec.ofChange vmoSizesSpec)

/-- ITS FALSE NEIGHBOUR: 'it returns false'. Refute it at one input. -/
def vmoSizesWrong : ChangeSpec := { name := "vmoSizes", fn := fun _ => fun
  | [d1, d2, d3] => { results := [.lit (.bool false)], args := [d1, d2, d3] }
  | _ => none }
def VmoSizesWrongFalsely : Prop := vmoSizesRow.holds Try.pinned (OpenSpec.ofChange vmoSizesWrong)

/-- 'jacinthlaw08.VmoRoom': WHATEVER THE INPUT: true; the input reads as it did. -/
def vmoRoomSpec : ChangeSpec := { name := "vmoRoom", fn := fun _ => fun
  | [d1, d2, d3] => { results := [.lit (.bool true)], args := [d1, d2, d3] }
  | _ => none }
def vmoRoomRow : OpenClaim := { program := "ytdddmjdlikjedaa", sum := "5c2079211327d2a66609410590928ffae5a91901ff6b715cb5f94950ad7463ef", func := "jacinth/jacinthlaw08.VmoRoom", spec := "vmoRoom", unfollowed := true, recurses := true, apart := false }
def VmoRoomSaid : Prop := vmoRoomRow.holds Try.pinned (OpenSpec.ofChange vmoRoomSpec)

/-- ITS FALSE NEIGHBOUR: 'it returns false'. Refute it at one input. -/
def vmoRoomWrong : ChangeSpec := { name := "vmoRoom", fn := fun _ => fun
  | [d1, d2, d3] => { results := [.lit (.bool false)], args := [d1, d2, d3] }
  | _ => none }
def VmoRoomWrongFalsely : Prop := vmoRoomRow.holds Try.pinned (OpenSpec.ofChange vmoRoomWrong)

/-- 'jacinthlaw08.VmoDeep': WHATEVER THE INPUT: true; the input reads as it did. -/
def vmoDeepSpec : ChangeSpec := { name := "vmoDeep", fn := fun _ => fun
  | [d1, d2] => { results := [.lit (.bool true)], args := [d1, d2] }
  | _ => none }
def vmoDeepRow : OpenClaim := { program := "ytdddmjdlikjedaa", sum := "5c2079211327d2a66609410590928ffae5a91901ff6b715cb5f94950ad7463ef", func := "jacinth/jacinthlaw08.VmoDeep", spec := "vmoDeep", unfollowed := true, recurses := true, apart := false }
def VmoDeepSaid : Prop := vmoDeepRow.holds Try.pinned (OpenSpec.ofChange vmoDeepSpec)

/-- ITS FALSE NEIGHBOUR: 'it returns false'. Refute it at one input. -/
def vmoDeepWrong : ChangeSpec := { name := "vmoDeep", fn := fun _ => fun
  | [d1, d2] => { results := [.lit (.bool false)], args := [d1, d2] }
  | _ => none }
def VmoDeepWrongFalsely : Prop := vmoDeepRow.holds Try.pinned (OpenSpec.ofChange vmoDeepWrong)

/-- 'jacinthlaw09.RegionApart': WHATEVER THE INPUT: true; the input reads as it did. -/
def regionApartSpec : ChangeSpec := { name := "regionApart", fn := fun _ => fun
  | [d] => { results := [.lit (.bool true)], args := [d] }
  | _ => none }
def regionApartRow : OpenClaim := { program := "ytdddmjdlikjedaa", sum := "5c2079211327d2a66609410590928ffae5a91901ff6b715cb5f94950ad7463ef", func := "jacinth/jacinthlaw09.RegionApart", spec := "regionApart", inPlace := ["slices.overlaps[jacinth/region.Piece]"], unfollowed := true, recurses := true, apart := false }
def RegionApartSaid : Prop := regionApartRow.holds Try.pinned (OpenSpec.ofChange regionApartSpec)

/-- ITS FALSE NEIGHBOUR: 'it returns false'. Refute it at one input. -/
def regionApartWrong : ChangeSpec := { name := "regionApart", fn := fun _ => fun
  | [d] => { results := [.lit (.bool false)], args := [d] }
  | _ => none }
def RegionApartWrongFalsely : Prop := regionApartRow.holds Try.pinned (OpenSpec.ofChange regionApartWrong)

/-- 'jacinthlaw09.RegionPlaces': WHATEVER THE INPUT: true; the input reads as it did. -/
def regionPlacesSpec : ChangeSpec := { name := "regionPlaces", fn := fun _ => fun
  | [d1, d2] => { results := [.lit (.bool true)], args := [d1, d2] }
  | _ => none }
def regionPlacesRow : OpenClaim := { program := "ytdddmjdlikjedaa", sum := "5c2079211327d2a66609410590928ffae5a91901ff6b715cb5f94950ad7463ef", func := "jacinth/jacinthlaw09.RegionPlaces", spec := "regionPlaces", inPlace := ["slices.overlaps[jacinth/region.Piece]"], unfollowed := true, recurses := true, apart := false }
def RegionPlacesSaid : Prop := regionPlacesRow.holds Try.pinned (OpenSpec.ofChange regionPlacesSpec)

/-- ITS FALSE NEIGHBOUR: 'it returns false'. Refute it at one input. -/
def regionPlacesWrong : ChangeSpec := { name := "regionPlaces", fn := fun _ => fun
  | [d1, d2] => { results := [.lit (.bool false)], args := [d1, d2] }
  | _ => none }
def RegionPlacesWrongFalsely : Prop := regionPlacesRow.holds Try.pinned (OpenSpec.ofChange regionPlacesWrong)

/-- 'jacinthlaw09.RegionBack': WHATEVER THE INPUT: true; the input reads as it did. -/
def regionBackSpec : ChangeSpec := { name := "regionBack", fn := fun _ => fun
  | [d1, d2, d3] => { results := [.lit (.bool true)], args := [d1, d2, d3] }
  | _ => none }
def regionBackRow : OpenClaim := { program := "ytdddmjdlikjedaa", sum := "5c2079211327d2a66609410590928ffae5a91901ff6b715cb5f94950ad7463ef", func := "jacinth/jacinthlaw09.RegionBack", spec := "regionBack", inPlace := ["slices.overlaps[jacinth/region.Piece]"], unfollowed := true, recurses := true, apart := false }
def RegionBackSaid : Prop := regionBackRow.holds Try.pinned (OpenSpec.ofChange regionBackSpec)

/-- ITS FALSE NEIGHBOUR: 'it returns false'. Refute it at one input. -/
def regionBackWrong : ChangeSpec := { name := "regionBack", fn := fun _ => fun
  | [d1, d2, d3] => { results := [.lit (.bool false)], args := [d1, d2, d3] }
  | _ => none }
def RegionBackWrongFalsely : Prop := regionBackRow.holds Try.pinned (OpenSpec.ofChange regionBackWrong)

/-- 'jacinthlaw10.SpaceSees': WHATEVER THE INPUT: true; the input reads as it did. -/
def spaceSeesSpec : ChangeSpec := { name := "spaceSees", fn := fun _ => fun
  | [d1, d2, d3] => { results := [.lit (.bool true)], args := [d1, d2, d3] }
  | _ => none }
def spaceSeesRow : OpenClaim := { program := "ytdddmjdlikjedaa", sum := "5c2079211327d2a66609410590928ffae5a91901ff6b715cb5f94950ad7463ef", func := "jacinth/jacinthlaw10.SpaceSees", spec := "spaceSees", inPlace := ["slices.overlaps[jacinth/region.Piece]"], unfollowed := true, recurses := true, apart := false }
def SpaceSeesSaid : Prop := spaceSeesRow.holds Try.pinned (OpenSpec.ofChange spaceSeesSpec)

/-- ITS FALSE NEIGHBOUR: 'it returns false'. Refute it at one input. -/
def spaceSeesWrong : ChangeSpec := { name := "spaceSees", fn := fun _ => fun
  | [d1, d2, d3] => { results := [.lit (.bool false)], args := [d1, d2, d3] }
  | _ => none }
def SpaceSeesWrongFalsely : Prop := spaceSeesRow.holds Try.pinned (OpenSpec.ofChange spaceSeesWrong)

/-- 'jacinthlaw10.SpaceGuards': WHATEVER THE INPUT: true; the input reads as it did. -/
def spaceGuardsSpec : ChangeSpec := { name := "spaceGuards", fn := fun _ => fun
  | [d] => { results := [.lit (.bool true)], args := [d] }
  | _ => none }
def spaceGuardsRow : OpenClaim := { program := "ytdddmjdlikjedaa", sum := "5c2079211327d2a66609410590928ffae5a91901ff6b715cb5f94950ad7463ef", func := "jacinth/jacinthlaw10.SpaceGuards", spec := "spaceGuards", inPlace := ["slices.overlaps[jacinth/region.Piece]"], unfollowed := true, recurses := true, apart := false }
def SpaceGuardsSaid : Prop := spaceGuardsRow.holds Try.pinned (OpenSpec.ofChange spaceGuardsSpec)

/-- ITS FALSE NEIGHBOUR: 'it returns false'. Refute it at one input. -/
def spaceGuardsWrong : ChangeSpec := { name := "spaceGuards", fn := fun _ => fun
  | [d] => { results := [.lit (.bool false)], args := [d] }
  | _ => none }
def SpaceGuardsWrongFalsely : Prop := spaceGuardsRow.holds Try.pinned (OpenSpec.ofChange spaceGuardsWrong)

/-- 'jacinthlaw10.SpacePlaces': WHATEVER THE INPUT: true; the input reads as it did. -/
def spacePlacesSpec : ChangeSpec := { name := "spacePlaces", fn := fun _ => fun
  | [d] => { results := [.lit (.bool true)], args := [d] }
  | _ => none }
def spacePlacesRow : OpenClaim := { program := "ytdddmjdlikjedaa", sum := "5c2079211327d2a66609410590928ffae5a91901ff6b715cb5f94950ad7463ef", func := "jacinth/jacinthlaw10.SpacePlaces", spec := "spacePlaces", inPlace := ["slices.overlaps[jacinth/region.Piece]"], unfollowed := true, recurses := true, apart := false }
def SpacePlacesSaid : Prop := spacePlacesRow.holds Try.pinned (OpenSpec.ofChange spacePlacesSpec)

/-- ITS FALSE NEIGHBOUR: 'it returns false'. Refute it at one input. -/
def spacePlacesWrong : ChangeSpec := { name := "spacePlaces", fn := fun _ => fun
  | [d] => { results := [.lit (.bool false)], args := [d] }
  | _ => none }
def SpacePlacesWrongFalsely : Prop := spacePlacesRow.holds Try.pinned (OpenSpec.ofChange spacePlacesWrong)

/- THE SECOND FORM. 'bulk': how many values and letters a reading holds, each counted each time it is reached (what is shared counts as often as it is met; a slice's spare places count too). A statement '..UptoSaid' is the law's where the arguments, and the package variables that the reading takes, are together of bulk at most 1048576: NARROWER than '..Said'. Prove '..Said' where nothing that the law and all that it calls make is longer than what came in: it says more and counts as full. Else prove '..UptoSaid'. A law counts once. -/
mutual
def uptoBulk {H : Type} : DataW H → Nat
  | .lit (.string bytes) => bytes.length + 1
  | .lit _ => 1
  | .nil => 1
  | .ptr d => uptoBulk d + 1
  | .slice elems spare => uptoBulkAll elems + uptoBulkAll spare + 1
  | .agg parts => uptoBulkAll parts + 1
  | .iface _ d => uptoBulk d + 1
  | .map entries => uptoBulkEntries entries + 1
  | .held _ => 1
def uptoBulkAll {H : Type} : List (DataW H) → Nat
  | [] => 0
  | d :: r => uptoBulk d + uptoBulkAll r
def uptoBulkEntries {H : Type} : List (Lit × DataW H) → Nat
  | [] => 0
  | x :: r => uptoBulkEntry x + uptoBulkEntries r
def uptoBulkEntry {H : Type} : Lit × DataW H → Nat
  | (.string bytes, d) => bytes.length + uptoBulk d + 1
  | (_, d) => uptoBulk d + 1
 end
def uptoSmall : (H : Type) → List (DataW H) → Bool := fun _ ds => decide (uptoBulkAll ds ≤ 1048576)
def OpenSpec.upto (s : _root_.Go.ChangeSpec) : _root_.Go.OpenSpec := { _root_.Go.OpenSpec.ofChange s with cond := some uptoSmall }

/-- 'jacinthlaw08.VmoApart', WHERE WHAT IT READS IS OF BULK AT MOST 1048576: true; the input reads as it did. -/
def vmoApartUptoRow : OpenClaim := { program := "ytdddmjdlikjedaa", sum := "5c2079211327d2a66609410590928ffae5a91901ff6b715cb5f94950ad7463ef", func := "jacinth/jacinthlaw08.VmoApart", spec := "vmoApart", unfollowed := true, recurses := true, apart := false, narrowed := true }
def VmoApartUptoSaid : Prop := vmoApartUptoRow.holds Try.pinned (OpenSpec.upto vmoApartSpec)

/-- 'jacinthlaw08.VmoEnds', WHERE WHAT IT READS IS OF BULK AT MOST 1048576: true; the input reads as it did. -/
def vmoEndsUptoRow : OpenClaim := { program := "ytdddmjdlikjedaa", sum := "5c2079211327d2a66609410590928ffae5a91901ff6b715cb5f94950ad7463ef", func := "jacinth/jacinthlaw08.VmoEnds", spec := "vmoEnds", unfollowed := true, recurses := true, apart := false, narrowed := true }
def VmoEndsUptoSaid : Prop := vmoEndsUptoRow.holds Try.pinned (OpenSpec.upto vmoEndsSpec)

/-- 'jacinthlaw08.VmoSizes', WHERE WHAT IT READS IS OF BULK AT MOST 1048576: true; the input reads as it did. -/
def vmoSizesUptoRow : OpenClaim := { program := "ytdddmjdlikjedaa", sum := "5c2079211327d2a66609410590928ffae5a91901ff6b715cb5f94950ad7463ef", func := "jacinth/jacinthlaw08.VmoSizes", spec := "vmoSizes", unfollowed := true, recurses := true, apart := false, narrowed := true }
def VmoSizesUptoSaid : Prop := vmoSizesUptoRow.holds Try.pinned (OpenSpec.upto vmoSizesSpec)

/-- 'jacinthlaw08.VmoRoom', WHERE WHAT IT READS IS OF BULK AT MOST 1048576: true; the input reads as it did. -/
def vmoRoomUptoRow : OpenClaim := { program := "ytdddmjdlikjedaa", sum := "5c2079211327d2a66609410590928ffae5a91901ff6b715cb5f94950ad7463ef", func := "jacinth/jacinthlaw08.VmoRoom", spec := "vmoRoom", unfollowed := true, recurses := true, apart := false, narrowed := true }
def VmoRoomUptoSaid : Prop := vmoRoomUptoRow.holds Try.pinned (OpenSpec.upto vmoRoomSpec)

/-- 'jacinthlaw08.VmoDeep', WHERE WHAT IT READS IS OF BULK AT MOST 1048576: true; the input reads as it did. -/
def vmoDeepUptoRow : OpenClaim := { program := "ytdddmjdlikjedaa", sum := "5c2079211327d2a66609410590928ffae5a91901ff6b715cb5f94950ad7463ef", func := "jacinth/jacinthlaw08.VmoDeep", spec := "vmoDeep", unfollowed := true, recurses := true, apart := false, narrowed := true }
def VmoDeepUptoSaid : Prop := vmoDeepUptoRow.holds Try.pinned (OpenSpec.upto vmoDeepSpec)

/-- 'jacinthlaw09.RegionApart', WHERE WHAT IT READS IS OF BULK AT MOST 1048576: true; the input reads as it did. -/
def regionApartUptoRow : OpenClaim := { program := "ytdddmjdlikjedaa", sum := "5c2079211327d2a66609410590928ffae5a91901ff6b715cb5f94950ad7463ef", func := "jacinth/jacinthlaw09.RegionApart", spec := "regionApart", inPlace := ["slices.overlaps[jacinth/region.Piece]"], unfollowed := true, recurses := true, apart := false, narrowed := true }
def RegionApartUptoSaid : Prop := regionApartUptoRow.holds Try.pinned (OpenSpec.upto regionApartSpec)

/-- 'jacinthlaw09.RegionPlaces', WHERE WHAT IT READS IS OF BULK AT MOST 1048576: true; the input reads as it did. -/
def regionPlacesUptoRow : OpenClaim := { program := "ytdddmjdlikjedaa", sum := "5c2079211327d2a66609410590928ffae5a91901ff6b715cb5f94950ad7463ef", func := "jacinth/jacinthlaw09.RegionPlaces", spec := "regionPlaces", inPlace := ["slices.overlaps[jacinth/region.Piece]"], unfollowed := true, recurses := true, apart := false, narrowed := true }
def RegionPlacesUptoSaid : Prop := regionPlacesUptoRow.holds Try.pinned (OpenSpec.upto regionPlacesSpec)

/-- 'jacinthlaw09.RegionBack', WHERE WHAT IT READS IS OF BULK AT MOST 1048576: true; the input reads as it did. -/
def regionBackUptoRow : OpenClaim := { program := "ytdddmjdlikjedaa", sum := "5c2079211327d2a66609410590928ffae5a91901ff6b715cb5f94950ad7463ef", func := "jacinth/jacinthlaw09.RegionBack", spec := "regionBack", inPlace := ["slices.overlaps[jacinth/region.Piece]"], unfollowed := true, recurses := true, apart := false, narrowed := true }
def RegionBackUptoSaid : Prop := regionBackUptoRow.holds Try.pinned (OpenSpec.upto regionBackSpec)

/-- 'jacinthlaw10.SpaceSees', WHERE WHAT IT READS IS OF BULK AT MOST 1048576: true; the input reads as it did. -/
def spaceSeesUptoRow : OpenClaim := { program := "ytdddmjdlikjedaa", sum := "5c2079211327d2a66609410590928ffae5a91901ff6b715cb5f94950ad7463ef", func := "jacinth/jacinthlaw10.SpaceSees", spec := "spaceSees", inPlace := ["slices.overlaps[jacinth/region.Piece]"], unfollowed := true, recurses := true, apart := false, narrowed := true }
def SpaceSeesUptoSaid : Prop := spaceSeesUptoRow.holds Try.pinned (OpenSpec.upto spaceSeesSpec)

/-- 'jacinthlaw10.SpaceGuards', WHERE WHAT IT READS IS OF BULK AT MOST 1048576: true; the input reads as it did. -/
def spaceGuardsUptoRow : OpenClaim := { program := "ytdddmjdlikjedaa", sum := "5c2079211327d2a66609410590928ffae5a91901ff6b715cb5f94950ad7463ef", func := "jacinth/jacinthlaw10.SpaceGuards", spec := "spaceGuards", inPlace := ["slices.overlaps[jacinth/region.Piece]"], unfollowed := true, recurses := true, apart := false, narrowed := true }
def SpaceGuardsUptoSaid : Prop := spaceGuardsUptoRow.holds Try.pinned (OpenSpec.upto spaceGuardsSpec)

/-- 'jacinthlaw10.SpacePlaces', WHERE WHAT IT READS IS OF BULK AT MOST 1048576: true; the input reads as it did. -/
def spacePlacesUptoRow : OpenClaim := { program := "ytdddmjdlikjedaa", sum := "5c2079211327d2a66609410590928ffae5a91901ff6b715cb5f94950ad7463ef", func := "jacinth/jacinthlaw10.SpacePlaces", spec := "spacePlaces", inPlace := ["slices.overlaps[jacinth/region.Piece]"], unfollowed := true, recurses := true, apart := false, narrowed := true }
def SpacePlacesUptoSaid : Prop := spacePlacesUptoRow.holds Try.pinned (OpenSpec.upto spacePlacesSpec)

end Rows
end Go.Proofs.Ytdddmjdlikjedaa
