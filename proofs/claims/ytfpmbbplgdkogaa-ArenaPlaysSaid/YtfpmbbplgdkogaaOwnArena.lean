/-
  An arena is a thing of the call's own. No conditions.
-/
import Derived.Test.YtfpmbbplgdkogaaCalls1
import Derived.Test.YtfpmbbplgdkogaaThings
namespace Go.Proofs.Ytfpmbbplgdkogaa
open Go.RowKit

theorem iown (a : Nat) (F : Nat → Prop) (m : Mod) : Own F (fun w => iArena w a F m) := ⟨fun _ _ _ h t f => h.kept t f, fun _ h _ hk => h.lt hk⟩

end Go.Proofs.Ytfpmbbplgdkogaa
