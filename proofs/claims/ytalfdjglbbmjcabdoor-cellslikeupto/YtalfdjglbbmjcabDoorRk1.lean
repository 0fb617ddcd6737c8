/- The mark behind a list's end. -/
import Derived.Test.YtalfdjglbbmjcabDoorPa
namespace Go.Proofs.YtalfdjglbbmjcabDoor
abbrev s1 : A2 := (⟨#[115, 112, 97, 114, 101]⟩, 0, 0, ⟨#[]⟩)
end Go.Proofs.YtalfdjglbbmjcabDoor
