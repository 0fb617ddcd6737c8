/- The mark behind a list's end. -/
import Derived.Test.YtalfdjglbbmjcabGreatDoorPa
namespace Go.Proofs.YtalfdjglbbmjcabGreatDoor
abbrev s1 : A2 := (⟨#[115, 112, 97, 114, 101]⟩, 0, 0, ⟨#[]⟩)
end Go.Proofs.YtalfdjglbbmjcabGreatDoor
