/- The mark behind a list's end. -/
import Derived.Test.YthfpmhnnjjikcabGreatDoorPPa
namespace Go.Proofs.YthfpmhnnjjikcabGreatDoor
abbrev s1 : A2 := (⟨#[115, 112, 97, 114, 101]⟩, 0, 0, ⟨#[]⟩)
end Go.Proofs.YthfpmhnnjjikcabGreatDoor
