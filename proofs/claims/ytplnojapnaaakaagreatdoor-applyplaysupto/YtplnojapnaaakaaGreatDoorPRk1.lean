/- The mark behind a list's end. -/
import Derived.Test.YtplnojapnaaakaaGreatDoorPPa
namespace Go.Proofs.YtplnojapnaaakaaGreatDoor
abbrev s1 : A2 := (⟨#[115, 112, 97, 114, 101]⟩, 0, 0, ⟨#[]⟩)
end Go.Proofs.YtplnojapnaaakaaGreatDoor
