/- The mark behind a list's end. -/
import Derived.Test.YtpmnmlhmeidmeaaGreatDoorPa
namespace Go.Proofs.YtpmnmlhmeidmeaaGreatDoor
abbrev s1 : A2 := (⟨#[115, 112, 97, 114, 101]⟩, 0, 0, ⟨#[]⟩)
end Go.Proofs.YtpmnmlhmeidmeaaGreatDoor
