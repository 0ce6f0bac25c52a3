import Derived.Test.YtcejejiomhhpgaaGreatDoorXBE
namespace Go.Proofs.YtcejejiomhhpgaaGreatDoor
open Go.RowKit Go.Shelf
/-- terms in the document's order -/
def frmD (Ts : List (List UInt8 × List (List UInt8))) : List (List UInt8 × List (List UInt8)) := (srtLn (Ts.map (fun t => t.1 :: t.2))).map (fun S => (S.headD [], S.tail))
end Go.Proofs.YtcejejiomhhpgaaGreatDoor
