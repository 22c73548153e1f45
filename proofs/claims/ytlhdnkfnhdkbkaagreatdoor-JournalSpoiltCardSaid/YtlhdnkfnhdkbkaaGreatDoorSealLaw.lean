/- The calls whose answers the document fixes, at the head of layer 4's statements: true. Conditions: the tables lie where the program lays them. -/
import Derived.Test.YtlhdnkfnhdkbkaaGreatDoorSeal4
namespace Go.Proofs.YtlhdnkfnhdkbkaaGreatDoor
open Go Go.RowKit

theorem aw4_f : frame [] = [94, 0, 0, 0] ++ (be4 (crc [94, 0, 0, 0]) ++ []) := rfl
theorem aw4_all : allR (frame [] ++ frame [] ++ [120]) = ([[], []], 16) := by decide +kernel
theorem aw4_crc : crc [49, 50, 51, 52, 53, 54, 55, 56, 57] = 3421780262 := by decide +kernel
end Go.Proofs.YtlhdnkfnhdkbkaaGreatDoor
