/- The call whose answer the document fixes, at the head of layer 3's statements: true; sums by keys. Conditions: the table lies where the program lays it. -/
import Derived.Test.YtlldcgofjibdjaaDoorSha8
namespace Go.Proofs.YtlldcgofjibdjaaDoor
open Go Go.RowKit

theorem aw3_0 : (shaLab [97, 98, 99]).get 0 = 186 := by
  unfold Lab.get; rw [shaLab_l, sha_abc]; rfl
theorem aw3_1 : (shaLab [97, 98, 99]).get 1 = 120 := by
  unfold Lab.get; rw [shaLab_l, sha_abc]; rfl
theorem aw3_31 : (shaLab [97, 98, 99]).get 31 = 173 := by
  unfold Lab.get; rw [shaLab_l, sha_abc]; rfl
end Go.Proofs.YtlldcgofjibdjaaDoor
