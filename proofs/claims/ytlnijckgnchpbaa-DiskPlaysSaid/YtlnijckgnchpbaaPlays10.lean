/- The document's disk: a new one; it is armed. Conditions: none. -/
import Derived.Test.YtlnijckgnchpbaaPlays9
namespace Go.Proofs.Ytlnijckgnchpbaa
open Go Go.RowKit Go.Maps
attribute [local go_sem] Oper.semAt_some

def R5One (d' : DDisk) (w : World) (e : Ending) (w' : World) : Prop := ∃ v', e = .returned (.agg (diskC d' v')) ∧ RFiles w' v' d'.files ∧ Below w.heap.size w w'
set_option maxRecDepth 100000 in
theorem r5New_any (room : Int) (w : World) :
    Calls Try.prog 5 #[.int .i64 room] w (R5One ⟨max room 0, -1, false, []⟩ w) := by
  have bA : Below w.heap.size w (w.alloc (.cells #[.int .i64 (max room 0), .int .i64 (-1), .bool false, .slice none 0 0] 27)) := (Below.refl _ _).alloc (Nat.le_refl _) _
  go_enter Try.func5, Try.ntmps5
  go_wp2_with fail
  refine bodyPost_ret (results_row rfl _ _ _ _ _ rfl (rowAt_alloc_at _ _ _ _ rfl) Try.underlying27 rfl (by kernel_rfl)) rfl ?_
  exact ⟨.slice none 0 0, rfl, ⟨⟨none, 0, rfl, fun i f hi => by simp at hi⟩, fun g n cap hv => by injection hv with e; cases e⟩, bA⟩
set_option maxRecDepth 100000 in
theorem r5Arm_any (d : DDisk) (v : Value) (m : Int) (w : World) (h : RFiles w v d.files) :
    Calls Try.prog 26 #[.agg (diskC d v), .int .i64 m] w (R5One (armD d m) w) := by
  obtain ⟨⟨ao, cap, rfl, hc⟩, -⟩ := id h
  obtain ⟨room, fuse, dead, fs⟩ := d
  dsimp only at h hc ⊢
  obtain ⟨n, hn⟩ : ∃ n, fs.length = n := ⟨_, rfl⟩
  rw [hn] at h
  rw [hn]
  unfold diskC
  clear hc hn
  cases dead with
  | true =>
    have bA : Below w.heap.size w ((w.alloc (.cells #[.int .i64 room, .int .i64 fuse, .bool true, .slice ao n cap] 27)).alloc (.cells #[.int .i64 room, .int .i64 fuse, .bool true, .slice ao n cap] 27)) := ((Below.refl _ _).alloc (Nat.le_refl _) _).alloc (by simp only [World.size_alloc]; omega) _
    rw [show armD ⟨room, fuse, true, fs⟩ m = ⟨room, fuse, true, fs⟩ from rfl]
    go_enter Try.func26, Try.ntmps26
    go_wp2_with fail
    refine bodyPost_ret (results_row rfl _ _ _ _ _ rfl (rowAt_alloc_at _ _ _ _ (by simp only [World.size_alloc])) Try.underlying27 rfl (by kernel_rfl)) rfl ?_
    exact ⟨.slice ao n cap, rfl, h.below bA, bA⟩
  | false =>
    have bA : Below w.heap.size w ((w.alloc (.cells #[.int .i64 room, .int .i64 (max m (-1)), .bool false, .slice ao n cap] 27)).alloc (.cells #[.int .i64 room, .int .i64 (max m (-1)), .bool false, .slice ao n cap] 27)) := ((Below.refl _ _).alloc (Nat.le_refl _) _).alloc (by simp only [World.size_alloc]; omega) _
    rw [show armD ⟨room, fuse, false, fs⟩ m = ⟨room, max m (-1), false, fs⟩ from rfl]
    go_enter Try.func26, Try.ntmps26
    go_wp2_with fail
    refine bodyPost_ret (results_row rfl _ _ _ _ _ rfl (rowAt_alloc_at _ _ _ _ (by simp only [World.size_alloc])) Try.underlying27 rfl (by kernel_rfl)) rfl ?_
    exact ⟨.slice ao n cap, rfl, h.below bA, bA⟩
end Go.Proofs.Ytlnijckgnchpbaa
