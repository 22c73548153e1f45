/- The document's disk: a deed; a file goes. Conditions: none. -/
import Derived.Test.YtlnijckgnchpbaaPlays1
namespace Go.Proofs.Ytlnijckgnchpbaa
open Go Go.RowKit Go.Maps
attribute [local go_sem] Oper.semAt_some

def deedV (d : DDisk) (v : Value) : Value := .tuple #[.agg (diskC (deedD d) v), .int .i64 (deedE d)]
set_option maxRecDepth 100000 in
theorem r5deed_any (d : DDisk) (ao : Option Addr) (n cap : Nat) (w : World) (hf : -9223372036854775808 ≤ d.fuse ∧ d.fuse ≤ 9223372036854775807) :
    Calls Try.prog 38 #[.agg (diskC d (.slice ao n cap))] w fun e w' => e = .returned (deedV d (.slice ao n cap)) ∧ Below w.heap.size w w' := by
  unfold deedV
  unfold diskC
  obtain ⟨room, fuse, dead, fs⟩ := d
  dsimp only at hf ⊢
  have bA : ∀ f dd, Below w.heap.size w ((w.alloc (.cells #[.int .i64 room, .int .i64 f, .bool dd, .slice ao n cap] 27)).alloc (.cells #[.int .i64 room, .int .i64 f, .bool dd, .slice ao n cap] 27)) := fun f dd => ((Below.refl _ _).alloc (Nat.le_refl _) _).alloc (by simp only [World.size_alloc]; omega) _
  have rA : ∀ f dd, rowAt ((w.alloc (.cells #[.int .i64 room, .int .i64 f, .bool dd, .slice ao n cap] 27)).alloc (.cells #[.int .i64 room, .int .i64 f, .bool dd, .slice ao n cap] 27)) (w.heap.size + 1) = some #[.int .i64 room, .int .i64 f, .bool dd, .slice ao n cap] := fun f dd => rowAt_alloc_at _ _ _ _ (by simp only [World.size_alloc])
  by_cases h0 : fuse = 0
  · subst h0
    go_enter Try.func38, Try.ntmps38
    go_wp2_with fail
    refine bodyPost_ret (results_row_tmp rfl _ _ _ _ _ rfl (rA 0 true) Try.underlying27 rfl (by kernel_rfl)) rfl ⟨rfl, bA 0 true⟩
  · by_cases h1 : 0 < fuse
    · have hE : deedE ⟨room, fuse, dead, fs⟩ = 0 := by unfold deedE; rw [if_neg h0]
      have hD : deedD ⟨room, fuse, dead, fs⟩ = ⟨room, fuse - 1, dead, fs⟩ := by unfold deedD; rw [if_neg h0, if_pos h1]
      rw [hE, hD]
      have q1 : decide (0 < fuse) = true := decide_eq_true h1
      clear hE hD
      go_enter Try.func38, Try.ntmps38
      go_wp2_with fail
      refine bodyPost_ret (results_row_tmp rfl _ _ _ _ _ rfl (rA (fuse - 1) dead) Try.underlying27 rfl (by kernel_rfl)) rfl ⟨rfl, bA (fuse - 1) dead⟩
    · have hE : deedE ⟨room, fuse, dead, fs⟩ = 0 := by unfold deedE; rw [if_neg h0]
      have hD : deedD ⟨room, fuse, dead, fs⟩ = ⟨room, fuse, dead, fs⟩ := by unfold deedD; rw [if_neg h0, if_neg h1]
      rw [hE, hD]
      have q1 : decide (0 < fuse) = false := decide_eq_false h1
      clear hE hD
      go_enter Try.func38, Try.ntmps38
      go_wp2_with fail
      refine bodyPost_ret (results_row_tmp rfl _ _ _ _ _ rfl (rA fuse dead) Try.underlying27 rfl (by kernel_rfl)) rfl ⟨rfl, bA fuse dead⟩
end Go.Proofs.Ytlnijckgnchpbaa
