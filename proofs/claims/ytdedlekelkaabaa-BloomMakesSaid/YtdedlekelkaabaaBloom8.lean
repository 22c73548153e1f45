/- Make where it fails; awake. Conditions: none. -/
import Derived.Test.YtdedlekelkaabaaBloom7
namespace Go.Proofs.Ytdedlekelkaabaa
open Go Go.RowKit Go.Shelf
attribute [local go_sem] Oper.semAt_some

set_option maxRecDepth 100000 in
theorem make_err (v : Value) (each : Int) (w : World) (he : each < 1 ∨ 32 < each) :
    Calls Try.prog 6 #[v, .int .i64 each] w fun e w' => e = .returned (.tuple #[.agg #[.int .i64 0, .slice none 0 0], .int .i64 1]) ∧ Below w.heap.size w w' := by
  by_cases h : each < 1
  · have q1 : decide (each < 1) = true := decide_eq_true h
    clear he h
    go_enter Try.func6, Try.ntmps6
    go_wp2_with fail
    refine bodyPost_ret (v := .tuple #[.agg #[.int .i64 0, .slice none 0 0], .int .i64 1]) (by simp [results, Try.f6, go_sem]) rfl ⟨rfl, ?_⟩
    exact (Below.refl _ _).alloc (Nat.le_refl _) _
  · have q1 : decide (each < 1) = false := decide_eq_false h
    have q2 : decide (32 < each) = true := decide_eq_true (by omega)
    clear he h
    go_enter Try.func6, Try.ntmps6
    go_wp2_with fail
    refine bodyPost_ret (v := .tuple #[.agg #[.int .i64 0, .slice none 0 0], .int .i64 1]) (by simp [results, Try.f6, go_sem]) rfl ⟨rfl, ?_⟩
    exact (Below.refl _ _).alloc (Nat.le_refl _) _
/-- A filter in a block of its own. -/
def keysL (S : Nat → ByteArray) (len : Nat) : List (List UInt8) := (List.range len).map fun i => (S i).data.toList
theorem make_full (v : Value) (len : Nat) (S : Nat → ByteArray) (each : Nat) (w : World) (h1 : InStrs w v len S) (hs : ∀ i, i < len → (S i).size ≤ 1000000) (he : 1 ≤ each ∧ each ≤ 32) (hl : len ≤ 2048) (K : List (List UInt8)) (hK : keysL S len = K) (p n : Nat) (hp : probesK each = p) (hn : sizeK len each = n) :
    Calls Try.prog 6 #[v, .int .i64 each] w fun e w' => ∃ g cap, e = .returned (.tuple #[.agg #[.int .i64 p, .slice (some ⟨g, 0, none⟩) n cap], .int .i64 0]) ∧ BytesIn w' (some ⟨g, 0, none⟩) (makeK p n K) ∧ w.heap.size ≤ g ∧ Below w.heap.size w w' := by
  subst hp hn hK
  refine (make_any v len S each w h1 hs he hl).mono ?_
  rintro e w' ⟨g, cap, rfl, h2, h3, h4⟩
  refine ⟨g, cap, rfl, fun i hi => ⟨g, 0, rfl, ?_⟩, h3, h4⟩
  rw [Nat.zero_add]
  refine (cell_of_rowAt h2 i).trans ?_
  exact cellsB8_get _ i hi
def abS (i : Nat) : ByteArray := if i = 0 then ⟨#[97]⟩ else ⟨#[98]⟩
set_option maxRecDepth 100000 in
set_option maxHeartbeats 4000000 in
theorem awake8 (w : World) : Calls Try.prog 7 #[] w fun e w' => e = .returned (.bool true) ∧ Below w.heap.size w w' := by
  have hin : InStrs (w.alloc (.cells #[.string ⟨#[97]⟩, .string ⟨#[98]⟩] 9)) (.slice (some ⟨w.heap.size, 0, none⟩) 2 2) 2 abS := by
    refine ⟨_, _, rfl, fun i hi => ⟨_, rfl, ?_⟩⟩
    have r := rowAt_alloc_at w #[.string ⟨#[97]⟩, .string ⟨#[98]⟩] 9 _ rfl
    rw [show (⟨w.heap.size, 0, none⟩ : Addr).add i = ⟨w.heap.size, i, none⟩ by simp [Addr.add]; exact fun e => e.symm]
    refine (cell_of_rowAt r i).trans ?_
    rcases (by omega : i = 0 ∨ i = 1) with rfl | rfl <;> rfl
  have HM := Lib.hid (make_full _ 2 abS 10 _ hin (fun i hi => by rcases (by omega : i = 0 ∨ i = 1) with rfl | rfl <;> decide) ⟨by decide, by decide⟩ (by decide) [[97], [98]] (by decide) 7 4 (by decide) (by decide))
  have HMA : ∀ (g cap : Nat) (w : World) (c : UInt8), (c = 97 ∨ c = 98) → BytesIn w (some ⟨g, 0, none⟩) (makeK 7 4 [[97], [98]]) → Hid (Calls Try.prog 12 #[.agg #[.int .i64 7, .slice (some ⟨g, 0, none⟩) 4 cap], .string ⟨#[c]⟩] w fun e w' => e = .returned (.bool true) ∧ Below w.heap.size w w') := fun g cap w c hc hB => Lib.hid (by
    have := may_any 7 (some ⟨g, 0, none⟩) cap _ ⟨#[c]⟩ w (by simp [ByteArray.size]) hB
    rw [makeK_length] at this
    have h7 := mayF_has 7 4 [[97], [98]] [c] (by rcases hc with rfl | rfl <;> simp) (by decide) (by decide)
    rwa [show mayF 7 (makeK 7 4 [[97], [98]]) (hashL (⟨#[c]⟩ : ByteArray).data.toList) = true from h7] at this)
  have HBY : ∀ (g : Nat) (w : World), BytesIn w (some ⟨g, 0, none⟩) [0] → Hid (Calls Try.prog 21 #[.agg #[.int .i64 1, .slice (some ⟨g, 0, none⟩) 1 1]] w fun e w' => e = .returned (.tuple #[.string ⟨#[1, 1, 1, 1, 0]⟩, .int .i64 0]) ∧ Below w.heap.size w w') := fun g w hB => Lib.hid (by
    have := bytes_any 1 (some ⟨g, 0, none⟩) 1 [0] w hB
    rwa [show encE 1 [0] = 0 by decide, show txt (encF 1 [0]) = ⟨#[1, 1, 1, 1, 0]⟩ by decide +kernel] at this)
  have a0 : Below w.heap.size w (w.alloc (.cells #[.string ⟨#[97]⟩, .string ⟨#[98]⟩] 9)) := (Below.refl _ _).alloc (Nat.le_refl _) _
  have z0 : (w.alloc (.cells #[.string ⟨#[97]⟩, .string ⟨#[98]⟩] 9)).heap.size = w.heap.size + 1 := by simp
  rw [show ((10 : Nat) : Int) = 10 from rfl, show ((7 : Nat) : Int) = 7 from rfl] at HM
  clear hin
  go_enter Try.func7, Try.ntmps7
  go_wp2_with fail
  generalize w.alloc (.cells #[.string ⟨#[97]⟩, .string ⟨#[98]⟩] 9) = W0 at *
  refine HM.out.mono ?_
  rintro e w1 ⟨g, cap, rfl, hB, hg, b1⟩
  have a1 := below_past a0 b1 a0.size
  clear HM a0 b1
  go_wp2_with fail
  have x2 : ((w1.alloc (.cells #[.int .i64 7, .slice (some ⟨g, 0, none⟩) 4 cap] 26)).alloc (.cells #[.int .u8 0] 5)).heap[w1.heap.size]? = some (.cells #[.int .i64 7, .slice (some ⟨g, 0, none⟩) 4 cap] 26 (0, 0)) := (Below.heap_alloc _ _ _ (by simp)).trans (World.alloc_heap_new w1 _)
  have b2 := ((Below.refl w1.heap.size w1).alloc (Nat.le_refl _) (.cells #[.int .i64 7, .slice (some ⟨g, 0, none⟩) 4 cap] 26)).alloc (by simp) (.cells #[.int .u8 0] 5)
  have hB2 := hB.below b2
  have hZ2 : BytesIn ((w1.alloc (.cells #[.int .i64 7, .slice (some ⟨g, 0, none⟩) 4 cap] 26)).alloc (.cells #[.int .u8 0] 5)) (some ⟨w1.heap.size + 1, 0, none⟩) [0] := fun i hi => ⟨_, 0, rfl, by
    have hi0 : i = 0 := by simpa using hi
    subst hi0
    have r := rowAt_alloc_at (w1.alloc (.cells #[.int .i64 7, .slice (some ⟨g, 0, none⟩) 4 cap] 26)) #[.int .u8 0] 5 (w1.heap.size + 1) (by simp)
    exact (cell_of_rowAt r 0).trans rfl⟩
  have a2 := below_past a1 b2 a1.size
  generalize ((w1.alloc (.cells #[.int .i64 7, .slice (some ⟨g, 0, none⟩) 4 cap] 26)).alloc (.cells #[.int .u8 0] 5)) = W2 at *
  clear hB a1 b2
  refine (HBY _ _ hZ2).out.mono ?_
  rintro e w3 ⟨rfl, b3⟩
  have x3 := (b3.block _ (heap_lt x2)).trans x2
  have hB3 := Lib.hid (hB2.below b3)
  have a3 := below_past a2 b3 a2.size
  clear HBY x2 hB2 hZ2 a2 b3
  have c0 : w3.cell? ⟨w1.heap.size, 0, none⟩ = some (.int .i64 7) := (Lib.cell_of_heap x3 0).trans rfl
  have c1 : w3.cell? ⟨w1.heap.size, 1, none⟩ = some (.slice (some ⟨g, 0, none⟩) 4 cap) := (Lib.cell_of_heap x3 1).trans rfl
  go_wp2_with fail
  refine (HMA _ _ _ 97 (.inl rfl) hB3.out).out.mono ?_
  rintro e w4 ⟨rfl, b4⟩
  have x4 := (b4.block _ (heap_lt x3)).trans x3
  have hB4 := Lib.hid (hB3.out.below b4)
  have a4 := below_past a3 b4 a3.size
  clear x3 hB3 a3 b4 c0 c1
  have c0 : w4.cell? ⟨w1.heap.size, 0, none⟩ = some (.int .i64 7) := (Lib.cell_of_heap x4 0).trans rfl
  have c1 : w4.cell? ⟨w1.heap.size, 1, none⟩ = some (.slice (some ⟨g, 0, none⟩) 4 cap) := (Lib.cell_of_heap x4 1).trans rfl
  go_wp2_with fail
  refine (HMA _ _ _ 98 (.inr rfl) hB4.out).out.mono ?_
  rintro e w5 ⟨rfl, b5⟩
  have a5 := below_past a4 b5 a4.size
  clear HMA x4 hB4 a4 b5 c0 c1
  go_wp2_with fail
  go_ret
  exact ⟨rfl, a5⟩
end Go.Proofs.Ytdedlekelkaabaa
