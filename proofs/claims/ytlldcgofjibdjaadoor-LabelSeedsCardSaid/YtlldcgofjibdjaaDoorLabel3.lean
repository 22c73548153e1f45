/- Seeds held against what is told of a key; the document's texts and errors of seeds, and its bytes of labels. Conditions: the table of the rounds' constants lies where the program lays it. -/
import Derived.Test.YtlldcgofjibdjaaDoorLabel2
import Derived.Test.YtlldcgofjibdjaaDoorRef2n
namespace Go.Proofs.YtlldcgofjibdjaaDoor
open Go Go.RowKit

def chkSeed (p : Lab) (k i : List UInt8) (v : Int) (s : Lab) : Bool := decide (seedE k i v = 0) && (decide (s = seedL k i v) && decide (p = tagL 1 [k]))
set_option maxRecDepth 100000 in
set_option maxHeartbeats 2000000 in
theorem laCheck_any (p : Lab) (k i : List UInt8) (v : Int) (s : Lab) (w : World) (ht : Cubes w) (hk : k.length ≤ 100) (hi : i.length ≤ 200) :
    Calls Tryd.prog 12 #[.agg (cellsL p), .string (stx k), .string (stx i), .int .i64 v, .agg (cellsL s)] w fun e w' => e = .returned (.bool (chkSeed p k i v s)) ∧ Below w.heap.size w w' := by
  have b0 : Below w.heap.size w ((w.alloc (.cells (cellsL p) 23)).alloc (.cells (cellsL s) 23)) := ((Below.refl _ _).alloc (Nat.le_refl _) _).alloc (by simp only [World.size_alloc]; omega) _
  have r0 : rowAt ((w.alloc (.cells (cellsL p) 23)).alloc (.cells (cellsL s) 23)) w.heap.size = some (cellsL p) := (rowAt_alloc_past _ _ _ (by simp only [World.size_alloc]; omega)).trans (rowAt_alloc_at _ _ _ _ rfl)
  have r1 : rowAt ((w.alloc (.cells (cellsL p) 23)).alloc (.cells (cellsL s) 23)) (w.heap.size + 1) = some (cellsL s) := rowAt_alloc_at _ _ _ _ (by simp only [World.size_alloc])
  have T0 := Lib.hid (ht.below b0)
  have HS := Lib.hid (Seed_any k i v _ T0.out hk hi)
  have HP := Lib.hid (fun w ht => Public_any k w ht hk)
  unfold SeedR at HS
  unfold chkSeed
  clear ht hk hi
  generalize seedL k i v = L at *
  generalize seedE k i v = E at *
  generalize tagL 1 [k] = P at *
  go_enter Tryd.func12, Tryd.ntmps12
  go_wp2_with fail
  generalize (w.alloc (.cells (cellsL p) 23)).alloc (.cells (cellsL s) 23) = W at *
  refine HS.out.mono ?_
  rintro e w1 ⟨rfl, b1⟩
  have r2 := rowAt_past b1 r0
  have r3 := rowAt_past b1 r1
  have b2 := below_past b0 b1 b0.size
  have bq : Below w1.heap.size w1 (w1.alloc (.cells (cellsL L) 23)) := (Below.refl _ _).alloc (Nat.le_refl _) _
  have r4 := rowAt_alloc_at w1 (cellsL L) 23 _ rfl
  have r5 := rowAt_past bq r2
  have r6 := rowAt_past bq r3
  have b3 := below_past b2 bq b2.size
  have T2 := Lib.hid ((T0.out.below b1).below bq)
  clear r0 r1 r2 r3 b0 b1 b2 HS T0 bq
  go_upto_region 2 with fail
  generalize w1.alloc (.cells (cellsL L) 23) = W2 at *
  have f5 := fun x : Past W2 => rowAt_past x.h r5
  have f9 := fun x : Past W2 => rowAt_past x.h r6
  have f11 := fun x : Past W2 => rowAt_past x.h r4
  have HPP : ∀ x : Past W2, Calls Tryd.prog 17 #[.string (stx k)] x.w fun e w' => e = .returned (.agg (cellsL P)) ∧ Below x.w.heap.size x.w w' := fun x => HP.out _ (T2.out.below x.h)
  clear r4 r5 r6 HP
  by_cases hE : E = 0
  · subst hE
    by_cases h1 : s = L
    · subst h1
      have q1 : decide (s = s) = true := decide_eq_true rfl
      by_cases h2 : p = P
      · subst h2
        have q2 : decide (p = p) = true := decide_eq_true rfl
        refine wp_region_past (by kernel_rfl) (by kernel_rfl) ?_
        repeat (go_big_quiet_step ((go_at_call 17; exact Past.call (HPP _))))
        refine wpQuiet_nil ?_
        intro w2 hw2
        obtain ⟨⟨wn, hn⟩, rfl⟩ := hw2
        try dsimp only
        go_wp2_with fail
        go_ret
        exact ⟨by simp, below_past b3 hn b3.size⟩
      · have q2 : decide (p = P) = false := decide_eq_false h2
        refine wp_region_past (by kernel_rfl) (by kernel_rfl) ?_
        repeat (go_big_quiet_step ((go_at_call 17; exact Past.call (HPP _))))
        refine wpQuiet_nil ?_
        intro w2 hw2
        obtain ⟨⟨wn, hn⟩, rfl⟩ := hw2
        try dsimp only
        go_wp2_with fail
        go_ret
        exact ⟨by simp, below_past b3 hn b3.size⟩
    · have q1 : decide (s = L) = false := decide_eq_false h1
      refine wp_region_past (by kernel_rfl) (by kernel_rfl) ?_
      repeat (go_big_quiet_step ((go_at_call 17; exact Past.call (HPP _))))
      refine wpQuiet_nil ?_
      intro w2 hw2
      obtain ⟨⟨wn, hn⟩, rfl⟩ := hw2
      try dsimp only
      go_wp2_with fail
      go_ret
      exact ⟨by simp, below_past b3 hn b3.size⟩
  · have q0 : ((E : Int) == 0) = false := by rw [beq_eq_false_iff_ne]; omega
    have q0b : (E == 0) = false := by rw [beq_eq_false_iff_ne]; exact hE
    have q0c : decide (E = 0) = false := decide_eq_false hE
    refine wp_region_past (by kernel_rfl) (by kernel_rfl) ?_
    repeat (go_big_quiet_step ((go_at_call 17; exact Past.call (HPP _))))
    refine wpQuiet_nil ?_
    intro w2 hw2
    obtain ⟨⟨wn, hn⟩, rfl⟩ := hw2
    try dsimp only
    go_wp2_with fail
    go_ret
    exact ⟨by simp [hE], below_past b3 hn b3.size⟩
set_option maxRecDepth 100000 in
theorem r14Text_any (i : List UInt8) (n : Nat) (w : World) (hi : i.length ≤ 200) (hn : n ≤ 1073741824) : Calls Tryd.prog 16 #[.string (stx i), .int .i64 n] w fun e w' => e = .returned (.string (stx (seedT i n))) ∧ Below w.heap.size w w' := by
  have H1 := Lib.hid (r2Text_any (stx i) w (by rw [stx_size]; omega))
  have H2 := Lib.hid (fun w => r2Number_any n w (by omega))
  rw [stx_size, show (stx i).data.toList = i from rfl] at H1
  have HA : Hid (stx (numBytes i.length ++ i) ++ stx (numBytes n) = stx (seedT i n)) := Lib.hid (stx_append _ _)
  have z1 : (stx (numBytes i.length ++ i)).size ≤ 300 := by
    have := numLen_le i.length (by omega)
    rw [stx_size, List.length_append, numBytes_length]
    omega
  have z2 : (stx (numBytes n)).size ≤ 9 := by
    have := numLen_le n (by omega)
    rw [stx_size, numBytes_length]
    omega
  rw [show txt (numBytes i.length ++ i) = stx (numBytes i.length ++ i) from rfl] at H1
  rw [show txt (numBytes n) = stx (numBytes n) from rfl] at H2
  generalize stx (numBytes i.length ++ i) = A at *
  generalize stx (numBytes n) = B at *
  clear hi hn
  go_enter Tryd.func16, Tryd.ntmps16
  go_wp2_with fail
  refine H1.out.mono ?_
  rintro e w1 ⟨rfl, b1⟩
  clear H1
  go_wp2_with fail
  refine (H2.out _).mono ?_
  rintro e w2 ⟨rfl, b2⟩
  have b3 := below_past b1 b2 b1.size
  clear H2 b1 b2
  go_wp2_with fail
  go_ret
  exact ⟨by rw [← HA.out]; rfl, b3⟩
set_option maxRecDepth 100000 in
set_option maxHeartbeats 1000000 in
theorem r14Error_any (k i : List UInt8) (v : Int) (w : World) (hk : k.length ≤ 100) (hi : i.length ≤ 200) : Calls Tryd.prog 9 #[.string (stx k), .string (stx i), .int .i64 v] w fun e w' => e = .returned (.int .i64 (seedE k i v)) ∧ Below w.heap.size w w' := by
  have hz : (stx k).size = k.length := stx_size k
  have HC := Lib.hid (fun w => r6Check_any (stx i) w (by rw [stx_size]; omega))
  rw [show (stx i).data.toList = i from rfl] at HC
  unfold ChkR at HC
  unfold seedE goodK
  generalize (chk i).1 = c1 at *
  generalize (chk i).2 = c2 at *
  clear hi
  obtain ⟨n, hn⟩ : ∃ n, k.length = n := ⟨_, rfl⟩
  rw [hn] at hz hk ⊢
  by_cases h0 : n = 0
  · subst h0
    rw [if_pos (by decide)]
    clear hn hk
    generalize stx k = s at *
    go_enter Tryd.func9, Tryd.ntmps9
    go_wp2_with fail
    go_ret
    exact ⟨rfl, Below.refl _ _⟩
  · have q0 : decide (n = 0) = false := decide_eq_false h0
    have q0b : (n == 0) = false := by rw [beq_eq_false_iff_ne]; exact h0
    have q0c : ((n : Int) == 0) = false := by rw [beq_eq_false_iff_ne]; omega
    by_cases h1 : 64 < n
    · rw [if_pos (by rw [decide_eq_false_iff_not]; omega)]
      have q1 : decide (64 < n) = true := decide_eq_true h1
      have q1b : (64 : Int) < n := by omega
      clear hn hk
      generalize stx k = s at *
      go_enter Tryd.func9, Tryd.ntmps9
      go_wp2_with fail
      go_ret
      exact ⟨rfl, Below.refl _ _⟩
    · rw [if_neg (by rw [decide_eq_false_iff_not]; omega)]
      have q1 : decide (64 < n) = false := decide_eq_false h1
      have q1b : ¬ (64 : Int) < n := by omega
      clear hn hk
      generalize stx k = s at *
      by_cases hc : c2 ≠ 0
      · rw [if_pos hc]
        have hc1 : ((c2 : Int) != 0) = true := by rw [bne_iff_ne]; omega
        have hc2 : (c2 != 0) = true := by rw [bne_iff_ne]; exact hc
        clear hc
        go_enter Tryd.func9, Tryd.ntmps9
        go_wp2_with fail
        refine (HC.out _).mono ?_
        rintro e w1 ⟨rfl, b1⟩
        clear HC
        go_wp2_with fail
        go_ret
        exact ⟨rfl, b1⟩
      · obtain rfl : c2 = 0 := by omega
        rw [if_neg (by decide)]
        by_cases hv : v < 0
        · rw [if_pos (.inl hv)]
          go_enter Tryd.func9, Tryd.ntmps9
          go_wp2_with fail
          refine (HC.out _).mono ?_
          rintro e w1 ⟨rfl, b1⟩
          clear HC
          go_wp2_with fail
          go_ret
          exact ⟨rfl, b1⟩
        · by_cases hv2 : 1073741824 < v
          · rw [if_pos (.inr hv2)]
            go_enter Tryd.func9, Tryd.ntmps9
            go_wp2_with fail
            refine (HC.out _).mono ?_
            rintro e w1 ⟨rfl, b1⟩
            clear HC
            go_wp2_with fail
            go_ret
            exact ⟨rfl, b1⟩
          · rw [if_neg (fun e => e.elim hv hv2)]
            go_enter Tryd.func9, Tryd.ntmps9
            go_wp2_with fail
            refine (HC.out _).mono ?_
            rintro e w1 ⟨rfl, b1⟩
            clear HC
            go_wp2_with fail
            go_ret
            exact ⟨rfl, b1⟩
theorem aw14_e : seedE [107] [97, 110, 110] 3 = 0 := by decide +kernel
theorem aw14_t : seedT [97, 110, 110] 3 = [1, 3, 97, 110, 110, 1, 3] := by decide +kernel
set_option maxRecDepth 100000 in
set_option maxHeartbeats 1000000 in
theorem awake14 (w : World) (ht : Cubes w) : Calls Tryd.prog 10 #[] w fun e w' => e = .returned (.bool true) ∧ Below w.heap.size w w' := by
  have HS := Lib.hid (Seed_any [107] [97, 110, 110] 3 w ht (by decide) (by decide))
  rw [seedR_ok aw14_e, show Int.toNat 3 = 3 from rfl, aw14_t] at HS
  obtain ⟨L, hL⟩ : ∃ L, macL [107] [1, 3, 97, 110, 110, 1, 3] = L := ⟨_, rfl⟩
  rw [hL] at HS
  have HT := Lib.hid ht
  have HM : Hid (∀ w, Cubes w → Calls Tryd.prog 15 #[.string ⟨#[107]⟩, .string ⟨#[1, 3, 97, 110, 110, 1, 3]⟩] w fun e w' => e = .returned (.agg (cellsL L)) ∧ Below w.heap.size w w') := Lib.hid fun w h => by
    have := Mac_any [107] [1, 3, 97, 110, 110, 1, 3] w h (by decide) (by decide)
    rw [hL] at this
    exact this
  have HP : Hid (∀ w, Cubes w → Calls Tryd.prog 17 #[.string ⟨#[107]⟩] w fun e w' => e = .returned (.agg (cellsL (tagL 1 [[107]]))) ∧ Below w.heap.size w w') := Lib.hid fun w h => Public_any [107] w h (by decide)
  have HC : Hid (∀ w, Cubes w → Calls Tryd.prog 12 #[.agg (cellsL (tagL 1 [[107]])), .string ⟨#[107]⟩, .string ⟨#[97, 110, 110]⟩, .int .i64 3, .agg (cellsL L)] w fun e w' => e = .returned (.bool true) ∧ Below w.heap.size w w') := Lib.hid fun w h => by
    have := laCheck_any (tagL 1 [[107]]) [107] [97, 110, 110] 3 L w h (by decide) (by decide)
    rw [chkSeed, aw14_e, seedL, if_pos aw14_e, show Int.toNat 3 = 3 from rfl, aw14_t, hL, decide_eq_true rfl, decide_eq_true rfl, decide_eq_true rfl] at this
    exact this
  clear ht hL
  generalize tagL 1 [[107]] = P at *
  have hlj : decide (L = L) = true := decide_eq_true rfl
  go_enter Tryd.func10, Tryd.ntmps10
  go_wp2_with fail
  refine HS.out.mono ?_
  rintro e w1 ⟨rfl, b1⟩
  have bq : Below w1.heap.size w1 (w1.alloc (.cells (cellsL L) 23)) := (Below.refl _ _).alloc (Nat.le_refl _) _
  have r4 := rowAt_alloc_at w1 (cellsL L) 23 _ rfl
  have b3 := below_past b1 bq b1.size
  have T2 := Lib.hid ((HT.out.below b1).below bq)
  clear b1 HS HT bq
  go_upto_region 2 with fail
  generalize w1.alloc (.cells (cellsL L) 23) = W2 at *
  have f1 := fun x : Past W2 => rowAt_past x.h r4
  have HMM := fun x : Past W2 => HM.out _ (T2.out.below x.h)
  have HPP := fun x : Past W2 => HP.out _ (T2.out.below x.h)
  have HCC := fun x : Past W2 => HC.out _ (T2.out.below x.h)
  clear r4 HM HP HC
  refine wp_region_past (by kernel_rfl) (by kernel_rfl) ?_
  repeat (go_big_quiet_step (first | (go_at_call 17; exact Past.call (HPP _)) | (go_at_call 15; exact Past.call (HMM _)) | (go_at_call 12; exact Past.call (HCC _))))
  refine wpQuiet_nil ?_
  intro w2 hw2
  obtain ⟨⟨wn, hn⟩, rfl⟩ := hw2
  try dsimp only
  go_wp2_with fail
  go_ret
  exact ⟨rfl, below_past b3 hn b3.size⟩
end Go.Proofs.YtlldcgofjibdjaaDoor
