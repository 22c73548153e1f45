/- For every three labels the law BitsBetween returns true. Conditions: none. -/
import Derived.Test.YtlahepdfhfknfaaLaw1
import Derived.Test.YtlahepdfhfknfaaRow
namespace Go.Proofs.Ytlahepdfhfknfaa.between
open Go Go.ChangeShapes Go.WideShapes Go.ChangeAt Go.RowKit Go.Proofs.Ytlahepdfhfknfaa

theorem order_pos {a b : Lab} : 0 < order a b ↔ ∃ n, n < 256 ∧ common a b = n ∧ bit a n = 1 ∧ bit b n = 0 := by
  have is := common_is a b
  unfold order
  constructor
  · intro h
    split at h
    · omega
    · rename_i hne
      have hlt : common a b < 256 := by have := is.le; omega
      have h1 := bit_lt a (common a b)
      have h2 := bit_lt b (common a b)
      have h3 := is.other hlt
      exact ⟨_, hlt, rfl, by omega, by omega⟩
  · rintro ⟨n, hn, rfl, h1, h2⟩
    rw [if_neg (by omega), h1]
    decide
theorem order_le {a b : Lab} : order a b ≤ 0 ↔ a = b ∨ ∃ n, n < 256 ∧ common a b = n ∧ bit a n = 0 ∧ bit b n = 1 := by
  have is := common_is a b
  constructor
  · intro h
    by_cases he : a = b
    · exact .inl he
    · right
      have hc : common a b ≠ 256 := fun e => he (common_256.1 e)
      have hlt : common a b < 256 := by have := is.le; omega
      rw [order, if_neg hc] at h
      have h1 := bit_lt a (common a b)
      have h2 := bit_lt b (common a b)
      have h3 := is.other hlt
      exact ⟨_, hlt, rfl, by omega, by omega⟩
  · rintro (rfl | ⟨n, hn, rfl, h1, h2⟩)
    · rw [order, if_pos (common_256.2 rfl)]; exact Int.le_refl _
    · rw [order, if_neg (by omega), h1]; decide

/-- Of three labels in order: what the outer ones have in common. -/
theorem between_math {a b c : Lab} (h1 : order a b ≤ 0) (h2 : order b c ≤ 0) : order a c ≤ 0 ∧ common a c = min (common a b) (common b c) := by
  rcases order_le.1 h1 with rfl | ⟨n, hn, e1, n1, n2⟩
  · refine ⟨h2, ?_⟩
    rw [common_256.2 rfl]
    have := common_le a c
    omega
  · rcases order_le.1 h2 with rfl | ⟨m, hm, e2, m1, m2⟩
    · refine ⟨h1, ?_⟩
      rw [common_256.2 (rfl : b = b)]
      omega
    · have is1 := common_is a b
      have is2 := common_is b c
      rw [e1] at is1
      rw [e2] at is2
      rcases Nat.lt_trichotomy n m with hlt | rfl | hlt
      · have hc : common a c = n := common_of ⟨by omega, fun i hi => (is1.same i hi).trans (is2.same i (by omega)), fun _ => by rw [← is2.same n hlt]; omega⟩
        refine ⟨order_le.2 (.inr ⟨n, hn, hc, n1, by rw [← is2.same n hlt]; exact n2⟩), by rw [hc]; omega⟩
      · omega
      · have hc : common a c = m := common_of ⟨by omega, fun i hi => (is1.same i (by omega)).trans (is2.same i hi), fun _ => by rw [is1.same m hlt]; omega⟩
        refine ⟨order_le.2 (.inr ⟨m, hm, hc, by rw [is1.same m hlt]; exact m1, m2⟩), by rw [hc]; omega⟩

theorem walk (a b c : Lab) (w : World) : Calls Try.prog 10 #[.agg (cellsL a), .agg (cellsL b), .agg (cellsL c)] w fun e w' => e = .returned (.bool true) ∧ Below w.heap.size w w' := by
  have b0 : Below w.heap.size w (((w.alloc (.cells (cellsL a) 23)).alloc (.cells (cellsL b) 23)).alloc (.cells (cellsL c) 23)) := (((Below.refl _ _).alloc (Nat.le_refl _) _).alloc (by simp only [World.size_alloc]; omega) _).alloc (by simp only [World.size_alloc]; omega) _
  have r0 : rowAt (((w.alloc (.cells (cellsL a) 23)).alloc (.cells (cellsL b) 23)).alloc (.cells (cellsL c) 23)) w.heap.size = some (cellsL a) := (rowAt_alloc_past _ _ _ (by simp only [World.size_alloc]; omega)).trans ((rowAt_alloc_past _ _ _ (by simp only [World.size_alloc]; omega)).trans (rowAt_alloc_at _ _ _ _ rfl))
  have r1 : rowAt (((w.alloc (.cells (cellsL a) 23)).alloc (.cells (cellsL b) 23)).alloc (.cells (cellsL c) 23)) (w.heap.size + 1) = some (cellsL b) := (rowAt_alloc_past _ _ _ (by simp only [World.size_alloc]; omega)).trans (rowAt_alloc_at _ _ _ _ (by simp only [World.size_alloc]))
  have r2 : rowAt (((w.alloc (.cells (cellsL a) 23)).alloc (.cells (cellsL b) 23)).alloc (.cells (cellsL c) 23)) (w.heap.size + 1 + 1) = some (cellsL c) := rowAt_alloc_at _ _ _ _ (by simp only [World.size_alloc])
  by_cases h1 : 0 < order a b
  · go_enter Try.func10, Try.ntmps10
    go_wp2_with fail
    generalize ((w.alloc (.cells (cellsL a) 23)).alloc (.cells (cellsL b) 23)).alloc (.cells (cellsL c) 23) = W at *
    refine (Order_any _ _ _).mono ?_
    rintro e w1 ⟨rfl, hb1⟩
    go_wp2_with fail
    refine (awake1 _).mono ?_
    rintro e w2 ⟨rfl, hb2⟩
    go_wp2_with fail
    go_ret
    exact ⟨rfl, below_past (below_past b0 hb1 b0.size) hb2 (below_past b0 hb1 b0.size).size⟩
  · by_cases h2 : 0 < order b c
    · go_enter Try.func10, Try.ntmps10
      go_wp2_with fail
      generalize ((w.alloc (.cells (cellsL a) 23)).alloc (.cells (cellsL b) 23)).alloc (.cells (cellsL c) 23) = W at *
      refine (Order_any _ _ _).mono ?_
      rintro e w1 ⟨rfl, hb1⟩
      have q1 := rowAt_past hb1 r1
      have q2 := rowAt_past hb1 r2
      have b1 := below_past b0 hb1 b0.size
      clear hb1 b0 r0 r1 r2
      go_wp2_with fail
      refine (Order_any _ _ _).mono ?_
      rintro e w2 ⟨rfl, hb2⟩
      have b2 := below_past b1 hb2 b1.size
      clear hb2 b1 q1 q2
      go_wp2_with fail
      refine (awake1 _).mono ?_
      rintro e w3 ⟨rfl, hb3⟩
      go_wp2_with fail
      go_ret
      exact ⟨rfl, below_past b2 hb3 b2.size⟩
    · obtain ⟨m1, m2⟩ := between_math (a := a) (b := b) (c := c) (by omega) (by omega)
      have HM := Lib.hid m2
      clear m2
      have k1 : (min (common a b) (common b c) : Int) ≤ (common a b : Int) := by omega
      have k2 : (min (common a b) (common b c) : Int) ≤ (common b c : Int) := by omega
      have e1 : ((common a c : Nat) : Int) = min (common a b : Int) (common b c : Int) := by rw [HM.out]; omega
      have E1 := Lib.hid e1
      have kc := common_le a c
      clear e1
      go_enter Try.func10, Try.ntmps10
      go_wp2_with fail
      generalize ((w.alloc (.cells (cellsL a) 23)).alloc (.cells (cellsL b) 23)).alloc (.cells (cellsL c) 23) = W at *
      refine (Order_any _ _ _).mono ?_
      rintro e w1 ⟨rfl, hb1⟩
      have q0 := rowAt_past hb1 r0
      have q1 := rowAt_past hb1 r1
      have q2 := rowAt_past hb1 r2
      have b1 := below_past b0 hb1 b0.size
      clear hb1 b0 r0 r1 r2
      go_wp2_with fail
      refine (Order_any _ _ _).mono ?_
      rintro e w2 ⟨rfl, hb2⟩
      have r0 := rowAt_past hb2 q0
      have r1 := rowAt_past hb2 q1
      have r2 := rowAt_past hb2 q2
      have b2 := below_past b1 hb2 b1.size
      clear hb2 b1 q0 q1 q2
      go_wp2_with fail
      refine (Common_any _ _ _).mono ?_
      rintro e w3 ⟨rfl, hb3⟩
      rw [E1.out]
      have q0 := rowAt_past hb3 r0
      have q1 := rowAt_past hb3 r1
      have q2 := rowAt_past hb3 r2
      have b3 := below_past b2 hb3 b2.size
      clear hb3 b2 r0 r1 r2 kc
      go_wp2_with fail
      have fa := fun x : Past w3 => x.row q0
      have fb := fun x : Past w3 => x.row q1
      have fc := fun x : Past w3 => x.row q2
      refine wp_region_past (by kernel_rfl) (by kernel_rfl) ?_
      repeat (go_big_quiet_step (first | (go_at_call 15; exact Past.call (awake1 _)) | (go_at_call 18; exact Past.call (Order_any _ _ _)) | (go_at_call 20; exact Past.call (Common_any _ _ _))))
      refine wpQuiet_nil ?_
      intro w2 hw2
      obtain ⟨⟨wn, hn⟩, rfl⟩ := hw2
      try dsimp only
      go_wp2_with fail
      go_ret
      exact ⟨rfl, below_past b3 hn b3.size⟩

set_option maxRecDepth 100000 in
theorem lifted (os : Os) (started : os.Started) (H : Type) (enc : TypeId × Value → H) :
    ReturnsInHanded {} Try.checked os 10 .any (Rows.bitsBetweenSpec.pre6 enc Try.prog Try.f10 Rows.bitsBetweenRow.domain false) (Rows.bitsBetweenSpec.post enc Try.prog Try.f10 false true false false) := by
  refine returnsInHanded_of_change (C := Try.checked) own started (by kernel_rfl) Try.func10
    (ChangeSpec.witness6 (enc := enc) (C := Try.checked) false ⟨#[], #[.agg (cellsL zeroLab), .agg (cellsL zeroLab), .agg (cellsL zeroLab)], []⟩ 8 (by kernel_rfl) (by kernel_rfl) (by kernel_rfl) (by kernel_rfl)) ?_
  intro W base args ds gs before hval0 hW _ _
  have hval : ∀ (j : Nat) t v, Try.f10.params[j]? = some t → args[j]? = some v → Value.okWide Try.prog W .any base t v := hval0
  clear hval0
  have hW' := hW
  obtain ⟨p, q, hA0, hV, rfl, hfz, hnd⟩ := hW
  have hA : DataW.TrodAll enc Try.prog W 0 (fun _ => true) true Try.f10.params.toList args.toList ds p := hA0
  rw [Try.params10] at hA hval
  clear hA0 hfz hnd hV
  have hr : Readable Try.f10.params.toList := by
    rw [Try.params10]
    exact readable_of_all (by kernel_rfl)
  have fin : ∀ W', Below W.heap.size W W' → Rows.bitsBetweenSpec.post enc Try.prog Try.f10 false true false false W args (.bool true) W' := fun W' hb =>
    law_post rfl hW' hr (fun l hl => by
      rw [Try.params10] at hl
      match l, hl with
      | [d1, d2, d3], _ => rfl) (by kernel_rfl) hb
  clear hW' hr
  obtain ⟨v0, v1, v2, d0, d1, d2, p0, p1, p2, rfl, rfl, rfl, h0, h1, h2⟩ := trodAll_three hA; obtain ⟨a, rfl⟩ := open_lab Try.underlying23 Try.underlying5 cellsOf_u8 cellsOf_lab (hval 0 23 v0 rfl rfl) h0; obtain ⟨b, rfl⟩ := open_lab Try.underlying23 Try.underlying5 cellsOf_u8 cellsOf_lab (hval 1 23 v1 rfl rfl) h1; obtain ⟨c, rfl⟩ := open_lab Try.underlying23 Try.underlying5 cellsOf_u8 cellsOf_lab (hval 2 23 v2 rfl rfl) h2
  exact (walk a b c W).mono fun e W' ⟨he, hb⟩ => ⟨_, he, fin W' hb⟩
theorem proved : Rows.BitsBetweenSaid :=
  OpenClaim.holds_of_wide 10 Try.f10 rfl rfl rfl rfl rfl rfl rfl ⟨rfl, rfl, rfl, rfl, rfl⟩ rfl rfl rfl rfl rfl (by kernel_rfl) Try.func10 (by kernel_rfl)
    (of_decide_eq_true (by kernel_rfl)) (by unfold Func.isWrapper; first | (rw [if_pos (by decide +kernel)]; kernel_rfl) | (rw [if_neg (by decide +kernel)]; exact ⟨rfl, rfl⟩))
    (fun os started H enc _ => lifted os started H enc)
end Go.Proofs.Ytlahepdfhfknfaa.between
