/- Blocks: what two keys have in common; which entries may be one. Conditions: texts of at most a million bytes. -/
import Derived.Test.YtpdfchaamedeoaaDoorBlockMath
import Derived.Test.YtpdfchaamedeoaaDoorEnts2
namespace Go.Proofs.YtpdfchaamedeoaaDoor
open Go Go.RowKit

set_option maxRecDepth 100000 in
set_option maxHeartbeats 1000000 in
theorem kcommon_any2 (a b : List UInt8) (w : World) (ha : a.length ≤ 2000000) (hb : b.length ≤ 2000000) : Calls Tryd.prog 76 #[.string (stx a), .string (stx b)] w fun e w' => e = .returned (.int .i64 (commonB a b)) ∧ Below w.heap.size w w' := by
  obtain ⟨n, hn⟩ : ∃ n, a.length = n := ⟨_, rfl⟩
  obtain ⟨m, hm⟩ : ∃ m, b.length = m := ⟨_, rfl⟩
  have hz1 : (stx a).size = n := by rw [stx_size, hn]
  have hz2 : (stx b).size = m := by rw [stx_size, hm]
  obtain ⟨R, hR⟩ : ∃ R, commonB a b = R := ⟨_, rfl⟩
  have HL : Hid (commonB a b ≤ n ∧ commonB a b ≤ m) := Lib.hid (by rw [← hn, ← hm]; exact commonB_le a b)
  have HGE : Hid (∀ k, k ≤ n → k ≤ m → a.take k = b.take k → k ≤ R) := Lib.hid fun k h1 h2 h3 => by rw [← hR]; exact commonB_ge k a b (by omega) (by omega) h3
  have HPT : Hid (∀ k, k < n → k < m → at_ (stx a) k ≠ at_ (stx b) k → R ≤ k) := Lib.hid fun k h1 h2 h3 => by rw [← hR]; exact commonB_part k a b (by omega) (by omega) h3
  have HST : Hid (∀ k, k < n → k < m → a.take k = b.take k → at_ (stx a) k = at_ (stx b) k → a.take (k + 1) = b.take (k + 1)) := Lib.hid fun k h1 h2 h3 h4 => take_getD k a b (by omega) (by omega) h3 h4
  rw [hR] at HL ⊢
  rw [hn] at ha
  rw [hm] at hb
  have hA : (n : Int) ≤ 2000000 := by omega
  have hB : (m : Int) ≤ 2000000 := by omega
  clear hR hn hm
  generalize stx a = sa at *
  generalize stx b = sb at *
  go_enter Tryd.func76, Tryd.ntmps76
  go_wp2_with fail
  go_loopw [5] (fun x wr => ∃ k : Nat, k ≤ n ∧ k ≤ m ∧ x = .int .i64 k ∧ Hid (a.take k = b.take k) ∧ Below w.heap.size w wr) (fun x _ => (n - intOf x).toNat)
  case atStart => exact ⟨0, Nat.zero_le _, Nat.zero_le _, rfl, Lib.hid rfl, Below.refl _ _⟩
  case round =>
    obtain ⟨k, hk1, hk2, rfl, HE, b1⟩ := hrel
    by_cases h1 : k < n
    · have i1 : (k : Int) < n := by omega
      have j1 : decide (k < n) = true := decide_eq_true h1
      by_cases h2 : k < m
      · have i2 : (k : Int) < m := by omega
        have j2 : decide (k < m) = true := decide_eq_true h2
        have g1 := get_at sa k (by omega)
        have g2 := get_at sb k (by omega)
        by_cases h3 : at_ sa k = at_ sb k
        · have HE2 := Lib.hid (HST.out k h1 h2 HE.out h3)
          rw [h3] at g1
          have j3 : ((at_ sb k).toNat == (at_ sb k).toNat) = true := beq_self_eq_true _
          have j4 : (((at_ sb k).toNat : Int) == ((at_ sb k).toNat : Int)) = true := beq_self_eq_true _
          clear HE h3
          generalize at_ sb k = c at *
          go_upto_region 2 with fail
          refine wp_region_past (by kernel_rfl) (by kernel_rfl) ?_
          repeat (go_big_quiet_step (fail))
          refine wpQuiet_nil ?_
          intro w2 hw2
          obtain ⟨⟨wn, hn⟩, rfl⟩ := hw2
          try dsimp only
          have b2 := below_past b1 hn b1.size
          go_wp2_with fail
          exact ⟨⟨k + 1, h1, h2, by go_num, HE2, b2⟩, by simp [intOf]; omega⟩
        · have hRk : R = k := by
            have := HPT.out k h1 h2 h3
            have := HGE.out k hk1 hk2 HE.out
            omega
          have j3 : ((at_ sa k).toNat == (at_ sb k).toNat) = false := by rw [beq_eq_false_iff_ne]; exact fun e => h3 (UInt8.toNat_inj.1 e)
          have j4 : (((at_ sa k).toNat : Int) == ((at_ sb k).toNat : Int)) = false := by rw [beq_eq_false_iff_ne]; exact fun e => h3 (UInt8.toNat_inj.1 (by omega))
          clear HE h3
          generalize at_ sa k = c at *
          generalize at_ sb k = d at *
          have HRK := Lib.hid hRk
          clear hRk
          go_upto_region 2 with fail
          refine wp_region_past (by kernel_rfl) (by kernel_rfl) ?_
          repeat (go_big_quiet_step (fail))
          refine wpQuiet_nil ?_
          intro w2 hw2
          obtain ⟨⟨wn, hn⟩, rfl⟩ := hw2
          try dsimp only
          have b2 := below_past b1 hn b1.size
          go_wp2_with fail
          go_ret
          exact ⟨ret_int (by rw [HRK.out]), b2⟩
      · have hRk : R = k := by
          have := HL.out
          have := HGE.out k hk1 hk2 HE.out
          omega
        have i2 : ¬ (k : Int) < m := by omega
        have j2 : decide (k < m) = false := decide_eq_false h2
        have HRK := Lib.hid hRk
        clear hRk
        go_upto_region 2 with fail
        refine wp_region_past (by kernel_rfl) (by kernel_rfl) ?_
        repeat (go_big_quiet_step (fail))
        refine wpQuiet_nil ?_
        intro w2 hw2
        obtain ⟨⟨wn, hn⟩, rfl⟩ := hw2
        try dsimp only
        have b2 := below_past b1 hn b1.size
        go_wp2_with fail
        go_ret
        exact ⟨ret_int (by rw [HRK.out]), b2⟩
    · have hRk : R = k := by
        have := HL.out
        have := HGE.out k hk1 hk2 HE.out
        omega
      have i1 : ¬ (k : Int) < n := by omega
      have j1 : decide (k < n) = false := decide_eq_false h1
      have HRK := Lib.hid hRk
      clear hRk
      go_upto_region 2 with fail
      refine wp_region_past (by kernel_rfl) (by kernel_rfl) ?_
      repeat (go_big_quiet_step (fail))
      refine wpQuiet_nil ?_
      intro w2 hw2
      obtain ⟨⟨wn, hn⟩, rfl⟩ := hw2
      try dsimp only
      have b2 := below_past b1 hn b1.size
      go_wp2_with fail
      go_ret
      exact ⟨ret_int (by rw [HRK.out]), b2⟩
theorem kcommon_any (a b : List UInt8) (w : World) (ha : a.length ≤ 1000000) (hb : b.length ≤ 1000000) : Calls Tryd.prog 76 #[.string (stx a), .string (stx b)] w fun e w' => e = .returned (.int .i64 (commonB a b)) ∧ Below w.heap.size w w' := kcommon_any2 a b w (by omega) (by omega)
end Go.Proofs.YtpdfchaamedeoaaDoor
