/- Blocks: the error of entries; the document's. Conditions: texts of at most a million bytes. -/
import Derived.Test.YtpdfchaamedeoaaDoorBlock2
namespace Go.Proofs.YtpdfchaamedeoaaDoor
open Go Go.RowKit

def smallB (l : List Ent) : Prop := ∀ x ∈ l, x.key.length ≤ 1000000 ∧ x.val.length ≤ 1000000
set_option maxRecDepth 100000 in
set_option maxHeartbeats 2000000 in
theorem kCheck_any (v : Value) (l : List Ent) (w : World) (h : EntsAt w v l) (hs : smallB l) : Calls Tryd.prog 17 #[v] w fun e w' => e = .returned (.int .i64 (checkB l)) ∧ Below w.heap.size w w' := by
  obtain ⟨ao, cap, rfl, hc1, hc2, h3⟩ := h
  have H3 := Lib.hid h3
  have HS := Lib.hid hs
  obtain ⟨n, hn⟩ : ∃ n, l.length = n := ⟨_, rfl⟩
  have HN := Lib.hid hn
  have hmx : n ≤ maxLen := by omega
  unfold maxLen at hmx
  unfold checkB
  rw [hn]
  by_cases hbig : 256 < n
  · rw [if_pos hbig]
    have i1 : (256 : Int) < n := by omega
    have j1 : decide (256 < n) = true := decide_eq_true hbig
    clear h3 hs hn
    go_enter Tryd.func17, Tryd.ntmps17
    go_wp2_with fail
    go_ret
    exact ⟨rfl, Below.refl _ _⟩
  · rw [if_neg hbig]
    have i1 : ¬ (256 : Int) < n := by omega
    have j1 : decide (256 < n) = false := decide_eq_false hbig
    have hn2 : (n : Int) ≤ 256 := by omega
    obtain ⟨R, hR⟩ : ∃ R, goB [] l = R := ⟨_, rfl⟩
    have HR : Hid (goB [] (l.drop 0) = R) := Lib.hid hR
    rw [hR]
    clear h3 hs hR hn hc1 hc2 hmx
    go_enter Tryd.func17, Tryd.ntmps17
    go_wp2_with fail
    go_loopw [3, 12] (fun u x wr => ∃ (i : Nat) (K : List UInt8), i ≤ n ∧ x = .int .i64 i ∧ u = .string (stx K) ∧ Hid (goB K (l.drop i) = R) ∧ Below w.heap.size w wr) (fun _ x _ => (n - intOf x).toNat)
    case atStart => exact ⟨0, [], Nat.zero_le _, rfl, rfl, HR, Below.refl _ _⟩
    case round =>
      obtain ⟨i, K, hi, rfl, rfl, HI, b1⟩ := hrel
      clear HR
      by_cases hlt : i < n
      · have hlt' : (i : Int) < n := by omega
        obtain ⟨x, hx⟩ : ∃ x, l[i]? = some x := ⟨_, List.getElem?_eq_getElem (by rw [HN.out]; exact hlt)⟩
        obtain ⟨g, o, rfl, hat⟩ := H3.out i x hx
        obtain ⟨c1, c2, c3⟩ := hat.below b1
        have hgo := goB_drop (a := K) hx
        rw [HI.out] at hgo
        have hsx := HS.out x (List.mem_of_getElem? hx)
        have HK := Lib.hid (fun w => kcheck_any x K w hsx.1 hsx.2)
        unfold entA at HK
        have b2 := b1.alloc b1.size (.cells #[.string (stx x.key), .string (stx x.val), .bool x.gone] 42)
        have r2 := rowAt_alloc_at wr #[.string (stx x.key), .string (stx x.val), .bool x.gone] 42 _ rfl
        obtain ⟨E, hE⟩ : ∃ E, oneB x K = E := ⟨_, rfl⟩
        rw [hE] at hgo HK
        have HGO := Lib.hid hgo
        clear hgo hE hx hat hsx HI
        go_wp2_with fail
        generalize wr.alloc (.cells #[.string (stx x.key), .string (stx x.val), .bool x.gone] 42) = W at *
        refine (HK.out _).mono ?_
        rintro e w1 ⟨rfl, b3⟩
        have b4 := below_past b2 b3 b2.size
        have r3 := rowAt_past b3 r2
        have c0 := cell_of_rowAt r3 0
        clear c1 c2 c3 b1 b2 b3 r2 r3 HK
        by_cases h0 : E = 0
        · subst h0
          have HI2 := Lib.hid (HGO.out.trans (if_pos rfl))
          clear HGO
          go_wp2_with fail
          exact ⟨⟨i + 1, x.key, hlt, by go_num, rfl, Lib.hid HI2.out.symm, b4⟩, by simp [intOf]; omega⟩
        · have HI2 := Lib.hid (HGO.out.trans (if_neg h0))
          have e1 : ((E : Int) != 0) = true := by rw [bne_iff_ne]; omega
          have e2 : (E != 0) = true := by rw [bne_iff_ne]; exact h0
          clear HGO
          go_wp2_with fail
          go_ret
          exact ⟨ret_int (by rw [HI2.out]), b4⟩
      · obtain rfl : i = n := by omega
        have HR0 : Hid (0 = R) := Lib.hid (by rw [← HI.out, List.drop_eq_nil_of_le (by rw [HN.out]; exact Nat.le_refl _)]; rfl)
        clear HI
        go_wp2_with fail
        go_ret
        exact ⟨ret_int (by rw [← HR0.out]; rfl), b1⟩
end Go.Proofs.YtpdfchaamedeoaaDoor
