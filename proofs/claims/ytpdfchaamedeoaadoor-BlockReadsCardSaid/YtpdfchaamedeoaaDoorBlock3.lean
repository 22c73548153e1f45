/- Blocks: what two keys have in common; the error of an entry behind a key, and of entries. Conditions: texts of at most a million bytes. -/
import Derived.Test.YtpdfchaamedeoaaDoorBlockMath
import Derived.Test.YtpdfchaamedeoaaDoorEnts2
import Derived.Test.YtpdfchaamedeoaaDoorEnts5
namespace Go.Proofs.YtpdfchaamedeoaaDoor
open Go Go.RowKit

set_option maxRecDepth 100000 in
set_option maxHeartbeats 1000000 in
theorem kcommon_any2 (a b : List UInt8) (w : World) (ha : a.length ≤ 2000000) (hb : b.length ≤ 2000000) : Calls Tryd.prog 76 #[.string (stx a), .string (stx b)] w fun e w' => e = .returned (.int .i64 (commonB a b)) ∧ Below w.heap.size w w' := by
  obtain ⟨n, hn⟩ : ∃ n, a.length = n := ⟨_, rfl⟩
  obtain ⟨m, hm⟩ : ∃ m, b.length = m := ⟨_, rfl⟩
  have hz1 : (stx a).size = n := by rw [stx_size, hn]
  have hz2 : (stx b).size = m := by rw [stx_size, hm]
  obtain ⟨R, hR⟩ : ∃ R, commonB a b = R := ⟨_, rfl⟩
  have HL : Hid (commonB a b ≤ n ∧ commonB a b ≤ m) := Lib.hid (by rw [← hn, ← hm]; exact commonB_le a b)
  have HGE : Hid (∀ k, k ≤ n → k ≤ m → a.take k = b.take k → k ≤ R) := Lib.hid fun k h1 h2 h3 => by rw [← hR]; exact commonB_ge k a b (by omega) (by omega) h3
  have HPT : Hid (∀ k, k < n → k < m → at_ (stx a) k ≠ at_ (stx b) k → R ≤ k) := Lib.hid fun k h1 h2 h3 => by rw [← hR]; exact commonB_part k a b (by omega) (by omega) h3
  have HST : Hid (∀ k, k < n → k < m → a.take k = b.take k → at_ (stx a) k = at_ (stx b) k → a.take (k + 1) = b.take (k + 1)) := Lib.hid fun k h1 h2 h3 h4 => take_getD k a b (by omega) (by omega) h3 h4
  rw [hR] at HL ⊢
  rw [hn] at ha
  rw [hm] at hb
  have hA : (n : Int) ≤ 2000000 := by omega
  have hB : (m : Int) ≤ 2000000 := by omega
  clear hR hn hm
  generalize stx a = sa at *
  generalize stx b = sb at *
  go_enter Tryd.func76, Tryd.ntmps76
  go_wp2_with fail
  go_loopw [5] (fun x wr => ∃ k : Nat, k ≤ n ∧ k ≤ m ∧ x = .int .i64 k ∧ Hid (a.take k = b.take k) ∧ Below w.heap.size w wr) (fun x _ => (n - intOf x).toNat)
  case atStart => exact ⟨0, Nat.zero_le _, Nat.zero_le _, rfl, Lib.hid rfl, Below.refl _ _⟩
  case round =>
    obtain ⟨k, hk1, hk2, rfl, HE, b1⟩ := hrel
    by_cases h1 : k < n
    · have i1 : (k : Int) < n := by omega
      have j1 : decide (k < n) = true := decide_eq_true h1
      by_cases h2 : k < m
      · have i2 : (k : Int) < m := by omega
        have j2 : decide (k < m) = true := decide_eq_true h2
        have g1 := get_at sa k (by omega)
        have g2 := get_at sb k (by omega)
        by_cases h3 : at_ sa k = at_ sb k
        · have HE2 := Lib.hid (HST.out k h1 h2 HE.out h3)
          rw [h3] at g1
          have j3 : ((at_ sb k).toNat == (at_ sb k).toNat) = true := beq_self_eq_true _
          have j4 : (((at_ sb k).toNat : Int) == ((at_ sb k).toNat : Int)) = true := beq_self_eq_true _
          clear HE h3
          generalize at_ sb k = c at *
          go_upto_region 2 with fail
          refine wp_region_past (by kernel_rfl) (by kernel_rfl) ?_
          repeat (go_big_quiet_step (fail))
          refine wpQuiet_nil ?_
          intro w2 hw2
          obtain ⟨⟨wn, hn⟩, rfl⟩ := hw2
          try dsimp only
          have b2 := below_past b1 hn b1.size
          go_wp2_with fail
          exact ⟨⟨k + 1, h1, h2, by go_num, HE2, b2⟩, by simp [intOf]; omega⟩
        · have hRk : R = k := by
            have := HPT.out k h1 h2 h3
            have := HGE.out k hk1 hk2 HE.out
            omega
          have j3 : ((at_ sa k).toNat == (at_ sb k).toNat) = false := by rw [beq_eq_false_iff_ne]; exact fun e => h3 (UInt8.toNat_inj.1 e)
          have j4 : (((at_ sa k).toNat : Int) == ((at_ sb k).toNat : Int)) = false := by rw [beq_eq_false_iff_ne]; exact fun e => h3 (UInt8.toNat_inj.1 (by omega))
          clear HE h3
          generalize at_ sa k = c at *
          generalize at_ sb k = d at *
          have HRK := Lib.hid hRk
          clear hRk
          go_upto_region 2 with fail
          refine wp_region_past (by kernel_rfl) (by kernel_rfl) ?_
          repeat (go_big_quiet_step (fail))
          refine wpQuiet_nil ?_
          intro w2 hw2
          obtain ⟨⟨wn, hn⟩, rfl⟩ := hw2
          try dsimp only
          have b2 := below_past b1 hn b1.size
          go_wp2_with fail
          go_ret
          exact ⟨ret_int (by rw [HRK.out]), b2⟩
      · have hRk : R = k := by
          have := HL.out
          have := HGE.out k hk1 hk2 HE.out
          omega
        have i2 : ¬ (k : Int) < m := by omega
        have j2 : decide (k < m) = false := decide_eq_false h2
        have HRK := Lib.hid hRk
        clear hRk
        go_upto_region 2 with fail
        refine wp_region_past (by kernel_rfl) (by kernel_rfl) ?_
        repeat (go_big_quiet_step (fail))
        refine wpQuiet_nil ?_
        intro w2 hw2
        obtain ⟨⟨wn, hn⟩, rfl⟩ := hw2
        try dsimp only
        have b2 := below_past b1 hn b1.size
        go_wp2_with fail
        go_ret
        exact ⟨ret_int (by rw [HRK.out]), b2⟩
    · have hRk : R = k := by
        have := HL.out
        have := HGE.out k hk1 hk2 HE.out
        omega
      have i1 : ¬ (k : Int) < n := by omega
      have j1 : decide (k < n) = false := decide_eq_false h1
      have HRK := Lib.hid hRk
      clear hRk
      go_upto_region 2 with fail
      refine wp_region_past (by kernel_rfl) (by kernel_rfl) ?_
      repeat (go_big_quiet_step (fail))
      refine wpQuiet_nil ?_
      intro w2 hw2
      obtain ⟨⟨wn, hn⟩, rfl⟩ := hw2
      try dsimp only
      have b2 := below_past b1 hn b1.size
      go_wp2_with fail
      go_ret
      exact ⟨ret_int (by rw [HRK.out]), b2⟩
theorem kcommon_any (a b : List UInt8) (w : World) (ha : a.length ≤ 1000000) (hb : b.length ≤ 1000000) : Calls Tryd.prog 76 #[.string (stx a), .string (stx b)] w fun e w' => e = .returned (.int .i64 (commonB a b)) ∧ Below w.heap.size w w' := kcommon_any2 a b w (by omega) (by omega)
end Go.Proofs.YtpdfchaamedeoaaDoor
namespace Go.Proofs.YtpdfchaamedeoaaDoor
open Go Go.RowKit

/-- An entry as an argument. -/
def entA (x : Ent) : Value := .agg #[.string (stx x.key), .string (stx x.val), .bool x.gone]
theorem leqE (a b : List UInt8) : (Go.Op.bytesLess a b || a == b) = !decide (b < a) := by
  rw [lessE]
  by_cases h : b < a
  · rw [decide_eq_true h, decide_eq_false (klt_asymm h), beq_eq_false_iff_ne.2 (fun e => klt_ne h e.symm)]
    rfl
  · rw [decide_eq_false h]
    by_cases e : a = b
    · rw [e, beq_self_eq_true, Bool.or_true]
      rfl
    · rw [decide_eq_true (klt_of h (fun q => e q.symm))]
      rfl
theorem stx_toList (l : List UInt8) : (stx l).toList = l := by
  rw [ByteArray.toList_eq]
theorem empty_of {l : List UInt8} (h : l ≠ []) : (stx l).toList.isEmpty = false := by
  rw [stx_toList]
  cases l with
  | nil => exact absurd rfl h
  | cons a l => rfl
set_option maxRecDepth 100000 in
set_option maxHeartbeats 2000000 in
theorem kcheck_any (x : Ent) (a : List UInt8) (w : World) (hk1 : x.key.length ≤ 1000000) (hv1 : x.val.length ≤ 1000000) : Calls Tryd.prog 41 #[entA x, .string (stx a)] w fun e w' => e = .returned (.int .i64 (oneB x a)) ∧ Below w.heap.size w w' := by
  obtain ⟨k, v, g⟩ := x
  unfold oneB entA
  simp only at hk1 hv1 ⊢
  obtain ⟨n, hn⟩ : ∃ n, k.length = n := ⟨_, rfl⟩
  obtain ⟨m, hm⟩ : ∃ m, v.length = m := ⟨_, rfl⟩
  rw [hn, hm]
  rw [hn] at hk1
  rw [hm] at hv1
  by_cases h1 : k = []
  · rw [if_pos (.inl h1)]
    subst h1
    rw [show stx [] = (⟨#[]⟩ : ByteArray) from rfl]
    have b0 : Below w.heap.size w (w.alloc (.cells #[.string ⟨#[]⟩, .string (stx v), .bool g] 42)) := (Below.refl _ _).alloc (Nat.le_refl _) _
    go_enter Tryd.func41, Tryd.ntmps41
    go_wp2_with fail
    go_ret
    exact ⟨rfl, b0⟩
  · have e1 := empty_of h1
    by_cases h2 : g = true ∧ v ≠ []
    · rw [if_pos (.inr h2)]
      obtain ⟨rfl, h2⟩ := h2
      have e2 := empty_of h2
      have b0 : Below w.heap.size w (w.alloc (.cells #[.string (stx k), .string (stx v), .bool true] 42)) := (Below.refl _ _).alloc (Nat.le_refl _) _
      clear h1 h2
      generalize stx k = sk at *
      generalize stx v = sv at *
      go_enter Tryd.func41, Tryd.ntmps41
      go_wp2_with fail
      go_ret
      exact ⟨rfl, b0⟩
    · rw [if_neg (fun e => e.elim h1 h2)]
      have hk : (stx k).size = n := by rw [stx_size, hn]
      have hv : (stx v).size = m := by rw [stx_size, hm]
      have hb0 : ∀ gg, Below w.heap.size w (w.alloc (.cells #[.string (stx k), .string (stx v), .bool gg] 42)) := fun gg => (Below.refl _ _).alloc (Nat.le_refl _) _
      have hge : g = false ∨ v = [] := by
        cases g with
        | false => exact .inl rfl
        | true => exact .inr (Decidable.not_not.1 fun e => h2 ⟨rfl, e⟩)
      clear h2
      by_cases h3 : 100 < n
      · rw [if_pos (.inl h3)]
        have i3 : (100 : Int) < n := by omega
        have j3 : decide (100 < n) = true := decide_eq_true h3
        rcases hge with rfl | rfl
        · have b0 := hb0 false
          clear hb0 h1
          generalize stx k = sk at *
          generalize stx v = sv at *
          go_enter Tryd.func41, Tryd.ntmps41
          go_wp2_with fail
          go_ret
          exact ⟨rfl, b0⟩
        · have b0 := hb0 g
          rw [show stx [] = (⟨#[]⟩ : ByteArray) from rfl] at b0 ⊢
          clear hb0 h1
          generalize stx k = sk at *
          cases g
          · go_enter Tryd.func41, Tryd.ntmps41
            go_wp2_with fail
            go_ret
            exact ⟨rfl, b0⟩
          · go_enter Tryd.func41, Tryd.ntmps41
            go_wp2_with fail
            go_ret
            exact ⟨rfl, b0⟩
      · have i3 : ¬ (100 : Int) < n := by omega
        have j3 : decide (100 < n) = false := decide_eq_false h3
        by_cases h4 : 4000 < m
        · rw [if_pos (.inr h4)]
          obtain rfl : g = false := by
            rcases hge with h | h
            · exact h
            · rw [h, List.length_nil] at hm
              omega
          have i4 : (4000 : Int) < m := by omega
          have j4 : decide (4000 < m) = true := decide_eq_true h4
          have b0 := hb0 false
          clear hb0 h1
          generalize stx k = sk at *
          generalize stx v = sv at *
          go_enter Tryd.func41, Tryd.ntmps41
          go_wp2_with fail
          go_ret
          exact ⟨rfl, b0⟩
        · rw [if_neg (fun e => e.elim h3 h4)]
          have i4 : ¬ (4000 : Int) < m := by omega
          have j4 : decide (4000 < m) = false := decide_eq_false h4
          by_cases h5 : a < k
          · rw [if_pos h5]
            have hle : (Go.Op.bytesLess (stx k).toList (stx a).toList || (stx k).toList == (stx a).toList) = false := by rw [leqE, stx_toList, stx_toList, decide_eq_true h5]; rfl
            rw [Bool.or_eq_false_iff] at hle
            obtain ⟨l1, l2⟩ := hle
            rcases hge with rfl | rfl
            · have b0 := hb0 false
              clear hb0 h1
              generalize stx k = sk at *
              generalize stx v = sv at *
              try generalize stx a = sa at *
              go_enter Tryd.func41, Tryd.ntmps41
              go_wp2_with fail
              go_ret
              exact ⟨rfl, b0⟩
            · have b0 := hb0 g
              rw [show stx [] = (⟨#[]⟩ : ByteArray) from rfl] at b0 hv ⊢
              obtain rfl : m = 0 := by rw [← hm]; rfl
              clear hb0 h1
              generalize stx k = sk at *
              try generalize stx a = sa at *
              cases g
              · go_enter Tryd.func41, Tryd.ntmps41
                go_wp2_with fail
                go_ret
                exact ⟨rfl, b0⟩
              · go_enter Tryd.func41, Tryd.ntmps41
                go_wp2_with fail
                go_ret
                exact ⟨rfl, b0⟩
          · rw [if_neg h5]
            by_cases h6 : k = a
            · subst h6
              have l1 : ((stx k).toList == (stx k).toList) = true := beq_self_eq_true _
              rcases hge with rfl | rfl
              · have b0 := hb0 false
                clear hb0 h1
                generalize stx k = sk at *
                generalize stx v = sv at *
                try generalize stx a = sa at *
                go_enter Tryd.func41, Tryd.ntmps41
                go_wp2_with fail
                go_ret
                exact ⟨rfl, b0⟩
              · have b0 := hb0 g
                rw [show stx [] = (⟨#[]⟩ : ByteArray) from rfl] at b0 hv ⊢
                obtain rfl : m = 0 := by rw [← hm]; rfl
                clear hb0 h1
                generalize stx k = sk at *
                try generalize stx a = sa at *
                cases g
                · go_enter Tryd.func41, Tryd.ntmps41
                  go_wp2_with fail
                  go_ret
                  exact ⟨rfl, b0⟩
                · go_enter Tryd.func41, Tryd.ntmps41
                  go_wp2_with fail
                  go_ret
                  exact ⟨rfl, b0⟩
            · have l1 : Go.Op.bytesLess (stx k).toList (stx a).toList = true := by rw [lessE, stx_toList, stx_toList, decide_eq_true (klt_of h5 (fun e => h6 e.symm))]
              rcases hge with rfl | rfl
              · have b0 := hb0 false
                clear hb0 h1
                generalize stx k = sk at *
                generalize stx v = sv at *
                try generalize stx a = sa at *
                go_enter Tryd.func41, Tryd.ntmps41
                go_wp2_with fail
                go_ret
                exact ⟨rfl, b0⟩
              · have b0 := hb0 g
                rw [show stx [] = (⟨#[]⟩ : ByteArray) from rfl] at b0 hv ⊢
                obtain rfl : m = 0 := by rw [← hm]; rfl
                clear hb0 h1
                generalize stx k = sk at *
                try generalize stx a = sa at *
                cases g
                · go_enter Tryd.func41, Tryd.ntmps41
                  go_wp2_with fail
                  go_ret
                  exact ⟨rfl, b0⟩
                · go_enter Tryd.func41, Tryd.ntmps41
                  go_wp2_with fail
                  go_ret
                  exact ⟨rfl, b0⟩
end Go.Proofs.YtpdfchaamedeoaaDoor
namespace Go.Proofs.YtpdfchaamedeoaaDoor
open Go Go.RowKit

def smallB (l : List Ent) : Prop := ∀ x ∈ l, x.key.length ≤ 1000000 ∧ x.val.length ≤ 1000000
set_option maxRecDepth 100000 in
set_option maxHeartbeats 2000000 in
theorem kCheck_any (v : Value) (l : List Ent) (w : World) (h : EntsAt w v l) (hs : smallB l) : Calls Tryd.prog 17 #[v] w fun e w' => e = .returned (.int .i64 (checkB l)) ∧ Below w.heap.size w w' := by
  obtain ⟨ao, cap, rfl, hc1, hc2, h3⟩ := h
  have H3 := Lib.hid h3
  have HS := Lib.hid hs
  obtain ⟨n, hn⟩ : ∃ n, l.length = n := ⟨_, rfl⟩
  have HN := Lib.hid hn
  have hmx : n ≤ maxLen := by omega
  unfold maxLen at hmx
  unfold checkB
  rw [hn]
  by_cases hbig : 256 < n
  · rw [if_pos hbig]
    have i1 : (256 : Int) < n := by omega
    have j1 : decide (256 < n) = true := decide_eq_true hbig
    clear h3 hs hn
    go_enter Tryd.func17, Tryd.ntmps17
    go_wp2_with fail
    go_ret
    exact ⟨rfl, Below.refl _ _⟩
  · rw [if_neg hbig]
    have i1 : ¬ (256 : Int) < n := by omega
    have j1 : decide (256 < n) = false := decide_eq_false hbig
    have hn2 : (n : Int) ≤ 256 := by omega
    obtain ⟨R, hR⟩ : ∃ R, goB [] l = R := ⟨_, rfl⟩
    have HR : Hid (goB [] (l.drop 0) = R) := Lib.hid hR
    rw [hR]
    clear h3 hs hR hn hc1 hc2 hmx
    go_enter Tryd.func17, Tryd.ntmps17
    go_wp2_with fail
    go_loopw [3, 12] (fun u x wr => ∃ (i : Nat) (K : List UInt8), i ≤ n ∧ x = .int .i64 i ∧ u = .string (stx K) ∧ Hid (goB K (l.drop i) = R) ∧ Below w.heap.size w wr) (fun _ x _ => (n - intOf x).toNat)
    case atStart => exact ⟨0, [], Nat.zero_le _, rfl, rfl, HR, Below.refl _ _⟩
    case round =>
      obtain ⟨i, K, hi, rfl, rfl, HI, b1⟩ := hrel
      clear HR
      by_cases hlt : i < n
      · have hlt' : (i : Int) < n := by omega
        obtain ⟨x, hx⟩ : ∃ x, l[i]? = some x := ⟨_, List.getElem?_eq_getElem (by rw [HN.out]; exact hlt)⟩
        obtain ⟨g, o, rfl, hat⟩ := H3.out i x hx
        obtain ⟨c1, c2, c3⟩ := hat.below b1
        have hgo := goB_drop (a := K) hx
        rw [HI.out] at hgo
        have hsx := HS.out x (List.mem_of_getElem? hx)
        have HK := Lib.hid (fun w => kcheck_any x K w hsx.1 hsx.2)
        unfold entA at HK
        have b2 := b1.alloc b1.size (.cells #[.string (stx x.key), .string (stx x.val), .bool x.gone] 42)
        have r2 := rowAt_alloc_at wr #[.string (stx x.key), .string (stx x.val), .bool x.gone] 42 _ rfl
        obtain ⟨E, hE⟩ : ∃ E, oneB x K = E := ⟨_, rfl⟩
        rw [hE] at hgo HK
        have HGO := Lib.hid hgo
        clear hgo hE hx hat hsx HI
        go_wp2_with fail
        generalize wr.alloc (.cells #[.string (stx x.key), .string (stx x.val), .bool x.gone] 42) = W at *
        refine (HK.out _).mono ?_
        rintro e w1 ⟨rfl, b3⟩
        have b4 := below_past b2 b3 b2.size
        have r3 := rowAt_past b3 r2
        have c0 := cell_of_rowAt r3 0
        clear c1 c2 c3 b1 b2 b3 r2 r3 HK
        by_cases h0 : E = 0
        · subst h0
          have HI2 := Lib.hid (HGO.out.trans (if_pos rfl))
          clear HGO
          go_wp2_with fail
          exact ⟨⟨i + 1, x.key, hlt, by go_num, rfl, Lib.hid HI2.out.symm, b4⟩, by simp [intOf]; omega⟩
        · have HI2 := Lib.hid (HGO.out.trans (if_neg h0))
          have e1 : ((E : Int) != 0) = true := by rw [bne_iff_ne]; omega
          have e2 : (E != 0) = true := by rw [bne_iff_ne]; exact h0
          clear HGO
          go_wp2_with fail
          go_ret
          exact ⟨ret_int (by rw [HI2.out]), b4⟩
      · obtain rfl : i = n := by omega
        have HR0 : Hid (0 = R) := Lib.hid (by rw [← HI.out, List.drop_eq_nil_of_le (by rw [HN.out]; exact Nat.le_refl _)]; rfl)
        clear HI
        go_wp2_with fail
        go_ret
        exact ⟨ret_int (by rw [← HR0.out]; rfl), b1⟩
end Go.Proofs.YtpdfchaamedeoaaDoor
