/- The document's own blocks: what keys have in common, the error of entries, their text, the block. Conditions: texts of at most a million bytes. -/
import Derived.Test.YtpdfchaamedeoaaDoorBlockLaw
import Derived.Test.YtpdfchaamedeoaaDoorRef2a
import Derived.Test.YtpdfchaamedeoaaDoorSealRef
namespace Go.Proofs.YtpdfchaamedeoaaDoor
open Go Go.RowKit

set_option maxRecDepth 100000 in
set_option maxHeartbeats 2000000 in
theorem r9Common_any (a b : List UInt8) (w : World) (ha : a.length ≤ 2000000) (hb : b.length ≤ 2000000) : Calls Tryd.prog 52 #[.string (stx a), .string (stx b)] w fun e w' => e = .returned (.int .i64 (commonB a b)) ∧ Below w.heap.size w w' := by
  obtain ⟨n, hn⟩ : ∃ n, a.length = n := ⟨_, rfl⟩
  obtain ⟨m, hm⟩ : ∃ m, b.length = m := ⟨_, rfl⟩
  have hz1 : (stx a).size = n := by rw [stx_size, hn]
  have hz2 : (stx b).size = m := by rw [stx_size, hm]
  obtain ⟨R, hR⟩ : ∃ R, commonB a b = R := ⟨_, rfl⟩
  have HL : Hid (R ≤ n ∧ R ≤ m) := Lib.hid (by rw [← hn, ← hm, ← hR]; exact commonB_le a b)
  have HGE : Hid (∀ k, k ≤ n → k ≤ m → a.take k = b.take k → k ≤ R) := Lib.hid fun k h1 h2 h3 => by rw [← hR]; exact commonB_ge k a b (by omega) (by omega) h3
  have HPT : Hid (∀ k, k < n → k < m → at_ (stx a) k ≠ at_ (stx b) k → R ≤ k) := Lib.hid fun k h1 h2 h3 => by rw [← hR]; exact commonB_part k a b (by omega) (by omega) h3
  have HST : Hid (∀ k, k < n → k < m → a.take k = b.take k → at_ (stx a) k = at_ (stx b) k → a.take (k + 1) = b.take (k + 1)) := Lib.hid fun k h1 h2 h3 h4 => take_getD k a b (by omega) (by omega) h3 h4
  rw [hR]
  rw [hn] at ha
  rw [hm] at hb
  have hA : (n : Int) ≤ 2000000 := by omega
  have hB : (m : Int) ≤ 2000000 := by omega
  clear hR hn hm
  generalize stx a = sa at *
  generalize stx b = sb at *
  go_enter Tryd.func52, Tryd.ntmps52
  go_wp2_with fail
  go_loopw [5, 6] (fun y x wr => ∃ k j : Nat, k ≤ n ∧ k ≤ m ∧ x = .int .i64 k ∧ y = .int .i64 j ∧ Hid ((j = k ∧ a.take k = b.take k) ∨ (j + 1 = k ∧ R = j)) ∧ Below w.heap.size w wr) (fun _ x _ => (n - intOf x).toNat)
  case atStart => exact ⟨0, 0, Nat.zero_le _, Nat.zero_le _, rfl, rfl, Lib.hid (.inl ⟨rfl, rfl⟩), Below.refl _ _⟩
  case round =>
    obtain ⟨k, j, hk1, hk2, rfl, rfl, HE, b1⟩ := hrel
    by_cases h1 : k < n
    · have i1 : (k : Int) < n := by omega
      have j1 : decide (k < n) = true := decide_eq_true h1
      by_cases h2 : k < m
      · have i2 : (k : Int) < m := by omega
        have j2 : decide (k < m) = true := decide_eq_true h2
        by_cases h4 : j = k
        · subst h4
          have hE2 : a.take j = b.take j := by
            rcases HE.out with h | h
            · exact h.2
            · omega
          have HE2 := Lib.hid hE2
          have g1 := get_at sa j (by omega)
          have g2 := get_at sb j (by omega)
          by_cases h3 : at_ sa j = at_ sb j
          · have HE3 := Lib.hid (HST.out j h1 h2 HE2.out h3)
            rw [h3] at g1
            have q3 : ((at_ sb j).toNat == (at_ sb j).toNat) = true := beq_self_eq_true _
            have q4 : (((at_ sb j).toNat : Int) == ((at_ sb j).toNat : Int)) = true := beq_self_eq_true _
            clear HE h3 hE2 HE2
            generalize at_ sb j = c at *
            go_upto_region 5 with fail
            refine wp_region_past (by kernel_rfl) (by kernel_rfl) ?_
            repeat (go_big_quiet_step (fail))
            refine wpQuiet_nil ?_
            intro w2 hw2
            obtain ⟨⟨wn, hn⟩, rfl⟩ := hw2
            try dsimp only
            have b2 := below_past b1 hn b1.size
            go_wp2_with fail
            exact ⟨⟨j + 1, j + 1, h1, h2, by go_num, by go_num, Lib.hid (.inl ⟨rfl, HE3.out⟩), b2⟩, by simp [intOf]; omega⟩
          · have hRk : R = j := by
              have := HPT.out j h1 h2 h3
              have := HGE.out j hk1 hk2 HE2.out
              omega
            have q3 : ((at_ sa j).toNat == (at_ sb j).toNat) = false := by rw [beq_eq_false_iff_ne]; exact fun e => h3 (UInt8.toNat_inj.1 e)
            have q4 : (((at_ sa j).toNat : Int) == ((at_ sb j).toNat : Int)) = false := by rw [beq_eq_false_iff_ne]; exact fun e => h3 (UInt8.toNat_inj.1 (by omega))
            clear HE h3 hE2 HE2
            generalize at_ sa j = c at *
            generalize at_ sb j = d at *
            have HRK := Lib.hid hRk
            clear hRk
            go_upto_region 5 with fail
            refine wp_region_past (by kernel_rfl) (by kernel_rfl) ?_
            repeat (go_big_quiet_step (fail))
            refine wpQuiet_nil ?_
            intro w2 hw2
            obtain ⟨⟨wn, hn⟩, rfl⟩ := hw2
            try dsimp only
            have b2 := below_past b1 hn b1.size
            go_wp2_with fail
            exact ⟨⟨j + 1, j, h1, h2, by go_num, rfl, Lib.hid (.inr ⟨rfl, HRK.out⟩), b2⟩, by simp [intOf]; omega⟩
        · have hRk : R = j := by
            rcases HE.out with h | h
            · exact absurd h.1 h4
            · exact h.2
          have q3 : (j == k) = false := by rw [beq_eq_false_iff_ne]; exact h4
          have q4 : ((j : Int) == (k : Int)) = false := by rw [beq_eq_false_iff_ne]; omega
          have q5 : decide (j = k) = false := decide_eq_false h4
          have HRK := Lib.hid hRk
          clear hRk HE h4
          go_wp2_with fail
          go_ret
          exact ⟨ret_int (by rw [HRK.out]), b1⟩
      · have hRk : R = j := by
          rcases HE.out with ⟨h, h'⟩ | h
          · have := HL.out
            have := HGE.out k hk1 hk2 h'
            omega
          · exact h.2
        have i2 : ¬ (k : Int) < m := by omega
        have j2 : decide (k < m) = false := decide_eq_false h2
        have HRK := Lib.hid hRk
        clear hRk HE
        go_wp2_with fail
        go_ret
        exact ⟨ret_int (by rw [HRK.out]), b1⟩
    · have hRk : R = j := by
        rcases HE.out with ⟨h, h'⟩ | h
        · have := HL.out
          have := HGE.out k hk1 hk2 h'
          omega
        · exact h.2
      have i1 : ¬ (k : Int) < n := by omega
      have j1 : decide (k < n) = false := decide_eq_false h1
      have HRK := Lib.hid hRk
      clear hRk HE
      go_wp2_with fail
      go_ret
      exact ⟨ret_int (by rw [HRK.out]), b1⟩
theorem lastK_at {l : List Ent} {i : Nat} {y : Ent} {K : List UInt8} (h : l[i]? = some y) (hK : ∀ z : Ent, K = if 0 < i + 1 then (l.getD (i + 1 - 1) z).key else []) : K = y.key := by
  have := hK y
  rw [if_pos (by omega), show i + 1 - 1 = i by omega, List.getD_eq_getElem?_getD, h] at this
  exact this
set_option maxRecDepth 100000 in
set_option maxHeartbeats 4000000 in
theorem r9Check_any (v : Value) (l : List Ent) (w : World) (h : EntsAt w v l) (hs : smallB l) : Calls Tryd.prog 18 #[v] w fun e w' => e = .returned (.int .i64 (checkB l)) ∧ Below w.heap.size w w' := by
  obtain ⟨ao, cap, rfl, hc1, hc2, h3⟩ := h
  have H3 := Lib.hid h3
  have HS := Lib.hid hs
  obtain ⟨n, hn⟩ : ∃ n, l.length = n := ⟨_, rfl⟩
  have HN := Lib.hid hn
  have hmx : n ≤ maxLen := by omega
  unfold maxLen at hmx
  unfold checkB
  rw [hn]
  by_cases hbig : 256 < n
  · rw [if_pos hbig]
    have i1 : (256 : Int) < n := by omega
    have j1 : decide (256 < n) = true := decide_eq_true hbig
    clear h3 hs hn
    go_enter Tryd.func18, Tryd.ntmps18
    go_wp2_with fail
    go_ret
    exact ⟨rfl, Below.refl _ _⟩
  · rw [if_neg hbig]
    have i1 : ¬ (256 : Int) < n := by omega
    have j1 : decide (256 < n) = false := decide_eq_false hbig
    have hn2 : (n : Int) ≤ 256 := by omega
    obtain ⟨R, hR⟩ : ∃ R, goB [] l = R := ⟨_, rfl⟩
    have HR : Hid (goB [] (l.drop 0) = R) := Lib.hid hR
    rw [hR]
    clear h3 hs hR hn hc1 hc2 hmx
    go_enter Tryd.func18, Tryd.ntmps18
    go_wp2_with fail
    go_loopw [10] (fun x wr => ∃ (i : Nat) (K : List UInt8), i ≤ n ∧ x = .int .i64 i ∧ Hid (∀ y : Ent, K = if 0 < i then (l.getD (i - 1) y).key else []) ∧ Hid (goB K (l.drop i) = R) ∧ Below w.heap.size w wr) (fun x _ => (n - intOf x).toNat)
    case atStart => exact ⟨0, [], Nat.zero_le _, rfl, Lib.hid (fun y => rfl), HR, Below.refl _ _⟩
    case round =>
      obtain ⟨i, K, hi, rfl, HKK, HI, b1⟩ := hrel
      clear HR
      by_cases hlt : i < n
      · have hlt' : (i : Int) < n := by omega
        obtain ⟨x, hx⟩ : ∃ x, l[i]? = some x := ⟨_, List.getElem?_eq_getElem (by rw [HN.out]; exact hlt)⟩
        obtain ⟨g0, o, rfl, hat⟩ := H3.out i x hx
        obtain ⟨c1, c2, c3⟩ := hat.below b1
        have hgo := goB_drop (a := K) hx
        rw [HI.out] at hgo
        have hsx := HS.out x (List.mem_of_getElem? hx)
        have HLS := Lib.hid (fun y => lastK_step (y := y) hx)
        have b2 := b1.alloc b1.size (.cells #[.string (stx x.key), .string (stx x.val), .bool x.gone] 42)
        have HPY : Hid (∀ p, i = p + 1 → ∃ y, l[p]? = some y ∧ K = y.key) := Lib.hid fun p hp => by
          subst hp
          obtain ⟨y, hy⟩ : ∃ y, l[p]? = some y := ⟨_, List.getElem?_eq_getElem (by rw [HN.out]; omega)⟩
          exact ⟨y, hy, lastK_at hy HKK.out⟩
        have HK0 : Hid (i = 0 → K = []) := Lib.hid fun e => by rw [HKK.out x, e]; rfl
        have HGO := Lib.hid hgo
        have HCC : Hid (∀ p y, l[p]? = some y → wr.cell? ⟨g0, o + p * 3, none⟩ = some (.string (stx y.key))) := Lib.hid fun p y hy => by
          obtain ⟨g', o', e', q⟩ := H3.out p y hy
          simp only [Option.some.injEq, Addr.mk.injEq, and_true] at e'
          obtain ⟨rfl, rfl⟩ := e'
          exact (q.below b1).1
        clear hx hat HI hgo HKK
        obtain ⟨k, vl, g⟩ := x
        have HON : Hid (oneB ⟨k, vl, g⟩ K = if k = [] ∨ (g = true ∧ vl ≠ []) then 3 else if 100 < k.length ∨ 4000 < vl.length then 2 else if K < k then 0 else 3) := Lib.hid rfl
        dsimp only at hsx HLS HGO c1 c2 c3 b2
        obtain ⟨n1, hn1⟩ : ∃ n1, k.length = n1 := ⟨_, rfl⟩
        obtain ⟨m1, hm1⟩ : ∃ m1, vl.length = m1 := ⟨_, rfl⟩
        rw [hn1, hm1] at hsx HON
        obtain ⟨OE, hOE⟩ : ∃ OE, oneB ⟨k, vl, g⟩ K = OE := ⟨_, rfl⟩
        rw [hOE] at HGO HON
        clear hOE
        have z1 : (stx k).size = n1 := by rw [stx_size, hn1]
        have z2 : (stx vl).size = m1 := by rw [stx_size, hm1]
        by_cases h1 : k = []
        · obtain rfl : n1 = 0 := by rw [← hn1, h1]; rfl
          rw [HON.out.trans (if_pos (.inl h1))] at HGO
          have HI2 := Lib.hid (HGO.out.trans (if_neg (by decide)))
          have b2 := b2
          clear h1 hn1 hm1 hsx HPY HK0 HLS
          generalize stx k = sk at *
          clear HGO HON
          go_wp2_with fail
          go_ret
          exact ⟨ret_int (by rw [HI2.out]; rfl), b2⟩
        · have hn0 : 0 < n1 := by rw [← hn1]; exact List.length_pos_iff.2 h1
          have p1 : (n1 == 0) = false := by rw [beq_eq_false_iff_ne]; omega
          have p2 : ((n1 : Int) == 0) = false := by rw [beq_eq_false_iff_ne]; omega
          have p3 : decide (n1 = 0) = false := decide_eq_false (by omega)
          by_cases h2 : g = true ∧ vl ≠ []
          · rw [HON.out.trans (if_pos (.inr h2))] at HGO
            obtain ⟨rfl, h2⟩ := h2
            have hm0 : 0 < m1 := by rw [← hm1]; exact List.length_pos_iff.2 h2
            have p4 : (0 : Int) < m1 := by omega
            have p5 : decide (0 < m1) = true := decide_eq_true hm0
            have HI2 := Lib.hid (HGO.out.trans (if_neg (by decide)))
            clear h1 h2 hn1 hm1 hsx HPY HK0 HLS
            generalize stx k = sk at *
            generalize stx vl = sv at *
            clear HGO HON
            go_wp2_with fail
            go_ret
            exact ⟨ret_int (by rw [HI2.out]; rfl), b2⟩
          · rw [if_neg (fun e => e.elim h1 h2)] at HON
            have hg2 : g = false ∨ m1 = 0 := by
              cases g with
              | false => exact .inl rfl
              | true => exact .inr (by rw [← hm1, Decidable.not_not.1 (fun e => h2 ⟨rfl, e⟩)]; rfl)
            by_cases h3 : 100 < n1 ∨ 4000 < m1
            · rw [HON.out.trans (if_pos h3)] at HGO
              have HI2 := Lib.hid (HGO.out.trans (if_neg (by decide)))
              have p6 : decide (100 < n1) = true ∧ (100 : Int) < n1 ∨ decide (100 < n1) = false ∧ ¬ (100 : Int) < n1 ∧ decide (4000 < m1) = true ∧ (4000 : Int) < m1 := by
                by_cases q : 100 < n1
                · exact .inl ⟨decide_eq_true q, by omega⟩
                · exact .inr ⟨decide_eq_false q, by omega, decide_eq_true (by omega), by omega⟩
              have p7 : m1 = 0 → decide (100 < n1) = true ∧ (100 : Int) < n1 := fun e => ⟨decide_eq_true (by omega), by omega⟩
              clear h1 h2 h3 hn1 hm1 hsx HPY HK0 HLS
              generalize stx k = sk at *
              generalize stx vl = sv at *
              rcases hg2 with rfl | rfl
              · rcases p6 with ⟨q1, q2⟩ | ⟨q1, q2, q3, q4⟩
                · clear HGO HON
                  go_wp2_with fail
                  go_ret
                  exact ⟨ret_int (by rw [HI2.out]; rfl), b2⟩
                · clear HGO HON
                  go_wp2_with fail
                  go_ret
                  exact ⟨ret_int (by rw [HI2.out]; rfl), b2⟩
              · obtain ⟨q1, q2⟩ := p7 rfl
                clear p6 p7
                cases g with
                | false =>
                  clear HGO HON
                  go_wp2_with fail
                  go_ret
                  exact ⟨ret_int (by rw [HI2.out]; rfl), b2⟩
                | true =>
                  clear HGO HON
                  go_wp2_with fail
                  go_ret
                  exact ⟨ret_int (by rw [HI2.out]; rfl), b2⟩
            · rw [if_neg h3] at HON
              have q1 : decide (100 < n1) = false := decide_eq_false (by omega)
              have q2 : ¬ (100 : Int) < n1 := by omega
              have q3 : decide (4000 < m1) = false := decide_eq_false (by omega)
              have q4 : ¬ (4000 : Int) < m1 := by omega
              have r2 := rowAt_alloc_at wr #[.string (stx k), .string (stx vl), .bool g] 42 _ rfl
              by_cases hi0 : i = 0
              · obtain rfl := HK0.out hi0
                have e2 : ¬ (0 : Int) < i := by omega
                have e3 : decide (0 < i) = false := decide_eq_false (by omega)
                have hlk : ([] : List UInt8) < k := by
                  cases k with
                  | nil => exact absurd rfl h1
                  | cons c k => exact List.nil_lt_cons _ _
                rw [HON.out.trans (if_pos hlk)] at HGO
                have HI2 : Hid (goB k (l.drop (i + 1)) = R) := Lib.hid (HGO.out.trans (if_pos rfl)).symm
                clear h1 h2 h3 hn1 hm1 hsx HPY HK0 hlk HCC hi0
                have y0 := True.intro
                have z0 := True.intro
                clear HGO HON r2
                generalize stx k = sk at *
                generalize stx vl = sv at *
                cases g with
                | false =>
                  clear hg2
                  go_upto_region 10 with fail
                  generalize (wr.alloc (.cells #[.string sk, .string sv, .bool false] 42)) = W2 at *
                  refine wp_region_past (by kernel_rfl) (by kernel_rfl) ?_
                  repeat (go_big_quiet_step (fail))
                  refine wpQuiet_nil ?_
                  intro w2 hw2
                  obtain ⟨⟨wn, hn⟩, rfl⟩ := hw2
                  try dsimp only
                  clear y0 z0
                  go_wp2_with fail
                  exact ⟨⟨i + 1, k, hlt, by go_num, HLS, HI2, below_past b2 hn b2.size⟩, by simp [intOf]; omega⟩
                | true =>
                  obtain rfl : m1 = 0 := hg2.resolve_left (by decide)
                  clear hg2
                  go_upto_region 10 with fail
                  generalize (wr.alloc (.cells #[.string sk, .string sv, .bool true] 42)) = W2 at *
                  refine wp_region_past (by kernel_rfl) (by kernel_rfl) ?_
                  repeat (go_big_quiet_step (fail))
                  refine wpQuiet_nil ?_
                  intro w2 hw2
                  obtain ⟨⟨wn, hn⟩, rfl⟩ := hw2
                  try dsimp only
                  clear y0 z0
                  go_wp2_with fail
                  exact ⟨⟨i + 1, k, hlt, by go_num, HLS, HI2, below_past b2 hn b2.size⟩, by simp [intOf]; omega⟩
              · obtain ⟨p, hp⟩ : ∃ p, i = p + 1 := ⟨i - 1, by omega⟩
                obtain ⟨y, hy, hKy⟩ := HPY.out p hp
                have hcy := HCC.out p y hy
                subst hKy
                have e1 : (i : Int) - 1 = p := by omega
                have e2 : (0 : Int) < i := by omega
                have e3 : decide (0 < i) = true := decide_eq_true (by omega)
                have e4 : (p : Int) < n := by omega
                have e5 : (0 : Int) ≤ p := by omega
                have y0 := fun x : Past (wr.alloc (.cells #[.string (stx k), .string (stx vl), .bool g] 42)) => ((Below.step ((Below.refl _ _).alloc (Nat.le_refl _) _) x.h).cell (p := ⟨g0, o + p * 3, none⟩) (cellLt hcy)).trans hcy
                have z0 := fun x : Past (wr.alloc (.cells #[.string (stx k), .string (stx vl), .bool g] 42)) => cell_of_rowAt (rowAt_past x.h r2) 0
                by_cases hlk : y.key < k
                · rw [HON.out.trans (if_pos hlk)] at HGO
                  have HI2 : Hid (goB k (l.drop (i + 1)) = R) := Lib.hid (HGO.out.trans (if_pos rfl)).symm
                  have hless : Go.Op.bytesLess (stx y.key).toList (stx k).toList = true := by rw [lessE, stx_toList, stx_toList, decide_eq_true hlk]
                  clear h1 h2 h3 hn1 hm1 hsx HPY HK0 hlk HCC hp hy hcy HGO HON r2 hi0
                  generalize stx y.key = sy at *
                  generalize stx k = sk at *
                  generalize stx vl = sv at *
                  cases g with
                  | false =>
                    clear hg2
                    go_upto_region 10 with fail
                    generalize (wr.alloc (.cells #[.string sk, .string sv, .bool false] 42)) = W2 at *
                    refine wp_region_past (by kernel_rfl) (by kernel_rfl) ?_
                    repeat (go_big_quiet_step (fail))
                    refine wpQuiet_nil ?_
                    intro w2 hw2
                    obtain ⟨⟨wn, hn⟩, rfl⟩ := hw2
                    try dsimp only
                    clear y0 z0
                    go_wp2_with fail
                    exact ⟨⟨i + 1, k, hlt, by go_num, HLS, HI2, below_past b2 hn b2.size⟩, by simp [intOf]; omega⟩
                  | true =>
                    obtain rfl : m1 = 0 := hg2.resolve_left (by decide)
                    clear hg2
                    go_upto_region 10 with fail
                    generalize (wr.alloc (.cells #[.string sk, .string sv, .bool true] 42)) = W2 at *
                    refine wp_region_past (by kernel_rfl) (by kernel_rfl) ?_
                    repeat (go_big_quiet_step (fail))
                    refine wpQuiet_nil ?_
                    intro w2 hw2
                    obtain ⟨⟨wn, hn⟩, rfl⟩ := hw2
                    try dsimp only
                    clear y0 z0
                    go_wp2_with fail
                    exact ⟨⟨i + 1, k, hlt, by go_num, HLS, HI2, below_past b2 hn b2.size⟩, by simp [intOf]; omega⟩
                · rw [HON.out.trans (if_neg hlk)] at HGO
                  have HI2 := Lib.hid (HGO.out.trans (if_neg (by decide)))
                  have hless : Go.Op.bytesLess (stx y.key).toList (stx k).toList = false := by rw [lessE, stx_toList, stx_toList, decide_eq_false hlk]
                  clear h1 h2 h3 hn1 hm1 hsx HPY HK0 hlk HCC hp hy hcy HGO HON r2 hi0
                  generalize stx y.key = sy at *
                  generalize stx k = sk at *
                  generalize stx vl = sv at *
                  cases g with
                  | false =>
                    clear hg2
                    go_upto_region 10 with fail
                    generalize (wr.alloc (.cells #[.string sk, .string sv, .bool false] 42)) = W2 at *
                    refine wp_region_past (by kernel_rfl) (by kernel_rfl) ?_
                    repeat (go_big_quiet_step (fail))
                    refine wpQuiet_nil ?_
                    intro w2 hw2
                    obtain ⟨⟨wn, hn⟩, rfl⟩ := hw2
                    try dsimp only
                    clear y0 z0
                    go_wp2_with fail
                    go_ret
                    exact ⟨ret_int (by rw [HI2.out]; rfl), below_past b2 hn b2.size⟩
                  | true =>
                    obtain rfl : m1 = 0 := hg2.resolve_left (by decide)
                    clear hg2
                    go_upto_region 10 with fail
                    generalize (wr.alloc (.cells #[.string sk, .string sv, .bool true] 42)) = W2 at *
                    refine wp_region_past (by kernel_rfl) (by kernel_rfl) ?_
                    repeat (go_big_quiet_step (fail))
                    refine wpQuiet_nil ?_
                    intro w2 hw2
                    obtain ⟨⟨wn, hn⟩, rfl⟩ := hw2
                    try dsimp only
                    clear y0 z0
                    go_wp2_with fail
                    go_ret
                    exact ⟨ret_int (by rw [HI2.out]; rfl), below_past b2 hn b2.size⟩
      · obtain rfl : i = n := by omega
        have HR0 : Hid (0 = R) := Lib.hid (by rw [← HI.out, List.drop_eq_nil_of_le (by rw [HN.out]; exact Nat.le_refl _)]; rfl)
        clear HI
        go_wp2_with fail
        go_ret
        exact ⟨ret_int (by rw [← HR0.out]; rfl), b1⟩
theorem encE_len (a : List UInt8) (x : Ent) (hk : x.key.length ≤ 100) (hv : x.val.length ≤ 4000) : (encE a x).length ≤ 4200 := by
  have h1 := (commonB_le a x.key).2
  have h2 := numLen_le (commonB a x.key) (by omega)
  have h3 := numLen_le (x.key.length - commonB a x.key) (by omega)
  have h4 := numLen_le x.val.length (by omega)
  unfold encE
  simp only [List.length_append, numBytes_length, List.length_drop, List.length_cons, List.length_nil]
  split
  · simp only [List.length_nil]
    omega
  · simp only [List.length_append, numBytes_length]
    omega
theorem encB_len : ∀ (l : List Ent) (a : List UInt8), (∀ x ∈ l, x.key.length ≤ 100 ∧ x.val.length ≤ 4000) → (encB a l).length ≤ l.length * 4200
  | [], _, _ => Nat.zero_le _
  | x :: l, a, h => by
    have h1 := encE_len a x (h x (by simp)).1 (h x (by simp)).2
    have h2 := encB_len l x.key fun y hy => h y (by simp [hy])
    rw [encB, List.length_append, List.length_cons]
    omega
set_option maxRecDepth 100000 in
set_option maxHeartbeats 4000000 in
theorem r9Text_any (v : Value) (l : List Ent) (w : World) (h : EntsAt w v l) (hl : l.length ≤ 256) (hk : ∀ x ∈ l, x.key.length ≤ 100 ∧ x.val.length ≤ 4000) : Calls Tryd.prog 39 #[v] w fun e w' => e = .returned (.string (stx (textB l))) ∧ Below w.heap.size w w' := by
  obtain ⟨ao, cap, rfl, hc1, hc2, h3⟩ := h
  have H3 := Lib.hid h3
  have HK := Lib.hid hk
  obtain ⟨n, hn⟩ : ∃ n, l.length = n := ⟨_, rfl⟩
  have HN := Lib.hid hn
  have HTX : Hid (numBytes n ++ encB [] (l.take n) = textB l) := Lib.hid (by rw [← hn, List.take_of_length_le (Nat.le_refl _)]; rfl)
  have HLEN : Hid (∀ i, i ≤ n → (numBytes n ++ encB [] (l.take i)).length ≤ 1200000) := Lib.hid fun i hi => by
    have h1 := numLen_le n (by omega)
    have h2 := encB_len (l.take i) [] fun x hx => hk x (List.mem_of_mem_take hx)
    rw [List.length_take] at h2
    rw [List.length_append, numBytes_length]
    omega
  have HNU := Lib.hid (fun (m : Nat) w (h : m < 9223372036854775808) => r2Number_any m w h)
  rw [hn] at hl ⊢
  have hn2 : (n : Int) ≤ 256 := by omega
  have hnn : n < 9223372036854775808 := by omega
  have HN0 := Lib.hid (HNU.out n w hnn)
  have HF0 : Hid (txt (numBytes n) = stx (numBytes n ++ encB [] (l.take 0))) := Lib.hid (by simp [encB])
  rw [HF0.out] at HN0
  obtain ⟨T, hT⟩ : ∃ T, textB l = T := ⟨_, rfl⟩
  rw [hT] at HTX ⊢
  clear h3 hk hn hT hc1 hc2 HF0
  go_enter Tryd.func39, Tryd.ntmps39
  go_wp2_with fail
  refine HN0.out.mono ?_
  rintro e w1 ⟨rfl, b1⟩
  clear HN0
  go_wp2_with fail
  go_loopw [3, 4, 13] (fun u y x wr => ∃ (i : Nat) (K : List UInt8), i ≤ n ∧ x = .int .i64 i ∧ y = .string (stx K) ∧ u = .string (stx (numBytes n ++ encB [] (l.take i))) ∧ Hid (∀ y : Ent, K = if 0 < i then (l.getD (i - 1) y).key else []) ∧ Hid (K.length ≤ 100) ∧ Below w.heap.size w wr) (fun _ _ x _ => (n - intOf x).toNat)
  case atStart => exact ⟨0, [], Nat.zero_le _, rfl, rfl, rfl, Lib.hid (fun y => rfl), Lib.hid (by decide), b1⟩
  case round =>
    obtain ⟨i, K, hi, rfl, rfl, rfl, HKK, HKL, b4⟩ := hrel
    clear b1
    by_cases hlt : i < n
    · have hlt' : (i : Int) < n := by omega
      obtain ⟨x, hx⟩ : ∃ x, l[i]? = some x := ⟨_, List.getElem?_eq_getElem (by rw [HN.out]; exact hlt)⟩
      obtain ⟨g0, o, rfl, hat⟩ := H3.out i x hx
      obtain ⟨c1, c2, c3⟩ := hat.below b4
      have hkx := HK.out x (List.mem_of_getElem? hx)
      have hst := encB_step hx (HKK.out x)
      have HLS := Lib.hid (fun y => lastK_step (y := y) hx)
      have HX100 := Lib.hid hkx.1
      have hs0 := HLEN.out i hi
      have hs1 := HLEN.out (i + 1) hlt
      rw [hst, ← List.append_assoc] at hs1
      have HST := Lib.hid hst
      have b5 := b4.alloc b4.size (.cells #[.string (stx x.key), .string (stx x.val), .bool x.gone] 42)
      have r5 := rowAt_alloc_at wr #[.string (stx x.key), .string (stx x.val), .bool x.gone] 42 _ rfl
      obtain ⟨k, vl, g⟩ := x
      dsimp only at hkx HLS HX100 c1 c2 c3 b5 r5
      unfold encE at HST hs1
      dsimp only at HST hs1
      have hcl := (commonB_le K k).2
      have HCM := Lib.hid (fun w => r9Common_any K k w (by have := HKL.out; omega) (by omega))
      obtain ⟨C, hC⟩ : ∃ C, commonB K k = C := ⟨_, rfl⟩
      rw [hC] at HST hs1 hcl HCM
      obtain ⟨m, hm⟩ : ∃ m, k.length = m := ⟨_, rfl⟩
      have hzk : (stx k).size = m := by rw [stx_size, hm]
      have hex : (stx k).extract C m = stx (k.drop C) := by
        apply ByteArray.ext
        rw [ByteArray.data_extract]
        apply Array.toList_inj.1
        simp [List.extract_eq_take_drop]
        rw [← hm]
        exact List.take_of_length_le (by simp)
      have hdl : (k.drop C).length = m - C := by rw [List.length_drop, hm]
      have HN1 : Hid (∀ w, Calls Tryd.prog 64 #[.int .i64 C] w fun e w' => e = .returned (.string (stx (numBytes C))) ∧ Below w.heap.size w w') := Lib.hid fun w => r2Number_any C w (by omega)
      have HT1 : Hid (∀ w, Calls Tryd.prog 65 #[.string ((stx k).extract C m)] w fun e w' => e = .returned (.string (stx (numBytes (m - C) ++ k.drop C))) ∧ Below w.heap.size w w') := Lib.hid fun w => by
        have := r2Text_any (stx (k.drop C)) w (by rw [stx_size]; omega)
        rw [stx_size, hdl] at this
        rw [hex]
        exact this
      have HF1 : Hid (∀ w, Calls Tryd.prog 79 #[.bool g] w fun e w' => e = .returned (.string (stx [if g then 1 else 0])) ∧ Below w.heap.size w w') := Lib.hid fun w => r2Flag_any g w
      have HV1 : Hid (∀ w, Calls Tryd.prog 65 #[.string (stx vl)] w fun e w' => e = .returned (.string (stx (numBytes vl.length ++ vl))) ∧ Below w.heap.size w w') := Lib.hid fun w => by
        have := r2Text_any (stx vl) w (by rw [stx_size]; omega)
        rw [stx_size] at this
        exact this
      rw [hm] at hkx hs1 HST hcl
      have hC1 : (C : Int) ≤ m := by omega
      have hm1 : (m : Int) ≤ 100 := by omega
      have hC0 : (0 : Int) ≤ C := by omega
      clear hx hat hst HKK HKL b4 hC hm hex hdl
      go_wp2_with fail
      generalize wr.alloc (.cells #[.string (stx k), .string (stx vl), .bool g] 42) = W at *
      refine (HCM.out _).mono ?_
      rintro e w5 ⟨rfl, b6⟩
      have b7 := below_past b5 b6 b5.size
      have r7 := rowAt_past b6 r5
      clear HCM b5 b6 r5 c1 c2 c3
      have f0 := fun x : Past w5 => cell_of_rowAt (rowAt_past x.h r7) 0
      have f2 := fun x : Past w5 => cell_of_rowAt (rowAt_past x.h r7) 2
      have zA : (stx (numBytes C)).size ≤ 9 := by rw [stx_size, numBytes_length]; have := numLen_le C (by omega); omega
      have zB : (stx (numBytes (m - C) ++ k.drop C)).size ≤ 120 := by
        rw [stx_size, List.length_append, numBytes_length, List.length_drop]
        have := numLen_le (m - C) (by omega)
        have := HX100.out
        omega
      have zC : (stx [if g = true then (1 : UInt8) else 0]).size = 1 := by rw [stx_size]; rfl
      have zS : (stx (numBytes n ++ encB [] (l.take i))).size ≤ 1200000 := by rw [stx_size]; exact hs0
      have zV : (stx (numBytes vl.length ++ vl)).size ≤ 4020 := by
        rw [stx_size, List.length_append, numBytes_length]
        have := numLen_le vl.length (by omega)
        omega
      have HEQ : Hid (stx (numBytes n ++ encB [] (l.take i)) ++ (stx (numBytes C) ++ stx (numBytes (m - C) ++ k.drop C) ++ stx [if g = true then (1 : UInt8) else 0]) ++ (if g = true then stx [] else stx (numBytes vl.length ++ vl)) = stx (numBytes n ++ encB [] (l.take (i + 1)))) := Lib.hid (by
        rw [HST.out]
        cases g
        · simp only [Bool.false_eq_true, if_false, stx_append, List.append_assoc]
        · simp only [if_true, stx_append, List.append_assoc])
      clear HST hs0 hs1 hkx hcl
      obtain ⟨S2, hS2⟩ : ∃ S2, stx (numBytes n ++ encB [] (l.take (i + 1))) = S2 := ⟨_, rfl⟩
      rw [hS2] at HEQ
      have HS2 := Lib.hid hS2
      clear hS2
      generalize stx (numBytes n ++ encB [] (l.take i)) = S at *
      generalize stx (numBytes C) = A at *
      generalize stx (numBytes (m - C) ++ k.drop C) = Bt at *
      generalize stx [if g = true then (1 : UInt8) else 0] = Cf at *
      generalize stx (numBytes vl.length ++ vl) = V at *
      have y1 : ((A ++ Bt).size : Int) ≤ 200 := by rw [ByteArray.size_append]; omega
      have y2 : ((A ++ Bt ++ Cf).size : Int) ≤ 300 := by rw [ByteArray.size_append, ByteArray.size_append]; omega
      have y3 : ((S ++ (A ++ Bt ++ Cf)).size : Int) ≤ 1300000 := by rw [ByteArray.size_append, ByteArray.size_append, ByteArray.size_append]; omega
      go_upto_region 7 with fail
      refine wp_region_past (by kernel_rfl) (by kernel_rfl) ?_
      repeat (go_big_quiet_step (first | (go_at_call 64; exact Past.call (HN1.out _)) | (go_at_call 65; exact Past.call (HT1.out _)) | (go_at_call 79; exact Past.call (HF1.out _))))
      refine wpQuiet_nil ?_
      intro w2 hw2
      obtain ⟨⟨wn, hn⟩, rfl⟩ := hw2
      try dsimp only
      have b8 := below_past b7 hn b7.size
      have r8 := rowAt_past hn r7
      have d2 := cell_of_rowAt r8 2
      clear b7 hn r7 f0 f2 HN1 HT1 HF1
      cases g with
      | true =>
        have d0 := cell_of_rowAt r8 0
        have HE3 : Hid (S ++ (A ++ Bt ++ Cf) = S2) := Lib.hid (by rw [← HEQ.out, if_pos rfl]; exact (ByteArray.append_empty).symm)
        clear HEQ HV1
        go_wp2_with fail
        exact ⟨⟨i + 1, k, hlt, by go_num, rfl, by rw [HS2.out, HE3.out], HLS, HX100, b8⟩, by simp [intOf]; omega⟩
      | false =>
        have d1 := cell_of_rowAt r8 1
        have HE3 : Hid (S ++ (A ++ Bt ++ Cf) ++ V = S2) := Lib.hid (by rw [← HEQ.out, if_neg (by decide)])
        clear HEQ
        go_wp2_with fail
        refine (HV1.out _).mono ?_
        rintro e w6 ⟨rfl, b9⟩
        have b10 := below_past b8 b9 b8.size
        have d0 := cell_of_rowAt (rowAt_past b9 r8) 0
        clear HV1 b8 b9 r8 d1 d2
        go_wp2_with fail
        exact ⟨⟨i + 1, k, hlt, by go_num, rfl, by rw [HS2.out, ← HE3.out], HLS, HX100, b10⟩, by simp [intOf]; omega⟩
    · obtain rfl : i = n := by omega
      have HTT := Lib.hid HTX.out
      clear HKK HKL HTX
      go_wp2_with fail
      go_ret
      exact ⟨by rw [HTT.out]; rfl, b4⟩
set_option maxRecDepth 100000 in
set_option maxHeartbeats 1000000 in
theorem r9Make_any (v : Value) (l : List Ent) (w : World) (h : EntsAt w v l) (hs : smallB l) : Calls Tryd.prog 15 #[v] w fun e w' => e = .returned (MakeR l) ∧ Below w.heap.size w w' := by
  have HC := Lib.hid (r9Check_any v l w h hs)
  unfold MakeR makeB
  by_cases hc : checkB l = 0
  · rw [if_neg (by rw [hc]; simp)]
    rw [hc] at HC
    obtain ⟨hl, hk⟩ := checkB_len hc
    have HT := Lib.hid (fun w (h : EntsAt w v l) => r9Text_any v l w h hl hk)
    have HH := Lib.hid h
    obtain ⟨N, hN⟩ : ∃ N, (textB l).length = N := ⟨_, rfl⟩
    have hsz : (stx (textB l)).size = N := by rw [stx_size, hN]
    have hN2 : (N : Int) ≤ 1200000 := by
      have h1 := numLen_le l.length (by omega)
      have h2 := encB_len l [] hk
      rw [← hN, textB, List.length_append, numBytes_length]
      omega
    rw [hN]
    by_cases hb : N ≤ 65536
    · rw [if_pos hb]
      have HW := Lib.hid (fun w => r4Wrap_any (stx (textB l)) w (by rw [hsz]; exact hb))
      rw [show (stx (textB l)).data.toList = textB l from rfl] at HW
      have p1 : ¬ (65536 : Int) < N := by omega
      have p2 : decide (65536 < N) = false := decide_eq_false (by omega)
      clear h hs hc hl hk hN hb
      generalize stx (textB l) = T at *
      generalize stx (frame (textB l)) = F at *
      go_enter Tryd.func15, Tryd.ntmps15
      go_wp2_with fail
      refine HC.out.mono ?_
      rintro e w1 ⟨rfl, b1⟩
      have HT2 := Lib.hid (HT.out _ (HH.out.below b1))
      clear HC HH HT
      go_wp2_with fail
      refine HT2.out.mono ?_
      rintro e w2 ⟨rfl, b2⟩
      have b3 := below_past b1 b2 b1.size
      clear HT2 b1 b2
      go_wp2_with fail
      refine (HW.out _).mono ?_
      rintro e w3 ⟨rfl, b2⟩
      have b4 := below_past b3 b2 b3.size
      clear HW b2 b3
      go_wp2_with fail
      go_ret2
      exact ⟨rfl, b4⟩
    · rw [if_neg hb]
      have p1 : (65536 : Int) < N := by omega
      have p2 : decide (65536 < N) = true := decide_eq_true (by omega)
      clear h hs hc hl hk hN hb
      generalize stx (textB l) = T at *
      go_enter Tryd.func15, Tryd.ntmps15
      go_wp2_with fail
      refine HC.out.mono ?_
      rintro e w1 ⟨rfl, b1⟩
      have HT2 := Lib.hid (HT.out _ (HH.out.below b1))
      clear HC HH HT
      go_wp2_with fail
      refine HT2.out.mono ?_
      rintro e w2 ⟨rfl, b2⟩
      have b3 := below_past b1 b2 b1.size
      clear HT2 b1 b2
      go_wp2_with fail
      go_ret2
      exact ⟨rfl, b3⟩
  · rw [if_pos hc]
    generalize checkB l = E at *
    have e1 : ((E : Int) != 0) = true := by rw [bne_iff_ne]; omega
    have e2 : (E != 0) = true := by rw [bne_iff_ne]; exact hc
    clear h hc hs
    go_enter Tryd.func15, Tryd.ntmps15
    go_wp2_with fail
    refine HC.out.mono ?_
    rintro e w1 ⟨rfl, b1⟩
    clear HC
    go_wp2_with fail
    go_ret2
    exact ⟨rfl, b1⟩
end Go.Proofs.YtpdfchaamedeoaaDoor
