/- For every list of texts, every list of numbers and every text the law ChirographFiltered returns true. Conditions: the listed variables are as the program lays them. -/
import Derived.Test.YtlhdnkfnhdkbkaaGreatDoorJf5
import Derived.Test.YtlhdnkfnhdkbkaaGreatDoorTie
import Derived.Test.YtlhdnkfnhdkbkaaGreatDoorCards
import Derived.SevenTiedAt
namespace Go.Proofs.YtlhdnkfnhdkbkaaGreatDoor.filtered
open Go Go.ChangeShapes Go.WideShapes Go.ChangeAt Go.ChangeMaps Go.RowKit Go.Proofs.YtlhdnkfnhdkbkaaGreatDoor
attribute [local go_sem] Oper.semAt_some

theorem maxM : max (1048576 : Int) 0 = 1048576 := by decide
theorem in_lenF {w : World} {v : Value} {ks : List Int} (h : InInts w v ks) : ks.length ≤ 9223372036854775807 := by
  obtain ⟨ao, cap, h1, h2, h3, -⟩ := h
  unfold maxLen at h3
  omega
set_option maxRecDepth 100000 in
set_option maxHeartbeats 4000000 in
theorem walk (v0 v1 : Value) (l0 : Nat) (S : Nat → ByteArray) (kk : List Int) (s2 : ByteArray) (w : World) (h0 : InStrs w v0 l0 S) (hK1 : InInts w v1 kk) (ht : Tabs w) :
    Calls Tryz.prog 7 #[v0, v1, .string s2] w fun e w' => e = .returned (.bool true) ∧ Below w.heap.size w w' := by
  have H0 := Lib.hid (dNew_any 1048576 w ⟨by decide, by decide⟩)
  rw [maxM] at H0
  have HT := Lib.hid ht
  have HS0 := Lib.hid h0
  obtain ⟨ao0, cap0, rfl, _⟩ := h0
  obtain ⟨B, hB⟩ : ∃ B, w.heap.size = B := ⟨_, rfl⟩
  have HB := Lib.hid hB
  rw [hB] at H0
  clear ht hB
  go_enter Tryz.func7, Tryz.ntmps7
  go_wp2_with fail
  refine H0.out.mono ?_
  rintro e w1 ⟨q, rfl, hq, d0, b0⟩
  have H1 := Lib.hid (jw_first 1048576 (by decide) (by decide) d0 b0 HT.out HB.out)
  clear H0 d0 b0 hq
  go_wp2_with fail
  refine H1.out.mono ?_
  rintro e w2 ⟨j, v, rfl, -, j2⟩
  clear H1
  go_wp2_with fail
  go_loopw [11, 12] (fun x y wr => ∃ (i : Nat) (pre : List Seg) (now : Nat) (cur : List (List UInt8)) (d : DDisk), i ≤ l0 ∧ i ≤ 30 ∧ x = .int .i64 i ∧ y = .int .i64 i ∧ JW B q j 1048576 pre now cur (cutsL S 60 i) d w wr ∧ AllSure pre ∧ now ≤ i ∧ dUsed d.files ≤ 68 * i) (fun _ y _ => (30 - intOf y).toNat)
  case atStart => exact ⟨0, [], 0, [], _, Nat.zero_le _, Nat.zero_le _, rfl, rfl, j2, (fun s hs => by cases hs), Nat.le_refl _, Nat.zero_le _⟩
  case round =>
    obtain ⟨i, pre, now, cur, d, hi1, hi2, rfl, rfl, JWr, hsu, hnow, hus⟩ := hrel
    clear j2
    by_cases hgo : i < l0 ∧ i < 30
    · obtain ⟨hlt1, hlt2⟩ := hgo
      have g0 : decide (i < l0) = true := decide_eq_true hlt1
      have g0i : (i : Int) < l0 := by omega
      have g2 : decide ((i : Int) < 30) = true := decide_eq_true (by omega)
      have g2i : (i : Int) < 30 := by omega
      obtain ⟨mao, mcap, hv, hS⟩ := HS0.out
      obtain ⟨ma, hmao, hc⟩ := hS i hlt1
      obtain ⟨rfl, rfl⟩ : ao0 = mao ∧ cap0 = mcap := by simpa using hv
      subst hmao
      obtain ⟨L, hL⟩ : ∃ L, (S i).data.toList.take 60 = L := ⟨_, rfl⟩
      have hlL : L.length ≤ 60 := by rw [← hL]; exact List.length_take_le _ _
      have HK : Hid (Calls Tryz.prog 12 #[.string (S i), .int .i64 60] wr fun e w' => e = .returned (.string (stx L)) ∧ w' = wr) := Lib.hid (by
        have := l3Cut_any (S i) 60 wr (by decide)
        rwa [hL] at this)
      have c0 := (JWr.bel.cell (p := ma.add i) (by rw [← HB.out]; exact cellLt hc)).trans hc
      have HAD := Lib.hid (jw_add JWr L (by omega) (by omega))
      have HSUC : Hid (cutsL S 60 (i + 1) = cutsL S 60 i ++ [L]) := Lib.hid (by rw [cutsL_succ, hL])
      have HSU := Lib.hid hsu
      clear hv hS hc hL JWr hsu
      go_wp2_with fail
      refine HK.out.mono ?_
      rintro e w3 ⟨rfl, rfl⟩
      clear HK
      go_wp2_with fail
      refine HAD.out.mono ?_
      rintro e w4 ⟨rfl, j4, u4, -⟩
      rw [← HSUC.out] at j4
      have HUS : Hid (dUsed (addD d (nm now) L).files ≤ 68 * (i + 1)) := Lib.hid (by rw [u4]; omega)
      generalize addD d (nm now) L = d' at *
      have J4 := Lib.hid j4
      clear HAD j4 u4 c0
      by_cases h7 : i % 7 = 6
      · have q1 : (((i : Int).tmod 7) == 6) = true := by
          rw [beq_iff_eq, Int.tmod_eq_emod_of_nonneg (by omega)]
          omega
        have q2 : (((i % 7 : Nat) : Int) == 6) = true := by rw [beq_iff_eq]; omega
        have q3 : (i % 7 == 6) = true := by rw [beq_iff_eq]; exact h7
        have q4 : ((i : Int) % 7 == 6) = true := by rw [beq_iff_eq]; omega
        have HTU := Lib.hid (jw_turn J4.out (by omega))
        clear h7
        go_wp2_with fail
        refine HTU.out.mono ?_
        rintro e w5 ⟨rfl, j5, -⟩
        have J5 := Lib.hid j5
        clear HTU j5 J4
        go_wp2_with fail
        exact ⟨⟨i + 1, _, now + 1, _, _, hlt1, by omega, by go_num, by go_num, J5.out, HSU.out.turn _ _, by omega, HUS.out⟩, by simp [intOf]; omega⟩
      · have q1 : (((i : Int).tmod 7) == 6) = false := by
          rw [beq_eq_false_iff_ne, Int.tmod_eq_emod_of_nonneg (by omega)]
          omega
        have q2 : (((i % 7 : Nat) : Int) == 6) = false := by rw [beq_eq_false_iff_ne]; omega
        have q3 : (i % 7 == 6) = false := by rw [beq_eq_false_iff_ne]; exact h7
        have q4 : ((i : Int) % 7 == 6) = false := by rw [beq_eq_false_iff_ne]; omega
        clear h7
        go_wp2_with fail
        exact ⟨⟨i + 1, _, now, _, _, hlt1, by omega, by go_num, by go_num, J4.out, HSU.out, by omega, HUS.out⟩, by simp [intOf]; omega⟩
    · by_cases e0 : i < l0
      · have g0 : decide (i < l0) = true := decide_eq_true e0
        have g0i : (i : Int) < l0 := by omega
        have g2 : decide ((i : Int) < 30) = false := decide_eq_false (by omega)
        as_aux_lemma =>
        have hcr := JWr.js.crash hsu kk
        have hfl := JWr.js.few_files
        have hnl : ∀ f ∈ d.files, f.name.length ≤ 281474976710656 := by
          intro f hf
          rw [JWr.js.dis] at hf
          obtain ⟨s, _, rfl⟩ := List.mem_map.1 hf
          show (nm s.n).length ≤ _
          rw [nm_length]
          decide
        have HCR := Lib.hid (dCrash_any B q d v1 kk wr JWr.da (hK1.at_ (by rw [HB.out]; exact JWr.bel) (by rw [HB.out]; exact Nat.le_refl _)) (in_lenF hK1) (by omega) (by omega) hnl)
        rw [hcr] at HCR
        have J := Lib.hid JWr
        have hkl : (cutsL S 60 i).length = i := cutsL_length S 60 i
        have hks := cutsL_short S 60 i
        have hkg : ∀ k, k < i → (cutsL S 60 i).getD k [] = (S k).data.toList.take 60 := fun k hk => cutsL_get S 60 i k hk
        generalize cutsL S 60 i = K at *
        have HKG := Lib.hid hkg
        have HKS := Lib.hid hks
        have HKL := Lib.hid hkl
        clear JWr hcr hfl hnl hkg hks hsu hkl
        go_wp2_with fail
        refine HCR.out.mono ?_
        rintro e w3 ⟨rfl, d3, s3⟩
        have J3 : JW B q j 1048576 pre now cur K d w w3 := ⟨J.out.js, J.out.ja.stir s3, d3, J.out.bel.trans s3.below, J.out.tab, J.out.hB, J.out.cap, J.out.few⟩
        have HO := Lib.hid (jw_open J3 (by omega) (by rw [HKL.out]; omega))
        clear HCR J d3 s3 J3
        go_wp2_with fail
        refine HO.out.mono ?_
        rintro e w4 ⟨k4, v4, m4, rfl, -, o4, -, j4, -⟩
        obtain ⟨ao4, cap4, hv4⟩ := own_shape o4
        rw [HKL.out] at hv4
        subst hv4
        have S4 := Lib.hid o4.lie
        have B4 := Lib.hid j4.bel
        have Z4 := Lib.hid j4.low
        have hii : (i : Int) ≤ 30 := by omega
        obtain ⟨p, n, bs, hbl, hmay, hmk⟩ := make_ten _ K w4 S4.out HKS.out (by rw [HKL.out]; omega)
        have HMK := Lib.hid hmk
        have HMAY : Hid (∀ k ∈ K, mayF p bs (hashL k) = true) := Lib.hid hmay
        have HBL := Lib.hid hbl
        clear HO o4 j4 hbl hmay hmk
        go_wp2_with fail
        refine HMK.out.mono ?_
        rintro e w5 ⟨g, cap, rfl, hB5, b5⟩
        have S5 := Lib.hid (S4.out.below b5)
        have B5 := Lib.hid (below_past B4.out b5 Z4.out)
        have Z5 := Lib.hid (Nat.le_trans Z4.out b5.size)
        have x6 := World.alloc_heap_new w5 (.cells #[.int .i64 p, .slice (some ⟨g, 0, none⟩) n cap] 53)
        have a6 : Below w5.heap.size w5 (w5.alloc (.cells #[.int .i64 p, .slice (some ⟨g, 0, none⟩) n cap] 53)) := (Below.refl _ _).alloc (Nat.le_refl _) _
        have S6 := Lib.hid (S5.out.below a6)
        have B6 := Lib.hid (below_past B5.out a6 Z5.out)
        have Z6 := Lib.hid (Nat.le_trans Z5.out a6.size)
        have HB6 := Lib.hid (bytesIn_past hB5 a6)
        clear HMK b5 hB5 S4 S5 B4 B5 Z4 Z5 a6
        go_wp2_with fail
        generalize w5.alloc (.cells #[.int .i64 p, .slice (some ⟨g, 0, none⟩) n cap] 53) = W6 at *
        generalize w5.heap.size = fb at *
        have HCALL : Hid (∀ w' (s : List UInt8), s ∈ K → Below W6.heap.size W6 w' → Calls Tryz.prog 27 #[.agg #[.int .i64 p, .slice (some ⟨g, 0, none⟩) n cap], .string (stx s)] w' fun e w'' => e = .returned (.bool true) ∧ Below w'.heap.size w' w'') := Lib.hid fun w' s hs hb => by
          have := may_any p (some ⟨g, 0, none⟩) cap bs (stx s) w' (by rw [stx_size]; have := HKS.out s hs; omega) (bytesIn_past HB6.out hb)
          rw [HBL.out] at this
          rwa [show mayF p bs (hashL (stx s).data.toList) = true from HMAY.out s hs] at this
        go_loopw [18, 85] (fun x y wz => ∃ (r : Nat) (bv : Bool), r ≤ i ∧ y = .int .i64 r ∧ x = .bool bv ∧ Hid (bv = true → s2.data.toList ∈ K) ∧ Below W6.heap.size W6 wz) (fun _ y _ => (i - intOf y).toNat)
        case atStart => exact ⟨0, false, Nat.zero_le _, rfl, rfl, Lib.hid (fun h => by cases h), Below.refl _ _⟩
        case round =>
          obtain ⟨r, bv, hri, rfl, rfl, HBV, bz⟩ := hrel
          have xz := (bz.block _ (heap_lt x6)).trans x6
          have c1 : wr.cell? ⟨fb, 0, none⟩ = some (.int .i64 p) := (Lib.cell_of_heap xz 0).trans rfl
          have c2 : wr.cell? ⟨fb, 1, none⟩ = some (.slice (some ⟨g, 0, none⟩) n cap) := (Lib.cell_of_heap xz 1).trans rfl
          by_cases hlt : r < i
          · as_aux_lemma =>
            have h1 : decide (r < i) = true := decide_eq_true hlt
            have h1i : (r : Int) < i := by omega
            have h2 : r < l0 := by omega
            have h2i : (r : Int) < l0 := by omega
            obtain ⟨a4, c4, ee, k4⟩ := S6.out.below bz
            obtain ⟨rfl, -, rfl⟩ : ao4 = a4 ∧ _ ∧ cap4 = c4 := by simpa using ee
            obtain ⟨g4, rfl, cc⟩ := k4 r (by rw [HKL.out]; exact hlt)
            obtain ⟨mao, mcap, hv, hS⟩ := HS0.out
            obtain ⟨ma, hmao, hc⟩ := hS r h2
            obtain ⟨rfl, rfl⟩ : ao0 = mao ∧ cap0 = mcap := by simpa using hv
            subst hmao
            have c0 := ((below_past B6.out bz Z6.out).cell (p := ma.add r) (by rw [← HB.out]; exact cellLt hc)).trans hc
            have hmem : K.getD r [] ∈ K := by
              rw [List.getD_eq_getElem?_getD, List.getElem?_eq_getElem (by rw [HKL.out]; exact hlt)]
              exact List.getElem_mem _
            have hcut := HKG.out r hlt
            obtain ⟨L, hL⟩ : ∃ L, K.getD r [] = L := ⟨_, rfl⟩
            rw [hL] at cc hmem hcut
            have HK : Hid (∀ w, Calls Tryz.prog 12 #[.string (S r), .int .i64 60] w fun e w' => e = .returned (.string (stx L)) ∧ w' = w) := Lib.hid (fun w => by
              have := l3Cut_any (S r) 60 w (by decide)
              rwa [← hcut] at this)
            have HC := Lib.hid (HCALL.out wr L hmem bz)
            have HMEM := Lib.hid hmem
            clear ee k4 hv hS hc hmem hcut hL
            go_wp2_with fail
            refine (HK.out _).mono ?_
            rintro e w7 ⟨rfl, rfl⟩
            go_wp2_with fail
            refine HC.out.mono ?_
            rintro e w8 ⟨rfl, b8⟩
            have bz8 := below_past bz b8 bz.size
            clear HK HC b8 c0 c1 c2 xz bz
            cases bv with
            | true =>
              go_wp2_with fail
              exact ⟨⟨r + 1, true, hlt, by go_num, rfl, Lib.hid fun _ => HBV.out trivial, bz8⟩, by simp [intOf]; omega⟩
            | false =>
              have HN : Hid ((L == s2.toList) = true → s2.data.toList ∈ K) := Lib.hid fun hq => by
                have e := beq_iff_eq.1 hq
                rw [ByteArray.toList_eq] at e
                rw [← e]
                exact HMEM.out
              go_wp2_with fail
              exact ⟨⟨r + 1, _, hlt, by go_num, rfl, HN, bz8⟩, by simp [intOf]; omega⟩
          · obtain rfl : r = i := by omega
            have h1 : decide (r < r) = false := decide_eq_false hlt
            have BZ := Lib.hid (below_past B6.out bz Z6.out)
            have ZZ := Lib.hid (Nat.le_trans Z6.out bz.size)
            cases bv with
            | true =>
              have hs2 := HBV.out rfl
              have HC := Lib.hid (HCALL.out wr _ hs2 bz)
              rw [show stx s2.data.toList = s2 from rfl] at HC
              clear bz xz hs2
              go_wp2_with fail
              refine HC.out.mono ?_
              rintro e w8 ⟨rfl, b8⟩
              have b9 := below_past BZ.out b8 ZZ.out
              go_wp2_with fail
              go_ret
              exact ⟨rfl, by rw [HB.out]; exact b9⟩
            | false =>
              clear bz xz
              go_wp2_with fail
              go_ret
              exact ⟨rfl, by rw [HB.out]; exact BZ.out⟩
      · have g0 : decide (i < l0) = false := decide_eq_false e0
        as_aux_lemma =>
        have hcr := JWr.js.crash hsu kk
        have hfl := JWr.js.few_files
        have hnl : ∀ f ∈ d.files, f.name.length ≤ 281474976710656 := by
          intro f hf
          rw [JWr.js.dis] at hf
          obtain ⟨s, _, rfl⟩ := List.mem_map.1 hf
          show (nm s.n).length ≤ _
          rw [nm_length]
          decide
        have HCR := Lib.hid (dCrash_any B q d v1 kk wr JWr.da (hK1.at_ (by rw [HB.out]; exact JWr.bel) (by rw [HB.out]; exact Nat.le_refl _)) (in_lenF hK1) (by omega) (by omega) hnl)
        rw [hcr] at HCR
        have J := Lib.hid JWr
        have hkl : (cutsL S 60 i).length = i := cutsL_length S 60 i
        have hks := cutsL_short S 60 i
        have hkg : ∀ k, k < i → (cutsL S 60 i).getD k [] = (S k).data.toList.take 60 := fun k hk => cutsL_get S 60 i k hk
        generalize cutsL S 60 i = K at *
        have HKG := Lib.hid hkg
        have HKS := Lib.hid hks
        have HKL := Lib.hid hkl
        clear JWr hcr hfl hnl hkg hks hsu hkl
        go_wp2_with fail
        refine HCR.out.mono ?_
        rintro e w3 ⟨rfl, d3, s3⟩
        have J3 : JW B q j 1048576 pre now cur K d w w3 := ⟨J.out.js, J.out.ja.stir s3, d3, J.out.bel.trans s3.below, J.out.tab, J.out.hB, J.out.cap, J.out.few⟩
        have HO := Lib.hid (jw_open J3 (by omega) (by rw [HKL.out]; omega))
        clear HCR J d3 s3 J3
        go_wp2_with fail
        refine HO.out.mono ?_
        rintro e w4 ⟨k4, v4, m4, rfl, -, o4, -, j4, -⟩
        obtain ⟨ao4, cap4, hv4⟩ := own_shape o4
        rw [HKL.out] at hv4
        subst hv4
        have S4 := Lib.hid o4.lie
        have B4 := Lib.hid j4.bel
        have Z4 := Lib.hid j4.low
        have hii : (i : Int) ≤ 30 := by omega
        obtain ⟨p, n, bs, hbl, hmay, hmk⟩ := make_ten _ K w4 S4.out HKS.out (by rw [HKL.out]; omega)
        have HMK := Lib.hid hmk
        have HMAY : Hid (∀ k ∈ K, mayF p bs (hashL k) = true) := Lib.hid hmay
        have HBL := Lib.hid hbl
        clear HO o4 j4 hbl hmay hmk
        go_wp2_with fail
        refine HMK.out.mono ?_
        rintro e w5 ⟨g, cap, rfl, hB5, b5⟩
        have S5 := Lib.hid (S4.out.below b5)
        have B5 := Lib.hid (below_past B4.out b5 Z4.out)
        have Z5 := Lib.hid (Nat.le_trans Z4.out b5.size)
        have x6 := World.alloc_heap_new w5 (.cells #[.int .i64 p, .slice (some ⟨g, 0, none⟩) n cap] 53)
        have a6 : Below w5.heap.size w5 (w5.alloc (.cells #[.int .i64 p, .slice (some ⟨g, 0, none⟩) n cap] 53)) := (Below.refl _ _).alloc (Nat.le_refl _) _
        have S6 := Lib.hid (S5.out.below a6)
        have B6 := Lib.hid (below_past B5.out a6 Z5.out)
        have Z6 := Lib.hid (Nat.le_trans Z5.out a6.size)
        have HB6 := Lib.hid (bytesIn_past hB5 a6)
        clear HMK b5 hB5 S4 S5 B4 B5 Z4 Z5 a6
        go_wp2_with fail
        generalize w5.alloc (.cells #[.int .i64 p, .slice (some ⟨g, 0, none⟩) n cap] 53) = W6 at *
        generalize w5.heap.size = fb at *
        have HCALL : Hid (∀ w' (s : List UInt8), s ∈ K → Below W6.heap.size W6 w' → Calls Tryz.prog 27 #[.agg #[.int .i64 p, .slice (some ⟨g, 0, none⟩) n cap], .string (stx s)] w' fun e w'' => e = .returned (.bool true) ∧ Below w'.heap.size w' w'') := Lib.hid fun w' s hs hb => by
          have := may_any p (some ⟨g, 0, none⟩) cap bs (stx s) w' (by rw [stx_size]; have := HKS.out s hs; omega) (bytesIn_past HB6.out hb)
          rw [HBL.out] at this
          rwa [show mayF p bs (hashL (stx s).data.toList) = true from HMAY.out s hs] at this
        go_loopw [18, 85] (fun x y wz => ∃ (r : Nat) (bv : Bool), r ≤ i ∧ y = .int .i64 r ∧ x = .bool bv ∧ Hid (bv = true → s2.data.toList ∈ K) ∧ Below W6.heap.size W6 wz) (fun _ y _ => (i - intOf y).toNat)
        case atStart => exact ⟨0, false, Nat.zero_le _, rfl, rfl, Lib.hid (fun h => by cases h), Below.refl _ _⟩
        case round =>
          obtain ⟨r, bv, hri, rfl, rfl, HBV, bz⟩ := hrel
          have xz := (bz.block _ (heap_lt x6)).trans x6
          have c1 : wr.cell? ⟨fb, 0, none⟩ = some (.int .i64 p) := (Lib.cell_of_heap xz 0).trans rfl
          have c2 : wr.cell? ⟨fb, 1, none⟩ = some (.slice (some ⟨g, 0, none⟩) n cap) := (Lib.cell_of_heap xz 1).trans rfl
          by_cases hlt : r < i
          · as_aux_lemma =>
            have h1 : decide (r < i) = true := decide_eq_true hlt
            have h1i : (r : Int) < i := by omega
            have h2 : r < l0 := by omega
            have h2i : (r : Int) < l0 := by omega
            obtain ⟨a4, c4, ee, k4⟩ := S6.out.below bz
            obtain ⟨rfl, -, rfl⟩ : ao4 = a4 ∧ _ ∧ cap4 = c4 := by simpa using ee
            obtain ⟨g4, rfl, cc⟩ := k4 r (by rw [HKL.out]; exact hlt)
            obtain ⟨mao, mcap, hv, hS⟩ := HS0.out
            obtain ⟨ma, hmao, hc⟩ := hS r h2
            obtain ⟨rfl, rfl⟩ : ao0 = mao ∧ cap0 = mcap := by simpa using hv
            subst hmao
            have c0 := ((below_past B6.out bz Z6.out).cell (p := ma.add r) (by rw [← HB.out]; exact cellLt hc)).trans hc
            have hmem : K.getD r [] ∈ K := by
              rw [List.getD_eq_getElem?_getD, List.getElem?_eq_getElem (by rw [HKL.out]; exact hlt)]
              exact List.getElem_mem _
            have hcut := HKG.out r hlt
            obtain ⟨L, hL⟩ : ∃ L, K.getD r [] = L := ⟨_, rfl⟩
            rw [hL] at cc hmem hcut
            have HK : Hid (∀ w, Calls Tryz.prog 12 #[.string (S r), .int .i64 60] w fun e w' => e = .returned (.string (stx L)) ∧ w' = w) := Lib.hid (fun w => by
              have := l3Cut_any (S r) 60 w (by decide)
              rwa [← hcut] at this)
            have HC := Lib.hid (HCALL.out wr L hmem bz)
            have HMEM := Lib.hid hmem
            clear ee k4 hv hS hc hmem hcut hL
            go_wp2_with fail
            refine (HK.out _).mono ?_
            rintro e w7 ⟨rfl, rfl⟩
            go_wp2_with fail
            refine HC.out.mono ?_
            rintro e w8 ⟨rfl, b8⟩
            have bz8 := below_past bz b8 bz.size
            clear HK HC b8 c0 c1 c2 xz bz
            cases bv with
            | true =>
              go_wp2_with fail
              exact ⟨⟨r + 1, true, hlt, by go_num, rfl, Lib.hid fun _ => HBV.out trivial, bz8⟩, by simp [intOf]; omega⟩
            | false =>
              have HN : Hid ((L == s2.toList) = true → s2.data.toList ∈ K) := Lib.hid fun hq => by
                have e := beq_iff_eq.1 hq
                rw [ByteArray.toList_eq] at e
                rw [← e]
                exact HMEM.out
              go_wp2_with fail
              exact ⟨⟨r + 1, _, hlt, by go_num, rfl, HN, bz8⟩, by simp [intOf]; omega⟩
          · obtain rfl : r = i := by omega
            have h1 : decide (r < r) = false := decide_eq_false hlt
            have BZ := Lib.hid (below_past B6.out bz Z6.out)
            have ZZ := Lib.hid (Nat.le_trans Z6.out bz.size)
            cases bv with
            | true =>
              have hs2 := HBV.out rfl
              have HC := Lib.hid (HCALL.out wr _ hs2 bz)
              rw [show stx s2.data.toList = s2 from rfl] at HC
              clear bz xz hs2
              go_wp2_with fail
              refine HC.out.mono ?_
              rintro e w8 ⟨rfl, b8⟩
              have b9 := below_past BZ.out b8 ZZ.out
              go_wp2_with fail
              go_ret
              exact ⟨rfl, by rw [HB.out]; exact b9⟩
            | false =>
              clear bz xz
              go_wp2_with fail
              go_ret
              exact ⟨rfl, by rw [HB.out]; exact BZ.out⟩
set_option maxRecDepth 100000 in
theorem lifted (os : Os) (started : os.Started) (H : Type) (enc : TypeId × Value → H) :
    ReturnsInHanded {} Tryz.checked os 7 .any (fun w args => (Rows.chirographFilteredSpec.pre enc Tryz.prog Tryz.f7 [] false w args ∧ laidMetH Tryz.prog laidJ w) ∧ sizedMet enc Tryz.prog Tryz.f7 (OpenSpec.ofChange Rows.chirographFilteredSpec) false w args) (Rows.chirographFilteredSpec.post enc Tryz.prog Tryz.f7 false true false false) := by
  refine returnsInHanded_of_change_and (C := Tryz.checked) (X := fun w _ => laidMetH Tryz.prog laidJ w) (fun _ _ _ hh h => h.of_heap hh) own started (by kernel_rfl) Tryz.func7
    (ChangeSpec.witness_shaped (enc := enc) (C := Tryz.checked) (os := os) (X := fun w _ => laidMetH Tryz.prog laidJ w) false (World.doorLaid Tryz.prog 2000 os) #[.slice none 0 0, .slice none 0 0, .string ⟨#[]⟩] 8 rfl (World.shaped_of_RefB (by kernel_rfl) (by kernel_rfl)) (by kernel_rfl) (by kernel_rfl) (by kernel_rfl) (door_J os _)) ?_
  intro W base args ds gs before hval0 hW _ _ hL _
  have hval : ∀ (j : Nat) t v, Tryz.f7.params[j]? = some t → args[j]? = some v → Value.okWide Tryz.prog W .any base t v := hval0
  clear hval0
  have hW' := hW
  obtain ⟨p, q, hA0, hV, rfl, hfz, hnd⟩ := hW
  have hA : DataW.TrodAll enc Tryz.prog W 0 (fun _ => true) true Tryz.f7.params.toList args.toList ds p := hA0
  rw [Tryz.params7] at hA hval
  clear hA0 hfz hnd hV
  have hr : Readable Tryz.f7.params.toList := by
    rw [Tryz.params7]
    exact readable_of_all (by kernel_rfl)
  have fin : ∀ W', Below W.heap.size W W' → Rows.chirographFilteredSpec.post enc Tryz.prog Tryz.f7 false true false false W args (.bool true) W' := fun W' hb =>
    law_post rfl hW' hr (fun l hl => by
      rw [Tryz.params7] at hl
      match l, hl with
      | [d1, d2, d3], _ => rfl) (by kernel_rfl) hb
  clear hW' hr
  have HT := tabsJ_of_laid hL
  obtain ⟨v0, v1, v2, d0, d1, d2, p0, p1, p2, rfl, rfl, rfl, h0, h1, h2⟩ := trodAll_three hA; obtain ⟨l0, S0, hs0⟩ := in_strs Tryz.underlying27 Tryz.underlying9 cellsOf_string (hval 0 27 v0 rfl rfl) h0; obtain ⟨k1, hk1⟩ := in_ints Tryz.underlying32 Tryz.underlying3 cellsOf_int (hval 1 32 v1 rfl rfl) h1; obtain ⟨s2, rfl, _, _, w2⟩ := open_string Tryz.underlying9 (hval 2 9 v2 rfl rfl) h2
  exact (walk v0 v1 l0 S0 k1 s2 W hs0 hk1 HT).mono fun e W' ⟨he, hb⟩ => ⟨_, he, fin W' hb⟩
theorem row_holds : Rows.ChirographFilteredSaid :=
  OpenClaim.holds_of_wide 7 Tryz.f7 rfl rfl rfl rfl rfl rfl rfl ⟨rfl, rfl, rfl, rfl, rfl⟩ rfl rfl rfl rfl rfl (by kernel_rfl) Tryz.func7 (by kernel_rfl)
    (of_decide_eq_true (by kernel_rfl)) (by unfold Func.isWrapper; first | (rw [if_pos (by decide +kernel)]; kernel_rfl) | (rw [if_neg (by decide +kernel)]; exact ⟨rfl, rfl⟩))
    (fun os started H enc _ => lifted os started H enc)
theorem proved : Rows.ChirographFilteredCardSaid :=
  Claim7.holds_tied_plain_at .later [] [.data, .data, .data, .sentinel, .sentinel, .data, .data] true _ true
    row_holds (fun _ h => by cases h) (by kernel_rfl) (fun _ h => by cases h) chirographFiltered_row_tie rfl ⟨rfl, rfl⟩ (by kernel_rfl) rfl
    (fun f fn hf hfn => by
      obtain rfl : f = 7 := Option.some.inj ((show Tryz.prog.funcNamed "chirograph/chirographtop.ChirographFiltered" = some 7 by kernel_rfl).symm.trans hf) |>.symm
      obtain rfl : fn = Tryz.f7 := (Option.some.inj (Tryz.func7.symm.trans hfn)).symm
      exact ⟨by kernel_rfl, fun j t ht => by
        rw [Tryz.params7] at ht
        have hm : t ∈ [27, 32, 9] := by simpa using Array.mem_of_getElem? ht
        have hall : ([27, 32, 9].all fun u => !Tryz.prog.wantsStandIn u) = true := by kernel_rfl
        exact (show Tryz.prog.wantsStandIn t = false by simpa using List.all_eq_true.1 hall t hm)⟩)
    (by kernel_rfl)
end Go.Proofs.YtlhdnkfnhdkbkaaGreatDoor.filtered
