/- Levels: the error of a state: the walk. Conditions: none. -/
import Derived.Test.YtfklhkephdnhaaaLevel4
namespace Go.Proofs.Ytfklhkephdnhaaa
open Go Go.RowKit Go.Maps

def stV (next log : Int) (v : Value) : Value := .agg #[.int .i64 next, .int .i64 log, v]
set_option maxRecDepth 100000 in
set_option maxHeartbeats 4000000 in
theorem lCheck_any (s : St) (v : Value) (w : World) (h : FlsAt w v s.files) (h1 : in64 s.next) (h2 : in64 s.log) (hf : ∀ f ∈ s.files, FlOk f) :
    Calls Try.prog 23 #[stV s.next s.log v] w fun e w' => e = .returned (.int .i64 (chkS s)) ∧ Below w.heap.size w w' := by
  obtain ⟨next, log, L⟩ := s
  dsimp only at h h1 h2 hf ⊢
  obtain ⟨ao, cap, rfl, l1, l2, l3⟩ := h
  obtain ⟨n, hn⟩ : ∃ n, L.length = n := ⟨_, rfl⟩
  have HN := Lib.hid hn
  have L3 := Lib.hid l3
  have HF := Lib.hid hf
  have HX := Lib.hid h1
  have HL := Lib.hid h2
  rw [hn] at l1 ⊢
  have hli : (n : Int) ≤ 9223372036854775807 := by unfold maxLen at l2; omega
  unfold stV
  have hmm := @run_makeMap Try.prog
  obtain ⟨B, hB⟩ : ∃ B, w.heap.size = B := ⟨_, rfl⟩
  have HB := Lib.hid hB
  have HU : ∀ W g, W.cell? ⟨g, 0, none⟩ = some (.int .i64 next) → W.cell? ⟨g, 1, none⟩ = some (.int .i64 log) → Hid (Calls Try.prog 33 #[.int .i64 1073741824, .slice (some ⟨g, 0, none⟩) 2 2] W fun e w' => e = .returned (.bool (numB next && numB log)) ∧ Below W.heap.size W w') := fun W g c0 c1 => Lib.hid (upTo_two _ W g next log h1 h2 c0 c1)
  clear l1 l2 l3 hn hf h1 h2 hB
  go_enter Try.func23, Try.ntmps23
  go_wp2_with fail
  have c0 : ∀ W1, w.alloc (.cells #[.int .i64 next, .int .i64 log, .slice ao n cap] 24) = W1 → W1.cell? ⟨w.heap.size, 0, none⟩ = some (.int .i64 next) ∧ W1.cell? ⟨w.heap.size, 1, none⟩ = some (.int .i64 log) ∧ W1.cell? ⟨w.heap.size, 2, none⟩ = some (.slice ao n cap) ∧ W1.heap.size = w.heap.size + 1 ∧ Below w.heap.size w W1 := by
    rintro W1 rfl
    exact ⟨cell_new _ _ _ 0, cell_new _ _ _ 1, cell_new _ _ _ 2, by simp, (Below.refl _ _).alloc (Nat.le_refl _) _⟩
  obtain ⟨W1, hW1⟩ : ∃ W1, w.alloc (.cells #[.int .i64 next, .int .i64 log, .slice ao n cap] 24) = W1 := ⟨_, rfl⟩
  obtain ⟨d0, d1, d2, hs1, b1⟩ := c0 W1 hW1
  rw [hW1, ← hs1]
  have b2 := b1.alloc b1.size (.cells #[.int .i64 next, .int .i64 log] 3)
  have HC := HU (W1.alloc (.cells #[.int .i64 next, .int .i64 log] 3)) W1.heap.size (cell_new _ _ _ 0) (cell_new _ _ _ 1)
  have e0 := cell_old d0 (.cells #[.int .i64 next, .int .i64 log] 3)
  have e1 := cell_old d1 (.cells #[.int .i64 next, .int .i64 log] 3)
  have e2 := cell_old d2 (.cells #[.int .i64 next, .int .i64 log] 3)
  have bs2 : B ≤ (W1.alloc (.cells #[.int .i64 next, .int .i64 log] 3)).heap.size := by rw [← HB.out]; exact b2.size
  rw [HB.out] at b2 e0 e1 e2 ⊢
  clear c0 hW1 d0 d1 d2 hs1 b1 HU
  generalize W1.alloc (.cells #[.int .i64 next, .int .i64 log] 3) = W2 at *
  refine HC.out.mono ?_
  rintro e w2 ⟨rfl, b3⟩
  have f0 := (b3.cell (p := ⟨B, 0, none⟩) (cellLt e0)).trans e0
  have f1 := (b3.cell (p := ⟨B, 1, none⟩) (cellLt e1)).trans e1
  have f2 := (b3.cell (p := ⟨B, 2, none⟩) (cellLt e2)).trans e2
  have b4 := b2.trans (b3.mono bs2)
  have bs4 := Nat.le_trans bs2 b3.size
  clear e0 e1 e2 b2 b3 HC bs2
  have HV : Hid (chkS ⟨next, log, L⟩ = if (numB next && numB log) = false then 1 else if 1000 < n then 2 else chkF next [] L) := Lib.hid (by
    unfold chkS
    dsimp only
    rw [HN.out]
    by_cases c1 : numB next = false
    · simp [c1]
    · by_cases c2 : numB log = false
      · simp [c2]
      · simp [c1, c2])
  cases hr : (numB next && numB log) with
  | false =>
    rw [hr, if_pos rfl] at HV
    clear hr
    go_wp2
    go_ret
    exact ⟨by rw [HV.out]; rfl, by rw [HB.out]; exact b4⟩
  | true =>
    rw [hr, if_neg (by decide)] at HV
    have hnx : 0 ≤ next ∧ next ≤ 1073741824 := by
      have := (Bool.and_eq_true _ _ ▸ hr : numB next = true ∧ numB log = true).1
      unfold numB at this
      simpa using this
    obtain ⟨hx0, hx1⟩ := hnx
    clear hr
    by_cases hbig : 1000 < n
    · rw [if_pos hbig] at HV
      have hb2 : (1000 : Int) < n := by omega
      go_wp2
      go_ret
      exact ⟨by rw [HV.out]; rfl, by rw [HB.out]; exact b4⟩
    · rw [if_neg hbig] at HV
      have hb2 : ¬ (1000 : Int) < n := by omega
      have g0 := cell_old f0 (.map #[] 0)
      have g1 := cell_old f1 (.map #[] 0)
      have g2 := cell_old f2 (.map #[] 0)
      have HCK : Hid (ChkW B w B next log (.slice ao n cap) w2.heap.size [] (w2.alloc (.map #[] 0))) := Lib.hid ⟨b4.alloc bs4 _, Nat.le_trans bs4 (by simp), cellLt f0, Nat.le_refl _, g0, g1, g2, setAt_new w2⟩
      clear b4 bs4 HL
      go_wp2_with fail
      generalize w2.heap.size = bm at *
      generalize w2.alloc (.map #[] 0) = W3 at *
      clear g0 g1 g2 f0 f1 f2
      go_loopw [25] (fun x wr => ∃ i : Nat, i ≤ n ∧ x = .int .i64 i ∧ Hid (ChkW B w B next log (.slice ao n cap) bm ((L.take i).map Fl.num).reverse wr) ∧ Hid (chkF next [] L = chkF next (L.take i) (L.drop i))) (fun x _ => (n - intOf x).toNat)
      case atStart => exact ⟨0, Nat.zero_le _, rfl, HCK, Lib.hid rfl⟩
      case round =>
        clear HCK hmm
        obtain ⟨i, hi, rfl, HCK, HR⟩ := hrel
        by_cases hlt : i < n
        · have hlt' : (i : Int) < n := by omega
          obtain ⟨f, hx⟩ : ∃ f, L[i]? = some f := ⟨_, List.getElem?_eq_getElem (by rw [HN.out]; exact hlt)⟩
          obtain ⟨g, o, rfl, hat⟩ := L3.out i f hx
          obtain ⟨ck1, ck2, ck3, ck3b, m0, m1, m2, ck7⟩ := HCK.out
          obtain ⟨c0, c1, c2, c3, c4⟩ := hat.below (by rw [HB.out]; exact ck1)
          go_upto_region 9 with fail
          have HCK4 := Lib.hid (HCK.out.below ((Below.refl _ _).alloc (Nat.le_refl _) (.cells #[.int .i64 f.num, .int .i64 f.lev, .int .i64 f.size, .string (stx f.first), .string (stx f.last)] 58)))
          have HFA := Lib.hid (flAt_new wr f 58 _ rfl)
          obtain ⟨ok1, ok2, ok3, ok4, ok5⟩ := HF.out f (List.mem_of_getElem? hx)
          have HST := Lib.hid (chkF_step next L i f hx)
          have HSN := Lib.hid (seen_rev L i f.num)
          have HXX := Lib.hid hx
          clear ck1 ck2 ck3 ck3b m0 m1 m2 ck7 c0 c1 c2 c3 c4
          clear HCK hat hx
          generalize wr.alloc (.cells #[.int .i64 f.num, .int .i64 f.lev, .int .i64 f.size, .string (stx f.first), .string (stx f.last)] 58) = W4 at *
          have HCK := HCK4
          clear HCK4
          generalize wr.heap.size = bf at *
          have wn : IntKind.i64.wrap (next - 1) = next - 1 := by rw [IntKind.wrap_i64]; omega
          have HE1 := Lib.hid (bound_split next f)
          have HC := Lib.hid (upTo_one (next - 1) (W4.alloc (.cells #[.int .i64 f.num] 3)) W4.heap.size f.num ok1 (cell_new _ _ _ 0))
          have HCKa := Lib.hid (HCK.out.below ((Below.refl _ _).alloc (Nat.le_refl _) (.cells #[.int .i64 f.num] 3)))
          have HFAa := Lib.hid (HFA.out.below ((Below.refl _ _).alloc (Nat.le_refl _) (.cells #[.int .i64 f.num] 3)))
          obtain ⟨ck1, ck2, ck3, ck3b, m0, m1, m2, ck7⟩ := HCK.out
          obtain ⟨c0, c1, c2, c3, c4⟩ := HFA.out
          go_wp2_with fail
          clear ck1 ck2 ck3 ck3b m0 m1 m2 ck7 c0 c1 c2 c3 c4
          clear HCK HFA
          generalize W4.alloc (.cells #[.int .i64 f.num] 3) = Wq at *
          refine HC.out.mono ?_
          rintro e w5 ⟨rfl, bq⟩
          have HCK := Lib.hid (HCKa.out.below bq)
          have HFA := Lib.hid (HFAa.out.below bq)
          clear HC HCKa HFAa bq
          cases r1 : inB (next - 1) f.num with
          | false =>
            rw [r1, Bool.false_and, Bool.false_and] at HE1
            have HE : Hid (chkF next (L.take i) (L.drop i) = 1) := Lib.hid (by
              have : errF next (L.take i) f = 1 := by unfold errF; rw [HE1.out]; rfl
              rw [HST.out, this]
              rfl)
            obtain ⟨ck1, ck2, ck3, ck3b, m0, m1, m2, ck7⟩ := HCK.out
            obtain ⟨c0, c1, c2, c3, c4⟩ := HFA.out
            clear ck1 ck2 ck3 ck3b m0 m1 m2 ck7 c0 c1 c2 c3 c4
            clear HFA
            obtain ⟨ck1, _⟩ := HCK.out
            clear HCK
            go_wp2
            go_ret
            exact ⟨by rw [HV.out, HR.out, HE.out]; rfl, by rw [HB.out]; exact ck1⟩
          | true =>
            rw [r1, Bool.true_and] at HE1
            clear r1
            have HC := Lib.hid (upTo_one 3 (w5.alloc (.cells #[.int .i64 f.lev] 3)) w5.heap.size f.lev ok2 (cell_new _ _ _ 0))
            have HCKa := Lib.hid (HCK.out.below ((Below.refl _ _).alloc (Nat.le_refl _) (.cells #[.int .i64 f.lev] 3)))
            have HFAa := Lib.hid (HFA.out.below ((Below.refl _ _).alloc (Nat.le_refl _) (.cells #[.int .i64 f.lev] 3)))
            obtain ⟨ck1, ck2, ck3, ck3b, m0, m1, m2, ck7⟩ := HCK.out
            obtain ⟨c0, c1, c2, c3, c4⟩ := HFA.out
            go_wp2_with fail
            clear ck1 ck2 ck3 ck3b m0 m1 m2 ck7 c0 c1 c2 c3 c4
            clear HCK HFA
            generalize w5.alloc (.cells #[.int .i64 f.lev] 3) = Wq at *
            refine HC.out.mono ?_
            rintro e w6 ⟨rfl, bq⟩
            have HCK := Lib.hid (HCKa.out.below bq)
            have HFA := Lib.hid (HFAa.out.below bq)
            clear HC HCKa HFAa bq
            cases r2 : inB 3 f.lev with
            | false =>
              rw [r2, Bool.false_and] at HE1
              have HE : Hid (chkF next (L.take i) (L.drop i) = 1) := Lib.hid (by
                have : errF next (L.take i) f = 1 := by unfold errF; rw [HE1.out]; rfl
                rw [HST.out, this]
                rfl)
              obtain ⟨ck1, ck2, ck3, ck3b, m0, m1, m2, ck7⟩ := HCK.out
              obtain ⟨c0, c1, c2, c3, c4⟩ := HFA.out
              clear ck1 ck2 ck3 ck3b m0 m1 m2 ck7 c0 c1 c2 c3 c4
              clear HFA
              obtain ⟨ck1, _⟩ := HCK.out
              clear HCK
              go_wp2
              go_ret
              exact ⟨by rw [HV.out, HR.out, HE.out]; rfl, by rw [HB.out]; exact ck1⟩
            | true =>
              rw [r2, Bool.true_and] at HE1
              clear r2
              have HC := Lib.hid (upTo_one 1073741824 (w6.alloc (.cells #[.int .i64 f.size] 3)) w6.heap.size f.size ok3 (cell_new _ _ _ 0))
              have HCKa := Lib.hid (HCK.out.below ((Below.refl _ _).alloc (Nat.le_refl _) (.cells #[.int .i64 f.size] 3)))
              have HFAa := Lib.hid (HFA.out.below ((Below.refl _ _).alloc (Nat.le_refl _) (.cells #[.int .i64 f.size] 3)))
              obtain ⟨ck1, ck2, ck3, ck3b, m0, m1, m2, ck7⟩ := HCK.out
              obtain ⟨c0, c1, c2, c3, c4⟩ := HFA.out
              go_wp2_with fail
              clear ck1 ck2 ck3 ck3b m0 m1 m2 ck7 c0 c1 c2 c3 c4
              clear HCK HFA
              generalize w6.alloc (.cells #[.int .i64 f.size] 3) = Wq at *
              refine HC.out.mono ?_
              rintro e w7 ⟨rfl, bq⟩
              have HCK := Lib.hid (HCKa.out.below bq)
              have HFA := Lib.hid (HFAa.out.below bq)
              clear HC HCKa HFAa bq
              cases r3 : inB 1073741824 f.size with
              | false =>
                rw [r3] at HE1
                have HE : Hid (chkF next (L.take i) (L.drop i) = 1) := Lib.hid (by
                  have : errF next (L.take i) f = 1 := by unfold errF; rw [HE1.out]; rfl
                  rw [HST.out, this]
                  rfl)
                obtain ⟨ck1, ck2, ck3, ck3b, m0, m1, m2, ck7⟩ := HCK.out
                obtain ⟨c0, c1, c2, c3, c4⟩ := HFA.out
                clear ck1 ck2 ck3 ck3b m0 m1 m2 ck7 c0 c1 c2 c3 c4
                clear HFA
                obtain ⟨ck1, _⟩ := HCK.out
                clear HCK
                go_wp2
                go_ret
                exact ⟨by rw [HV.out, HR.out, HE.out]; rfl, by rw [HB.out]; exact ck1⟩
              | true =>
                rw [r3] at HE1
                clear r3
                obtain ⟨ck1, ck2, ck3, ck3b, m0, m1, m2, ck7⟩ := HCK.out
                obtain ⟨c0, c1, c2, c3, c4⟩ := HFA.out
                have hlk := ck7.look ok1
                rw [HSN.out] at hlk
                go_upto_region 12 with fail
                clear ck1 ck2 ck3 ck3b m0 m1 m2 ck7 c0 c1 c2 c3 c4
                clear hlk
                have HCK8 := Lib.hid (HCK.out.below ((Below.refl _ _).alloc (Nat.le_refl _) (.cells #[] 77)))
                have HFA8 := Lib.hid (HFA.out.below ((Below.refl _ _).alloc (Nat.le_refl _) (.cells #[] 77)))
                have HFM : Hid (∀ W, Calls Try.prog 58 #[.agg #[.int .i64 f.num, .int .i64 f.lev, .int .i64 f.size, .string (stx f.first), .string (stx f.last)]] W fun e w' => e = .returned (.bool (formB f)) ∧ Below W.heap.size W w') := Lib.hid (fun W => lFormed_any f W ok4 ok5)
                clear HCK HFA
                generalize w7.alloc (.cells #[] 77) = W8 at *
                generalize w7.heap.size = bu at *
                obtain ⟨c0, c1, c2, c3, c4⟩ := HFA8.out
                have z0 := fun x : Past W8 => (x.h.cell (p := ⟨bf, 0, none⟩) (cellLt c0)).trans c0
                have z1 := fun x : Past W8 => (x.h.cell (p := ⟨bf, 1, none⟩) (cellLt c1)).trans c1
                have z2 := fun x : Past W8 => (x.h.cell (p := ⟨bf, 2, none⟩) (cellLt c2)).trans c2
                have z3 := fun x : Past W8 => (x.h.cell (p := ⟨bf, 3, none⟩) (cellLt c3)).trans c3
                have z4 := fun x : Past W8 => (x.h.cell (p := ⟨bf, 4, none⟩) (cellLt c4)).trans c4
                clear c0 c1 c2 c3 c4
                cases r4 : seenB (L.take i) f.num with
                | true =>
                  have HE : Hid (chkF next (L.take i) (L.drop i) = 3) := Lib.hid (by
                    have : errF next (L.take i) f = 3 := by
                      unfold errF
                      rw [HE1.out, if_neg (by decide), if_pos (.inr (.inl r4))]
                    rw [HST.out, this]
                    rfl)
                  clear r4 HFM
                  refine wp_region_past (by kernel_rfl) (by kernel_rfl) ?_
                  repeat (go_big_quiet_step (fail))
                  refine wpQuiet_nil ?_
                  intro w2 hw2
                  obtain ⟨⟨wn, hn⟩, rfl⟩ := hw2
                  try dsimp only
                  have HCK := Lib.hid (HCK8.out.below hn)
                  have HFA := Lib.hid (HFA8.out.below hn)
                  clear hn HCK8 HFA8 z0 z1 z2 z3 z4
                  clear HFA
                  obtain ⟨ck1, _⟩ := HCK.out
                  clear HCK
                  go_wp2
                  go_ret
                  exact ⟨by rw [HV.out, HR.out, HE.out]; rfl, by rw [HB.out]; exact ck1⟩
                | false =>
                  have HE2 := Lib.hid r4
                  clear r4
                  cases r5 : formB f with
                  | false =>
                    have HE : Hid (chkF next (L.take i) (L.drop i) = 3) := Lib.hid (by
                      have : errF next (L.take i) f = 3 := by
                        unfold errF
                        rw [HE1.out, if_neg (by decide), if_pos (.inl r5)]
                      rw [HST.out, this]
                      rfl)
                    rw [r5] at HFM
                    clear r5
                    refine wp_region_past (by kernel_rfl) (by kernel_rfl) ?_
                    repeat (go_big_quiet_step ((go_at_call 58; exact Past.call (HFM.out _))))
                    refine wpQuiet_nil ?_
                    intro w2 hw2
                    obtain ⟨⟨wn, hn⟩, rfl⟩ := hw2
                    try dsimp only
                    have HCK := Lib.hid (HCK8.out.below hn)
                    have HFA := Lib.hid (HFA8.out.below hn)
                    clear hn HCK8 HFA8 z0 z1 z2 z3 z4
                    clear HFA
                    obtain ⟨ck1, _⟩ := HCK.out
                    clear HCK
                    go_wp2
                    go_ret
                    exact ⟨by rw [HV.out, HR.out, HE.out]; rfl, by rw [HB.out]; exact ck1⟩
                  | true =>
                    have HE3 := Lib.hid r5
                    rw [r5] at HFM
                    clear r5
                    by_cases hi0 : i = 0
                    · have hi1 : ¬ (0 : Int) < i := by omega
                      refine wp_region_past (by kernel_rfl) (by kernel_rfl) ?_
                      repeat (go_big_quiet_step ((go_at_call 58; exact Past.call (HFM.out _))))
                      refine wpQuiet_nil ?_
                      intro w2 hw2
                      obtain ⟨⟨wn, hn⟩, rfl⟩ := hw2
                      try dsimp only
                      have HCK := Lib.hid (HCK8.out.below hn)
                      have HFA := Lib.hid (HFA8.out.below hn)
                      clear hn HCK8 HFA8 z0 z1 z2 z3 z4
                      have HB4 : Hid (behindB (L.take i) f = true) := Lib.hid (by subst hi0; rfl)
                      clear hi0
                      have HE : Hid (chkF next (L.take i) (L.drop i) = chkF next (L.take (i + 1)) (L.drop (i + 1))) := Lib.hid (by
                        have : errF next (L.take i) f = 0 := errF_zero.2 ⟨HE1.out, HE3.out, HE2.out, HB4.out⟩
                        rw [HST.out, this]
                        rfl)
                      have HR2 : Hid (chkF next [] L = chkF next (L.take (i + 1)) (L.drop (i + 1))) := Lib.hid (HR.out.trans HE.out)
                      obtain ⟨ck1, ck2, ck3, ck3b, m0, m1, m2, ck7⟩ := HCK.out
                      obtain ⟨c0, c1, c2, c3, c4⟩ := HFA.out
                      have HS2 : Hid (((L.take (i + 1)).map Fl.num).reverse = f.num :: ((L.take i).map Fl.num).reverse) := Lib.hid (by
                        rw [List.take_add_one, HXX.out, List.map_append, List.reverse_append]
                        rfl)
                      have hsl : (((L.take i).map Fl.num).reverse).length ≤ 1000000 := by rw [List.length_reverse, List.length_map, List.length_take]; omega
                      clear HR HE HST HE1 HE2 HE3 HSN
                      go_wp2_with (at_mapUpdate; refine wpList_putS rfl _ _ _ rfl bm _ rfl ck7 f.num ok1 rfl rfl hsl ?_)
                      intro w9 hs9 hg9
                      have hs10 : SetAt w9 bm ((L.take (i + 1)).map Fl.num).reverse := by rw [HS2.out]; simpa using hs9
                      have HCK9 := Lib.hid (HCK.out.put hs10 hg9)
                      clear HCK HFA HS2 hsl hs9 hs10 hg9 HFM HXX
                      clear ck1 ck2 ck3 ck3b m0 m1 m2 ck7 c0 c1 c2 c3 c4
                      go_wp2_with fail
                      exact ⟨⟨i + 1, hlt, by go_num, HCK9, HR2⟩, by simp [intOf]; omega⟩
                    · obtain ⟨q, hq⟩ : ∃ q, i = q + 1 := ⟨i - 1, by omega⟩
                      have hi1 : (0 : Int) < i := by omega
                      have hi2 : decide ((0 : Int) < i) = true := decide_eq_true hi1
                      have hi3 : decide (0 < i) = true := decide_eq_true (by omega)
                      have hwq : IntKind.i64.wrap ((i : Int) - 1) = (q : Int) := by rw [IntKind.wrap_i64]; omega
                      have hqn : (q : Int) < n := by omega
                      obtain ⟨p, hp⟩ : ∃ p, L[q]? = some p := ⟨_, List.getElem?_eq_getElem (by rw [HN.out]; omega)⟩
                      obtain ⟨g2, o2, eg, hpat⟩ := L3.out q p hp
                      cases eg
                      have HB4 : Hid (behindB (L.take i) f = followsB p f) := Lib.hid (by
                        have : (L.take i).getLast? = some p := by rw [List.getLast?_eq_getElem?, List.length_take, HN.out, Nat.min_eq_left hi, List.getElem?_take, if_pos (by omega), hq, Nat.add_sub_cancel]; exact hp
                        unfold behindB
                        rw [this])
                      have HFO : Hid (∀ W, Calls Try.prog 59 #[.agg #[.int .i64 p.num, .int .i64 p.lev, .int .i64 p.size, .string (stx p.first), .string (stx p.last)], .agg #[.int .i64 f.num, .int .i64 f.lev, .int .i64 f.size, .string (stx f.first), .string (stx f.last)]] W fun e w' => e = .returned (.bool (followsB p f)) ∧ Below W.heap.size W w') := Lib.hid (fun W => lFollows_any p f W)
                      obtain ⟨y0, y1, y2, y3, y4⟩ := hpat.below (by rw [HB.out]; exact HCK8.out.1)
                      obtain ⟨_, _, _, _, _, _, mm2, _⟩ := HCK8.out
                      have z5 := fun x : Past W8 => (x.h.cell (p := ⟨g, o + q * 5, none⟩) (cellLt y0)).trans y0
                      have z6 := fun x : Past W8 => (x.h.cell (p := ⟨g, o + q * 5 + 1, none⟩) (cellLt y1)).trans y1
                      have z7 := fun x : Past W8 => (x.h.cell (p := ⟨g, o + q * 5 + 2, none⟩) (cellLt y2)).trans y2
                      have z8 := fun x : Past W8 => (x.h.cell (p := ⟨g, o + q * 5 + 3, none⟩) (cellLt y3)).trans y3
                      have z9 := fun x : Past W8 => (x.h.cell (p := ⟨g, o + q * 5 + 4, none⟩) (cellLt y4)).trans y4
                      have z10 := fun x : Past W8 => (x.h.cell (p := ⟨B, 2, none⟩) (cellLt mm2)).trans mm2
                      clear y0 y1 y2 y3 y4 mm2 hpat hp hq hi0
                      cases r6 : followsB p f with
                      | false =>
                        rw [r6] at HFO HB4
                        have HE : Hid (chkF next (L.take i) (L.drop i) = 3) := Lib.hid (by
                          have : errF next (L.take i) f = 3 := by
                            unfold errF
                            rw [HE1.out, if_neg (by decide), if_pos (.inr (.inr HB4.out))]
                          rw [HST.out, this]
                          rfl)
                        clear r6
                        refine wp_region_past (by kernel_rfl) (by kernel_rfl) ?_
                        iterate 3 go_big_quiet_step (fail)
                        go_big_quiet_step (exact Past.call (HFM.out _))
                        iterate 13 go_big_quiet_step (fail)
                        go_big_quiet_step (exact Past.call (HFO.out _))
                        repeat go_big_quiet_step (fail)
                        refine wpQuiet_nil ?_
                        intro w2 hw2
                        obtain ⟨⟨wn, hn⟩, rfl⟩ := hw2
                        try dsimp only
                        clear z5 z6 z7 z8 z9 z10 HFO
                        have HCK := Lib.hid (HCK8.out.below hn)
                        have HFA := Lib.hid (HFA8.out.below hn)
                        clear hn HCK8 HFA8 z0 z1 z2 z3 z4
                        clear HFA
                        obtain ⟨ck1, _⟩ := HCK.out
                        clear HCK
                        go_wp2
                        go_ret
                        exact ⟨by rw [HV.out, HR.out, HE.out]; rfl, by rw [HB.out]; exact ck1⟩
                      | true =>
                        rw [r6] at HFO HB4
                        clear r6
                        refine wp_region_past (by kernel_rfl) (by kernel_rfl) ?_
                        iterate 3 go_big_quiet_step (fail)
                        go_big_quiet_step (exact Past.call (HFM.out _))
                        iterate 13 go_big_quiet_step (fail)
                        go_big_quiet_step (exact Past.call (HFO.out _))
                        repeat go_big_quiet_step (fail)
                        refine wpQuiet_nil ?_
                        intro w2 hw2
                        obtain ⟨⟨wn, hn⟩, rfl⟩ := hw2
                        try dsimp only
                        clear z5 z6 z7 z8 z9 z10 HFO
                        have HCK := Lib.hid (HCK8.out.below hn)
                        have HFA := Lib.hid (HFA8.out.below hn)
                        clear hn HCK8 HFA8 z0 z1 z2 z3 z4
                        have HE : Hid (chkF next (L.take i) (L.drop i) = chkF next (L.take (i + 1)) (L.drop (i + 1))) := Lib.hid (by
                          have : errF next (L.take i) f = 0 := errF_zero.2 ⟨HE1.out, HE3.out, HE2.out, HB4.out⟩
                          rw [HST.out, this]
                          rfl)
                        have HR2 : Hid (chkF next [] L = chkF next (L.take (i + 1)) (L.drop (i + 1))) := Lib.hid (HR.out.trans HE.out)
                        obtain ⟨ck1, ck2, ck3, ck3b, m0, m1, m2, ck7⟩ := HCK.out
                        obtain ⟨c0, c1, c2, c3, c4⟩ := HFA.out
                        have HS2 : Hid (((L.take (i + 1)).map Fl.num).reverse = f.num :: ((L.take i).map Fl.num).reverse) := Lib.hid (by
                          rw [List.take_add_one, HXX.out, List.map_append, List.reverse_append]
                          rfl)
                        have hsl : (((L.take i).map Fl.num).reverse).length ≤ 1000000 := by rw [List.length_reverse, List.length_map, List.length_take]; omega
                        clear HR HE HST HE1 HE2 HE3 HSN
                        go_wp2_with (at_mapUpdate; refine wpList_putS rfl _ _ _ rfl bm _ rfl ck7 f.num ok1 rfl rfl hsl ?_)
                        intro w9 hs9 hg9
                        have hs10 : SetAt w9 bm ((L.take (i + 1)).map Fl.num).reverse := by rw [HS2.out]; simpa using hs9
                        have HCK9 := Lib.hid (HCK.out.put hs10 hg9)
                        clear HCK HFA HS2 hsl hs9 hs10 hg9 HFM HXX
                        clear ck1 ck2 ck3 ck3b m0 m1 m2 ck7 c0 c1 c2 c3 c4
                        go_wp2_with fail
                        exact ⟨⟨i + 1, hlt, by go_num, HCK9, HR2⟩, by simp [intOf]; omega⟩
        · obtain rfl : i = n := by omega
          have h0 : chkF next [] L = 0 := by rw [HR.out, ← HN.out]; exact chkF_end next L
          obtain ⟨ck1, _⟩ := HCK.out
          clear HCK
          go_wp2_with fail
          go_ret
          exact ⟨by rw [HV.out, h0]; rfl, by rw [HB.out]; exact ck1⟩
end Go.Proofs.Ytfklhkephdnhaaa
