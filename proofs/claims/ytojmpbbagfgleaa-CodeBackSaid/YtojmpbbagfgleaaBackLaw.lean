/- For every list of things the law CodeBack returns true. Conditions: none. -/
import Derived.Test.YtojmpbbagfgleaaThingsMath
import Derived.Test.YtojmpbbagfgleaaLaw2
namespace Go.Proofs.Ytojmpbbagfgleaa.codeback
open Go Go.ChangeShapes Go.WideShapes Go.ChangeAt Go.ChangeMaps Go.RowKit Go.Proofs.Ytojmpbbagfgleaa


/-- What is read of the i-th thing, if it was written. -/
theorem rd_num (B b : Nat) (T : Nat → Thing) (m i : Nat) (w : World) (h : ReaderAt B b (txt (rest T m i)) 0 w) (hi : i < m) (t : Thing) (hT : T i = t) (hk : t.k = 1) (hf : fineT t) (hw : t.wf) :
    Calls Try.prog 35 #[.pointer (some ⟨b, 0, none⟩)] w fun r w' => r = .returned (.int .i64 t.n) ∧ ReaderAt B b (txt (rest T m (i + 1))) 0 w' ∧ Near B b w w' := by
  have h0 := hf.1 hk
  have h1 := (wf_i64 hw.2.1).2
  have := RNumber_all B b _ 0 w h
  rw [rest_step T m i hi, hT, encT, if_pos hk] at this
  obtain ⟨v, s, e⟩ := num_read t.n.toNat (rest T m (i + 1)) (by omega)
  rwa [v, s, e, Int.toNat_of_nonneg h0] at this
theorem rd_text (B b : Nat) (T : Nat → Thing) (m i : Nat) (w : World) (h : ReaderAt B b (txt (rest T m i)) 0 w) (hB : B ≤ w.heap.size) (hi : i < m) (t : Thing) (hT : T i = t) (hk : t.k = 2) (hf : fineT t) :
    Calls Try.prog 37 #[.pointer (some ⟨b, 0, none⟩)] w fun r w' => r = .returned (.string t.s) ∧ ReaderAt B b (txt (rest T m (i + 1))) 0 w' ∧ Near B b w w' := by
  have h0 := hf.2 hk
  have := RText_any B b _ 0 w h hB
  rw [rest_step T m i hi, hT, encT, if_neg (by omega), if_pos hk] at this
  obtain ⟨v, s, e⟩ := text_read t.s.data.toList (rest T m (i + 1)) h0
  rwa [show t.s.size = t.s.data.toList.length from rfl, v, s, e] at this
theorem rd_label (B b : Nat) (T : Nat → Thing) (m i : Nat) (w : World) (h : ReaderAt B b (txt (rest T m i)) 0 w) (hB : B ≤ w.heap.size) (hi : i < m) (t : Thing) (hT : T i = t) (hk : t.k = 3) :
    Calls Try.prog 39 #[.pointer (some ⟨b, 0, none⟩)] w fun r w' => r = .returned (.agg (cellsL t.l)) ∧ ReaderAt B b (txt (rest T m (i + 1))) 0 w' ∧ Near B b w w' := by
  have := RLabel_any B b _ 0 w h hB
  rw [rest_step T m i hi, hT, encT, if_neg (by omega), if_neg (by omega), if_pos hk] at this
  obtain ⟨v, s, e⟩ := read_label t.l (rest T m (i + 1))
  rwa [v, s, e] at this
theorem rd_flag (B b : Nat) (T : Nat → Thing) (m i : Nat) (w : World) (h : ReaderAt B b (txt (rest T m i)) 0 w) (hi : i < m) (t : Thing) (hT : T i = t) (hk : t.k = 4) :
    Calls Try.prog 41 #[.pointer (some ⟨b, 0, none⟩)] w fun r w' => r = .returned (.bool (decide (0 < t.n))) ∧ ReaderAt B b (txt (rest T m (i + 1))) 0 w' ∧ Near B b w w' := by
  have := RFlag_any B b _ 0 w h
  rw [rest_step T m i hi, hT, encT, if_neg (by omega), if_neg (by omega), if_neg (by omega), if_pos hk, List.singleton_append] at this
  obtain ⟨v, s, e⟩ := read_flag (flagB t.n) (rest T m (i + 1))
  rwa [v, s, e] at this
theorem rd_none (B b : Nat) (T : Nat → Thing) (m i : Nat) (w : World) (h : ReaderAt B b (txt (rest T m i)) 0 w) (hi : i < m) (t : Thing) (hT : T i = t) (h1 : t.k ≠ 1) (h2 : t.k ≠ 2) (h3 : t.k ≠ 3) (h4 : t.k ≠ 4) : ReaderAt B b (txt (rest T m (i + 1))) 0 w := by
  rw [rest_step T m i hi, hT, encT, if_neg h1, if_neg h2, if_neg h3, if_neg h4] at h
  exact h

set_option maxRecDepth 100000 in
set_option maxHeartbeats 2000000 in
theorem walk (v : Value) (len : Nat) (T : Nat → Thing) (w : World) (h : InThings w v len T) (hwf : ∀ i, i < len → (T i).wf) :
    Calls Try.prog 7 #[v] w fun e w' => e = .returned (.bool true) ∧ Below w.heap.size w w' := by
  obtain ⟨m, hm⟩ : ∃ m, min len 40 = m := ⟨_, rfl⟩
  have hm40 : m ≤ 40 := by omega
  have HWF : Hid (∀ i, i < m → (T i).wf) := Lib.hid fun i hi => hwf i (by omega)
  have HF : ∀ w, InThings w v len T → Hid (Calls Try.prog 21 #[v, .int .i64 40] w (Few w m T)) := fun w h => Lib.hid (by rw [← hm]; exact few_any h)
  have a0 : Below w.heap.size w (w.alloc (.cells #[.slice none 0 0, .int .i64 0] 44)) := (Below.refl _ _).alloc (Nat.le_refl _) _
  have HFF := HF _ (h.below a0)
  have hw0 := heap_alloc_new w (.cells #[.slice none 0 0, .int .i64 0] 44)
  have s0 : w.heap.size < (w.alloc (.cells #[.slice none 0 0, .int .i64 0] 44)).heap.size := by simp only [World.size_alloc]; omega
  clear hwf HF h hm
  go_enter Try.func7, Try.ntmps7
  go_wp2_with fail
  generalize w.alloc (.cells #[.slice none 0 0, .int .i64 0] 44) = W at *
  refine HFF.out.mono ?_
  rintro e w1 ⟨g, cap, rfl, hg, hc1, hc2, o1, b1⟩
  have hbg : w.heap.size < g := Nat.lt_of_lt_of_le s0 hg
  have hw1 := (b1.block _ s0).trans hw0
  have k1 : WriterAt (g + 1) w.heap.size [] 0 w1 := ⟨none, 0, hw1, World.ownsRow_nil _ _ _ _, by simp [Value.ownBlock]⟩
  have b2 := below_past a0 b1 (Nat.le_of_lt s0)
  clear HFF a0 hw0 s0 hg b1 hw1
  generalize hbb : w.heap.size = b at *
  have HB := Lib.hid hbb
  clear hbb
  go_wp2_with fail
  go_loopw [16] (fun x wr => ∃ i : Nat, i ≤ m ∧ x = .int .i64 i ∧ Hid (WriterAt (g + 1) b (stW T i).1 (stW T i).2 wr) ∧ OwnThings wr g m T ∧ Below b w wr) (fun x _ => (m - intOf x).toNat)
  case atStart => exact ⟨0, Nat.zero_le _, rfl, Lib.hid k1, o1, b2⟩
  case round =>
    obtain ⟨i, hi, rfl, HK, o0, b0⟩ := hrel
    clear k1 o1 b2
    by_cases hlt : i < m
    · have hlt' : (i : Int) < m := by omega
      obtain ⟨cur, hcur, hcs, hce⟩ := o0
      have hci := hce i hlt
      have hcz : i * 35 + 35 ≤ cur.size := by omega
      have OT0 : OwnThings wr g m T := ⟨cur, hcur, hcs, hce⟩
      have hwf := HWF.out i hlt
      have HSS : Hid (stW T (i + 1) = stepW (stW T i) (T i)) := Lib.hid rfl
      obtain ⟨t, hT⟩ : ∃ t, T i = t := ⟨_, rfl⟩
      rw [hT] at hci hwf
      have HT := Lib.hid hT
      have a1 : Below wr.heap.size wr (wr.alloc (.cells (cellsT t) 47)) := (Below.refl _ _).alloc (Nat.le_refl _) _
      have hgl : g < wr.heap.size := lt_of_rowAt hcur
      have K1 := Lib.hid (HK.out.below a1)
      have OT := Lib.hid (OT0.row (rowAt_below a1 hgl))
      have b5 := below_past b0 a1 (Nat.le_of_lt (Nat.lt_trans hbg hgl))
      have hs5 : g + 1 ≤ (wr.alloc (.cells (cellsT t) 47)).heap.size := by simp only [World.size_alloc]; omega
      clear hT hce OT0 HK a1 b0
      by_cases h1 : t.k = 1
      · have h1' : (t.k == 1) = true := by simpa using h1
        have HSS2 : Hid (stW T (i + 1) = (numW (stW T i).1 (stW T i).2 t.n, numWE (stW T i).2 t.n)) := Lib.hid (by rw [HSS.out, HT.out, stepW]; exact if_pos h1)
        clear HSS
        go_wp2_with fail
        refine (WNumber_all _ _ _ _ _ _ K1.out (by have := (wf_i64 hwf.2.1).2; omega) hs5).mono ?_
        rintro e w2 ⟨rfl, k2, n2⟩
        have o2 := OT.out.row (by unfold rowAt; rw [n2.block g (Nat.lt_succ_self g) (Nat.ne_of_gt hbg)])
        have b6 := b5.trans (n2.below (Nat.le_succ_of_le (Nat.le_of_lt hbg)) (Nat.le_refl _))
        have k3 := Lib.hid k2
        clear k2 n2 b5 K1 OT
        go_wp2_with fail
        exact ⟨⟨i + 1, hlt, by go_num, Lib.hid (by rw [HSS2.out]; exact k3.out), o2, b6⟩, by simp [intOf]; omega⟩
      · have h1' : (t.k == 1) = false := by simpa using h1
        by_cases h2 : t.k = 2
        · have h2' : (t.k == 2) = true := by simpa using h2
          have HSS2 : Hid (stW T (i + 1) = (textW (stW T i).1 (stW T i).2 t.s, textWE (stW T i).2 t.s)) := Lib.hid (by rw [HSS.out, HT.out, stepW]; rw [if_neg h1]; exact if_pos h2)
          clear HSS
          go_wp2_with fail
          refine (WText_all _ _ _ _ _ _ K1.out hs5).mono ?_
          rintro e w2 ⟨rfl, k2, n2⟩
          have o2 := OT.out.row (by unfold rowAt; rw [n2.block g (Nat.lt_succ_self g) (Nat.ne_of_gt hbg)])
          have b6 := b5.trans (n2.below (Nat.le_succ_of_le (Nat.le_of_lt hbg)) (Nat.le_refl _))
          have k3 := Lib.hid k2
          clear k2 n2 b5 K1 OT
          go_wp2_with fail
          exact ⟨⟨i + 1, hlt, by go_num, Lib.hid (by rw [HSS2.out]; exact k3.out), o2, b6⟩, by simp [intOf]; omega⟩
        · have h2' : (t.k == 2) = false := by simpa using h2
          by_cases h3 : t.k = 3
          · have h3' : (t.k == 3) = true := by simpa using h3
            have HSS2 : Hid (stW T (i + 1) = (added (stW T i).1 (stW T i).2 t.l.l, (stW T i).2)) := Lib.hid (by rw [HSS.out, HT.out, stepW]; rw [if_neg h1, if_neg h2]; exact if_pos h3)
            clear HSS
            go_wp2_with fail
            refine (Label_any _ _ _ _ _ _ K1.out hs5).mono ?_
            rintro e w2 ⟨rfl, k2, n2⟩
            have o2 := OT.out.row (by unfold rowAt; rw [n2.block g (Nat.lt_succ_self g) (Nat.ne_of_gt hbg)])
            have b6 := b5.trans (n2.below (Nat.le_succ_of_le (Nat.le_of_lt hbg)) (Nat.le_refl _))
            have k3 := Lib.hid k2
            clear k2 n2 b5 K1 OT
            go_wp2_with fail
            exact ⟨⟨i + 1, hlt, by go_num, Lib.hid (by rw [HSS2.out]; exact k3.out), o2, b6⟩, by simp [intOf]; omega⟩
          · have h3' : (t.k == 3) = false := by simpa using h3
            by_cases h4 : t.k = 4
            · have h4' : (t.k == 4) = true := by simpa using h4
              have HSS2 : Hid (stW T (i + 1) = (added (stW T i).1 (stW T i).2 [if flagB t.n then 1 else 0], (stW T i).2)) := Lib.hid (by rw [HSS.out, HT.out, stepW]; rw [if_neg h1, if_neg h2, if_neg h3]; exact if_pos h4)
              clear HSS
              go_wp2_with fail
              refine (Flag_any _ _ _ _ _ _ K1.out hs5).mono ?_
              rintro e w2 ⟨rfl, k2, n2⟩
              have o2 := OT.out.row (by unfold rowAt; rw [n2.block g (Nat.lt_succ_self g) (Nat.ne_of_gt hbg)])
              have b6 := b5.trans (n2.below (Nat.le_succ_of_le (Nat.le_of_lt hbg)) (Nat.le_refl _))
              have k3 := Lib.hid k2
              clear k2 n2 b5 K1 OT
              go_wp2_with fail
              exact ⟨⟨i + 1, hlt, by go_num, Lib.hid (by rw [HSS2.out]; exact k3.out), o2, b6⟩, by simp [intOf]; omega⟩
            · have h4' : (t.k == 4) = false := by simpa using h4
              have HSS2 : Hid (stW T (i + 1) = stW T i) := Lib.hid (by rw [HSS.out, HT.out, stepW, if_neg h1, if_neg h2, if_neg h3, if_neg h4])
              clear HSS h1 h2 h3 h4
              go_wp2_with fail
              exact ⟨⟨i + 1, hlt, by go_num, Lib.hid (by rw [HSS2.out]; exact K1.out), OT.out, b5⟩, by simp [intOf]; omega⟩
    · obtain rfl : i = m := by omega
      have KD := Lib.hid (WDone_all _ _ _ _ _ HK.out)
      have hgl : g < wr.heap.size := by
        obtain ⟨cur, hcur, _⟩ := o0
        exact lt_of_rowAt hcur
      have OT := Lib.hid o0
      clear HK o0
      obtain ⟨E, hE⟩ : ∃ E, doneE (stW T i).1 (stW T i).2 = E := ⟨_, rfl⟩
      by_cases h0 : E = 0
      · subst h0
        obtain ⟨z1, z2, z3⟩ := doneE_zero hE
        obtain ⟨y1, y2⟩ := all_back T i z1 z2
        have z4 := z3.trans (y1.trans (rest_zero T i).symm)
        have z5 : (txt (rest T i 0)).size ≤ 65536 := by rw [txt_size, rest_zero, ← y1]; exact z2
        rw [hE, z4] at KD
        have HZ := Lib.hid z5
        have HFI := Lib.hid y2
        clear hE z1 z2 z3 z4 z5 y1 y2
        go_wp2_with fail
        refine KD.out.mono ?_
        rintro e w3 ⟨rfl, c1⟩
        have o2 := OT.out.row (rowAt_below c1 hgl)
        have b3 := below_past b0 c1 (Nat.le_of_lt (Nat.lt_trans hbg hgl))
        have hgl2 := Nat.lt_of_lt_of_le hgl c1.size
        have HO := Lib.hid (Open_any (txt (rest T i 0)) w3)
        rw [if_pos HZ.out] at HO
        clear KD b0 c1 OT hgl
        go_wp2_with fail
        refine HO.out.mono ?_
        rintro e w4 ⟨rfl, k1, c1⟩
        have o3 := o2.row (rowAt_below c1 hgl2)
        have b4 := below_past b3 c1 (Nat.le_of_lt (Nat.lt_trans hbg hgl2))
        have hK1 := Lib.hid k1
        clear HO b3 c1 o2 k1
        generalize w3.heap.size = r at *
        have hgr : g < r := hgl2
        clear hgl2
        go_wp2_with fail
        go_loopw [59] (fun x wr => ∃ j : Nat, j ≤ i ∧ x = .int .i64 j ∧ Hid (ReaderAt r r (txt (rest T i j)) 0 wr) ∧ OwnThings wr g i T ∧ Below b w wr) (fun x _ => (i - intOf x).toNat)
        case atStart => exact ⟨0, Nat.zero_le _, rfl, hK1, o3, b4⟩
        case round =>
          obtain ⟨j, hj, rfl, HK, o0, b0⟩ := hrel
          clear hK1 o3 b4
          rename_i wr
          by_cases hlt2 : j < i
          · have hlt' : (j : Int) < i := by omega
            obtain ⟨cur, hcur, hcs, hce⟩ := o0
            have hci := hce j hlt2
            have hcz : j * 35 + 35 ≤ cur.size := by omega
            have OT0 : OwnThings wr g i T := ⟨cur, hcur, hcs, hce⟩
            have hwf := HWF.out j hlt2
            have hfi := HFI.out j hlt2
            obtain ⟨t, hT⟩ : ∃ t, T j = t := ⟨_, rfl⟩
            rw [hT] at hci hwf hfi
            have HT := Lib.hid hT
            have a1 : Below wr.heap.size wr (wr.alloc (.cells (cellsT t) 47)) := (Below.refl _ _).alloc (Nat.le_refl _) _
            have r1 : rowAt (wr.alloc (.cells (cellsT t) 47)) wr.heap.size = some (cellsT t) := rowAt_alloc_at _ _ _ _ rfl
            have hgh : g < wr.heap.size := lt_of_rowAt hcur
            have hrh : r < wr.heap.size := heap_lt HK.out.2
            have K1 := Lib.hid (HK.out.below a1)
            have OT := Lib.hid (OT0.row (rowAt_below a1 hgh))
            have b5 := below_past b0 a1 (Nat.le_of_lt (Nat.lt_trans hbg hgh))
            have hs5 : wr.heap.size + 1 ≤ (wr.alloc (.cells (cellsT t) 47)).heap.size := by simp only [World.size_alloc]; omega
            have HFT := Lib.hid hfi
            have HWT := Lib.hid hwf
            clear hT hce OT0 HK a1 b0 hwf hfi
            by_cases h1 : t.k = 1
            · have h1' : (t.k == 1) = true := by simpa using h1
              have H1 := Lib.hid h1
              clear h1 
              go_wp2_with fail
              generalize hhz : wr.heap.size = h at *
              generalize wr.alloc (.cells (cellsT t) 47) = W at *
              have HR := Lib.hid (rd_num (h + 1) r T i j W.drew ⟨rfl, K1.out.2⟩ hlt2 t HT.out H1.out HFT.out HWT.out)
              have c0 := (cell_of_rowAt r1 1).trans (get_cellsT1 t)
              clear K1
              go_region_with (go_at_call 35; refine HR.out.mono ?_; rintro e w4 ⟨rfl, k2, n2⟩; have r2 := (n2.row (Nat.lt_succ_self h) (Nat.ne_of_gt hrh)).trans (show rowAt W.drew h = _ from r1); have d1 := (cell_of_rowAt r2 1).trans (get_cellsT1 t))
              all_goals
                have o2 := OT.out.row (show rowAt w4 g = rowAt W.drew g from n2.row (Nat.lt_succ_of_lt hgh) (Nat.ne_of_lt hgr))
                have b6 := b5.drew.trans (n2.below (Nat.le_of_lt (Nat.lt_succ_of_lt (Nat.lt_trans hbg hgh))) (Nat.le_of_lt (Nat.lt_trans hbg hgr)))
                have k3 := Lib.hid k2
                clear k2 n2 b5 r1 r2 OT
                go_wp2_with fail
                exact ⟨⟨j + 1, hlt2, by go_num, Lib.hid ⟨rfl, k3.out.2⟩, o2, b6⟩, by simp [intOf]; omega⟩
            · have h1' : (t.k == 1) = false := by simpa using h1
              by_cases h2 : t.k = 2
              · have h2' : (t.k == 2) = true := by simpa using h2
                have H1 := Lib.hid h2
                clear h1 h2
                go_wp2_with fail
                generalize hhz : wr.heap.size = h at *
                generalize wr.alloc (.cells (cellsT t) 47) = W at *
                have HR := Lib.hid (rd_text (h + 1) r T i j W.drew ⟨rfl, K1.out.2⟩ hs5 hlt2 t HT.out H1.out HFT.out)
                have c0 := (cell_of_rowAt r1 2).trans (get_cellsT2 t)
                clear K1
                go_region_with (go_at_call 37; refine HR.out.mono ?_; rintro e w4 ⟨rfl, k2, n2⟩; have r2 := (n2.row (Nat.lt_succ_self h) (Nat.ne_of_gt hrh)).trans (show rowAt W.drew h = _ from r1); have d1 := (cell_of_rowAt r2 2).trans (get_cellsT2 t))
                all_goals
                  have o2 := OT.out.row (show rowAt w4 g = rowAt W.drew g from n2.row (Nat.lt_succ_of_lt hgh) (Nat.ne_of_lt hgr))
                  have b6 := b5.drew.trans (n2.below (Nat.le_of_lt (Nat.lt_succ_of_lt (Nat.lt_trans hbg hgh))) (Nat.le_of_lt (Nat.lt_trans hbg hgr)))
                  have k3 := Lib.hid k2
                  clear k2 n2 b5 r1 r2 OT
                  go_wp2_with fail
                  exact ⟨⟨j + 1, hlt2, by go_num, Lib.hid ⟨rfl, k3.out.2⟩, o2, b6⟩, by simp [intOf]; omega⟩
              · have h2' : (t.k == 2) = false := by simpa using h2
                by_cases h3 : t.k = 3
                · have h3' : (t.k == 3) = true := by simpa using h3
                  have H1 := Lib.hid h3
                  clear h1 h2 h3
                  go_wp2_with fail
                  generalize hhz : wr.heap.size = h at *
                  generalize wr.alloc (.cells (cellsT t) 47) = W at *
                  have HR := Lib.hid (rd_label (h + 1) r T i j W.drew ⟨rfl, K1.out.2⟩ hs5 hlt2 t HT.out H1.out)
                  skip
                  clear K1
                  go_region_with (go_at_call 39; refine HR.out.mono ?_; rintro e w4 ⟨rfl, k2, n2⟩; have r2 := (n2.row (Nat.lt_succ_self h) (Nat.ne_of_gt hrh)).trans (show rowAt W.drew h = _ from r1); have d1 := True.intro)
                  all_goals
                    have o2 := OT.out.row (show rowAt w4 g = rowAt W.drew g from n2.row (Nat.lt_succ_of_lt hgh) (Nat.ne_of_lt hgr))
                    have b6 := b5.drew.trans (n2.below (Nat.le_of_lt (Nat.lt_succ_of_lt (Nat.lt_trans hbg hgh))) (Nat.le_of_lt (Nat.lt_trans hbg hgr)))
                    have k3 := Lib.hid k2
                    clear k2 n2 b5 r1 r2 OT
                    go_wp2_with fail
                    exact ⟨⟨j + 1, hlt2, by go_num, Lib.hid ⟨rfl, k3.out.2⟩, o2, b6⟩, by simp [intOf]; omega⟩
                · have h3' : (t.k == 3) = false := by simpa using h3
                  by_cases h4 : t.k = 4
                  · have h4' : (t.k == 4) = true := by simpa using h4
                    have H1 := Lib.hid h4
                    clear h1 h2 h3 h4
                    go_wp2_with fail
                    generalize hhz : wr.heap.size = h at *
                    generalize wr.alloc (.cells (cellsT t) 47) = W at *
                    have HR := Lib.hid (rd_flag (h + 1) r T i j W.drew ⟨rfl, K1.out.2⟩ hlt2 t HT.out H1.out)
                    have c0 := (cell_of_rowAt r1 1).trans (get_cellsT1 t)
                    clear K1
                    go_region_with (go_at_call 41; refine HR.out.mono ?_; rintro e w4 ⟨rfl, k2, n2⟩; have r2 := (n2.row (Nat.lt_succ_self h) (Nat.ne_of_gt hrh)).trans (show rowAt W.drew h = _ from r1); have d1 := (cell_of_rowAt r2 1).trans (get_cellsT1 t))
                    all_goals
                      have o2 := OT.out.row (show rowAt w4 g = rowAt W.drew g from n2.row (Nat.lt_succ_of_lt hgh) (Nat.ne_of_lt hgr))
                      have b6 := b5.drew.trans (n2.below (Nat.le_of_lt (Nat.lt_succ_of_lt (Nat.lt_trans hbg hgh))) (Nat.le_of_lt (Nat.lt_trans hbg hgr)))
                      have k3 := Lib.hid k2
                      clear k2 n2 b5 r1 r2 OT
                      go_wp2_with fail
                      exact ⟨⟨j + 1, hlt2, by go_num, Lib.hid ⟨rfl, k3.out.2⟩, o2, b6⟩, by simp [intOf]; omega⟩
                  · have h4' : (t.k == 4) = false := by simpa using h4
                    have K2 := Lib.hid (rd_none r r T i j _ K1.out hlt2 t HT.out h1 h2 h3 h4)
                    clear h1 h2 h3 h4 K1
                    go_wp2_with fail
                    exact ⟨⟨j + 1, hlt2, by go_num, K2, OT.out, b5⟩, by simp [intOf]; omega⟩
          · obtain rfl : j = i := by omega
            rw [rest_end] at HK
            have hrl := heap_lt HK.out.2
            have hs : b ≤ wr.heap.size := Nat.le_of_lt (Nat.lt_trans (Nat.lt_trans hbg hgr) hrl)
            go_wp2_with fail
            refine (awake2 _).mono ?_
            rintro e w5 ⟨rfl, c1⟩
            have b6 := below_past b0 c1 hs
            have s6 := Nat.le_trans hs c1.size
            have K5 := Lib.hid (HK.out.below c1)
            clear b0 c1 HK hs
            go_wp2_with fail
            refine (RDone_any _ _ _ _ _ K5.out).mono ?_
            rintro e w6 ⟨rfl, c1⟩
            rw [if_neg (fun e => e.2 rfl)]
            have b7 := below_past b6 c1 s6
            have s7 := Nat.le_trans s6 c1.size
            have K6 := Lib.hid (K5.out.below c1)
            clear b6 c1 K5 s6
            go_wp2_with fail
            refine (Left_any _ _ _ _ _ K6.out).mono ?_
            rintro e w7 ⟨rfl, c1⟩
            have b8 := below_past b7 c1 s7
            clear b7 c1 K6 s7
            go_wp2_with fail
            go_ret
            exact ⟨rfl, by rw [HB.out]; exact b8⟩
      · have hq : (E != 0) = true := by simpa using h0
        rw [hE, doneE_err (by rw [hE]; exact h0)] at KD
        clear hE h0
        go_wp2_with fail
        refine KD.out.mono ?_
        rintro e w3 ⟨rfl, c1⟩
        have b3 := below_past b0 c1 (Nat.le_of_lt (Nat.lt_trans hbg hgl))
        have s3 := Nat.le_trans (Nat.le_of_lt (Nat.lt_trans hbg hgl)) c1.size
        clear KD b0 c1 OT
        go_wp2_with fail
        refine (awake2 _).mono ?_
        rintro e w4 ⟨rfl, c1⟩
        have b4 := below_past b3 c1 s3
        clear b3 c1 s3
        go_wp2_with fail
        go_ret
        exact ⟨rfl, by rw [HB.out]; exact b4⟩

set_option maxRecDepth 100000 in
theorem lifted (os : Os) (started : os.Started) (H : Type) (enc : TypeId × Value → H) :
    ReturnsInHanded {} Try.checked os 7 .any (Rows.codeBackSpec.pre6 enc Try.prog Try.f7 Rows.codeBackRow.domain false) (Rows.codeBackSpec.post enc Try.prog Try.f7 false true false false) := by
  refine returnsInHanded_of_change (C := Try.checked) own started (by kernel_rfl) Try.func7
    (ChangeSpec.witness6 (enc := enc) (C := Try.checked) false ⟨#[], #[.slice none 0 0], []⟩ 8 (by kernel_rfl) (by kernel_rfl) (by kernel_rfl) (by kernel_rfl)) ?_
  intro W base args ds gs before hval0 hW _ _
  have hval : ∀ (j : Nat) t v, Try.f7.params[j]? = some t → args[j]? = some v → Value.okWide Try.prog W .any base t v := hval0
  clear hval0
  have hW' := hW
  obtain ⟨p, q, hA0, hV, rfl, hfz, hnd⟩ := hW
  have hA : DataW.TrodAll enc Try.prog W 0 (fun _ => true) true Try.f7.params.toList args.toList ds p := hA0
  rw [Try.params7] at hA hval
  clear hA0 hfz hnd hV
  have hr : Readable Try.f7.params.toList := by
    rw [Try.params7]
    exact readable_of_all (by kernel_rfl)
  have fin : ∀ W', Below W.heap.size W W' → Rows.codeBackSpec.post enc Try.prog Try.f7 false true false false W args (.bool true) W' := fun W' hb =>
    law_post rfl hW' hr (fun l hl => by
      rw [Try.params7] at hl
      match l, hl with
      | [d1], _ => rfl) (by kernel_rfl) hb
  clear hW' hr
  obtain ⟨v0, d0, rfl, rfl, h0⟩ := trodAll_one hA; obtain ⟨len, T, hin, hwf⟩ := in_things (hval 0 41 v0 rfl rfl) h0
  exact (walk v0 len T W hin hwf).mono fun e W' ⟨he, hb⟩ => ⟨_, he, fin W' hb⟩
theorem proved : Rows.CodeBackSaid :=
  OpenClaim.holds_of_wide 7 Try.f7 rfl rfl rfl rfl rfl rfl rfl ⟨rfl, rfl, rfl, rfl, rfl⟩ rfl rfl rfl rfl rfl (by kernel_rfl) Try.func7 (by kernel_rfl)
    (of_decide_eq_true (by kernel_rfl)) (by unfold Func.isWrapper; first | (rw [if_pos (by decide +kernel)]; kernel_rfl) | (rw [if_neg (by decide +kernel)]; exact ⟨rfl, rfl⟩))
    (fun os started H enc _ => lifted os started H enc)
end Go.Proofs.Ytojmpbbagfgleaa.codeback
