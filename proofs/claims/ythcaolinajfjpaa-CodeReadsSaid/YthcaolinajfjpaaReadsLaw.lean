/- For every text and every list of things the law CodeReads returns true. Conditions: none. -/
import Derived.Test.YthcaolinajfjpaaReadsKit
namespace Go.Proofs.Ythcaolinajfjpaa.codereads
open Go Go.ChangeShapes Go.WideShapes Go.ChangeAt Go.ChangeMaps Go.RowKit Go.Proofs.Ythcaolinajfjpaa

set_option maxRecDepth 100000 in
set_option maxHeartbeats 4000000 in
theorem walk (s : ByteArray) (v : Value) (len : Nat) (T : Nat → Thing) (w : World) (hs : s.size ≤ maxLen) (h : InThings w v len T) (hwf : ∀ i, i < len → (T i).wf) :
    Calls Try.prog 6 #[.string s, v] w fun e w' => e = .returned (.bool true) ∧ Below w.heap.size w w' := by
  obtain ⟨m, hm⟩ : ∃ m, min len 40 = m := ⟨_, rfl⟩
  have hm40 : m ≤ 40 := by omega
  have HWF : Hid (∀ i, i < m → (T i).wf) := Lib.hid fun i hi => hwf i (by omega)
  have HF : ∀ w, InThings w v len T → Hid (Calls Try.prog 25 #[v, .int .i64 40] w (Few w m T)) := fun w h => Lib.hid (by rw [← hm]; exact few_any h)
  have HS := Lib.hid hs
  have HI := Lib.hid h
  clear hwf hm hs h
  go_enter Try.func6, Try.ntmps6
  go_wp2_with fail
  refine (Open_any s w).mono ?_
  rintro e w1 ⟨rfl, k1, b1⟩
  have K1 := Lib.hid k1
  clear k1
  go_wp2_with fail
  refine (r2Open_any s w1).mono ?_
  rintro e w2 ⟨rfl, b2⟩
  have hrl : w.heap.size < w1.heap.size := heap_lt K1.out.2
  have b3 := below_past b1 b2 b1.size
  have K2 := Lib.hid (K1.out.below b2)
  have hrl2 := Nat.lt_of_lt_of_le hrl b2.size
  obtain ⟨err0, he0⟩ : ∃ err0 : Int, (if s.size ≤ 65536 then 0 else 2 : Int) = err0 := ⟨_, rfl⟩
  have HFT0 : Hid (err0 = 0 → s.size ≤ 281474976710656) := Lib.hid fun e => by
    rw [← he0] at e
    split at e
    · omega
    · cases e
  rw [he0] at K2
  rw [he0]
  obtain ⟨A0, hA0⟩ : ∃ A0, atOf s s = A0 := ⟨_, rfl⟩
  rw [hA0]
  have HA0 := Lib.hid hA0
  clear K1 b1 b2 hrl he0 hA0
  unfold curV
  go_wp2_with fail
  have a1 : Below w2.heap.size w2 (w2.alloc (.cells #[.string s, .int .i64 A0, .int .i64 err0] 61)) := (Below.refl _ _).alloc (Nat.le_refl _) _
  have rc : rowAt (w2.alloc (.cells #[.string s, .int .i64 A0, .int .i64 err0] 61)) w2.heap.size = some #[.string s, .int .i64 A0, .int .i64 err0] := rowAt_alloc_at _ _ _ _ rfl
  have hcl : w2.heap.size < (w2.alloc (.cells #[.string s, .int .i64 A0, .int .i64 err0] 61)).heap.size := by simp only [World.size_alloc]; omega
  have b4 := below_past b3 a1 b3.size
  have K3 := Lib.hid (K2.out.below a1)
  clear K2 a1
  generalize w2.alloc (.cells #[.string s, .int .i64 A0, .int .i64 err0] 61) = w3 at *
  refine (awake2 _).mono ?_
  rintro e w4 ⟨rfl, b5⟩
  have rc2 := rowAt_past b5 rc
  have K4 := Lib.hid (K3.out.below b5)
  have b6 := below_past b4 b5 b4.size
  have hcl2 := Nat.lt_of_lt_of_le hcl b5.size
  clear rc K3 b4 b5 hcl
  have HFF := HF _ (HI.out.below b6)
  clear HF HI
  go_wp2_with fail
  refine HFF.out.mono ?_
  rintro e w5 ⟨g, cap, rfl, hg, hc1, hc2, o1, b7⟩
  have S0 : Hid (St w w.heap.size w2.heap.size g m T s s err0 A0 err0 w5) := Lib.hid
    ⟨below_past b6 b7 b6.size, (b7.block _ (Nat.lt_trans hrl2 hcl2)).trans K4.out.2, rowAt_past b7 rc2, o1, Nat.le_refl _, hrl2, Nat.lt_of_lt_of_le hcl2 hg, by
      obtain ⟨cur, hcur, _⟩ := o1
      exact lt_of_rowAt hcur⟩
  clear HFF b3 b6 b7 K4 rc2 o1 hrl2 hcl2 hg
  generalize hc : w2.heap.size = c at *
  generalize hr : w.heap.size = r at *
  have HR := Lib.hid hr
  clear hc hr
  have hmi : (m : Int) ≤ 40 := by omega
  go_wp2_with fail
  go_loopw [33] (fun x wr => ∃ (i : Nat) (R : ByteArray) (err : Int), i ≤ m ∧ x = .int .i64 i ∧ Hid (Suf s R) ∧ Hid (err = 0 → s.size ≤ 281474976710656) ∧ Hid (St w r c g m T s R err (atOf s R) err wr)) (fun x _ => (m - intOf x).toNat)
  case atStart => exact ⟨0, s, err0, Nat.zero_le _, rfl, Lib.hid (suf_self s), HFT0, Lib.hid (by rw [HA0.out]; exact S0.out)⟩
  case round =>
    clear HFT0
    obtain ⟨i, R, err, hi, rfl, HSF0, HFT0, S1⟩ := hrel
    clear S0
    by_cases hlt : i < m
    · have hlt' : (i : Int) < m := by omega
      obtain ⟨cur, hcur, hcs, hce⟩ := S1.out.th
      have hci := hce i hlt
      have hcz : i * 35 + 35 ≤ cur.size := by omega
      have hwf := HWF.out i hlt
      obtain ⟨t, hT⟩ : ∃ t, T i = t := ⟨_, rfl⟩
      rw [hT] at hci hwf
      obtain ⟨A, hA⟩ : ∃ A, atOf s R = A := ⟨_, rfl⟩
      have HA := Lib.hid hA
      have HW := Lib.hid hwf
      have S1 := S1.out
      rw [hA] at S1
      have S1 := S1.past ((Below.refl wr.heap.size wr).alloc (Nat.le_refl _) (.cells (cellsT t) 47))
      have rh : rowAt (wr.alloc (.cells (cellsT t) 47)) wr.heap.size = some (cellsT t) := rowAt_alloc_at _ _ _ _ rfl
      have hgh : g < wr.heap.size := lt_of_rowAt hcur
      have hch : c < wr.heap.size := Nat.lt_trans S1.o3 hgh
      have hnh : c ≠ wr.heap.size := Nat.ne_of_lt hch
      have c0 := cell_of_rowAt S1.cur 0
      have c1 := cell_of_rowAt S1.cur 1
      have c2 := cell_of_rowAt S1.cur 2
      clear hT hce hA hwf
      by_cases h1 : t.k = 1
      · have h1' : (t.k == 1) = true := by simpa using h1
        clear h1
        have HRN : ∀ w, Hid (Calls Try.prog 38 #[.agg #[.string s, .int .i64 A, .int .i64 err]] w fun e w' => e = .returned (.tuple #[.agg #[.string s, .int .i64 (atOf s (numS R err)), .int .i64 (numE R err)], .int .i64 (numV R err)]) ∧ Below w.heap.size w w') := fun w => Lib.hid (by
          have := RN_all s R err w HSF0.out HFT0.out
          rwa [HA.out] at this)
        have HRR : ∀ w, ReaderAt 0 r R err w → Hid (Calls Try.prog 39 #[.pointer (some ⟨r, 0, none⟩)] w fun x w' => x = .returned (.int .i64 (numV R err)) ∧ ReaderAt w.heap.size r (numS R err) (numE R err) w' ∧ Near w.heap.size r w w') := fun w h => Lib.hid (RNumber_all w.heap.size r R err w ⟨rfl, h.2⟩)
        have HSF : Hid (Suf s (numS R err)) := Lib.hid (by first | exact suf_num HSF0.out err | exact suf_text HSF0.out err | exact suf_take HSF0.out err _)
        have HFT : Hid ((numE R err) = 0 → s.size ≤ 281474976710656) := Lib.hid fun e => HFT0.out (numE_zero e)
        generalize numS R err = R3 at *
        generalize numE R err = E3 at *
        generalize numV R err = V at *
        obtain ⟨A3, hA3⟩ : ∃ A3, atOf s R3 = A3 := ⟨_, rfl⟩
        rw [hA3] at HRN
        have HA3 := Lib.hid hA3
        clear hA3
        go_wp2_with fail
        generalize wr.alloc (.cells (cellsT t) 47) = W1 at *
        refine (HRN _).out.mono ?_
        rintro e w2 ⟨rfl, hb⟩
        have S2 := S1.past hb
        have rh2 := rowAt_past hb rh
        clear S1 rh hb HRN c0 c1 c2
        have y0 : ∀ o, w2.cell? ⟨c, o, none⟩ = #[Value.string s, .int .i64 A, .int .i64 err][o]? := fun o => cell_of_rowAt S2.cur o
        have c0 := y0 0
        have c1 := y0 1
        have c2 := y0 2
        have f0 := frozen_of_rowAt S2.cur 0
        have f1 := frozen_of_rowAt S2.cur 1
        have f2 := frozen_of_rowAt S2.cur 2
        have hcl : c < w2.heap.size := Nat.lt_trans S2.o3 S2.o4
        have hcn : c ≠ w2.heap.size := Nat.ne_of_lt hcl
        clear y0
        go_wp2_with fail
        have S3 := (S2.put A3 E3).past ((Below.refl _ _).alloc (Nat.le_refl _) (.cells #[.string s, .int .i64 A3, .int .i64 E3] 61))
        clear S2 c0 c1 c2 f0 f1 f2 hcl hcn
        generalize (((w2.setCell ⟨c, 0, none⟩ (.string s)).setCell ⟨c, 1, none⟩ (.int .i64 A3)).setCell ⟨c, 2, none⟩ (.int .i64 E3)).alloc (.cells #[.string s, .int .i64 A3, .int .i64 E3] 61) = w3 at *
        refine (HRR _ (S3.reader 0)).out.mono ?_
        rintro e w4 ⟨rfl, k4, n4⟩
        have S4 := S3.near k4 n4
        clear S3 k4 n4 HRR rh2 hcur hcs hci hcz
        go_wp2_with fail
        obtain ⟨LV, hLV⟩ : ∃ LV : Int, (R3.size : Int) = LV := ⟨_, rfl⟩
        obtain ⟨DV, hDV⟩ : ∃ DV : Int, (if E3 = 0 ∧ R3.size ≠ 0 then 3 else E3) = DV := ⟨_, rfl⟩
        have HLV := Lib.hid hLV
        have HDV := Lib.hid hDV
        have hsw : IntKind.i64.wrap ((s.size : Int) - (A3 : Int)) = LV := by
          have h1 := HSF.out.1
          have h2 := HA3.out
          have h3 := HS.out
          unfold maxLen at h3
          unfold atOf at h2
          rw [IntWalk.i64_in _ (by omega)]
          omega
        clear hLV hDV
        have q0 : ∀ x : Past w4, x.w.cell? ⟨c, 0, none⟩ = some (.string s) := fun x => cell_of_rowAt (rowAt_past x.h S4.cur) 0
        have q1 : ∀ x : Past w4, x.w.cell? ⟨c, 1, none⟩ = some (.int .i64 A3) := fun x => cell_of_rowAt (rowAt_past x.h S4.cur) 1
        have q2 : ∀ x : Past w4, x.w.cell? ⟨c, 2, none⟩ = some (.int .i64 E3) := fun x => cell_of_rowAt (rowAt_past x.h S4.cur) 2
        have HLF : Hid (∀ w', Below w4.heap.size w4 w' → Calls Try.prog 48 #[.pointer (some ⟨r, 0, none⟩)] w' fun e w'' => e = .returned (.int .i64 LV) ∧ Below w'.heap.size w' w'') := Lib.hid fun w' hw => by
          have := Left_any 0 r R3 E3 w' ((S4.reader 0).below hw)
          rwa [HLV.out] at this
        have HDN : Hid (∀ w', Below w4.heap.size w4 w' → Calls Try.prog 49 #[.pointer (some ⟨r, 0, none⟩)] w' fun e w'' => e = .returned (.int .i64 DV) ∧ Below w'.heap.size w' w'') := Lib.hid fun w' hw => by
          have := RDone_any 0 r R3 E3 w' ((S4.reader 0).below hw)
          rwa [HDV.out] at this
        have HRD : Hid (∀ w', Calls Try.prog 50 #[.agg #[.string s, .int .i64 A3, .int .i64 E3]] w' fun e w'' => e = .returned (.int .i64 DV) ∧ Below w'.heap.size w' w'') := Lib.hid fun w' => by
          have := r2Done_any s R3 E3 w' HSF.out
          rw [HDV.out, HA3.out] at this
          exact this
        have S5 := Lib.hid S4
        clear S4
        refine wp_region_wildL [] 20 (by kernel_rfl) (by kernel_rfl) ?_
        simp only [List.take_succ_cons, List.take_nil]
        iterate 4 (refine wildL_val (by decide) (by kernel_rfl) rfl ?_; intro K hK; go_big_quiet_op; go_big_quiet_on)
        refine wildL_call (by decide) (by kernel_rfl) (by kernel_rfl) ?_
        apply Exists.intro
        refine And.intro ?_ ?_
        focus
          intro x K hK
          go_big_quiet_op
          go_big_quiet_call (exact call_back (HLF.out _ (Past.two _)))
          rfl
        iterate 2 (refine wildL_val (by decide) (by kernel_rfl) rfl ?_; intro K hK; go_big_quiet_op; go_big_quiet_on)
        refine wildL_call (by decide) (by kernel_rfl) (by kernel_rfl) ?_
        apply Exists.intro
        refine And.intro ?_ ?_
        focus
          intro x K hK
          go_big_quiet_op
          go_big_quiet_on
          rfl
        iterate 7 (refine wildL_val (by decide) (by kernel_rfl) rfl ?_; intro K hK; go_big_quiet_op; go_big_quiet_on)
        refine wildL_call (by decide) (by kernel_rfl) (by kernel_rfl) ?_
        apply Exists.intro
        refine And.intro ?_ ?_
        focus
          intro x K hK
          go_big_quiet_op
          go_big_quiet_call (exact call_back (HDN.out _ (Past.two _)))
          rfl
        iterate 1 (refine wildL_val (by decide) (by kernel_rfl) rfl ?_; intro K hK; go_big_quiet_op; go_big_quiet_on)
        refine wildL_call (by decide) (by kernel_rfl) (by kernel_rfl) ?_
        apply Exists.intro
        refine And.intro ?_ ?_
        focus
          intro x K hK
          go_big_quiet_op
          go_big_quiet_call (exact call_back (HRD.out _))
          rfl
        iterate 2 (refine wildL_val (by decide) (by kernel_rfl) rfl ?_; intro K hK; go_big_quiet_op; go_big_quiet_on)
        refine wildL_nil ?_
        simp only [List.drop_succ_cons, List.drop_nil]
        rintro ⟨z, hz⟩
        change wpList _ _ _ _ _ z
        have S6 := Lib.hid (S5.out.past hz)
        clear S5 q0 q1 q2 HLF HDN HRD hz
        go_wp2_with fail
        exact ⟨⟨i + 1, R3, E3, hlt, by go_num, HSF, HFT, Lib.hid (by rw [HA3.out]; exact S6.out)⟩, by simp [intOf]; omega⟩
      · have h1' : (t.k == 1) = false := by simpa using h1
        by_cases h2 : t.k = 2
        · have h2' : (t.k == 2) = true := by simpa using h2
          clear h1 h2
          have HRN : ∀ w, Hid (Calls Try.prog 40 #[.agg #[.string s, .int .i64 A, .int .i64 err]] w fun e w' => e = .returned (.tuple #[.agg #[.string s, .int .i64 (atOf s (textR R err)), .int .i64 (textE R err)], .string (textV R err)]) ∧ Below w.heap.size w w') := fun w => Lib.hid (by
            have := r2Text_all s R err w HSF0.out HFT0.out
            rwa [HA.out] at this)
          have HRR : ∀ w, ReaderAt 0 r R err w → Hid (Calls Try.prog 41 #[.pointer (some ⟨r, 0, none⟩)] w fun x w' => x = .returned (.string (textV R err)) ∧ ReaderAt w.heap.size r (textR R err) (textE R err) w' ∧ Near w.heap.size r w w') := fun w h => Lib.hid (RText_any w.heap.size r R err w ⟨rfl, h.2⟩ (Nat.le_refl _))
          have HSF : Hid (Suf s (textR R err)) := Lib.hid (by first | exact suf_num HSF0.out err | exact suf_text HSF0.out err | exact suf_take HSF0.out err _)
          have HFT : Hid ((textE R err) = 0 → s.size ≤ 281474976710656) := Lib.hid fun e => HFT0.out (textE_zero e)
          generalize textR R err = R3 at *
          generalize textE R err = E3 at *
          generalize textV R err = V at *
          obtain ⟨A3, hA3⟩ : ∃ A3, atOf s R3 = A3 := ⟨_, rfl⟩
          rw [hA3] at HRN
          have HA3 := Lib.hid hA3
          clear hA3
          have hq : (V.toList == V.toList) = true := by simp
          go_wp2_with fail
          generalize wr.alloc (.cells (cellsT t) 47) = W1 at *
          refine (HRN _).out.mono ?_
          rintro e w2 ⟨rfl, hb⟩
          have S2 := S1.past hb
          have rh2 := rowAt_past hb rh
          clear S1 rh hb HRN c0 c1 c2
          have y0 : ∀ o, w2.cell? ⟨c, o, none⟩ = #[Value.string s, .int .i64 A, .int .i64 err][o]? := fun o => cell_of_rowAt S2.cur o
          have c0 := y0 0
          have c1 := y0 1
          have c2 := y0 2
          have f0 := frozen_of_rowAt S2.cur 0
          have f1 := frozen_of_rowAt S2.cur 1
          have f2 := frozen_of_rowAt S2.cur 2
          have hcl : c < w2.heap.size := Nat.lt_trans S2.o3 S2.o4
          have hcn : c ≠ w2.heap.size := Nat.ne_of_lt hcl
          clear y0
          go_wp2_with fail
          have S3 := (S2.put A3 E3).past ((Below.refl _ _).alloc (Nat.le_refl _) (.cells #[.string s, .int .i64 A3, .int .i64 E3] 61))
          clear S2 c0 c1 c2 f0 f1 f2 hcl hcn
          generalize (((w2.setCell ⟨c, 0, none⟩ (.string s)).setCell ⟨c, 1, none⟩ (.int .i64 A3)).setCell ⟨c, 2, none⟩ (.int .i64 E3)).alloc (.cells #[.string s, .int .i64 A3, .int .i64 E3] 61) = w3 at *
          refine (HRR _ (S3.reader 0)).out.mono ?_
          rintro e w4 ⟨rfl, k4, n4⟩
          have S4 := S3.near k4 n4
          clear S3 k4 n4 HRR rh2 hcur hcs hci hcz
          go_wp2_with fail
          obtain ⟨LV, hLV⟩ : ∃ LV : Int, (R3.size : Int) = LV := ⟨_, rfl⟩
          obtain ⟨DV, hDV⟩ : ∃ DV : Int, (if E3 = 0 ∧ R3.size ≠ 0 then 3 else E3) = DV := ⟨_, rfl⟩
          have HLV := Lib.hid hLV
          have HDV := Lib.hid hDV
          have hsw : IntKind.i64.wrap ((s.size : Int) - (A3 : Int)) = LV := by
            have h1 := HSF.out.1
            have h2 := HA3.out
            have h3 := HS.out
            unfold maxLen at h3
            unfold atOf at h2
            rw [IntWalk.i64_in _ (by omega)]
            omega
          clear hLV hDV
          have q0 : ∀ x : Past w4, x.w.cell? ⟨c, 0, none⟩ = some (.string s) := fun x => cell_of_rowAt (rowAt_past x.h S4.cur) 0
          have q1 : ∀ x : Past w4, x.w.cell? ⟨c, 1, none⟩ = some (.int .i64 A3) := fun x => cell_of_rowAt (rowAt_past x.h S4.cur) 1
          have q2 : ∀ x : Past w4, x.w.cell? ⟨c, 2, none⟩ = some (.int .i64 E3) := fun x => cell_of_rowAt (rowAt_past x.h S4.cur) 2
          have HLF : Hid (∀ w', Below w4.heap.size w4 w' → Calls Try.prog 48 #[.pointer (some ⟨r, 0, none⟩)] w' fun e w'' => e = .returned (.int .i64 LV) ∧ Below w'.heap.size w' w'') := Lib.hid fun w' hw => by
            have := Left_any 0 r R3 E3 w' ((S4.reader 0).below hw)
            rwa [HLV.out] at this
          have HDN : Hid (∀ w', Below w4.heap.size w4 w' → Calls Try.prog 49 #[.pointer (some ⟨r, 0, none⟩)] w' fun e w'' => e = .returned (.int .i64 DV) ∧ Below w'.heap.size w' w'') := Lib.hid fun w' hw => by
            have := RDone_any 0 r R3 E3 w' ((S4.reader 0).below hw)
            rwa [HDV.out] at this
          have HRD : Hid (∀ w', Calls Try.prog 50 #[.agg #[.string s, .int .i64 A3, .int .i64 E3]] w' fun e w'' => e = .returned (.int .i64 DV) ∧ Below w'.heap.size w' w'') := Lib.hid fun w' => by
            have := r2Done_any s R3 E3 w' HSF.out
            rw [HDV.out, HA3.out] at this
            exact this
          have S5 := Lib.hid S4
          clear S4
          refine wp_region_wildL [] 20 (by kernel_rfl) (by kernel_rfl) ?_
          simp only [List.take_succ_cons, List.take_nil]
          iterate 4 (refine wildL_val (by decide) (by kernel_rfl) rfl ?_; intro K hK; go_big_quiet_op; go_big_quiet_on)
          refine wildL_call (by decide) (by kernel_rfl) (by kernel_rfl) ?_
          apply Exists.intro
          refine And.intro ?_ ?_
          focus
            intro x K hK
            go_big_quiet_op
            go_big_quiet_call (exact call_back (HLF.out _ (Past.two _)))
            rfl
          iterate 2 (refine wildL_val (by decide) (by kernel_rfl) rfl ?_; intro K hK; go_big_quiet_op; go_big_quiet_on)
          refine wildL_call (by decide) (by kernel_rfl) (by kernel_rfl) ?_
          apply Exists.intro
          refine And.intro ?_ ?_
          focus
            intro x K hK
            go_big_quiet_op
            go_big_quiet_on
            rfl
          iterate 7 (refine wildL_val (by decide) (by kernel_rfl) rfl ?_; intro K hK; go_big_quiet_op; go_big_quiet_on)
          refine wildL_call (by decide) (by kernel_rfl) (by kernel_rfl) ?_
          apply Exists.intro
          refine And.intro ?_ ?_
          focus
            intro x K hK
            go_big_quiet_op
            go_big_quiet_call (exact call_back (HDN.out _ (Past.two _)))
            rfl
          iterate 1 (refine wildL_val (by decide) (by kernel_rfl) rfl ?_; intro K hK; go_big_quiet_op; go_big_quiet_on)
          refine wildL_call (by decide) (by kernel_rfl) (by kernel_rfl) ?_
          apply Exists.intro
          refine And.intro ?_ ?_
          focus
            intro x K hK
            go_big_quiet_op
            go_big_quiet_call (exact call_back (HRD.out _))
            rfl
          iterate 2 (refine wildL_val (by decide) (by kernel_rfl) rfl ?_; intro K hK; go_big_quiet_op; go_big_quiet_on)
          refine wildL_nil ?_
          simp only [List.drop_succ_cons, List.drop_nil]
          rintro ⟨z, hz⟩
          change wpList _ _ _ _ _ z
          have S6 := Lib.hid (S5.out.past hz)
          clear S5 q0 q1 q2 HLF HDN HRD hz
          go_wp2_with fail
          exact ⟨⟨i + 1, R3, E3, hlt, by go_num, HSF, HFT, Lib.hid (by rw [HA3.out]; exact S6.out)⟩, by simp [intOf]; omega⟩
        · have h2' : (t.k == 2) = false := by simpa using h2
          by_cases h3 : t.k = 3
          · have h3' : (t.k == 3) = true := by simpa using h3
            clear h1 h2 h3
            have HRN : ∀ w, Hid (Calls Try.prog 42 #[.agg #[.string s, .int .i64 A, .int .i64 err]] w fun e w' => e = .returned (.tuple #[.agg #[.string s, .int .i64 (atOf s (takeR R err 32)), .int .i64 (takeE R err 32)], Value.agg <| cellsL (labelV R err)]) ∧ Below w.heap.size w w') := fun w => Lib.hid (by
              have := r2Label_all s R err w HSF0.out HFT0.out
              rwa [HA.out] at this)
            have HRR : ∀ w, ReaderAt 0 r R err w → Hid (Calls Try.prog 43 #[.pointer (some ⟨r, 0, none⟩)] w fun x w' => x = .returned (Value.agg <| cellsL (labelV R err)) ∧ ReaderAt w.heap.size r (takeR R err 32) (takeE R err 32) w' ∧ Near w.heap.size r w w') := fun w h => Lib.hid (RLabel_any w.heap.size r R err w ⟨rfl, h.2⟩ (Nat.le_refl _))
            have HSF : Hid (Suf s (takeR R err 32)) := Lib.hid (by first | exact suf_num HSF0.out err | exact suf_text HSF0.out err | exact suf_take HSF0.out err _)
            have HFT : Hid ((takeE R err 32) = 0 → s.size ≤ 281474976710656) := Lib.hid fun e => HFT0.out (takeE_zero e)
            generalize takeR R err 32 = R3 at *
            generalize takeE R err 32 = E3 at *
            generalize labelV R err = V at *
            obtain ⟨A3, hA3⟩ : ∃ A3, atOf s R3 = A3 := ⟨_, rfl⟩
            rw [hA3] at HRN
            have HA3 := Lib.hid hA3
            clear hA3
            go_wp2_with fail
            generalize wr.alloc (.cells (cellsT t) 47) = W1 at *
            refine (HRN _).out.mono ?_
            rintro e w2 ⟨rfl, hb⟩
            have S2 := S1.past hb
            have rh2 := rowAt_past hb rh
            clear S1 rh hb HRN c0 c1 c2
            have y0 : ∀ o, w2.cell? ⟨c, o, none⟩ = #[Value.string s, .int .i64 A, .int .i64 err][o]? := fun o => cell_of_rowAt S2.cur o
            have c0 := y0 0
            have c1 := y0 1
            have c2 := y0 2
            have f0 := frozen_of_rowAt S2.cur 0
            have f1 := frozen_of_rowAt S2.cur 1
            have f2 := frozen_of_rowAt S2.cur 2
            have hcl : c < w2.heap.size := Nat.lt_trans S2.o3 S2.o4
            have hcn : c ≠ w2.heap.size := Nat.ne_of_lt hcl
            clear y0
            go_wp2_with fail
            have S3 := ((S2.put A3 E3).past ((Below.refl _ _).alloc (Nat.le_refl _) (.cells #[.string s, .int .i64 A3, .int .i64 E3] 61))).past ((Below.refl _ _).alloc (Nat.le_refl _) (.cells (cellsL V) 23))
            have rl : rowAt ((((((w2.setCell ⟨c, 0, none⟩ (.string s)).setCell ⟨c, 1, none⟩ (.int .i64 A3)).setCell ⟨c, 2, none⟩ (.int .i64 E3)).alloc (.cells #[.string s, .int .i64 A3, .int .i64 E3] 61)).alloc (.cells (cellsL V) 23))) (w2.heap.size + 1) = some (cellsL V) := rowAt_alloc_at _ _ _ _ (by simp only [World.size_alloc, World.size_setCell])
            have hkr : w2.heap.size + 1 ≠ r := by have := S2.o2; have := S2.o3; have := S2.o4; omega
            clear S2 c0 c1 c2 f0 f1 f2 hcl hcn
            generalize (((((w2.setCell ⟨c, 0, none⟩ (.string s)).setCell ⟨c, 1, none⟩ (.int .i64 A3)).setCell ⟨c, 2, none⟩ (.int .i64 E3)).alloc (.cells #[.string s, .int .i64 A3, .int .i64 E3] 61)).alloc (.cells (cellsL V) 23)) = w3 at *
            generalize w2.heap.size + 1 = k at *
            have hkl : k < w3.heap.size := lt_of_rowAt rl
            have SD := Lib.hid (S3.past (Below.refl w3.heap.size w3).drew)
            have HR1 := (HRR w3.drew (SD.out.reader 0)).out
            have HR2 := Lib.hid HR1
            clear S3 HRR HR1 rh2 hcur hcs hci hcz
            go_region_with (go_at_call 43; refine HR2.out.mono ?_; rintro e w4 ⟨rfl, k4, n4⟩; have r2 := (n4.row hkl hkr).trans (show rowAt w3.drew k = _ from rl); have S4 := SD.out.near k4 n4; clear k4 n4)
            all_goals
              clear rl SD HR2
              go_wp2_with fail
              simp only [List.getElem_toArray, List.getElem_cons_succ, List.getElem_cons_zero, Act.put, List.setIfInBounds_toArray, List.set_cons_succ, List.set_cons_zero]
              obtain ⟨LV, hLV⟩ : ∃ LV : Int, (R3.size : Int) = LV := ⟨_, rfl⟩
              obtain ⟨DV, hDV⟩ : ∃ DV : Int, (if E3 = 0 ∧ R3.size ≠ 0 then 3 else E3) = DV := ⟨_, rfl⟩
              have HLV := Lib.hid hLV
              have HDV := Lib.hid hDV
              have hsw : IntKind.i64.wrap ((s.size : Int) - (A3 : Int)) = LV := by
                have h1 := HSF.out.1
                have h2 := HA3.out
                have h3 := HS.out
                unfold maxLen at h3
                unfold atOf at h2
                rw [IntWalk.i64_in _ (by omega)]
                omega
              clear hLV hDV
              have q0 : ∀ x : Past w4, x.w.cell? ⟨c, 0, none⟩ = some (.string s) := fun x => cell_of_rowAt (rowAt_past x.h S4.cur) 0
              have q1 : ∀ x : Past w4, x.w.cell? ⟨c, 1, none⟩ = some (.int .i64 A3) := fun x => cell_of_rowAt (rowAt_past x.h S4.cur) 1
              have q2 : ∀ x : Past w4, x.w.cell? ⟨c, 2, none⟩ = some (.int .i64 E3) := fun x => cell_of_rowAt (rowAt_past x.h S4.cur) 2
              have HLF : Hid (∀ w', Below w4.heap.size w4 w' → Calls Try.prog 48 #[.pointer (some ⟨r, 0, none⟩)] w' fun e w'' => e = .returned (.int .i64 LV) ∧ Below w'.heap.size w' w'') := Lib.hid fun w' hw => by
                have := Left_any 0 r R3 E3 w' ((S4.reader 0).below hw)
                rwa [HLV.out] at this
              have HDN : Hid (∀ w', Below w4.heap.size w4 w' → Calls Try.prog 49 #[.pointer (some ⟨r, 0, none⟩)] w' fun e w'' => e = .returned (.int .i64 DV) ∧ Below w'.heap.size w' w'') := Lib.hid fun w' hw => by
                have := RDone_any 0 r R3 E3 w' ((S4.reader 0).below hw)
                rwa [HDV.out] at this
              have HRD : Hid (∀ w', Calls Try.prog 50 #[.agg #[.string s, .int .i64 A3, .int .i64 E3]] w' fun e w'' => e = .returned (.int .i64 DV) ∧ Below w'.heap.size w' w'') := Lib.hid fun w' => by
                have := r2Done_any s R3 E3 w' HSF.out
                rw [HDV.out, HA3.out] at this
                exact this
              have S5 := Lib.hid S4
              clear S4
              refine wp_region_wildL [] 20 (by kernel_rfl) (by kernel_rfl) ?_
              simp only [List.take_succ_cons, List.take_nil]
              iterate 4 (refine wildL_val (by decide) (by kernel_rfl) rfl ?_; intro K hK; go_big_quiet_op; go_big_quiet_on)
              refine wildL_call (by decide) (by kernel_rfl) (by kernel_rfl) ?_
              apply Exists.intro
              refine And.intro ?_ ?_
              focus
                intro x K hK
                go_big_quiet_op
                go_big_quiet_call (exact call_back (HLF.out _ (Past.two _)))
                rfl
              iterate 2 (refine wildL_val (by decide) (by kernel_rfl) rfl ?_; intro K hK; go_big_quiet_op; go_big_quiet_on)
              refine wildL_call (by decide) (by kernel_rfl) (by kernel_rfl) ?_
              apply Exists.intro
              refine And.intro ?_ ?_
              focus
                intro x K hK
                go_big_quiet_op
                go_big_quiet_on
                rfl
              iterate 7 (refine wildL_val (by decide) (by kernel_rfl) rfl ?_; intro K hK; go_big_quiet_op; go_big_quiet_on)
              refine wildL_call (by decide) (by kernel_rfl) (by kernel_rfl) ?_
              apply Exists.intro
              refine And.intro ?_ ?_
              focus
                intro x K hK
                go_big_quiet_op
                go_big_quiet_call (exact call_back (HDN.out _ (Past.two _)))
                rfl
              iterate 1 (refine wildL_val (by decide) (by kernel_rfl) rfl ?_; intro K hK; go_big_quiet_op; go_big_quiet_on)
              refine wildL_call (by decide) (by kernel_rfl) (by kernel_rfl) ?_
              apply Exists.intro
              refine And.intro ?_ ?_
              focus
                intro x K hK
                go_big_quiet_op
                go_big_quiet_call (exact call_back (HRD.out _))
                rfl
              iterate 2 (refine wildL_val (by decide) (by kernel_rfl) rfl ?_; intro K hK; go_big_quiet_op; go_big_quiet_on)
              refine wildL_nil ?_
              simp only [List.drop_succ_cons, List.drop_nil]
              rintro ⟨z, hz⟩
              change wpList _ _ _ _ _ z
              have S6 := Lib.hid (S5.out.past hz)
              clear S5 q0 q1 q2 HLF HDN HRD hz
              go_wp2_with fail
              exact ⟨⟨i + 1, R3, E3, hlt, by go_num, HSF, HFT, Lib.hid (by rw [HA3.out]; exact S6.out)⟩, by simp [intOf]; omega⟩
          · have h3' : (t.k == 3) = false := by simpa using h3
            by_cases h4 : t.k = 4
            · have h4' : (t.k == 4) = true := by simpa using h4
              clear h1 h2 h3 h4
              have HRN : ∀ w, Hid (Calls Try.prog 44 #[.agg #[.string s, .int .i64 A, .int .i64 err]] w fun e w' => e = .returned (.tuple #[.agg #[.string s, .int .i64 (atOf s (takeR R err 1)), .int .i64 (octE R err 1)], .bool (flagV R err)]) ∧ Below w.heap.size w w') := fun w => Lib.hid (by
                have := r2Flag_all s R err w HSF0.out HFT0.out
                rwa [HA.out] at this)
              have HRR : ∀ w, ReaderAt 0 r R err w → Hid (Calls Try.prog 45 #[.pointer (some ⟨r, 0, none⟩)] w fun x w' => x = .returned (.bool (flagV R err)) ∧ ReaderAt w.heap.size r (takeR R err 1) (octE R err 1) w' ∧ Near w.heap.size r w w') := fun w h => Lib.hid (RFlag_any w.heap.size r R err w ⟨rfl, h.2⟩)
              have HSF : Hid (Suf s (takeR R err 1)) := Lib.hid (by first | exact suf_num HSF0.out err | exact suf_text HSF0.out err | exact suf_take HSF0.out err _)
              have HFT : Hid ((octE R err 1) = 0 → s.size ≤ 281474976710656) := Lib.hid fun e => HFT0.out (octE_zero e)
              generalize takeR R err 1 = R3 at *
              generalize octE R err 1 = E3 at *
              generalize flagV R err = V at *
              obtain ⟨A3, hA3⟩ : ∃ A3, atOf s R3 = A3 := ⟨_, rfl⟩
              rw [hA3] at HRN
              have HA3 := Lib.hid hA3
              clear hA3
              go_wp2_with fail
              generalize wr.alloc (.cells (cellsT t) 47) = W1 at *
              refine (HRN _).out.mono ?_
              rintro e w2 ⟨rfl, hb⟩
              have S2 := S1.past hb
              have rh2 := rowAt_past hb rh
              clear S1 rh hb HRN c0 c1 c2
              have y0 : ∀ o, w2.cell? ⟨c, o, none⟩ = #[Value.string s, .int .i64 A, .int .i64 err][o]? := fun o => cell_of_rowAt S2.cur o
              have c0 := y0 0
              have c1 := y0 1
              have c2 := y0 2
              have f0 := frozen_of_rowAt S2.cur 0
              have f1 := frozen_of_rowAt S2.cur 1
              have f2 := frozen_of_rowAt S2.cur 2
              have hcl : c < w2.heap.size := Nat.lt_trans S2.o3 S2.o4
              have hcn : c ≠ w2.heap.size := Nat.ne_of_lt hcl
              clear y0
              go_wp2_with fail
              have S3 := (S2.put A3 E3).past ((Below.refl _ _).alloc (Nat.le_refl _) (.cells #[.string s, .int .i64 A3, .int .i64 E3] 61))
              clear S2 c0 c1 c2 f0 f1 f2 hcl hcn
              generalize (((w2.setCell ⟨c, 0, none⟩ (.string s)).setCell ⟨c, 1, none⟩ (.int .i64 A3)).setCell ⟨c, 2, none⟩ (.int .i64 E3)).alloc (.cells #[.string s, .int .i64 A3, .int .i64 E3] 61) = w3 at *
              refine (HRR _ (S3.reader 0)).out.mono ?_
              rintro e w4 ⟨rfl, k4, n4⟩
              have S4 := S3.near k4 n4
              clear S3 k4 n4 HRR rh2 hcur hcs hci hcz
              go_wp2_with fail
              obtain ⟨LV, hLV⟩ : ∃ LV : Int, (R3.size : Int) = LV := ⟨_, rfl⟩
              obtain ⟨DV, hDV⟩ : ∃ DV : Int, (if E3 = 0 ∧ R3.size ≠ 0 then 3 else E3) = DV := ⟨_, rfl⟩
              have HLV := Lib.hid hLV
              have HDV := Lib.hid hDV
              have hsw : IntKind.i64.wrap ((s.size : Int) - (A3 : Int)) = LV := by
                have h1 := HSF.out.1
                have h2 := HA3.out
                have h3 := HS.out
                unfold maxLen at h3
                unfold atOf at h2
                rw [IntWalk.i64_in _ (by omega)]
                omega
              clear hLV hDV
              have q0 : ∀ x : Past w4, x.w.cell? ⟨c, 0, none⟩ = some (.string s) := fun x => cell_of_rowAt (rowAt_past x.h S4.cur) 0
              have q1 : ∀ x : Past w4, x.w.cell? ⟨c, 1, none⟩ = some (.int .i64 A3) := fun x => cell_of_rowAt (rowAt_past x.h S4.cur) 1
              have q2 : ∀ x : Past w4, x.w.cell? ⟨c, 2, none⟩ = some (.int .i64 E3) := fun x => cell_of_rowAt (rowAt_past x.h S4.cur) 2
              have HLF : Hid (∀ w', Below w4.heap.size w4 w' → Calls Try.prog 48 #[.pointer (some ⟨r, 0, none⟩)] w' fun e w'' => e = .returned (.int .i64 LV) ∧ Below w'.heap.size w' w'') := Lib.hid fun w' hw => by
                have := Left_any 0 r R3 E3 w' ((S4.reader 0).below hw)
                rwa [HLV.out] at this
              have HDN : Hid (∀ w', Below w4.heap.size w4 w' → Calls Try.prog 49 #[.pointer (some ⟨r, 0, none⟩)] w' fun e w'' => e = .returned (.int .i64 DV) ∧ Below w'.heap.size w' w'') := Lib.hid fun w' hw => by
                have := RDone_any 0 r R3 E3 w' ((S4.reader 0).below hw)
                rwa [HDV.out] at this
              have HRD : Hid (∀ w', Calls Try.prog 50 #[.agg #[.string s, .int .i64 A3, .int .i64 E3]] w' fun e w'' => e = .returned (.int .i64 DV) ∧ Below w'.heap.size w' w'') := Lib.hid fun w' => by
                have := r2Done_any s R3 E3 w' HSF.out
                rw [HDV.out, HA3.out] at this
                exact this
              have S5 := Lib.hid S4
              clear S4
              refine wp_region_wildL [] 20 (by kernel_rfl) (by kernel_rfl) ?_
              simp only [List.take_succ_cons, List.take_nil]
              iterate 4 (refine wildL_val (by decide) (by kernel_rfl) rfl ?_; intro K hK; go_big_quiet_op; go_big_quiet_on)
              refine wildL_call (by decide) (by kernel_rfl) (by kernel_rfl) ?_
              apply Exists.intro
              refine And.intro ?_ ?_
              focus
                intro x K hK
                go_big_quiet_op
                go_big_quiet_call (exact call_back (HLF.out _ (Past.two _)))
                rfl
              iterate 2 (refine wildL_val (by decide) (by kernel_rfl) rfl ?_; intro K hK; go_big_quiet_op; go_big_quiet_on)
              refine wildL_call (by decide) (by kernel_rfl) (by kernel_rfl) ?_
              apply Exists.intro
              refine And.intro ?_ ?_
              focus
                intro x K hK
                go_big_quiet_op
                go_big_quiet_on
                rfl
              iterate 7 (refine wildL_val (by decide) (by kernel_rfl) rfl ?_; intro K hK; go_big_quiet_op; go_big_quiet_on)
              refine wildL_call (by decide) (by kernel_rfl) (by kernel_rfl) ?_
              apply Exists.intro
              refine And.intro ?_ ?_
              focus
                intro x K hK
                go_big_quiet_op
                go_big_quiet_call (exact call_back (HDN.out _ (Past.two _)))
                rfl
              iterate 1 (refine wildL_val (by decide) (by kernel_rfl) rfl ?_; intro K hK; go_big_quiet_op; go_big_quiet_on)
              refine wildL_call (by decide) (by kernel_rfl) (by kernel_rfl) ?_
              apply Exists.intro
              refine And.intro ?_ ?_
              focus
                intro x K hK
                go_big_quiet_op
                go_big_quiet_call (exact call_back (HRD.out _))
                rfl
              iterate 2 (refine wildL_val (by decide) (by kernel_rfl) rfl ?_; intro K hK; go_big_quiet_op; go_big_quiet_on)
              refine wildL_nil ?_
              simp only [List.drop_succ_cons, List.drop_nil]
              rintro ⟨z, hz⟩
              change wpList _ _ _ _ _ z
              have S6 := Lib.hid (S5.out.past hz)
              clear S5 q0 q1 q2 HLF HDN HRD hz
              go_wp2_with fail
              exact ⟨⟨i + 1, R3, E3, hlt, by go_num, HSF, HFT, Lib.hid (by rw [HA3.out]; exact S6.out)⟩, by simp [intOf]; omega⟩
            · have h4' : (t.k == 4) = false := by simpa using h4
              by_cases h5 : t.k = 5
              · have h5' : (t.k == 5) = true := by simpa using h5
                clear h1 h2 h3 h4 h5
                have HRR : ∀ w, ReaderAt 0 r R err w → Hid (Calls Try.prog 47 #[.pointer (some ⟨r, 0, none⟩), .int .i64 t.n] w fun x w' => x = .returned (.int .i64 (belV R err t.n)) ∧ ReaderAt w.heap.size r (numS R err) (belE R err t.n) w' ∧ Near w.heap.size r w w') := fun w h => Lib.hid (RBelow_any w.heap.size r R err t.n w ⟨rfl, h.2⟩)
                have HRN : ∀ w, Hid (Calls Try.prog 38 #[.agg #[.string s, .int .i64 A, .int .i64 err]] w fun e w' => e = .returned (.tuple #[.agg #[.string s, .int .i64 (atOf s (numS R err)), .int .i64 (numE R err)], .int .i64 (numV R err)]) ∧ Below w.heap.size w w') := fun w => Lib.hid (by
                  have := RN_all s R err w HSF0.out HFT0.out
                  rwa [HA.out] at this)
                have HSF : Hid (Suf s (numS R err)) := Lib.hid (suf_num HSF0.out err)
                have HFT : Hid (belE R err t.n = 0 → s.size ≤ 281474976710656) := Lib.hid fun e => HFT0.out (belE_zero e)
                by_cases hge : t.n ≤ numV R err
                · have e1 : belV R err t.n = 0 := by
                    unfold belV
                    split
                    · rfl
                    · rename_i hn
                      exact numV_err R err fun e => hn ⟨e, hge⟩
                  have e2 : belE R err t.n = if numE R err = 0 then 2 else numE R err := by
                    unfold belE
                    by_cases e : numE R err = 0
                    · rw [if_pos ⟨e, hge⟩, if_pos e]
                    · rw [if_neg (fun x => e x.1), if_neg e]
                  rw [e1, e2] at HRR
                  rw [e2] at HFT
                  have HFL : ∀ w, Hid (Calls Try.prog 46 #[.agg #[.string s, .int .i64 (atOf s (numS R err)), .int .i64 (numE R err)], .int .i64 2] w fun e w' => e = .returned (.agg #[.string s, .int .i64 (atOf s (numS R err)), .int .i64 (if numE R err = 0 then 2 else numE R err)]) ∧ Below w.heap.size w w') := fun w => Lib.hid (Fail_any s _ _ 2 w)
                  have q6 : decide (t.n ≤ numV R err) = true := decide_eq_true hge
                  clear e1 e2 hge
                  generalize (if numE R err = 0 then 2 else numE R err : Int) = E3 at *
                  generalize numS R err = R3 at *
                  generalize numE R err = E0 at *
                  generalize numV R err = V0 at *
                  obtain ⟨A3, hA3⟩ : ∃ A3, atOf s R3 = A3 := ⟨_, rfl⟩
                  rw [hA3] at HRN HFL
                  have HA3 := Lib.hid hA3
                  clear hA3
                  go_wp2_with fail
                  generalize wr.alloc (.cells (cellsT t) 47) = W1 at *
                  refine (HRN _).out.mono ?_
                  rintro e w2 ⟨rfl, hb⟩
                  have S2 := S1.past hb
                  have rh2 := rowAt_past hb rh
                  clear S1 rh hb HRN c0 c1 c2
                  have y0 : ∀ o, w2.cell? ⟨c, o, none⟩ = #[Value.string s, .int .i64 A, .int .i64 err][o]? := fun o => cell_of_rowAt S2.cur o
                  have c0 := y0 0
                  have c1 := y0 1
                  have c2 := y0 2
                  have f0 := frozen_of_rowAt S2.cur 0
                  have f1 := frozen_of_rowAt S2.cur 1
                  have f2 := frozen_of_rowAt S2.cur 2
                  have hcl : c < w2.heap.size := Nat.lt_trans S2.o3 S2.o4
                  have hcn : c ≠ w2.heap.size := Nat.ne_of_lt hcl
                  clear y0
                  have e1 := (cell_of_rowAt rh2 1).trans (get_cellsT1 t)
                  have hhl : wr.heap.size < w2.heap.size := lt_of_rowAt rh2
                  have hhn : wr.heap.size ≠ w2.heap.size := Nat.ne_of_lt hhl
                  go_wp2_with fail
                  have S3 := S2.past ((Below.refl _ _).alloc (Nat.le_refl _) (.cells #[.string s, .int .i64 A3, .int .i64 E0] 61))
                  have r18 : rowAt (w2.alloc (.cells #[.string s, .int .i64 A3, .int .i64 E0] 61)) w2.heap.size = some #[.string s, .int .i64 A3, .int .i64 E0] := rowAt_alloc_at _ _ _ _ rfl
                  have rh3 := rowAt_past ((Below.refl w2.heap.size w2).alloc (Nat.le_refl _) (.cells #[.string s, .int .i64 A3, .int .i64 E0] 61)) rh2
                  have hgk : g < w2.heap.size := S2.o4
                  clear S2 c0 c1 c2 f0 f1 f2 e1 rh2 hhl
                  generalize w2.alloc (.cells #[.string s, .int .i64 A3, .int .i64 E0] 61) = w3 at *
                  generalize w2.heap.size = k at *
                  refine (HFL _).out.mono ?_
                  rintro e w5 ⟨rfl, hb⟩
                  have S4 := S3.past hb
                  have r19 := rowAt_past hb r18
                  have rh4 := rowAt_past hb rh3
                  clear S3 r18 rh3 HFL hb
                  have e1 := (cell_of_rowAt rh4 1).trans (get_cellsT1 t)
                  have c0 := cell_of_rowAt S4.cur 0
                  have c1 := cell_of_rowAt S4.cur 1
                  have c2 := cell_of_rowAt S4.cur 2
                  have f0 := frozen_of_rowAt S4.cur 0
                  have f1 := frozen_of_rowAt S4.cur 1
                  have f2 := frozen_of_rowAt S4.cur 2
                  have d0 := cell_of_rowAt r19 0
                  have d1 := cell_of_rowAt r19 1
                  have d2 := cell_of_rowAt r19 2
                  have g0 := frozen_of_rowAt r19 0
                  have g1 := frozen_of_rowAt r19 1
                  have g2 := frozen_of_rowAt r19 2
                  have hhc : wr.heap.size ≠ c := Ne.symm hnh
                  go_wp2_with fail
                  have nk : Near w5.heap.size k w5 (((w5.setCell ⟨k, 0, none⟩ (.string s)).setCell ⟨k, 1, none⟩ (.int .i64 A3)).setCell ⟨k, 2, none⟩ (.int .i64 E3)) := (((Near.refl w5.heap.size k w5).setCell (p := ⟨k, 0, none⟩) rfl _).setCell (p := ⟨k, 1, none⟩) rfl _).setCell (p := ⟨k, 2, none⟩) rfl _
                  have S5 := (S4.side hgk nk).put A3 E3
                  clear S4 nk c0 c1 c2 d0 d1 d2 f0 f1 f2 g0 g1 g2 e1 r19 rh4
                  generalize ((((((w5.setCell ⟨k, 0, none⟩ (.string s)).setCell ⟨k, 1, none⟩ (.int .i64 A3)).setCell ⟨k, 2, none⟩ (.int .i64 E3)).setCell ⟨c, 0, none⟩ (.string s)).setCell ⟨c, 1, none⟩ (.int .i64 A3)).setCell ⟨c, 2, none⟩ (.int .i64 E3)) = w6 at *
                  refine (HRR _ (S5.reader 0)).out.mono ?_
                  rintro e w4 ⟨rfl, k4, n4⟩
                  have S4 := S5.near k4 n4
                  clear S5 k4 n4 HRR hcur hcs hci hcz
                  go_wp2_with fail
                  obtain ⟨LV, hLV⟩ : ∃ LV : Int, (R3.size : Int) = LV := ⟨_, rfl⟩
                  obtain ⟨DV, hDV⟩ : ∃ DV : Int, (if E3 = 0 ∧ R3.size ≠ 0 then 3 else E3) = DV := ⟨_, rfl⟩
                  have HLV := Lib.hid hLV
                  have HDV := Lib.hid hDV
                  have hsw : IntKind.i64.wrap ((s.size : Int) - (A3 : Int)) = LV := by
                    have h1 := HSF.out.1
                    have h2 := HA3.out
                    have h3 := HS.out
                    unfold maxLen at h3
                    unfold atOf at h2
                    rw [IntWalk.i64_in _ (by omega)]
                    omega
                  clear hLV hDV
                  have q0 : ∀ x : Past w4, x.w.cell? ⟨c, 0, none⟩ = some (.string s) := fun x => cell_of_rowAt (rowAt_past x.h S4.cur) 0
                  have q1 : ∀ x : Past w4, x.w.cell? ⟨c, 1, none⟩ = some (.int .i64 A3) := fun x => cell_of_rowAt (rowAt_past x.h S4.cur) 1
                  have q2 : ∀ x : Past w4, x.w.cell? ⟨c, 2, none⟩ = some (.int .i64 E3) := fun x => cell_of_rowAt (rowAt_past x.h S4.cur) 2
                  have HLF : Hid (∀ w', Below w4.heap.size w4 w' → Calls Try.prog 48 #[.pointer (some ⟨r, 0, none⟩)] w' fun e w'' => e = .returned (.int .i64 LV) ∧ Below w'.heap.size w' w'') := Lib.hid fun w' hw => by
                    have := Left_any 0 r R3 E3 w' ((S4.reader 0).below hw)
                    rwa [HLV.out] at this
                  have HDN : Hid (∀ w', Below w4.heap.size w4 w' → Calls Try.prog 49 #[.pointer (some ⟨r, 0, none⟩)] w' fun e w'' => e = .returned (.int .i64 DV) ∧ Below w'.heap.size w' w'') := Lib.hid fun w' hw => by
                    have := RDone_any 0 r R3 E3 w' ((S4.reader 0).below hw)
                    rwa [HDV.out] at this
                  have HRD : Hid (∀ w', Calls Try.prog 50 #[.agg #[.string s, .int .i64 A3, .int .i64 E3]] w' fun e w'' => e = .returned (.int .i64 DV) ∧ Below w'.heap.size w' w'') := Lib.hid fun w' => by
                    have := r2Done_any s R3 E3 w' HSF.out
                    rw [HDV.out, HA3.out] at this
                    exact this
                  have S5 := Lib.hid S4
                  clear S4
                  refine wp_region_wildL [] 20 (by kernel_rfl) (by kernel_rfl) ?_
                  simp only [List.take_succ_cons, List.take_nil]
                  iterate 4 (refine wildL_val (by decide) (by kernel_rfl) rfl ?_; intro K hK; go_big_quiet_op; go_big_quiet_on)
                  refine wildL_call (by decide) (by kernel_rfl) (by kernel_rfl) ?_
                  apply Exists.intro
                  refine And.intro ?_ ?_
                  focus
                    intro x K hK
                    go_big_quiet_op
                    go_big_quiet_call (exact call_back (HLF.out _ (Past.two _)))
                    rfl
                  iterate 2 (refine wildL_val (by decide) (by kernel_rfl) rfl ?_; intro K hK; go_big_quiet_op; go_big_quiet_on)
                  refine wildL_call (by decide) (by kernel_rfl) (by kernel_rfl) ?_
                  apply Exists.intro
                  refine And.intro ?_ ?_
                  focus
                    intro x K hK
                    go_big_quiet_op
                    go_big_quiet_on
                    rfl
                  iterate 7 (refine wildL_val (by decide) (by kernel_rfl) rfl ?_; intro K hK; go_big_quiet_op; go_big_quiet_on)
                  refine wildL_call (by decide) (by kernel_rfl) (by kernel_rfl) ?_
                  apply Exists.intro
                  refine And.intro ?_ ?_
                  focus
                    intro x K hK
                    go_big_quiet_op
                    go_big_quiet_call (exact call_back (HDN.out _ (Past.two _)))
                    rfl
                  iterate 1 (refine wildL_val (by decide) (by kernel_rfl) rfl ?_; intro K hK; go_big_quiet_op; go_big_quiet_on)
                  refine wildL_call (by decide) (by kernel_rfl) (by kernel_rfl) ?_
                  apply Exists.intro
                  refine And.intro ?_ ?_
                  focus
                    intro x K hK
                    go_big_quiet_op
                    go_big_quiet_call (exact call_back (HRD.out _))
                    rfl
                  iterate 2 (refine wildL_val (by decide) (by kernel_rfl) rfl ?_; intro K hK; go_big_quiet_op; go_big_quiet_on)
                  refine wildL_nil ?_
                  simp only [List.drop_succ_cons, List.drop_nil]
                  rintro ⟨z, hz⟩
                  change wpList _ _ _ _ _ z
                  have S6 := Lib.hid (S5.out.past hz)
                  clear S5 q0 q1 q2 HLF HDN HRD hz
                  go_wp2_with fail
                  exact ⟨⟨i + 1, R3, E3, hlt, by go_num, HSF, HFT, Lib.hid (by rw [HA3.out]; exact S6.out)⟩, by simp [intOf]; omega⟩
                · have e1 : belV R err t.n = numV R err := by
                    unfold belV
                    rw [if_neg (fun x => hge x.2)]
                  have e2 : belE R err t.n = numE R err := by
                    unfold belE
                    rw [if_neg (fun x => hge x.2)]
                  rw [e1, e2] at HRR
                  rw [e2] at HFT
                  have q6 : decide (t.n ≤ numV R err) = false := decide_eq_false hge
                  clear e1 e2 hge
                  generalize numS R err = R3 at *
                  generalize numE R err = E3 at *
                  generalize numV R err = V at *
                  obtain ⟨A3, hA3⟩ : ∃ A3, atOf s R3 = A3 := ⟨_, rfl⟩
                  rw [hA3] at HRN
                  have HA3 := Lib.hid hA3
                  clear hA3
                  go_wp2_with fail
                  generalize wr.alloc (.cells (cellsT t) 47) = W1 at *
                  refine (HRN _).out.mono ?_
                  rintro e w2 ⟨rfl, hb⟩
                  have S2 := S1.past hb
                  have rh2 := rowAt_past hb rh
                  clear S1 rh hb HRN c0 c1 c2
                  have y0 : ∀ o, w2.cell? ⟨c, o, none⟩ = #[Value.string s, .int .i64 A, .int .i64 err][o]? := fun o => cell_of_rowAt S2.cur o
                  have c0 := y0 0
                  have c1 := y0 1
                  have c2 := y0 2
                  have f0 := frozen_of_rowAt S2.cur 0
                  have f1 := frozen_of_rowAt S2.cur 1
                  have f2 := frozen_of_rowAt S2.cur 2
                  have hcl : c < w2.heap.size := Nat.lt_trans S2.o3 S2.o4
                  have hcn : c ≠ w2.heap.size := Nat.ne_of_lt hcl
                  clear y0
                  have e1 := (cell_of_rowAt rh2 1).trans (get_cellsT1 t)
                  have hhl : wr.heap.size < w2.heap.size := lt_of_rowAt rh2
                  have hhn : wr.heap.size ≠ w2.heap.size := Nat.ne_of_lt hhl
                  have hhc : wr.heap.size ≠ c := Ne.symm hnh
                  go_wp2_with fail
                  have S3 := (S2.put A3 E3).past ((Below.refl _ _).alloc (Nat.le_refl _) (.cells #[.string s, .int .i64 A3, .int .i64 E3] 61))
                  clear S2 c0 c1 c2 f0 f1 f2 hcl hcn
                  generalize (((w2.setCell ⟨c, 0, none⟩ (.string s)).setCell ⟨c, 1, none⟩ (.int .i64 A3)).setCell ⟨c, 2, none⟩ (.int .i64 E3)).alloc (.cells #[.string s, .int .i64 A3, .int .i64 E3] 61) = w3 at *
                  refine (HRR _ (S3.reader 0)).out.mono ?_
                  rintro e w4 ⟨rfl, k4, n4⟩
                  have S4 := S3.near k4 n4
                  clear S3 k4 n4 HRR rh2 hcur hcs hci hcz
                  go_wp2_with fail
                  obtain ⟨LV, hLV⟩ : ∃ LV : Int, (R3.size : Int) = LV := ⟨_, rfl⟩
                  obtain ⟨DV, hDV⟩ : ∃ DV : Int, (if E3 = 0 ∧ R3.size ≠ 0 then 3 else E3) = DV := ⟨_, rfl⟩
                  have HLV := Lib.hid hLV
                  have HDV := Lib.hid hDV
                  have hsw : IntKind.i64.wrap ((s.size : Int) - (A3 : Int)) = LV := by
                    have h1 := HSF.out.1
                    have h2 := HA3.out
                    have h3 := HS.out
                    unfold maxLen at h3
                    unfold atOf at h2
                    rw [IntWalk.i64_in _ (by omega)]
                    omega
                  clear hLV hDV
                  have q0 : ∀ x : Past w4, x.w.cell? ⟨c, 0, none⟩ = some (.string s) := fun x => cell_of_rowAt (rowAt_past x.h S4.cur) 0
                  have q1 : ∀ x : Past w4, x.w.cell? ⟨c, 1, none⟩ = some (.int .i64 A3) := fun x => cell_of_rowAt (rowAt_past x.h S4.cur) 1
                  have q2 : ∀ x : Past w4, x.w.cell? ⟨c, 2, none⟩ = some (.int .i64 E3) := fun x => cell_of_rowAt (rowAt_past x.h S4.cur) 2
                  have HLF : Hid (∀ w', Below w4.heap.size w4 w' → Calls Try.prog 48 #[.pointer (some ⟨r, 0, none⟩)] w' fun e w'' => e = .returned (.int .i64 LV) ∧ Below w'.heap.size w' w'') := Lib.hid fun w' hw => by
                    have := Left_any 0 r R3 E3 w' ((S4.reader 0).below hw)
                    rwa [HLV.out] at this
                  have HDN : Hid (∀ w', Below w4.heap.size w4 w' → Calls Try.prog 49 #[.pointer (some ⟨r, 0, none⟩)] w' fun e w'' => e = .returned (.int .i64 DV) ∧ Below w'.heap.size w' w'') := Lib.hid fun w' hw => by
                    have := RDone_any 0 r R3 E3 w' ((S4.reader 0).below hw)
                    rwa [HDV.out] at this
                  have HRD : Hid (∀ w', Calls Try.prog 50 #[.agg #[.string s, .int .i64 A3, .int .i64 E3]] w' fun e w'' => e = .returned (.int .i64 DV) ∧ Below w'.heap.size w' w'') := Lib.hid fun w' => by
                    have := r2Done_any s R3 E3 w' HSF.out
                    rw [HDV.out, HA3.out] at this
                    exact this
                  have S5 := Lib.hid S4
                  clear S4
                  refine wp_region_wildL [] 20 (by kernel_rfl) (by kernel_rfl) ?_
                  simp only [List.take_succ_cons, List.take_nil]
                  iterate 4 (refine wildL_val (by decide) (by kernel_rfl) rfl ?_; intro K hK; go_big_quiet_op; go_big_quiet_on)
                  refine wildL_call (by decide) (by kernel_rfl) (by kernel_rfl) ?_
                  apply Exists.intro
                  refine And.intro ?_ ?_
                  focus
                    intro x K hK
                    go_big_quiet_op
                    go_big_quiet_call (exact call_back (HLF.out _ (Past.two _)))
                    rfl
                  iterate 2 (refine wildL_val (by decide) (by kernel_rfl) rfl ?_; intro K hK; go_big_quiet_op; go_big_quiet_on)
                  refine wildL_call (by decide) (by kernel_rfl) (by kernel_rfl) ?_
                  apply Exists.intro
                  refine And.intro ?_ ?_
                  focus
                    intro x K hK
                    go_big_quiet_op
                    go_big_quiet_on
                    rfl
                  iterate 7 (refine wildL_val (by decide) (by kernel_rfl) rfl ?_; intro K hK; go_big_quiet_op; go_big_quiet_on)
                  refine wildL_call (by decide) (by kernel_rfl) (by kernel_rfl) ?_
                  apply Exists.intro
                  refine And.intro ?_ ?_
                  focus
                    intro x K hK
                    go_big_quiet_op
                    go_big_quiet_call (exact call_back (HDN.out _ (Past.two _)))
                    rfl
                  iterate 1 (refine wildL_val (by decide) (by kernel_rfl) rfl ?_; intro K hK; go_big_quiet_op; go_big_quiet_on)
                  refine wildL_call (by decide) (by kernel_rfl) (by kernel_rfl) ?_
                  apply Exists.intro
                  refine And.intro ?_ ?_
                  focus
                    intro x K hK
                    go_big_quiet_op
                    go_big_quiet_call (exact call_back (HRD.out _))
                    rfl
                  iterate 2 (refine wildL_val (by decide) (by kernel_rfl) rfl ?_; intro K hK; go_big_quiet_op; go_big_quiet_on)
                  refine wildL_nil ?_
                  simp only [List.drop_succ_cons, List.drop_nil]
                  rintro ⟨z, hz⟩
                  change wpList _ _ _ _ _ z
                  have S6 := Lib.hid (S5.out.past hz)
                  clear S5 q0 q1 q2 HLF HDN HRD hz
                  go_wp2_with fail
                  exact ⟨⟨i + 1, R3, E3, hlt, by go_num, HSF, HFT, Lib.hid (by rw [HA3.out]; exact S6.out)⟩, by simp [intOf]; omega⟩
              · have h5' : (t.k == 5) = false := by simpa using h5
                clear h1 h2 h3 h4 h5
                obtain ⟨R3, hR3⟩ : ∃ R3, R3 = R := ⟨_, rfl⟩
                obtain ⟨E3, hE3⟩ : ∃ E3, E3 = err := ⟨_, rfl⟩
                obtain ⟨A3, hA3⟩ : ∃ A3, A3 = A := ⟨_, rfl⟩
                rw [← hR3, ← hE3, ← hA3] at S1
                have HSF : Hid (Suf s R3) := Lib.hid (by rw [hR3]; exact HSF0.out)
                have HA3 : Hid (atOf s R3 = A3) := Lib.hid (by rw [hR3, hA3]; exact HA.out)
                have HFT : Hid (E3 = 0 → s.size ≤ 281474976710656) := Lib.hid (by rw [hE3]; exact HFT0.out)
                clear hR3 hE3 hA3 HSF0 HA c0 c1 c2
                go_wp2_with fail
                generalize wr.alloc (.cells (cellsT t) 47) = w4 at *
                have S4 := S1
                clear S1 hcur hcs hci hcz rh
                obtain ⟨LV, hLV⟩ : ∃ LV : Int, (R3.size : Int) = LV := ⟨_, rfl⟩
                obtain ⟨DV, hDV⟩ : ∃ DV : Int, (if E3 = 0 ∧ R3.size ≠ 0 then 3 else E3) = DV := ⟨_, rfl⟩
                have HLV := Lib.hid hLV
                have HDV := Lib.hid hDV
                have hsw : IntKind.i64.wrap ((s.size : Int) - (A3 : Int)) = LV := by
                  have h1 := HSF.out.1
                  have h2 := HA3.out
                  have h3 := HS.out
                  unfold maxLen at h3
                  unfold atOf at h2
                  rw [IntWalk.i64_in _ (by omega)]
                  omega
                clear hLV hDV
                have q0 : ∀ x : Past w4, x.w.cell? ⟨c, 0, none⟩ = some (.string s) := fun x => cell_of_rowAt (rowAt_past x.h S4.cur) 0
                have q1 : ∀ x : Past w4, x.w.cell? ⟨c, 1, none⟩ = some (.int .i64 A3) := fun x => cell_of_rowAt (rowAt_past x.h S4.cur) 1
                have q2 : ∀ x : Past w4, x.w.cell? ⟨c, 2, none⟩ = some (.int .i64 E3) := fun x => cell_of_rowAt (rowAt_past x.h S4.cur) 2
                have HLF : Hid (∀ w', Below w4.heap.size w4 w' → Calls Try.prog 48 #[.pointer (some ⟨r, 0, none⟩)] w' fun e w'' => e = .returned (.int .i64 LV) ∧ Below w'.heap.size w' w'') := Lib.hid fun w' hw => by
                  have := Left_any 0 r R3 E3 w' ((S4.reader 0).below hw)
                  rwa [HLV.out] at this
                have HDN : Hid (∀ w', Below w4.heap.size w4 w' → Calls Try.prog 49 #[.pointer (some ⟨r, 0, none⟩)] w' fun e w'' => e = .returned (.int .i64 DV) ∧ Below w'.heap.size w' w'') := Lib.hid fun w' hw => by
                  have := RDone_any 0 r R3 E3 w' ((S4.reader 0).below hw)
                  rwa [HDV.out] at this
                have HRD : Hid (∀ w', Calls Try.prog 50 #[.agg #[.string s, .int .i64 A3, .int .i64 E3]] w' fun e w'' => e = .returned (.int .i64 DV) ∧ Below w'.heap.size w' w'') := Lib.hid fun w' => by
                  have := r2Done_any s R3 E3 w' HSF.out
                  rw [HDV.out, HA3.out] at this
                  exact this
                have S5 := Lib.hid S4
                clear S4
                refine wp_region_wildL [] 20 (by kernel_rfl) (by kernel_rfl) ?_
                simp only [List.take_succ_cons, List.take_nil]
                iterate 4 (refine wildL_val (by decide) (by kernel_rfl) rfl ?_; intro K hK; go_big_quiet_op; go_big_quiet_on)
                refine wildL_call (by decide) (by kernel_rfl) (by kernel_rfl) ?_
                apply Exists.intro
                refine And.intro ?_ ?_
                focus
                  intro x K hK
                  go_big_quiet_op
                  go_big_quiet_call (exact call_back (HLF.out _ (Past.two _)))
                  rfl
                iterate 2 (refine wildL_val (by decide) (by kernel_rfl) rfl ?_; intro K hK; go_big_quiet_op; go_big_quiet_on)
                refine wildL_call (by decide) (by kernel_rfl) (by kernel_rfl) ?_
                apply Exists.intro
                refine And.intro ?_ ?_
                focus
                  intro x K hK
                  go_big_quiet_op
                  go_big_quiet_on
                  rfl
                iterate 7 (refine wildL_val (by decide) (by kernel_rfl) rfl ?_; intro K hK; go_big_quiet_op; go_big_quiet_on)
                refine wildL_call (by decide) (by kernel_rfl) (by kernel_rfl) ?_
                apply Exists.intro
                refine And.intro ?_ ?_
                focus
                  intro x K hK
                  go_big_quiet_op
                  go_big_quiet_call (exact call_back (HDN.out _ (Past.two _)))
                  rfl
                iterate 1 (refine wildL_val (by decide) (by kernel_rfl) rfl ?_; intro K hK; go_big_quiet_op; go_big_quiet_on)
                refine wildL_call (by decide) (by kernel_rfl) (by kernel_rfl) ?_
                apply Exists.intro
                refine And.intro ?_ ?_
                focus
                  intro x K hK
                  go_big_quiet_op
                  go_big_quiet_call (exact call_back (HRD.out _))
                  rfl
                iterate 2 (refine wildL_val (by decide) (by kernel_rfl) rfl ?_; intro K hK; go_big_quiet_op; go_big_quiet_on)
                refine wildL_nil ?_
                simp only [List.drop_succ_cons, List.drop_nil]
                rintro ⟨z, hz⟩
                change wpList _ _ _ _ _ z
                have S6 := Lib.hid (S5.out.past hz)
                clear S5 q0 q1 q2 HLF HDN HRD hz
                go_wp2_with fail
                exact ⟨⟨i + 1, R3, E3, hlt, by go_num, HSF, HFT, Lib.hid (by rw [HA3.out]; exact S6.out)⟩, by simp [intOf]; omega⟩
    · obtain rfl : i = m := by omega
      have hsz := S1.out.o4
      obtain ⟨A, hA⟩ : ∃ A, atOf s R = A := ⟨_, rfl⟩
      have HA := Lib.hid hA
      rw [hA] at S1
      obtain ⟨DV, hDV⟩ : ∃ DV : Int, (if err = 0 ∧ R.size ≠ 0 then 3 else err) = DV := ⟨_, rfl⟩
      have HDV := Lib.hid hDV
      clear hA hDV
      have q0 : ∀ x : Past wr, x.w.cell? ⟨c, 0, none⟩ = some (.string s) := fun x => cell_of_rowAt (rowAt_past x.h S1.out.cur) 0
      have q1 : ∀ x : Past wr, x.w.cell? ⟨c, 1, none⟩ = some (.int .i64 A) := fun x => cell_of_rowAt (rowAt_past x.h S1.out.cur) 1
      have q2 : ∀ x : Past wr, x.w.cell? ⟨c, 2, none⟩ = some (.int .i64 err) := fun x => cell_of_rowAt (rowAt_past x.h S1.out.cur) 2
      have HDN : Hid (∀ w', Below wr.heap.size wr w' → Calls Try.prog 49 #[.pointer (some ⟨r, 0, none⟩)] w' fun e w'' => e = .returned (.int .i64 DV) ∧ Below w'.heap.size w' w'') := Lib.hid fun w' hw => by
        have := RDone_any 0 r R err w' ((S1.out.reader 0).below hw)
        rwa [HDV.out] at this
      have HRD : Hid (∀ w', Calls Try.prog 50 #[.agg #[.string s, .int .i64 A, .int .i64 err]] w' fun e w'' => e = .returned (.int .i64 DV) ∧ Below w'.heap.size w' w'') := Lib.hid fun w' => by
        have := r2Done_any s R err w' HSF0.out
        rw [HDV.out, HA.out] at this
        exact this
      go_wp2_with fail
      refine wp_region_wildL [] 5 (by kernel_rfl) (by kernel_rfl) ?_
      simp only [List.take_succ_cons, List.take_zero]
      iterate 1 (refine wildL_val (by decide) (by kernel_rfl) rfl ?_; intro K hK; go_big_quiet_op; go_big_quiet_on)
      refine wildL_call (by decide) (by kernel_rfl) (by kernel_rfl) ?_
      apply Exists.intro
      refine And.intro ?_ ?_
      focus
        intro x K hK
        go_big_quiet_op
        go_big_quiet_call (exact call_back (HDN.out _ (Past.two _)))
        rfl
      iterate 1 (refine wildL_val (by decide) (by kernel_rfl) rfl ?_; intro K hK; go_big_quiet_op; go_big_quiet_on)
      refine wildL_call (by decide) (by kernel_rfl) (by kernel_rfl) ?_
      apply Exists.intro
      refine And.intro ?_ ?_
      focus
        intro x K hK
        go_big_quiet_op
        go_big_quiet_call (exact call_back (HRD.out _))
        rfl
      iterate 1 (refine wildL_val (by decide) (by kernel_rfl) rfl ?_; intro K hK; go_big_quiet_op; go_big_quiet_on)
      refine wildL_nil ?_
      simp only [List.drop_succ_cons, List.drop_zero]
      rintro ⟨z, hz⟩
      change wpList _ _ _ _ _ z
      have S6 := Lib.hid (S1.out.past hz)
      clear S1 q0 q1 q2 HDN HRD hz
      go_wp2_with fail
      go_ret
      exact ⟨rfl, S6.out.below⟩
set_option maxRecDepth 100000 in
theorem lifted (os : Os) (started : os.Started) (H : Type) (enc : TypeId × Value → H) :
    ReturnsInHanded {} Try.checked os 6 .any (Rows.codeReadsSpec.pre6 enc Try.prog Try.f6 Rows.codeReadsRow.domain false) (Rows.codeReadsSpec.post enc Try.prog Try.f6 false true false false) := by
  refine returnsInHanded_of_change (C := Try.checked) own started (by kernel_rfl) Try.func6
    (ChangeSpec.witness6 (enc := enc) (C := Try.checked) false ⟨#[], #[.string ⟨#[]⟩, .slice none 0 0], []⟩ 8 (by kernel_rfl) (by kernel_rfl) (by kernel_rfl) (by kernel_rfl)) ?_
  intro W base args ds gs before hval0 hW _ _
  have hval : ∀ (j : Nat) t v, Try.f6.params[j]? = some t → args[j]? = some v → Value.okWide Try.prog W .any base t v := hval0
  clear hval0
  have hW' := hW
  obtain ⟨p, q, hA0, hV, rfl, hfz, hnd⟩ := hW
  have hA : DataW.TrodAll enc Try.prog W 0 (fun _ => true) true Try.f6.params.toList args.toList ds p := hA0
  rw [Try.params6] at hA hval
  clear hA0 hfz hnd hV
  have hr : Readable Try.f6.params.toList := by
    rw [Try.params6]
    exact readable_of_all (by kernel_rfl)
  have fin : ∀ W', Below W.heap.size W W' → Rows.codeReadsSpec.post enc Try.prog Try.f6 false true false false W args (.bool true) W' := fun W' hb =>
    law_post rfl hW' hr (fun l hl => by
      rw [Try.params6] at hl
      match l, hl with
      | [d1, d2], _ => rfl) (by kernel_rfl) hb
  clear hW' hr
  obtain ⟨v0, v1, d0, d1, p0, p1, rfl, rfl, rfl, h0, h1⟩ := trodAll_two hA; obtain ⟨s, rfl, _, _, w0⟩ := open_string Try.underlying9 (hval 0 9 v0 rfl rfl) h0; obtain ⟨len, T, hin, hwf⟩ := in_things Try.underlying41 cellsOf_thing (fun _ _ _ e => thing_of_cells e) (hval 1 41 v1 rfl rfl) h1
  exact (walk s v1 len T W w0 hin hwf).mono fun e W' ⟨he, hb⟩ => ⟨_, he, fin W' hb⟩
theorem proved : Rows.CodeReadsSaid :=
  OpenClaim.holds_of_wide 6 Try.f6 rfl rfl rfl rfl rfl rfl rfl ⟨rfl, rfl, rfl, rfl, rfl⟩ rfl rfl rfl rfl rfl (by kernel_rfl) Try.func6 (by kernel_rfl)
    (of_decide_eq_true (by kernel_rfl)) (by unfold Func.isWrapper; first | (rw [if_pos (by decide +kernel)]; kernel_rfl) | (rw [if_neg (by decide +kernel)]; exact ⟨rfl, rfl⟩))
    (fun os started H enc _ => lifted os started H enc)
end Go.Proofs.Ythcaolinajfjpaa.codereads
