/- For every list of things the law CodeWrites returns true. Conditions: none. -/
import Derived.Test.YtojmpbbagfgleaaThingsMath
import Derived.Test.YtojmpbbagfgleaaRef2a
import Derived.Test.YtojmpbbagfgleaaLaw2
namespace Go.Proofs.Ytojmpbbagfgleaa.writes
open Go Go.ChangeShapes Go.WideShapes Go.ChangeAt Go.ChangeMaps Go.RowKit Go.Proofs.Ytojmpbbagfgleaa

def wEnc (t : Thing) : List UInt8 :=
  if t.k = 1 then (if t.n < 0 then [] else numBytes t.n.toNat)
  else if t.k = 2 then (if 65536 < t.s.size then [] else numBytes t.s.size ++ t.s.data.toList)
  else if t.k = 3 then t.l.l
  else if t.k = 4 then [if flagB t.n then 1 else 0]
  else []
def wantW (T : Nat → Thing) : Nat → List UInt8
  | 0 => []
  | i + 1 => wantW T i ++ wEnc (T i)
/-- What is gathered is what is wanted, as far as it isn't too long. -/
def Alike (bs want : List UInt8) : Prop := (want.length ≤ 65536 → bs = want) ∧ (65536 < want.length → 65536 < bs.length)
theorem Alike.add {bs want : List UInt8} (h : Alike bs want) (c : List UInt8) : Alike (added bs 0 c) (want ++ c) := by
  refine ⟨fun hl => ?_, fun hl => ?_⟩
  · rw [List.length_append] at hl
    have := h.1 (by omega)
    subst this
    exact added_le (by omega)
  · by_cases hb : bs.length ≤ 65536
    · have hw : want.length ≤ 65536 := by
        rcases Nat.lt_or_ge 65536 want.length with e | e
        · have := h.2 e; omega
        · exact e
      have := h.1 hw
      subst this
      rw [added_le hb]
      exact hl
    · rw [added, if_neg (fun e => hb e.2)]
      omega
theorem alike_all (T : Nat → Thing) : ∀ i, (stW T i).2 = 0 → Alike (stW T i).1 (wantW T i) := by
  intro i
  induction i with
  | zero => intro _; exact ⟨fun _ => rfl, fun h => by cases h⟩
  | succ i ih =>
    intro h
    rw [stW] at h ⊢
    rw [wantW]
    generalize hst : stW T i = st at *
    obtain ⟨bs, err⟩ := st
    generalize T i = t at *
    unfold stepW at h ⊢
    unfold wEnc
    by_cases h1 : t.k = 1
    · rw [if_pos h1] at h ⊢
      rw [if_pos h1]
      obtain ⟨h2, h3⟩ := numWE_zero h
      dsimp only at h3 ih ⊢
      subst h3
      rw [numW, if_neg (by omega), if_neg (by omega)]
      exact (ih rfl).add _
    · rw [if_neg h1] at h ⊢
      rw [if_neg h1]
      by_cases h2 : t.k = 2
      · rw [if_pos h2] at h ⊢
        rw [if_pos h2]
        obtain ⟨h3, h4⟩ := textWE_zero h
        dsimp only at h4 ih ⊢
        subst h4
        rw [textW, if_neg (by omega), if_neg (by omega), ← List.append_assoc]
        exact ((ih rfl).add _).add _
      · rw [if_neg h2] at h ⊢
        rw [if_neg h2]
        by_cases h3 : t.k = 3
        · rw [if_pos h3] at h ⊢
          rw [if_pos h3]
          dsimp only at h ih ⊢
          subst h
          exact (ih rfl).add _
        · rw [if_neg h3] at h ⊢
          rw [if_neg h3]
          by_cases h4 : t.k = 4
          · rw [if_pos h4] at h ⊢
            rw [if_pos h4]
            dsimp only at h ih ⊢
            subst h
            exact (ih rfl).add _
          · rw [if_neg h4] at h ⊢
            rw [if_neg h4, List.append_nil]
            exact ih h
theorem wEnc_le (t : Thing) (hw : t.wf) : (wEnc t).length ≤ 65600 := by
  have hn : ∀ n : Nat, n < 9223372036854775808 → (numBytes n).length ≤ 9 := fun n h => by
    have := numLen_le n h
    rw [numBytes_length]
    omega
  have hl := t.l.h
  have h63 := (wf_i64 hw.2.1).2
  unfold wEnc
  split
  · split
    · exact Nat.zero_le _
    · have := hn t.n.toNat (by omega)
      omega
  · split
    · split
      · exact Nat.zero_le _
      · have := hn t.s.size (by omega)
        rw [List.length_append]
        have : t.s.data.toList.length = t.s.size := rfl
        omega
    · split
      · omega
      · split
        · exact Nat.le_trans (Nat.le_of_eq (List.length_singleton)) (by decide)
        · exact Nat.zero_le _
theorem r2Number_int (n : Int) (w : World) (h0 : 0 ≤ n) (h : n < 9223372036854775808) :
    Calls Try.prog 23 #[.int .i64 n] w fun e w' => e = .returned (.string (txt (numBytes n.toNat))) ∧ Below w.heap.size w w' := by
  obtain ⟨m, rfl⟩ : ∃ m : Nat, n = m := ⟨n.toNat, by omega⟩
  exact r2Number_any m w (by omega)
theorem Near.keep {B b k : Nat} {w w' : World} {cs : Array Value} {T : TypeId} {fr : Nat × Nat} (h : Near B b w w') (hr : w.heap[k]? = some (.cells cs T fr)) (hT : T ≠ 5) (hk : k ≠ b) : rowAt w' k = rowAt w k := by
  unfold rowAt
  rw [h.far k (heap_lt hr) hk (fun cs' fr' e => by
    rw [hr] at e
    injection e with e
    injection e with _ e2
    exact hT e2)]

set_option maxRecDepth 100000 in
set_option maxHeartbeats 4000000 in
theorem walk (v : Value) (len : Nat) (T : Nat → Thing) (w : World) (h : InThings w v len T) (hwf : ∀ i, i < len → (T i).wf) :
    Calls Try.prog 5 #[v] w fun e w' => e = .returned (.bool true) ∧ Below w.heap.size w w' := by
  obtain ⟨m, hm⟩ : ∃ m, min len 40 = m := ⟨_, rfl⟩
  have hm40 : m ≤ 40 := by omega
  have HWF : Hid (∀ i, i < m → (T i).wf) := Lib.hid fun i hi => hwf i (by omega)
  have HF : ∀ w, InThings w v len T → Hid (Calls Try.prog 21 #[v, .int .i64 40] w (Few w m T)) := fun w h => Lib.hid (by rw [← hm]; exact few_any h)
  have a0 : Below w.heap.size w (w.alloc (.cells #[.slice none 0 0, .int .i64 0] 44)) := (Below.refl _ _).alloc (Nat.le_refl _) _
  have HFF := HF _ (h.below a0)
  have hw0 := heap_alloc_new w (.cells #[.slice none 0 0, .int .i64 0] 44)
  have s0 : w.heap.size < (w.alloc (.cells #[.slice none 0 0, .int .i64 0] 44)).heap.size := by simp only [World.size_alloc]; omega
  clear hwf HF h hm
  go_enter Try.func5, Try.ntmps5
  go_wp2_with fail
  generalize w.alloc (.cells #[.slice none 0 0, .int .i64 0] 44) = W0 at *
  refine HFF.out.mono ?_
  rintro e w1 ⟨g, cap, rfl, hg, hc1, hc2, o1, b1⟩
  have hbg : w.heap.size < g := Nat.lt_of_lt_of_le s0 hg
  have hw1 := (b1.block _ s0).trans hw0
  have k1 : WriterAt (g + 1) w.heap.size [] 0 w1 := ⟨none, 0, hw1, World.ownsRow_nil _ _ _ _, by simp [Value.ownBlock]⟩
  have b2 := below_past a0 b1 (Nat.le_of_lt s0)
  clear HFF a0 hw0 s0 hg b1 hw1
  generalize hbb : w.heap.size = b at *
  have HB := Lib.hid hbb
  clear hbb
  go_wp2_with fail
  go_loopw [4, 5, 14] (fun s f x wr => ∃ i : Nat, i ≤ m ∧ x = .int .i64 i ∧ Hid (s = .string (txt (wantW T i))) ∧ Hid (f = .int .i64 (stW T i).2) ∧ Hid ((wantW T i).length ≤ 200000) ∧ Hid (WriterAt (g + 1) b (stW T i).1 (stW T i).2 wr) ∧ OwnThings wr g m T ∧ Below b w wr) (fun _ _ x _ => (m - intOf x).toNat)
  case atStart => exact ⟨0, Nat.zero_le _, rfl, Lib.hid rfl, Lib.hid rfl, Lib.hid (Nat.zero_le _), Lib.hid k1, o1, b2⟩
  case round =>
    obtain ⟨i, hi, rfl, HX, HE, HL, HK, o0, b0⟩ := hrel
    clear k1 o1 b2
    by_cases hlt : i < m
    · have hlt' : (i : Int) < m := by omega
      obtain ⟨cur, hcur, hcs, hce⟩ := o0
      have hci := hce i hlt
      have hcz : i * 35 + 35 ≤ cur.size := by omega
      have OT0 : OwnThings wr g m T := ⟨cur, hcur, hcs, hce⟩
      have hwf := HWF.out i hlt
      have HSS : Hid (stW T (i + 1) = stepW (stW T i) (T i)) := Lib.hid rfl
      have HWW : Hid (wantW T (i + 1) = wantW T i ++ wEnc (T i)) := Lib.hid rfl
      have hle0 := wEnc_le (T i) hwf
      obtain ⟨t, hT⟩ : ∃ t, T i = t := ⟨_, rfl⟩
      rw [hT] at hci hwf hle0
      have HT := Lib.hid hT
      have a1 : Below wr.heap.size wr (wr.alloc (.cells (cellsT t) 47)) := (Below.refl _ _).alloc (Nat.le_refl _) _
      have r1 := heap_alloc_new wr (.cells (cellsT t) 47)
      have hgl : g < wr.heap.size := lt_of_rowAt hcur
      have K1 := Lib.hid (HK.out.below a1)
      have OT := Lib.hid (OT0.row (rowAt_below a1 hgl))
      have b5 := below_past b0 a1 (Nat.le_of_lt (Nat.lt_trans hbg hgl))
      have hs5 : g + 1 ≤ (wr.alloc (.cells (cellsT t) 47)).heap.size := by simp only [World.size_alloc]; omega
      have hbh : wr.heap.size ≠ b := Nat.ne_of_gt (Nat.lt_trans hbg hgl)
      have R1 := Lib.hid r1
      obtain ⟨W, hW⟩ : ∃ W, wantW T i = W := ⟨_, rfl⟩
      obtain ⟨E, hE⟩ : ∃ E, (stW T i).2 = E := ⟨_, rfl⟩
      obtain ⟨Bs, hBs⟩ : ∃ Bs, (stW T i).1 = Bs := ⟨_, rfl⟩
      have hst : stW T i = (Bs, E) := by rw [← hBs, ← hE]
      rw [hst] at HSS
      have hx := HX.out
      have he := HE.out
      rw [hW] at hx HWW
      rw [hE] at he
      rw [hE, hBs] at K1
      have zW : (txt W).size ≤ 200000 := by rw [txt_size, ← hW]; exact HL.out
      have HZ : Hid (W.length ≤ 200000) := Lib.hid (by rw [← hW]; exact HL.out)
      subst hx
      subst he
      clear hT hce OT0 HK a1 b0 hW hE hBs hst HX HE HL r1
      have hbig0 : Hid ((wantW T (i + 1)).length = W.length + (wEnc t).length) := Lib.hid (by rw [HWW.out, HT.out, List.length_append])
      have hn63 := (wf_i64 hwf.2.1).2
      have HN63 := Lib.hid hn63
      clear hn63 hwf
      by_cases h1 : t.k = 1
      · have h1' : (t.k == 1) = true := by simpa using h1
        by_cases hn : t.n < 0
        · have hn' : decide (t.n < 0) = true := decide_eq_true hn
          have HWE : Hid (numWE E t.n = if E = 0 then 1 else E) := Lib.hid (by exact if_pos hn)
          have HSS2 : Hid (stW T (i + 1) = (numW Bs E t.n, numWE E t.n)) := Lib.hid (by rw [HSS.out, HT.out, stepW]; rw [if_pos h1]; all_goals first | exact if_pos hn | rfl)
          have HC1 : wEnc t = [] := by rw [wEnc]; rw [if_pos h1]; all_goals first | exact if_pos hn | rfl
          have HWW2 : Hid (wantW T (i + 1) = W) := Lib.hid (by rw [HWW.out, HT.out, HC1, List.append_nil])
          obtain ⟨N, hN⟩ : ∃ N, W.length = N := ⟨_, rfl⟩
          have zc : (txt W).size = N := by rw [txt_size, hN]
          have hb1 : decide (200000 < (N : Int)) = false := decide_eq_false (by have := HZ.out; omega)
          have hb2 : Hid ((wantW T (i + 1)).length ≤ 200000) := Lib.hid (by rw [HWW2.out]; exact HZ.out)
          clear HSS HWW HC1 hle0 zW hN h1
          by_cases hE0 : E = 0
          · subst hE0
            go_wp2_with fail
            refine (WNumber_all _ _ _ _ _ _ K1.out (by have := HN63.out; omega) hs5).mono ?_
            rintro e w2 ⟨rfl, k2, n2⟩
            have o2 := OT.out.row (n2.row (Nat.lt_succ_self g) (Nat.ne_of_gt hbg))
            have b6 := b5.trans (n2.below (Nat.le_succ_of_le (Nat.le_of_lt hbg)) (Nat.le_refl _))
            have r2 := (Near.keep n2 R1.out (by decide) hbh).trans (rowAt_of_heap R1.out)
            have d0 := (cell_of_rowAt r2 1).trans (get_cellsT1 t)
            have d1 := (cell_of_rowAt r2 2).trans (get_cellsT2 t)
            have s6 : b ≤ w2.heap.size := Nat.le_trans (Nat.le_trans (Nat.le_of_lt hbg) (Nat.le_succ g)) (Nat.le_trans hs5 n2.size)
            have hgl2 : g < w2.heap.size := Nat.lt_of_lt_of_le (Nat.lt_of_succ_le hs5) n2.size
            have k3 := Lib.hid k2
            clear k2 n2 b5 K1 OT R1
            go_wp2_with fail
            exact ⟨⟨i + 1, hlt, by go_num, Lib.hid (by rw [HWW2.out]), Lib.hid (by rw [HSS2.out]; all_goals exact congrArg (Value.int .i64) HWE.out.symm), hb2, Lib.hid (by rw [HSS2.out]; exact k3.out), o2, b6⟩, by simp [intOf]; omega⟩
          · have hq : (E == 0) = false := by simpa using hE0
            have HE0 := Lib.hid hE0
            clear hE0
            go_wp2_with fail
            refine (WNumber_all _ _ _ _ _ _ K1.out (by have := HN63.out; omega) hs5).mono ?_
            rintro e w2 ⟨rfl, k2, n2⟩
            have o2 := OT.out.row (n2.row (Nat.lt_succ_self g) (Nat.ne_of_gt hbg))
            have b6 := b5.trans (n2.below (Nat.le_succ_of_le (Nat.le_of_lt hbg)) (Nat.le_refl _))
            have r2 := (Near.keep n2 R1.out (by decide) hbh).trans (rowAt_of_heap R1.out)
            have d0 := (cell_of_rowAt r2 1).trans (get_cellsT1 t)
            have d1 := (cell_of_rowAt r2 2).trans (get_cellsT2 t)
            have s6 : b ≤ w2.heap.size := Nat.le_trans (Nat.le_trans (Nat.le_of_lt hbg) (Nat.le_succ g)) (Nat.le_trans hs5 n2.size)
            have hgl2 : g < w2.heap.size := Nat.lt_of_lt_of_le (Nat.lt_of_succ_le hs5) n2.size
            have k3 := Lib.hid k2
            clear k2 n2 b5 K1 OT R1
            go_wp2_with fail
            exact ⟨⟨i + 1, hlt, by go_num, Lib.hid (by rw [HWW2.out]), Lib.hid (by rw [HSS2.out]; exact congrArg (Value.int .i64) (HWE.out.trans (if_neg HE0.out)).symm), hb2, Lib.hid (by rw [HSS2.out]; exact k3.out), o2, b6⟩, by simp [intOf]; omega⟩
        · have hn' : decide (t.n < 0) = false := decide_eq_false hn
          have hn0 : 0 ≤ t.n := by omega
          have HWE : Hid (numWE E t.n = E) := Lib.hid (by exact if_neg hn)
          have HSS2 : Hid (stW T (i + 1) = (numW Bs E t.n, numWE E t.n)) := Lib.hid (by rw [HSS.out, HT.out, stepW]; rw [if_pos h1]; all_goals first | exact if_neg hn | rfl)
          have HC1 : wEnc t = numBytes t.n.toNat := by rw [wEnc]; rw [if_pos h1]; all_goals first | exact if_neg hn | rfl
          have HWW2 : Hid (wantW T (i + 1) = W ++ (numBytes t.n.toNat)) := Lib.hid (by rw [HWW.out, HT.out, HC1])
          have HCAT : Hid (txt W ++ txt (numBytes t.n.toNat) = txt (wantW T (i + 1))) := Lib.hid (by rw [HWW2.out, txt_append])
          obtain ⟨N, hN⟩ : ∃ N, (wantW T (i + 1)).length = N := ⟨_, rfl⟩
          have zc : (txt W ++ txt (numBytes t.n.toNat)).size = N := by rw [HCAT.out, txt_size, hN]
          have zd : (txt (numBytes t.n.toNat)).size ≤ 65600 := by rw [txt_size, ← HC1]; exact hle0
          have hNl : (N : Int) ≤ 300000 := by have := hbig0.out; have := HZ.out; omega
          have HREF := Lib.hid (fun w => r2Number_int t.n w hn0 (by have := HN63.out; omega))
          clear HSS HWW HC1 hle0 h1 hn
          generalize txt (numBytes t.n.toNat) = C at *
          by_cases hE0 : E = 0
          · subst hE0
            by_cases hbig : 200000 < N
            · have hb1 : decide (200000 < (N : Int)) = true := decide_eq_true (by omega)
              clear hbig hN
              go_wp2_with fail
              refine (WNumber_all _ _ _ _ _ _ K1.out (by have := HN63.out; omega) hs5).mono ?_
              rintro e w2 ⟨rfl, k2, n2⟩
              have o2 := OT.out.row (n2.row (Nat.lt_succ_self g) (Nat.ne_of_gt hbg))
              have b6 := b5.trans (n2.below (Nat.le_succ_of_le (Nat.le_of_lt hbg)) (Nat.le_refl _))
              have r2 := (Near.keep n2 R1.out (by decide) hbh).trans (rowAt_of_heap R1.out)
              have d0 := (cell_of_rowAt r2 1).trans (get_cellsT1 t)
              have d1 := (cell_of_rowAt r2 2).trans (get_cellsT2 t)
              have s6 : b ≤ w2.heap.size := Nat.le_trans (Nat.le_trans (Nat.le_of_lt hbg) (Nat.le_succ g)) (Nat.le_trans hs5 n2.size)
              have hgl2 : g < w2.heap.size := Nat.lt_of_lt_of_le (Nat.lt_of_succ_le hs5) n2.size
              have k3 := Lib.hid k2
              clear k2 n2 b5 K1 OT R1
              go_wp2_with fail
              refine (HREF.out _).mono ?_
              rintro e w3 ⟨rfl, b7⟩
              have k4 := Lib.hid (k3.out.below b7)
              have o3 := o2.row (rowAt_below b7 hgl2)
              have b8 := below_past b6 b7 s6
              have s7 := Nat.le_trans s6 b7.size
              clear d0 d1 r2 b6 b7 o2 k3 hgl2 s6
              go_wp2_with fail
              refine (awake2 _).mono ?_
              rintro e w4 ⟨rfl, b9⟩
              have b10 := below_past b8 b9 s7
              clear b8 b9 k4 o3
              go_wp2_with fail
              go_ret
              exact ⟨rfl, by rw [HB.out]; exact b10⟩
            · have hb1 : decide (200000 < (N : Int)) = false := decide_eq_false (by omega)
              have hb2 : Hid ((wantW T (i + 1)).length ≤ 200000) := Lib.hid (by omega)
              clear hbig hN
              go_wp2_with fail
              refine (WNumber_all _ _ _ _ _ _ K1.out (by have := HN63.out; omega) hs5).mono ?_
              rintro e w2 ⟨rfl, k2, n2⟩
              have o2 := OT.out.row (n2.row (Nat.lt_succ_self g) (Nat.ne_of_gt hbg))
              have b6 := b5.trans (n2.below (Nat.le_succ_of_le (Nat.le_of_lt hbg)) (Nat.le_refl _))
              have r2 := (Near.keep n2 R1.out (by decide) hbh).trans (rowAt_of_heap R1.out)
              have d0 := (cell_of_rowAt r2 1).trans (get_cellsT1 t)
              have d1 := (cell_of_rowAt r2 2).trans (get_cellsT2 t)
              have s6 : b ≤ w2.heap.size := Nat.le_trans (Nat.le_trans (Nat.le_of_lt hbg) (Nat.le_succ g)) (Nat.le_trans hs5 n2.size)
              have hgl2 : g < w2.heap.size := Nat.lt_of_lt_of_le (Nat.lt_of_succ_le hs5) n2.size
              have k3 := Lib.hid k2
              clear k2 n2 b5 K1 OT R1
              go_wp2_with fail
              refine (HREF.out _).mono ?_
              rintro e w3 ⟨rfl, b7⟩
              have k4 := Lib.hid (k3.out.below b7)
              have o3 := o2.row (rowAt_below b7 hgl2)
              have b8 := below_past b6 b7 s6
              have s7 := Nat.le_trans s6 b7.size
              clear d0 d1 r2 b6 b7 o2 k3 hgl2 s6
              go_wp2_with fail
              exact ⟨⟨i + 1, hlt, by go_num, Lib.hid (by rw [HCAT.out]), Lib.hid (by rw [HSS2.out]; all_goals exact congrArg (Value.int .i64) HWE.out.symm), hb2, Lib.hid (by rw [HSS2.out]; exact k4.out), o3, b8⟩, by simp [intOf]; omega⟩
          · have hq : (E == 0) = false := by simpa using hE0
            by_cases hbig : 200000 < N
            · have hb1 : decide (200000 < (N : Int)) = true := decide_eq_true (by omega)
              clear hbig hN hE0
              go_wp2_with fail
              refine (WNumber_all _ _ _ _ _ _ K1.out (by have := HN63.out; omega) hs5).mono ?_
              rintro e w2 ⟨rfl, k2, n2⟩
              have o2 := OT.out.row (n2.row (Nat.lt_succ_self g) (Nat.ne_of_gt hbg))
              have b6 := b5.trans (n2.below (Nat.le_succ_of_le (Nat.le_of_lt hbg)) (Nat.le_refl _))
              have r2 := (Near.keep n2 R1.out (by decide) hbh).trans (rowAt_of_heap R1.out)
              have d0 := (cell_of_rowAt r2 1).trans (get_cellsT1 t)
              have d1 := (cell_of_rowAt r2 2).trans (get_cellsT2 t)
              have s6 : b ≤ w2.heap.size := Nat.le_trans (Nat.le_trans (Nat.le_of_lt hbg) (Nat.le_succ g)) (Nat.le_trans hs5 n2.size)
              have hgl2 : g < w2.heap.size := Nat.lt_of_lt_of_le (Nat.lt_of_succ_le hs5) n2.size
              have k3 := Lib.hid k2
              clear k2 n2 b5 K1 OT R1
              go_wp2_with fail
              refine (HREF.out _).mono ?_
              rintro e w3 ⟨rfl, b7⟩
              have k4 := Lib.hid (k3.out.below b7)
              have o3 := o2.row (rowAt_below b7 hgl2)
              have b8 := below_past b6 b7 s6
              have s7 := Nat.le_trans s6 b7.size
              clear d0 d1 r2 b6 b7 o2 k3 hgl2 s6
              go_wp2_with fail
              refine (awake2 _).mono ?_
              rintro e w4 ⟨rfl, b9⟩
              have b10 := below_past b8 b9 s7
              clear b8 b9 k4 o3
              go_wp2_with fail
              go_ret
              exact ⟨rfl, by rw [HB.out]; exact b10⟩
            · have hb1 : decide (200000 < (N : Int)) = false := decide_eq_false (by omega)
              have hb2 : Hid ((wantW T (i + 1)).length ≤ 200000) := Lib.hid (by omega)
              clear hbig hN hE0
              go_wp2_with fail
              refine (WNumber_all _ _ _ _ _ _ K1.out (by have := HN63.out; omega) hs5).mono ?_
              rintro e w2 ⟨rfl, k2, n2⟩
              have o2 := OT.out.row (n2.row (Nat.lt_succ_self g) (Nat.ne_of_gt hbg))
              have b6 := b5.trans (n2.below (Nat.le_succ_of_le (Nat.le_of_lt hbg)) (Nat.le_refl _))
              have r2 := (Near.keep n2 R1.out (by decide) hbh).trans (rowAt_of_heap R1.out)
              have d0 := (cell_of_rowAt r2 1).trans (get_cellsT1 t)
              have d1 := (cell_of_rowAt r2 2).trans (get_cellsT2 t)
              have s6 : b ≤ w2.heap.size := Nat.le_trans (Nat.le_trans (Nat.le_of_lt hbg) (Nat.le_succ g)) (Nat.le_trans hs5 n2.size)
              have hgl2 : g < w2.heap.size := Nat.lt_of_lt_of_le (Nat.lt_of_succ_le hs5) n2.size
              have k3 := Lib.hid k2
              clear k2 n2 b5 K1 OT R1
              go_wp2_with fail
              refine (HREF.out _).mono ?_
              rintro e w3 ⟨rfl, b7⟩
              have k4 := Lib.hid (k3.out.below b7)
              have o3 := o2.row (rowAt_below b7 hgl2)
              have b8 := below_past b6 b7 s6
              have s7 := Nat.le_trans s6 b7.size
              clear d0 d1 r2 b6 b7 o2 k3 hgl2 s6
              go_wp2_with fail
              exact ⟨⟨i + 1, hlt, by go_num, Lib.hid (by rw [HCAT.out]), Lib.hid (by rw [HSS2.out]; all_goals exact congrArg (Value.int .i64) HWE.out.symm), hb2, Lib.hid (by rw [HSS2.out]; exact k4.out), o3, b8⟩, by simp [intOf]; omega⟩
      · have h1' : (t.k == 1) = false := by simpa using h1
        by_cases h2 : t.k = 2
        · have h2' : (t.k == 2) = true := by simpa using h2
          by_cases hn : 65536 < t.s.size
          · have hn' : decide (65536 < (t.s.size : Int)) = true := decide_eq_true (by omega)
            have HWE : Hid (textWE E t.s = if E = 0 then 2 else E) := Lib.hid (by exact if_pos hn)
            have HSS2 : Hid (stW T (i + 1) = (textW Bs E t.s, textWE E t.s)) := Lib.hid (by rw [HSS.out, HT.out, stepW]; rw [if_neg h1, if_pos h2]; all_goals first | exact if_pos hn | rfl)
            have HC1 : wEnc t = [] := by rw [wEnc]; rw [if_neg h1, if_pos h2]; all_goals first | exact if_pos hn | rfl
            have HWW2 : Hid (wantW T (i + 1) = W) := Lib.hid (by rw [HWW.out, HT.out, HC1, List.append_nil])
            obtain ⟨N, hN⟩ : ∃ N, W.length = N := ⟨_, rfl⟩
            have zc : (txt W).size = N := by rw [txt_size, hN]
            have hb1 : decide (200000 < (N : Int)) = false := decide_eq_false (by have := HZ.out; omega)
            have hb2 : Hid ((wantW T (i + 1)).length ≤ 200000) := Lib.hid (by rw [HWW2.out]; exact HZ.out)
            clear HSS HWW HC1 hle0 zW hN h1 h2
            by_cases hE0 : E = 0
            · subst hE0
              go_wp2_with fail
              refine (WText_all _ _ _ _ _ _ K1.out hs5).mono ?_
              rintro e w2 ⟨rfl, k2, n2⟩
              have o2 := OT.out.row (n2.row (Nat.lt_succ_self g) (Nat.ne_of_gt hbg))
              have b6 := b5.trans (n2.below (Nat.le_succ_of_le (Nat.le_of_lt hbg)) (Nat.le_refl _))
              have r2 := (Near.keep n2 R1.out (by decide) hbh).trans (rowAt_of_heap R1.out)
              have d0 := (cell_of_rowAt r2 1).trans (get_cellsT1 t)
              have d1 := (cell_of_rowAt r2 2).trans (get_cellsT2 t)
              have s6 : b ≤ w2.heap.size := Nat.le_trans (Nat.le_trans (Nat.le_of_lt hbg) (Nat.le_succ g)) (Nat.le_trans hs5 n2.size)
              have hgl2 : g < w2.heap.size := Nat.lt_of_lt_of_le (Nat.lt_of_succ_le hs5) n2.size
              have k3 := Lib.hid k2
              clear k2 n2 b5 K1 OT R1
              go_wp2_with fail
              exact ⟨⟨i + 1, hlt, by go_num, Lib.hid (by rw [HWW2.out]), Lib.hid (by rw [HSS2.out]; all_goals exact congrArg (Value.int .i64) HWE.out.symm), hb2, Lib.hid (by rw [HSS2.out]; exact k3.out), o2, b6⟩, by simp [intOf]; omega⟩
            · have hq : (E == 0) = false := by simpa using hE0
              have HE0 := Lib.hid hE0
              clear hE0
              go_wp2_with fail
              refine (WText_all _ _ _ _ _ _ K1.out hs5).mono ?_
              rintro e w2 ⟨rfl, k2, n2⟩
              have o2 := OT.out.row (n2.row (Nat.lt_succ_self g) (Nat.ne_of_gt hbg))
              have b6 := b5.trans (n2.below (Nat.le_succ_of_le (Nat.le_of_lt hbg)) (Nat.le_refl _))
              have r2 := (Near.keep n2 R1.out (by decide) hbh).trans (rowAt_of_heap R1.out)
              have d0 := (cell_of_rowAt r2 1).trans (get_cellsT1 t)
              have d1 := (cell_of_rowAt r2 2).trans (get_cellsT2 t)
              have s6 : b ≤ w2.heap.size := Nat.le_trans (Nat.le_trans (Nat.le_of_lt hbg) (Nat.le_succ g)) (Nat.le_trans hs5 n2.size)
              have hgl2 : g < w2.heap.size := Nat.lt_of_lt_of_le (Nat.lt_of_succ_le hs5) n2.size
              have k3 := Lib.hid k2
              clear k2 n2 b5 K1 OT R1
              go_wp2_with fail
              exact ⟨⟨i + 1, hlt, by go_num, Lib.hid (by rw [HWW2.out]), Lib.hid (by rw [HSS2.out]; exact congrArg (Value.int .i64) (HWE.out.trans (if_neg HE0.out)).symm), hb2, Lib.hid (by rw [HSS2.out]; exact k3.out), o2, b6⟩, by simp [intOf]; omega⟩
          · have hn' : decide (65536 < (t.s.size : Int)) = false := decide_eq_false (by omega)
            have hn2 : t.s.size ≤ 65536 := by omega
            have HN2 := Lib.hid hn2
            clear hn2
            have HWE : Hid (textWE E t.s = E) := Lib.hid (by exact if_neg hn)
            have HSS2 : Hid (stW T (i + 1) = (textW Bs E t.s, textWE E t.s)) := Lib.hid (by rw [HSS.out, HT.out, stepW]; rw [if_neg h1, if_pos h2]; all_goals first | exact if_neg hn | rfl)
            have HC1 : wEnc t = numBytes t.s.size ++ t.s.data.toList := by rw [wEnc]; rw [if_neg h1, if_pos h2]; all_goals first | exact if_neg hn | rfl
            have HWW2 : Hid (wantW T (i + 1) = W ++ (numBytes t.s.size ++ t.s.data.toList)) := Lib.hid (by rw [HWW.out, HT.out, HC1])
            have HCAT : Hid (txt W ++ txt (numBytes t.s.size ++ t.s.data.toList) = txt (wantW T (i + 1))) := Lib.hid (by rw [HWW2.out, txt_append])
            obtain ⟨N, hN⟩ : ∃ N, (wantW T (i + 1)).length = N := ⟨_, rfl⟩
            have zc : (txt W ++ txt (numBytes t.s.size ++ t.s.data.toList)).size = N := by rw [HCAT.out, txt_size, hN]
            have zd : (txt (numBytes t.s.size ++ t.s.data.toList)).size ≤ 65600 := by rw [txt_size, ← HC1]; exact hle0
            have hNl : (N : Int) ≤ 300000 := by have := hbig0.out; have := HZ.out; omega
            have HREF := Lib.hid (fun w => r2Text_any t.s w HN2.out)
            clear HSS HWW HC1 hle0 h1 h2 hn
            generalize txt (numBytes t.s.size ++ t.s.data.toList) = C at *
            by_cases hE0 : E = 0
            · subst hE0
              by_cases hbig : 200000 < N
              · have hb1 : decide (200000 < (N : Int)) = true := decide_eq_true (by omega)
                clear hbig hN
                go_wp2_with fail
                refine (WText_all _ _ _ _ _ _ K1.out hs5).mono ?_
                rintro e w2 ⟨rfl, k2, n2⟩
                have o2 := OT.out.row (n2.row (Nat.lt_succ_self g) (Nat.ne_of_gt hbg))
                have b6 := b5.trans (n2.below (Nat.le_succ_of_le (Nat.le_of_lt hbg)) (Nat.le_refl _))
                have r2 := (Near.keep n2 R1.out (by decide) hbh).trans (rowAt_of_heap R1.out)
                have d0 := (cell_of_rowAt r2 1).trans (get_cellsT1 t)
                have d1 := (cell_of_rowAt r2 2).trans (get_cellsT2 t)
                have s6 : b ≤ w2.heap.size := Nat.le_trans (Nat.le_trans (Nat.le_of_lt hbg) (Nat.le_succ g)) (Nat.le_trans hs5 n2.size)
                have hgl2 : g < w2.heap.size := Nat.lt_of_lt_of_le (Nat.lt_of_succ_le hs5) n2.size
                have k3 := Lib.hid k2
                clear k2 n2 b5 K1 OT R1
                go_wp2_with fail
                refine (HREF.out _).mono ?_
                rintro e w3 ⟨rfl, b7⟩
                have k4 := Lib.hid (k3.out.below b7)
                have o3 := o2.row (rowAt_below b7 hgl2)
                have b8 := below_past b6 b7 s6
                have s7 := Nat.le_trans s6 b7.size
                clear d0 d1 r2 b6 b7 o2 k3 hgl2 s6
                go_wp2_with fail
                refine (awake2 _).mono ?_
                rintro e w4 ⟨rfl, b9⟩
                have b10 := below_past b8 b9 s7
                clear b8 b9 k4 o3
                go_wp2_with fail
                go_ret
                exact ⟨rfl, by rw [HB.out]; exact b10⟩
              · have hb1 : decide (200000 < (N : Int)) = false := decide_eq_false (by omega)
                have hb2 : Hid ((wantW T (i + 1)).length ≤ 200000) := Lib.hid (by omega)
                clear hbig hN
                go_wp2_with fail
                refine (WText_all _ _ _ _ _ _ K1.out hs5).mono ?_
                rintro e w2 ⟨rfl, k2, n2⟩
                have o2 := OT.out.row (n2.row (Nat.lt_succ_self g) (Nat.ne_of_gt hbg))
                have b6 := b5.trans (n2.below (Nat.le_succ_of_le (Nat.le_of_lt hbg)) (Nat.le_refl _))
                have r2 := (Near.keep n2 R1.out (by decide) hbh).trans (rowAt_of_heap R1.out)
                have d0 := (cell_of_rowAt r2 1).trans (get_cellsT1 t)
                have d1 := (cell_of_rowAt r2 2).trans (get_cellsT2 t)
                have s6 : b ≤ w2.heap.size := Nat.le_trans (Nat.le_trans (Nat.le_of_lt hbg) (Nat.le_succ g)) (Nat.le_trans hs5 n2.size)
                have hgl2 : g < w2.heap.size := Nat.lt_of_lt_of_le (Nat.lt_of_succ_le hs5) n2.size
                have k3 := Lib.hid k2
                clear k2 n2 b5 K1 OT R1
                go_wp2_with fail
                refine (HREF.out _).mono ?_
                rintro e w3 ⟨rfl, b7⟩
                have k4 := Lib.hid (k3.out.below b7)
                have o3 := o2.row (rowAt_below b7 hgl2)
                have b8 := below_past b6 b7 s6
                have s7 := Nat.le_trans s6 b7.size
                clear d0 d1 r2 b6 b7 o2 k3 hgl2 s6
                go_wp2_with fail
                exact ⟨⟨i + 1, hlt, by go_num, Lib.hid (by rw [HCAT.out]), Lib.hid (by rw [HSS2.out]; all_goals exact congrArg (Value.int .i64) HWE.out.symm), hb2, Lib.hid (by rw [HSS2.out]; exact k4.out), o3, b8⟩, by simp [intOf]; omega⟩
            · have hq : (E == 0) = false := by simpa using hE0
              by_cases hbig : 200000 < N
              · have hb1 : decide (200000 < (N : Int)) = true := decide_eq_true (by omega)
                clear hbig hN hE0
                go_wp2_with fail
                refine (WText_all _ _ _ _ _ _ K1.out hs5).mono ?_
                rintro e w2 ⟨rfl, k2, n2⟩
                have o2 := OT.out.row (n2.row (Nat.lt_succ_self g) (Nat.ne_of_gt hbg))
                have b6 := b5.trans (n2.below (Nat.le_succ_of_le (Nat.le_of_lt hbg)) (Nat.le_refl _))
                have r2 := (Near.keep n2 R1.out (by decide) hbh).trans (rowAt_of_heap R1.out)
                have d0 := (cell_of_rowAt r2 1).trans (get_cellsT1 t)
                have d1 := (cell_of_rowAt r2 2).trans (get_cellsT2 t)
                have s6 : b ≤ w2.heap.size := Nat.le_trans (Nat.le_trans (Nat.le_of_lt hbg) (Nat.le_succ g)) (Nat.le_trans hs5 n2.size)
                have hgl2 : g < w2.heap.size := Nat.lt_of_lt_of_le (Nat.lt_of_succ_le hs5) n2.size
                have k3 := Lib.hid k2
                clear k2 n2 b5 K1 OT R1
                go_wp2_with fail
                refine (HREF.out _).mono ?_
                rintro e w3 ⟨rfl, b7⟩
                have k4 := Lib.hid (k3.out.below b7)
                have o3 := o2.row (rowAt_below b7 hgl2)
                have b8 := below_past b6 b7 s6
                have s7 := Nat.le_trans s6 b7.size
                clear d0 d1 r2 b6 b7 o2 k3 hgl2 s6
                go_wp2_with fail
                refine (awake2 _).mono ?_
                rintro e w4 ⟨rfl, b9⟩
                have b10 := below_past b8 b9 s7
                clear b8 b9 k4 o3
                go_wp2_with fail
                go_ret
                exact ⟨rfl, by rw [HB.out]; exact b10⟩
              · have hb1 : decide (200000 < (N : Int)) = false := decide_eq_false (by omega)
                have hb2 : Hid ((wantW T (i + 1)).length ≤ 200000) := Lib.hid (by omega)
                clear hbig hN hE0
                go_wp2_with fail
                refine (WText_all _ _ _ _ _ _ K1.out hs5).mono ?_
                rintro e w2 ⟨rfl, k2, n2⟩
                have o2 := OT.out.row (n2.row (Nat.lt_succ_self g) (Nat.ne_of_gt hbg))
                have b6 := b5.trans (n2.below (Nat.le_succ_of_le (Nat.le_of_lt hbg)) (Nat.le_refl _))
                have r2 := (Near.keep n2 R1.out (by decide) hbh).trans (rowAt_of_heap R1.out)
                have d0 := (cell_of_rowAt r2 1).trans (get_cellsT1 t)
                have d1 := (cell_of_rowAt r2 2).trans (get_cellsT2 t)
                have s6 : b ≤ w2.heap.size := Nat.le_trans (Nat.le_trans (Nat.le_of_lt hbg) (Nat.le_succ g)) (Nat.le_trans hs5 n2.size)
                have hgl2 : g < w2.heap.size := Nat.lt_of_lt_of_le (Nat.lt_of_succ_le hs5) n2.size
                have k3 := Lib.hid k2
                clear k2 n2 b5 K1 OT R1
                go_wp2_with fail
                refine (HREF.out _).mono ?_
                rintro e w3 ⟨rfl, b7⟩
                have k4 := Lib.hid (k3.out.below b7)
                have o3 := o2.row (rowAt_below b7 hgl2)
                have b8 := below_past b6 b7 s6
                have s7 := Nat.le_trans s6 b7.size
                clear d0 d1 r2 b6 b7 o2 k3 hgl2 s6
                go_wp2_with fail
                exact ⟨⟨i + 1, hlt, by go_num, Lib.hid (by rw [HCAT.out]), Lib.hid (by rw [HSS2.out]; all_goals exact congrArg (Value.int .i64) HWE.out.symm), hb2, Lib.hid (by rw [HSS2.out]; exact k4.out), o3, b8⟩, by simp [intOf]; omega⟩
        · have h2' : (t.k == 2) = false := by simpa using h2
          by_cases h3 : t.k = 3
          · have h3' : (t.k == 3) = true := by simpa using h3
            have HWE : Hid (E = E) := Lib.hid (by rfl)
            have HSS2 : Hid (stW T (i + 1) = (added Bs E t.l.l, E)) := Lib.hid (by rw [HSS.out, HT.out, stepW]; rw [if_neg h1, if_neg h2, if_pos h3])
            have HC1 : wEnc t = t.l.l := by rw [wEnc]; rw [if_neg h1, if_neg h2, if_pos h3]
            have HWW2 : Hid (wantW T (i + 1) = W ++ (t.l.l)) := Lib.hid (by rw [HWW.out, HT.out, HC1])
            have HCAT : Hid (txt W ++ txt (t.l.l) = txt (wantW T (i + 1))) := Lib.hid (by rw [HWW2.out, txt_append])
            obtain ⟨N, hN⟩ : ∃ N, (wantW T (i + 1)).length = N := ⟨_, rfl⟩
            have zc : (txt W ++ txt (t.l.l)).size = N := by rw [HCAT.out, txt_size, hN]
            have zd : (txt (t.l.l)).size ≤ 65600 := by rw [txt_size, ← HC1]; exact hle0
            have hNl : (N : Int) ≤ 300000 := by have := hbig0.out; have := HZ.out; omega
            have HREF := Lib.hid (fun w => r2Label_any t.l w)
            clear HSS HWW HC1 hle0 h1 h2 h3
            generalize txt (t.l.l) = C at *
            by_cases hE0 : E = 0
            · subst hE0
              by_cases hbig : 200000 < N
              · have hb1 : decide (200000 < (N : Int)) = true := decide_eq_true (by omega)
                clear hbig hN
                go_wp2_with fail
                refine (Label_any _ _ _ _ _ _ K1.out hs5).mono ?_
                rintro e w2 ⟨rfl, k2, n2⟩
                have o2 := OT.out.row (n2.row (Nat.lt_succ_self g) (Nat.ne_of_gt hbg))
                have b6 := b5.trans (n2.below (Nat.le_succ_of_le (Nat.le_of_lt hbg)) (Nat.le_refl _))
                have r2 := (Near.keep n2 R1.out (by decide) hbh).trans (rowAt_of_heap R1.out)
                have d0 := (cell_of_rowAt r2 1).trans (get_cellsT1 t)
                have d1 := (cell_of_rowAt r2 2).trans (get_cellsT2 t)
                have s6 : b ≤ w2.heap.size := Nat.le_trans (Nat.le_trans (Nat.le_of_lt hbg) (Nat.le_succ g)) (Nat.le_trans hs5 n2.size)
                have hgl2 : g < w2.heap.size := Nat.lt_of_lt_of_le (Nat.lt_of_succ_le hs5) n2.size
                have k3 := Lib.hid k2
                clear k2 n2 b5 K1 OT R1
                go_wp2_with fail
                refine (HREF.out _).mono ?_
                rintro e w3 ⟨rfl, b7⟩
                have k4 := Lib.hid (k3.out.below b7)
                have o3 := o2.row (rowAt_below b7 hgl2)
                have b8 := below_past b6 b7 s6
                have s7 := Nat.le_trans s6 b7.size
                clear d0 d1 r2 b6 b7 o2 k3 hgl2 s6
                go_wp2_with fail
                refine (awake2 _).mono ?_
                rintro e w4 ⟨rfl, b9⟩
                have b10 := below_past b8 b9 s7
                clear b8 b9 k4 o3
                go_wp2_with fail
                go_ret
                exact ⟨rfl, by rw [HB.out]; exact b10⟩
              · have hb1 : decide (200000 < (N : Int)) = false := decide_eq_false (by omega)
                have hb2 : Hid ((wantW T (i + 1)).length ≤ 200000) := Lib.hid (by omega)
                clear hbig hN
                go_wp2_with fail
                refine (Label_any _ _ _ _ _ _ K1.out hs5).mono ?_
                rintro e w2 ⟨rfl, k2, n2⟩
                have o2 := OT.out.row (n2.row (Nat.lt_succ_self g) (Nat.ne_of_gt hbg))
                have b6 := b5.trans (n2.below (Nat.le_succ_of_le (Nat.le_of_lt hbg)) (Nat.le_refl _))
                have r2 := (Near.keep n2 R1.out (by decide) hbh).trans (rowAt_of_heap R1.out)
                have d0 := (cell_of_rowAt r2 1).trans (get_cellsT1 t)
                have d1 := (cell_of_rowAt r2 2).trans (get_cellsT2 t)
                have s6 : b ≤ w2.heap.size := Nat.le_trans (Nat.le_trans (Nat.le_of_lt hbg) (Nat.le_succ g)) (Nat.le_trans hs5 n2.size)
                have hgl2 : g < w2.heap.size := Nat.lt_of_lt_of_le (Nat.lt_of_succ_le hs5) n2.size
                have k3 := Lib.hid k2
                clear k2 n2 b5 K1 OT R1
                go_wp2_with fail
                refine (HREF.out _).mono ?_
                rintro e w3 ⟨rfl, b7⟩
                have k4 := Lib.hid (k3.out.below b7)
                have o3 := o2.row (rowAt_below b7 hgl2)
                have b8 := below_past b6 b7 s6
                have s7 := Nat.le_trans s6 b7.size
                clear d0 d1 r2 b6 b7 o2 k3 hgl2 s6
                go_wp2_with fail
                exact ⟨⟨i + 1, hlt, by go_num, Lib.hid (by rw [HCAT.out]), Lib.hid (by rw [HSS2.out]; all_goals exact congrArg (Value.int .i64) HWE.out.symm), hb2, Lib.hid (by rw [HSS2.out]; exact k4.out), o3, b8⟩, by simp [intOf]; omega⟩
            · have hq : (E == 0) = false := by simpa using hE0
              by_cases hbig : 200000 < N
              · have hb1 : decide (200000 < (N : Int)) = true := decide_eq_true (by omega)
                clear hbig hN hE0
                go_wp2_with fail
                refine (Label_any _ _ _ _ _ _ K1.out hs5).mono ?_
                rintro e w2 ⟨rfl, k2, n2⟩
                have o2 := OT.out.row (n2.row (Nat.lt_succ_self g) (Nat.ne_of_gt hbg))
                have b6 := b5.trans (n2.below (Nat.le_succ_of_le (Nat.le_of_lt hbg)) (Nat.le_refl _))
                have r2 := (Near.keep n2 R1.out (by decide) hbh).trans (rowAt_of_heap R1.out)
                have d0 := (cell_of_rowAt r2 1).trans (get_cellsT1 t)
                have d1 := (cell_of_rowAt r2 2).trans (get_cellsT2 t)
                have s6 : b ≤ w2.heap.size := Nat.le_trans (Nat.le_trans (Nat.le_of_lt hbg) (Nat.le_succ g)) (Nat.le_trans hs5 n2.size)
                have hgl2 : g < w2.heap.size := Nat.lt_of_lt_of_le (Nat.lt_of_succ_le hs5) n2.size
                have k3 := Lib.hid k2
                clear k2 n2 b5 K1 OT R1
                go_wp2_with fail
                refine (HREF.out _).mono ?_
                rintro e w3 ⟨rfl, b7⟩
                have k4 := Lib.hid (k3.out.below b7)
                have o3 := o2.row (rowAt_below b7 hgl2)
                have b8 := below_past b6 b7 s6
                have s7 := Nat.le_trans s6 b7.size
                clear d0 d1 r2 b6 b7 o2 k3 hgl2 s6
                go_wp2_with fail
                refine (awake2 _).mono ?_
                rintro e w4 ⟨rfl, b9⟩
                have b10 := below_past b8 b9 s7
                clear b8 b9 k4 o3
                go_wp2_with fail
                go_ret
                exact ⟨rfl, by rw [HB.out]; exact b10⟩
              · have hb1 : decide (200000 < (N : Int)) = false := decide_eq_false (by omega)
                have hb2 : Hid ((wantW T (i + 1)).length ≤ 200000) := Lib.hid (by omega)
                clear hbig hN hE0
                go_wp2_with fail
                refine (Label_any _ _ _ _ _ _ K1.out hs5).mono ?_
                rintro e w2 ⟨rfl, k2, n2⟩
                have o2 := OT.out.row (n2.row (Nat.lt_succ_self g) (Nat.ne_of_gt hbg))
                have b6 := b5.trans (n2.below (Nat.le_succ_of_le (Nat.le_of_lt hbg)) (Nat.le_refl _))
                have r2 := (Near.keep n2 R1.out (by decide) hbh).trans (rowAt_of_heap R1.out)
                have d0 := (cell_of_rowAt r2 1).trans (get_cellsT1 t)
                have d1 := (cell_of_rowAt r2 2).trans (get_cellsT2 t)
                have s6 : b ≤ w2.heap.size := Nat.le_trans (Nat.le_trans (Nat.le_of_lt hbg) (Nat.le_succ g)) (Nat.le_trans hs5 n2.size)
                have hgl2 : g < w2.heap.size := Nat.lt_of_lt_of_le (Nat.lt_of_succ_le hs5) n2.size
                have k3 := Lib.hid k2
                clear k2 n2 b5 K1 OT R1
                go_wp2_with fail
                refine (HREF.out _).mono ?_
                rintro e w3 ⟨rfl, b7⟩
                have k4 := Lib.hid (k3.out.below b7)
                have o3 := o2.row (rowAt_below b7 hgl2)
                have b8 := below_past b6 b7 s6
                have s7 := Nat.le_trans s6 b7.size
                clear d0 d1 r2 b6 b7 o2 k3 hgl2 s6
                go_wp2_with fail
                exact ⟨⟨i + 1, hlt, by go_num, Lib.hid (by rw [HCAT.out]), Lib.hid (by rw [HSS2.out]; all_goals exact congrArg (Value.int .i64) HWE.out.symm), hb2, Lib.hid (by rw [HSS2.out]; exact k4.out), o3, b8⟩, by simp [intOf]; omega⟩
          · have h3' : (t.k == 3) = false := by simpa using h3
            by_cases h4 : t.k = 4
            · have h4' : (t.k == 4) = true := by simpa using h4
              have HWE : Hid (E = E) := Lib.hid (by rfl)
              have HSS2 : Hid (stW T (i + 1) = (added Bs E [if flagB t.n then 1 else 0], E)) := Lib.hid (by rw [HSS.out, HT.out, stepW]; rw [if_neg h1, if_neg h2, if_neg h3, if_pos h4])
              have HC1 : wEnc t = [if flagB t.n then (1 : UInt8) else 0] := by rw [wEnc]; rw [if_neg h1, if_neg h2, if_neg h3, if_pos h4]
              have HWW2 : Hid (wantW T (i + 1) = W ++ ([if flagB t.n then (1 : UInt8) else 0])) := Lib.hid (by rw [HWW.out, HT.out, HC1])
              have HCAT : Hid (txt W ++ txt ([if flagB t.n then (1 : UInt8) else 0]) = txt (wantW T (i + 1))) := Lib.hid (by rw [HWW2.out, txt_append])
              obtain ⟨N, hN⟩ : ∃ N, (wantW T (i + 1)).length = N := ⟨_, rfl⟩
              have zc : (txt W ++ txt ([if flagB t.n then (1 : UInt8) else 0])).size = N := by rw [HCAT.out, txt_size, hN]
              have zd : (txt ([if flagB t.n then (1 : UInt8) else 0])).size ≤ 65600 := by rw [txt_size, ← HC1]; exact hle0
              have hNl : (N : Int) ≤ 300000 := by have := hbig0.out; have := HZ.out; omega
              have HREF := Lib.hid (fun w => r2Flag_any (flagB t.n) w)
              clear HSS HWW HC1 hle0 h1 h2 h3 h4
              generalize txt ([if flagB t.n then (1 : UInt8) else 0]) = C at *
              by_cases hE0 : E = 0
              · subst hE0
                by_cases hbig : 200000 < N
                · have hb1 : decide (200000 < (N : Int)) = true := decide_eq_true (by omega)
                  clear hbig hN
                  go_wp2_with fail
                  refine (Flag_any _ _ _ _ _ _ K1.out hs5).mono ?_
                  rintro e w2 ⟨rfl, k2, n2⟩
                  have o2 := OT.out.row (n2.row (Nat.lt_succ_self g) (Nat.ne_of_gt hbg))
                  have b6 := b5.trans (n2.below (Nat.le_succ_of_le (Nat.le_of_lt hbg)) (Nat.le_refl _))
                  have r2 := (Near.keep n2 R1.out (by decide) hbh).trans (rowAt_of_heap R1.out)
                  have d0 := (cell_of_rowAt r2 1).trans (get_cellsT1 t)
                  have d1 := (cell_of_rowAt r2 2).trans (get_cellsT2 t)
                  have s6 : b ≤ w2.heap.size := Nat.le_trans (Nat.le_trans (Nat.le_of_lt hbg) (Nat.le_succ g)) (Nat.le_trans hs5 n2.size)
                  have hgl2 : g < w2.heap.size := Nat.lt_of_lt_of_le (Nat.lt_of_succ_le hs5) n2.size
                  have k3 := Lib.hid k2
                  clear k2 n2 b5 K1 OT R1
                  go_wp2_with fail
                  refine (HREF.out _).mono ?_
                  rintro e w3 ⟨rfl, b7⟩
                  have k4 := Lib.hid (k3.out.below b7)
                  have o3 := o2.row (rowAt_below b7 hgl2)
                  have b8 := below_past b6 b7 s6
                  have s7 := Nat.le_trans s6 b7.size
                  clear d0 d1 r2 b6 b7 o2 k3 hgl2 s6
                  go_wp2_with fail
                  refine (awake2 _).mono ?_
                  rintro e w4 ⟨rfl, b9⟩
                  have b10 := below_past b8 b9 s7
                  clear b8 b9 k4 o3
                  go_wp2_with fail
                  go_ret
                  exact ⟨rfl, by rw [HB.out]; exact b10⟩
                · have hb1 : decide (200000 < (N : Int)) = false := decide_eq_false (by omega)
                  have hb2 : Hid ((wantW T (i + 1)).length ≤ 200000) := Lib.hid (by omega)
                  clear hbig hN
                  go_wp2_with fail
                  refine (Flag_any _ _ _ _ _ _ K1.out hs5).mono ?_
                  rintro e w2 ⟨rfl, k2, n2⟩
                  have o2 := OT.out.row (n2.row (Nat.lt_succ_self g) (Nat.ne_of_gt hbg))
                  have b6 := b5.trans (n2.below (Nat.le_succ_of_le (Nat.le_of_lt hbg)) (Nat.le_refl _))
                  have r2 := (Near.keep n2 R1.out (by decide) hbh).trans (rowAt_of_heap R1.out)
                  have d0 := (cell_of_rowAt r2 1).trans (get_cellsT1 t)
                  have d1 := (cell_of_rowAt r2 2).trans (get_cellsT2 t)
                  have s6 : b ≤ w2.heap.size := Nat.le_trans (Nat.le_trans (Nat.le_of_lt hbg) (Nat.le_succ g)) (Nat.le_trans hs5 n2.size)
                  have hgl2 : g < w2.heap.size := Nat.lt_of_lt_of_le (Nat.lt_of_succ_le hs5) n2.size
                  have k3 := Lib.hid k2
                  clear k2 n2 b5 K1 OT R1
                  go_wp2_with fail
                  refine (HREF.out _).mono ?_
                  rintro e w3 ⟨rfl, b7⟩
                  have k4 := Lib.hid (k3.out.below b7)
                  have o3 := o2.row (rowAt_below b7 hgl2)
                  have b8 := below_past b6 b7 s6
                  have s7 := Nat.le_trans s6 b7.size
                  clear d0 d1 r2 b6 b7 o2 k3 hgl2 s6
                  go_wp2_with fail
                  exact ⟨⟨i + 1, hlt, by go_num, Lib.hid (by rw [HCAT.out]), Lib.hid (by rw [HSS2.out]; all_goals exact congrArg (Value.int .i64) HWE.out.symm), hb2, Lib.hid (by rw [HSS2.out]; exact k4.out), o3, b8⟩, by simp [intOf]; omega⟩
              · have hq : (E == 0) = false := by simpa using hE0
                by_cases hbig : 200000 < N
                · have hb1 : decide (200000 < (N : Int)) = true := decide_eq_true (by omega)
                  clear hbig hN hE0
                  go_wp2_with fail
                  refine (Flag_any _ _ _ _ _ _ K1.out hs5).mono ?_
                  rintro e w2 ⟨rfl, k2, n2⟩
                  have o2 := OT.out.row (n2.row (Nat.lt_succ_self g) (Nat.ne_of_gt hbg))
                  have b6 := b5.trans (n2.below (Nat.le_succ_of_le (Nat.le_of_lt hbg)) (Nat.le_refl _))
                  have r2 := (Near.keep n2 R1.out (by decide) hbh).trans (rowAt_of_heap R1.out)
                  have d0 := (cell_of_rowAt r2 1).trans (get_cellsT1 t)
                  have d1 := (cell_of_rowAt r2 2).trans (get_cellsT2 t)
                  have s6 : b ≤ w2.heap.size := Nat.le_trans (Nat.le_trans (Nat.le_of_lt hbg) (Nat.le_succ g)) (Nat.le_trans hs5 n2.size)
                  have hgl2 : g < w2.heap.size := Nat.lt_of_lt_of_le (Nat.lt_of_succ_le hs5) n2.size
                  have k3 := Lib.hid k2
                  clear k2 n2 b5 K1 OT R1
                  go_wp2_with fail
                  refine (HREF.out _).mono ?_
                  rintro e w3 ⟨rfl, b7⟩
                  have k4 := Lib.hid (k3.out.below b7)
                  have o3 := o2.row (rowAt_below b7 hgl2)
                  have b8 := below_past b6 b7 s6
                  have s7 := Nat.le_trans s6 b7.size
                  clear d0 d1 r2 b6 b7 o2 k3 hgl2 s6
                  go_wp2_with fail
                  refine (awake2 _).mono ?_
                  rintro e w4 ⟨rfl, b9⟩
                  have b10 := below_past b8 b9 s7
                  clear b8 b9 k4 o3
                  go_wp2_with fail
                  go_ret
                  exact ⟨rfl, by rw [HB.out]; exact b10⟩
                · have hb1 : decide (200000 < (N : Int)) = false := decide_eq_false (by omega)
                  have hb2 : Hid ((wantW T (i + 1)).length ≤ 200000) := Lib.hid (by omega)
                  clear hbig hN hE0
                  go_wp2_with fail
                  refine (Flag_any _ _ _ _ _ _ K1.out hs5).mono ?_
                  rintro e w2 ⟨rfl, k2, n2⟩
                  have o2 := OT.out.row (n2.row (Nat.lt_succ_self g) (Nat.ne_of_gt hbg))
                  have b6 := b5.trans (n2.below (Nat.le_succ_of_le (Nat.le_of_lt hbg)) (Nat.le_refl _))
                  have r2 := (Near.keep n2 R1.out (by decide) hbh).trans (rowAt_of_heap R1.out)
                  have d0 := (cell_of_rowAt r2 1).trans (get_cellsT1 t)
                  have d1 := (cell_of_rowAt r2 2).trans (get_cellsT2 t)
                  have s6 : b ≤ w2.heap.size := Nat.le_trans (Nat.le_trans (Nat.le_of_lt hbg) (Nat.le_succ g)) (Nat.le_trans hs5 n2.size)
                  have hgl2 : g < w2.heap.size := Nat.lt_of_lt_of_le (Nat.lt_of_succ_le hs5) n2.size
                  have k3 := Lib.hid k2
                  clear k2 n2 b5 K1 OT R1
                  go_wp2_with fail
                  refine (HREF.out _).mono ?_
                  rintro e w3 ⟨rfl, b7⟩
                  have k4 := Lib.hid (k3.out.below b7)
                  have o3 := o2.row (rowAt_below b7 hgl2)
                  have b8 := below_past b6 b7 s6
                  have s7 := Nat.le_trans s6 b7.size
                  clear d0 d1 r2 b6 b7 o2 k3 hgl2 s6
                  go_wp2_with fail
                  exact ⟨⟨i + 1, hlt, by go_num, Lib.hid (by rw [HCAT.out]), Lib.hid (by rw [HSS2.out]; all_goals exact congrArg (Value.int .i64) HWE.out.symm), hb2, Lib.hid (by rw [HSS2.out]; exact k4.out), o3, b8⟩, by simp [intOf]; omega⟩
            · have h4' : (t.k == 4) = false := by simpa using h4
              have HSS2 : Hid (stW T (i + 1) = (Bs, E)) := Lib.hid (by rw [HSS.out, HT.out, stepW, if_neg h1, if_neg h2, if_neg h3, if_neg h4])
              have HWW2 : Hid (wantW T (i + 1) = W) := Lib.hid (by rw [HWW.out, HT.out, wEnc, if_neg h1, if_neg h2, if_neg h3, if_neg h4, List.append_nil])
              obtain ⟨N, hN⟩ : ∃ N, W.length = N := ⟨_, rfl⟩
              have zc : (txt W).size = N := by rw [txt_size, hN]
              have hb1 : decide (200000 < (N : Int)) = false := decide_eq_false (by have := HZ.out; omega)
              have hb2 : Hid ((wantW T (i + 1)).length ≤ 200000) := Lib.hid (by rw [HWW2.out]; exact HZ.out)
              clear HSS HWW hle0 zW hN h1 h2 h3 h4
              by_cases hE0 : E = 0
              · subst hE0
                go_wp2_with fail
                exact ⟨⟨i + 1, hlt, by go_num, Lib.hid (by rw [HWW2.out]), Lib.hid (by rw [HSS2.out]), hb2, Lib.hid (by rw [HSS2.out]; exact K1.out), OT.out, b5⟩, by simp [intOf]; omega⟩
              · have hq : (E == 0) = false := by simpa using hE0
                clear hE0
                go_wp2_with fail
                exact ⟨⟨i + 1, hlt, by go_num, Lib.hid (by rw [HWW2.out]), Lib.hid (by rw [HSS2.out]), hb2, Lib.hid (by rw [HSS2.out]; exact K1.out), OT.out, b5⟩, by simp [intOf]; omega⟩
    · obtain rfl : i = m := by omega
      have KD := Lib.hid (WDone_all _ _ _ _ _ HK.out)
      have hgl : g < wr.heap.size := by
        obtain ⟨cur, hcur, _⟩ := o0
        exact lt_of_rowAt hcur
      have hs4 : b ≤ wr.heap.size := Nat.le_of_lt (Nat.lt_trans hbg hgl)
      have hal := alike_all T i
      obtain ⟨W, hW⟩ : ∃ W, wantW T i = W := ⟨_, rfl⟩
      obtain ⟨E, hE⟩ : ∃ E, (stW T i).2 = E := ⟨_, rfl⟩
      obtain ⟨Bs, hBs⟩ : ∃ Bs, (stW T i).1 = Bs := ⟨_, rfl⟩
      have hx := HX.out
      have he := HE.out
      have hwl := HL.out
      rw [hW] at hx hal hwl
      rw [hE] at he hal
      rw [hBs] at hal
      rw [hE, hBs] at KD
      obtain ⟨N, hN⟩ : ∃ N, W.length = N := ⟨_, rfl⟩
      have zc : (txt W).size = N := by rw [txt_size, hN]
      subst hx
      subst he
      clear hW hE hBs HX HE HL HK o0
      by_cases hE0 : E = 0
      · subst hE0
        obtain ⟨al1, al2⟩ := hal rfl
        rw [hN] at al1 al2
        by_cases hlong : 65536 < N
        · have hl1 : decide (65536 < (N : Int)) = true := decide_eq_true (by omega)
          have hd : doneE Bs 0 = 2 := by rw [doneE, if_neg (by decide), if_pos (al2 hlong)]
          rw [doneE_err (by rw [hd]; decide), hd] at KD
          clear hal al1 al2 hlong hd hN hwl
          go_wp2_with fail
          refine KD.out.mono ?_
          rintro e w3 ⟨rfl, c1⟩
          have b3 := below_past b0 c1 hs4
          have s3 := Nat.le_trans hs4 c1.size
          clear KD b0 c1
          go_wp2_with fail
          refine (awake2 _).mono ?_
          rintro e w4 ⟨rfl, c1⟩
          have b4 := below_past b3 c1 s3
          clear b3 c1 s3
          go_wp2_with fail
          go_ret
          exact ⟨rfl, by rw [HB.out]; exact b4⟩
        · have hl1 : decide (65536 < (N : Int)) = false := decide_eq_false (by omega)
          have hbw := al1 (by omega)
          subst hbw
          have hd : doneE Bs 0 = 0 := by rw [doneE, if_neg (by decide), if_neg (by omega)]
          rw [(doneE_zero hd).2.2, hd] at KD
          clear hal al1 al2 hlong hd hN hwl
          go_wp2_with fail
          refine KD.out.mono ?_
          rintro e w3 ⟨rfl, c1⟩
          have b3 := below_past b0 c1 hs4
          have s3 := Nat.le_trans hs4 c1.size
          clear KD b0 c1
          go_wp2_with fail
          refine (awake2 _).mono ?_
          rintro e w4 ⟨rfl, c1⟩
          have b4 := below_past b3 c1 s3
          clear b3 c1 s3
          go_wp2_with fail
          go_ret
          exact ⟨rfl, by rw [HB.out]; exact b4⟩
      · have hq : (E == 0) = false := by simpa using hE0
        have hq2 : (E != 0) = true := by simpa using hE0
        have hd : doneE Bs E = E := if_pos hE0
        rw [doneE_err (by rw [hd]; exact hE0), hd] at KD
        clear hal hE0 hd hN hwl
        go_wp2_with fail
        refine KD.out.mono ?_
        rintro e w3 ⟨rfl, c1⟩
        have b3 := below_past b0 c1 hs4
        have s3 := Nat.le_trans hs4 c1.size
        clear KD b0 c1
        go_wp2_with fail
        refine (awake2 _).mono ?_
        rintro e w4 ⟨rfl, c1⟩
        have b4 := below_past b3 c1 s3
        clear b3 c1 s3
        go_wp2_with fail
        go_ret
        exact ⟨rfl, by rw [HB.out]; exact b4⟩

set_option maxRecDepth 100000 in
theorem lifted (os : Os) (started : os.Started) (H : Type) (enc : TypeId × Value → H) :
    ReturnsInHanded {} Try.checked os 5 .any (Rows.codeWritesSpec.pre6 enc Try.prog Try.f5 Rows.codeWritesRow.domain false) (Rows.codeWritesSpec.post enc Try.prog Try.f5 false true false false) := by
  refine returnsInHanded_of_change (C := Try.checked) own started (by kernel_rfl) Try.func5
    (ChangeSpec.witness6 (enc := enc) (C := Try.checked) false ⟨#[], #[.slice none 0 0], []⟩ 8 (by kernel_rfl) (by kernel_rfl) (by kernel_rfl) (by kernel_rfl)) ?_
  intro W base args ds gs before hval0 hW _ _
  have hval : ∀ (j : Nat) t v, Try.f5.params[j]? = some t → args[j]? = some v → Value.okWide Try.prog W .any base t v := hval0
  clear hval0
  have hW' := hW
  obtain ⟨p, q, hA0, hV, rfl, hfz, hnd⟩ := hW
  have hA : DataW.TrodAll enc Try.prog W 0 (fun _ => true) true Try.f5.params.toList args.toList ds p := hA0
  rw [Try.params5] at hA hval
  clear hA0 hfz hnd hV
  have hr : Readable Try.f5.params.toList := by
    rw [Try.params5]
    exact readable_of_all (by kernel_rfl)
  have fin : ∀ W', Below W.heap.size W W' → Rows.codeWritesSpec.post enc Try.prog Try.f5 false true false false W args (.bool true) W' := fun W' hb =>
    law_post rfl hW' hr (fun l hl => by
      rw [Try.params5] at hl
      match l, hl with
      | [d1], _ => rfl) (by kernel_rfl) hb
  clear hW' hr
  obtain ⟨v0, d0, rfl, rfl, h0⟩ := trodAll_one hA; obtain ⟨len, T, hin, hwf⟩ := in_things (hval 0 41 v0 rfl rfl) h0
  exact (walk v0 len T W hin hwf).mono fun e W' ⟨he, hb⟩ => ⟨_, he, fin W' hb⟩
theorem proved : Rows.CodeWritesSaid :=
  OpenClaim.holds_of_wide 5 Try.f5 rfl rfl rfl rfl rfl rfl rfl ⟨rfl, rfl, rfl, rfl, rfl⟩ rfl rfl rfl rfl rfl (by kernel_rfl) Try.func5 (by kernel_rfl)
    (of_decide_eq_true (by kernel_rfl)) (by unfold Func.isWrapper; first | (rw [if_pos (by decide +kernel)]; kernel_rfl) | (rw [if_neg (by decide +kernel)]; exact ⟨rfl, rfl⟩))
    (fun os started H enc _ => lifted os started H enc)
end Go.Proofs.Ytojmpbbagfgleaa.writes
