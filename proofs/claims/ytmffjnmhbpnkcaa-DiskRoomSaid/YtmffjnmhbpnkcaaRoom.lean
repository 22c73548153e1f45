/- For every room and every list of texts the law DiskRoom returns true. Conditions: none. -/
import Derived.Test.YtmffjnmhbpnkcaaDiskLaw
import Derived.Test.YtmffjnmhbpnkcaaRow
import Derived.ChangeMaps5
namespace Go.Proofs.Ytmffjnmhbpnkcaa.room
open Go Go.ChangeShapes Go.WideShapes Go.ChangeAt Go.ChangeMaps Go.RowKit Go.Proofs.Ytmffjnmhbpnkcaa
attribute [local go_sem] Oper.semAt_some

def nF : List UInt8 := [102]
def nG : List UInt8 := [103]
/-- A disk that has a file, or none. -/
structure Few (room used : Nat) (d : DDisk) : Prop where
  room_ : d.room = room
  fuse : d.fuse = -1
  dead : d.dead = false
  used_ : dUsed d.files = used
  files : d.files = [] ∨ ∃ l, d.files = [⟨nF, l, 0⟩]
theorem few_deed {r u : Nat} {d : DDisk} (h : Few r u d) : deedE d = 0 ∧ deedD d = d := by
  have h1 : ¬ d.fuse = 0 := by rw [h.fuse]; decide
  have h2 : ¬ 0 < d.fuse := by rw [h.fuse]; decide
  exact ⟨if_neg h1, by unfold deedD; rw [if_neg h1, if_neg h2]⟩
theorem few_len {r u : Nat} {d : DDisk} (h : Few r u d) : d.files.length ≤ 1 := by
  rcases h.files with e | ⟨l, e⟩ <;> rw [e] <;> simp
/-- Just what fits is taken. -/
theorem few_app {r u : Nat} {d : DDisk} (h : Few r u d) (m : List UInt8) (hu : u ≤ r) : (m.length ≤ r - u → aE d nF m = 0 ∧ Few r (u + m.length) (aD d nF m)) ∧ (¬ m.length ≤ r - u → aE d nF m = 9 ∧ aD d nF m = d) := by
  have hl := few_len h
  have hb : aBad d nF m = if m.length ≤ r - u then 0 else 9 := by
    unfold aBad
    rw [h.dead, if_neg Bool.false_ne_true, if_neg (fun h => h (by decide)), h.room_, h.used_]
    by_cases hm : m.length ≤ r - u
    · rw [if_pos hm, if_neg (by omega), if_neg (by omega)]
    · rw [if_neg hm, if_pos (by omega)]
  unfold aE aD
  rw [hb]
  constructor
  · intro hm
    rw [if_pos hm, if_pos rfl, if_pos rfl]
    have hp : Few r (u + m.length) (aPut d nF m) := by
      refine ⟨h.room_, h.fuse, h.dead, ?_, .inr ?_⟩
      · rcases h.files with e | ⟨l, e⟩
        · have h0 := h.used_
          unfold aPut
          rw [e] at h0 ⊢
          simp [dPut, dBytes, dFind, dUsed] at *
          omega
        · have h0 := h.used_
          have e2 : (aPut d nF m).files = [⟨nF, l ++ m, 0⟩] := by
            show dPut ⟨nF, dBytes d.files nF ++ m, dSure d.files nF⟩ d.files = _
            rw [e]
            rfl
          rw [e] at h0
          rw [e2]
          simp [dUsed] at *
          omega
      · rcases h.files with e | ⟨l, e⟩
        · refine ⟨m, ?_⟩
          show dPut ⟨nF, dBytes d.files nF ++ m, dSure d.files nF⟩ d.files = _
          rw [e]
          rfl
        · refine ⟨l ++ m, ?_⟩
          show dPut ⟨nF, dBytes d.files nF ++ m, dSure d.files nF⟩ d.files = _
          rw [e]
          rfl
    have e := few_deed hp
    rw [e.2]
    exact ⟨(few_deed h).1, hp⟩
  · intro hm
    rw [if_neg hm, if_neg (by decide), if_neg (by decide)]
    exact ⟨rfl, rfl⟩
/-- The file goes. -/
theorem few_rm {r u : Nat} {d : DDisk} (h : Few r u d) : (sE d nF = 0 ∨ sE d nF = 7 ∧ u = 0) ∧ Few r 0 (rmD d nF) ∧ (rmD d nF).files = [] := by
  have e := few_deed h
  rcases h.files with f | ⟨l, f⟩
  · have hf : findE d nF = 7 := by
      unfold findE
      rw [h.dead, f]
      rfl
    have hu := h.used_
    rw [f] at hu
    have hu0 : u = 0 := hu.symm
    unfold sE rmD
    rw [hf, if_neg (by decide), if_neg (by decide)]
    subst hu0
    exact ⟨.inr ⟨rfl, rfl⟩, h, f⟩
  · have hf : findE d nF = 0 := by
      unfold findE
      rw [h.dead, f]
      rfl
    unfold sE rmD
    rw [if_pos hf, if_pos hf, if_pos e.1, e.2, e.1]
    have hd : dDrop d.files nF = [] := by rw [f]; rfl
    rw [hd]
    exact ⟨.inl rfl, ⟨h.room_, h.fuse, h.dead, rfl, .inl rfl⟩, rfl⟩
theorem few_g {r : Nat} {d : DDisk} (h : Few r 0 d) (hf : d.files = []) (m : List UInt8) (hm : m.length = r) : aE d nG m = 0 := by
  have hb : aBad d nG m = 0 := by
    unfold aBad
    rw [h.dead, if_neg Bool.false_ne_true, if_neg (fun h => h (by decide)), h.room_, h.used_, if_neg (by omega), hf, if_neg (by simp)]
  unfold aE
  rw [if_pos hb]
  exact (few_deed h).1
set_option maxRecDepth 100000 in
theorem walk_no (n : Int) (mv : Value) (w : World) (h : n < 0 ∨ 3000 < n) : Calls Try.prog 5 #[.int .i64 n, mv] w fun e w' => e = .returned (.bool true) ∧ Below w.heap.size w w' := by
  have HA := Lib.hid (awake5 w)
  by_cases h1 : n < 0
  · have h1' : decide (n < 0) = true := decide_eq_true h1
    clear h h1
    go_enter Try.func5, Try.ntmps5
    go_wp2_with fail
    refine HA.out.mono ?_
    rintro e w1 ⟨rfl, b1⟩
    go_wp2_with fail
    go_ret
    exact ⟨rfl, b1⟩
  · have h1' : decide (n < 0) = false := decide_eq_false h1
    have h2' : decide (3000 < n) = true := decide_eq_true (by omega)
    clear h h1
    go_enter Try.func5, Try.ntmps5
    go_wp2_with fail
    refine HA.out.mono ?_
    rintro e w1 ⟨rfl, b1⟩
    go_wp2_with fail
    go_ret
    exact ⟨rfl, b1⟩
set_option maxRecDepth 100000 in
theorem run_mk (r : Nat) (hr : r ≤ 3000) (w : World) : (Instr.makeSlice 55 (.int .i64 r) (.int .i64 r)).run Try.prog w = .ok (.slice (some ⟨w.heap.size, 0, none⟩) r r) (w.alloc (.cells (madeCells #[.int .u8 0] r) 5)) := by
  obtain ⟨i0, hi, hz0, hz1, hz2⟩ := info_u8
  have := run_makeSlice (P := Try.prog) w 55 5 i0 (.int .u8 0) Try.underlying55 hi hz0 .i64 .i64 r r (by omega) (by omega) (by rw [hz1]; omega) (by rw [hz2]; omega) (by omega)
  rw [hz1, Nat.mul_one, Int.toNat_natCast] at this
  exact this
def zs (r : Nat) : List UInt8 := List.replicate r 0
set_option maxRecDepth 100000 in
theorem run_cv (r : Nat) (w : World) : (convert 55 9 (.slice (some ⟨w.heap.size, 0, none⟩) r r)).run Try.prog (w.alloc (.cells (madeCells #[.int .u8 0] r) 5)) = .ok (.string (stx (zs r))) (w.alloc (.cells (madeCells #[.int .u8 0] r) 5)) := by
  have hl : (zs r).length = r := by simp [zs]
  have := run_convert_bytes_back (P := Try.prog) (w.alloc (.cells (madeCells #[.int .u8 0] r) 5)) 55 9 5 ⟨w.heap.size, 0, none⟩ r (zs r) Try.underlying55 Try.underlying5 Try.underlying9 fun j hj => by
    rw [show (⟨w.heap.size, 0, none⟩ : Addr).add j = ⟨w.heap.size, j, none⟩ by simp [Addr.add]; exact fun e => e.symm, Lib.cell_of_heap (heap_alloc_new w _) j, ← Array.getElem?_toList, toList_madeCells_one, List.getElem?_replicate, if_pos (by rw [← hl]; exact hj)]
    simp [zs]
  rw [hl] at this
  exact this
set_option maxRecDepth 100000 in
set_option maxHeartbeats 4000000 in
theorem walk_yes (r : Nat) (mv : Value) (mlen : Nat) (M : Nat → ByteArray) (w : World) (hM : InStrs w mv mlen M) (hr : r ≤ 3000) : Calls Try.prog 5 #[.int .i64 r, mv] w fun e w' => e = .returned (.bool true) ∧ Below w.heap.size w w' := by
  have h1' : decide ((r : Int) < 0) = false := decide_eq_false (by omega)
  have h2' : decide ((3000 : Int) < r) = false := decide_eq_false (by omega)
  have hri : (r : Int) ≤ 3000 := by omega
  have hr0 : (0 : Int) ≤ r := by omega
  have H0 := Lib.hid (dNew_any r w ⟨by omega, by omega⟩)
  rw [show max (r : Int) 0 = r by omega] at H0
  have HAW : ∀ w, Hid (Calls Try.prog 10 #[] w fun e w' => e = .returned (.bool true) ∧ Below w.heap.size w w') := fun w => Lib.hid (awake5 w)
  have HAPF : ∀ B q d (m : List UInt8), dUsed d.files + m.length ≤ 1000000 → ∀ w, DiskAt B q d w → Hid (Calls Try.prog 20 #[.pointer (some ⟨q, 0, none⟩), .string ⟨#[102]⟩, .string (stx m)] w fun e w' => e = .returned (.int .i64 (aE d nF m)) ∧ DiskAt B q (aD d nF m) w' ∧ Stir B w w') := fun B q d m hd w h => Lib.hid (
    dAppend_any B q d ⟨#[102]⟩ (stx m) w h (by decide) (by rw [stx_size]; omega))
  have HAPG : ∀ B q d, dUsed d.files ≤ 1000000 → ∀ w, DiskAt B q d w → Hid (Calls Try.prog 20 #[.pointer (some ⟨q, 0, none⟩), .string ⟨#[103]⟩, .string (stx (zs r))] w fun e w' => e = .returned (.int .i64 (aE d nG (zs r))) ∧ Below B w w') := fun B q d hd w h => Lib.hid (
    (dAppend_any B q d ⟨#[103]⟩ (stx (zs r)) w h (by decide) (by rw [stx_size]; simp [zs]; omega)).mono fun e w' ⟨h1, _, h2⟩ => ⟨h1, h2.below⟩)
  have HREM : ∀ B q d, ∀ w, DiskAt B q d w → Hid (dUsed d.files ≤ 1000000 → Calls Try.prog 25 #[.pointer (some ⟨q, 0, none⟩), .string ⟨#[102]⟩] w fun e w' => e = .returned (.int .i64 (sE d nF)) ∧ DiskAt B q (rmD d nF) w' ∧ Stir B w w') := fun B q d w h => Lib.hid fun hd => 
    dRemove_any B q d ⟨#[102]⟩ w h (by decide) (by omega)
  have HUSE : ∀ B q d w, DiskAt B q d w → Hid (Calls Try.prog 15 #[.pointer (some ⟨q, 0, none⟩)] w fun e w' => e = .returned (.int .i64 (dUsed d.files)) ∧ w' = w) := fun B q d w h => Lib.hid (dUsed_any B q d w h)
  have hmk := run_mk r hr
  have hcv := run_cv r
  have HMM := Lib.hid hM
  obtain ⟨mao, mcap, rfl, _⟩ := hM
  go_enter Try.func5, Try.ntmps5
  go_wp2_with fail
  refine H0.out.mono ?_
  rintro e w3 ⟨q, rfl, hq, d0, b0⟩
  obtain ⟨B, hB⟩ : ∃ B, w.heap.size = B := ⟨_, rfl⟩
  have HB := Lib.hid hB
  rw [hB] at hq d0 b0
  clear H0 hB
  go_wp2_with fail
  go_loopw [6, 7] (fun x y wr => ∃ (i u : Nat) (d : DDisk), i ≤ mlen ∧ i ≤ 20 ∧ x = .int .i64 u ∧ y = .int .i64 i ∧ u ≤ r ∧ Few r u d ∧ DiskAt B q d wr ∧ Below B w wr) (fun _ y _ => (20 - intOf y).toNat)
  case atStart => exact ⟨0, 0, _, Nat.zero_le _, Nat.zero_le _, rfl, rfl, Nat.zero_le _, ⟨rfl, rfl, rfl, rfl, .inl rfl⟩, d0, b0⟩
  case round =>
    obtain ⟨i, u, d, hi1, hi2, rfl, rfl, hur, FW, DA, BA⟩ := hrel
    clear d0 b0
    have huri : (u : Int) ≤ r := by omega
    by_cases hgo : i < mlen ∧ i < 20
    · as_aux_lemma =>
      obtain ⟨hlt1, hlt2⟩ := hgo
      have g1 : decide (i < mlen) = true := decide_eq_true hlt1
      have g1i : (i : Int) < mlen := by omega
      have g2 : decide (i < 20) = true := decide_eq_true hlt2
      have g2i : (i : Int) < 20 := by omega
      obtain ⟨mao', mcap', hv, hS⟩ := HMM.out
      obtain ⟨ma, hmao, hc⟩ := hS i hlt1
      obtain ⟨rfl, rfl⟩ : mao = mao' ∧ mcap = mcap' := by simpa using hv
      subst hmao
      obtain ⟨m, hm⟩ : ∃ m, (M i).data.toList.take 300 = m := ⟨_, rfl⟩
      have hml : m.length ≤ 300 := by rw [← hm]; exact List.length_take_le _ _
      have HCU : Hid (Calls Try.prog 19 #[.string (M i), .int .i64 300] wr fun e w' => e = .returned (.string (stx m)) ∧ w' = wr) := Lib.hid (by
        have := l3Cut_any (M i) 300 wr (by decide)
        rwa [hm] at this)
      have c0 := (BA.cell (p := ma.add i) (by rw [← HB.out]; exact cellLt hc)).trans hc
      have HX := Lib.hid (HAPF _ _ d m (by rw [FW.used_]; omega) _ DA).out
      have HUSE' := HUSE
      obtain ⟨f1, f2⟩ := few_app FW m hur
      have hms : (stx m).size = m.length := stx_size m
      have FW0 := Lib.hid FW
      clear hv hS hm hc HAPF HAPG HREM hmk hcv HUSE DA FW HAW
      by_cases hfit : m.length ≤ r - u
      · as_aux_lemma =>
        obtain ⟨e1, FW2⟩ := f1 hfit
        rw [e1] at HX
        have q1 : decide ((m.length : Int) ≤ (r : Int) - u) = true := decide_eq_true (by omega)
        have hsum : (u : Int) + m.length ≤ 3000 := by omega
        have hur2 : u + m.length ≤ r := by omega
        clear e1 f1 f2 hfit
        go_wp2_with fail
        refine HCU.out.mono ?_
        rintro e wu ⟨rfl, rfl⟩
        go_wp2_with fail
        refine HX.out.mono ?_
        rintro e w4 ⟨rfl, d4, x4⟩
        have B4 := Lib.hid (BA.trans x4.below)
        have D4 := Lib.hid d4
        have HUS := Lib.hid (HUSE' _ _ _ _ d4).out
        rw [FW2.used_, Int.natCast_add] at HUS
        have FW3 := Lib.hid FW2
        clear HCU HX d4 x4 BA FW2 c0
        go_wp2_with fail
        refine HUS.out.mono ?_
        rintro e w5 ⟨rfl, rfl⟩
        go_wp2_with fail
        exact ⟨⟨i + 1, u + m.length, _, hlt1, hlt2, by go_num, by go_num, hur2, FW3.out, D4.out, B4.out⟩, by simp [intOf]; omega⟩
      · as_aux_lemma =>
        obtain ⟨e1, e2⟩ := f2 hfit
        rw [e1, e2] at HX
        have q1 : decide ((m.length : Int) ≤ (r : Int) - u) = false := decide_eq_false (by omega)
        clear e1 e2 f1 f2 hfit
        have hru : (0 : Int) ≤ (r : Int) - u := by omega
        go_wp2_with fail
        refine HCU.out.mono ?_
        rintro e wu ⟨rfl, rfl⟩
        go_wp2_with fail
        refine HX.out.mono ?_
        rintro e w4 ⟨rfl, d4, x4⟩
        have B4 := Lib.hid (BA.trans x4.below)
        have D4 := Lib.hid d4
        have HUS := Lib.hid (HUSE' _ _ _ _ d4).out
        rw [FW0.out.used_] at HUS
        clear HCU HX d4 x4 BA c0
        go_wp2_with fail
        refine HUS.out.mono ?_
        rintro e w5 ⟨rfl, rfl⟩
        go_wp2_with fail
        exact ⟨⟨i + 1, u, _, hlt1, hlt2, rfl, by go_num, hur, FW0.out, D4.out, B4.out⟩, by simp [intOf]; omega⟩
    · by_cases hg1 : i < mlen
      · as_aux_lemma =>
        have g1' : decide (i < mlen) = true := decide_eq_true hg1
        have g1n : (i : Int) < mlen := by omega
        obtain rfl : i = 20 := by omega
        rw [show ((20 : Nat) : Int) = 20 from rfl]
        clear hgo hg1 hi1 hi2 HAPF
        have HRM := Lib.hid ((HREM _ _ _ _ DA).out (by rw [FW.used_]; omega))
        obtain ⟨m1, m2, m3⟩ := few_rm FW
        obtain ⟨G, hG⟩ : ∃ G, sE d nF = G := ⟨_, rfl⟩
        obtain ⟨d2, hd2⟩ : ∃ d2, rmD d nF = d2 := ⟨_, rfl⟩
        rw [hG, hd2] at HRM
        rw [hG] at m1
        rw [hd2] at m2 m3
        have M2 := Lib.hid m2
        have M3 := Lib.hid m3
        clear hG hd2 m2 m3 DA HREM FW
        go_wp2_with fail
        refine HRM.out.mono ?_
        rintro e w4 ⟨rfl, d4, x4⟩
        have B4 := Lib.hid (BA.trans x4.below)
        have hz : B ≤ w4.heap.size := by have := d4.low; omega
        have HAx := Lib.hid (HAW w4).out
        clear HRM x4 BA
        go_wp2_with fail
        refine HAx.out.mono ?_
        rintro e w5 ⟨rfl, b5⟩
        have B5 := Lib.hid (below_past B4.out b5 hz)
        have D5 := Lib.hid (d4.kept b5)
        have hz5 : B ≤ w5.heap.size := Nat.le_trans hz b5.size
        have hap := few_g M2.out M3.out (zs r) (by simp [zs])
        have hk := (D5.out.kept ((Below.refl _ _).alloc (Nat.le_refl _) (.cells (madeCells #[.int .u8 0] r) 5)))
        have HGA := Lib.hid (HAPG _ _ _ (by rw [M2.out.used_]; omega) _ hk).out
        rw [hap] at HGA
        have HUS := Lib.hid (HUSE _ _ _ _ D5.out).out
        rw [M2.out.used_] at HUS
        have B6 := Lib.hid (below_past B5.out ((Below.refl _ _).alloc (Nat.le_refl _) (.cells (madeCells #[.int .u8 0] r) 5)) hz5)
        clear HAx d4 B4 b5 hap hk HAPG HUSE
        rcases m1 with rfl | ⟨rfl, hu0⟩
        · as_aux_lemma =>
          go_wp2_with fail
          refine HUS.out.mono ?_
          rintro e w6 ⟨rfl, rfl⟩
          go_wp2_with fail
          generalize w6.alloc (.cells (madeCells #[.int .u8 0] r) 5) = W6 at *
          refine HGA.out.mono ?_
          rintro e w7 ⟨rfl, x7⟩
          have bz := B6.out.trans x7
          go_wp2_with fail
          go_ret
          exact ⟨rfl, by rw [HB.out]; exact bz⟩
        · as_aux_lemma =>
          subst hu0
          rw [show ((0 : Nat) : Int) = 0 from rfl] at *
          go_wp2_with fail
          generalize w5.alloc (.cells (madeCells #[.int .u8 0] r) 5) = W6 at *
          refine HGA.out.mono ?_
          rintro e w7 ⟨rfl, x7⟩
          have bz := B6.out.trans x7
          go_wp2_with fail
          go_ret
          exact ⟨rfl, by rw [HB.out]; exact bz⟩
      · as_aux_lemma =>
        obtain rfl : i = mlen := by omega
        have g1' : decide (i < i) = false := decide_eq_false hg1
        clear hgo hg1 hi1 hi2 HAPF
        have HRM := Lib.hid ((HREM _ _ _ _ DA).out (by rw [FW.used_]; omega))
        obtain ⟨m1, m2, m3⟩ := few_rm FW
        obtain ⟨G, hG⟩ : ∃ G, sE d nF = G := ⟨_, rfl⟩
        obtain ⟨d2, hd2⟩ : ∃ d2, rmD d nF = d2 := ⟨_, rfl⟩
        rw [hG, hd2] at HRM
        rw [hG] at m1
        rw [hd2] at m2 m3
        have M2 := Lib.hid m2
        have M3 := Lib.hid m3
        clear hG hd2 m2 m3 DA HREM FW
        go_wp2_with fail
        refine HRM.out.mono ?_
        rintro e w4 ⟨rfl, d4, x4⟩
        have B4 := Lib.hid (BA.trans x4.below)
        have hz : B ≤ w4.heap.size := by have := d4.low; omega
        have HAx := Lib.hid (HAW w4).out
        clear HRM x4 BA
        go_wp2_with fail
        refine HAx.out.mono ?_
        rintro e w5 ⟨rfl, b5⟩
        have B5 := Lib.hid (below_past B4.out b5 hz)
        have D5 := Lib.hid (d4.kept b5)
        have hz5 : B ≤ w5.heap.size := Nat.le_trans hz b5.size
        have hap := few_g M2.out M3.out (zs r) (by simp [zs])
        have hk := (D5.out.kept ((Below.refl _ _).alloc (Nat.le_refl _) (.cells (madeCells #[.int .u8 0] r) 5)))
        have HGA := Lib.hid (HAPG _ _ _ (by rw [M2.out.used_]; omega) _ hk).out
        rw [hap] at HGA
        have HUS := Lib.hid (HUSE _ _ _ _ D5.out).out
        rw [M2.out.used_] at HUS
        have B6 := Lib.hid (below_past B5.out ((Below.refl _ _).alloc (Nat.le_refl _) (.cells (madeCells #[.int .u8 0] r) 5)) hz5)
        clear HAx d4 B4 b5 hap hk HAPG HUSE
        rcases m1 with rfl | ⟨rfl, hu0⟩
        · as_aux_lemma =>
          go_wp2_with fail
          refine HUS.out.mono ?_
          rintro e w6 ⟨rfl, rfl⟩
          go_wp2_with fail
          generalize w6.alloc (.cells (madeCells #[.int .u8 0] r) 5) = W6 at *
          refine HGA.out.mono ?_
          rintro e w7 ⟨rfl, x7⟩
          have bz := B6.out.trans x7
          go_wp2_with fail
          go_ret
          exact ⟨rfl, by rw [HB.out]; exact bz⟩
        · as_aux_lemma =>
          subst hu0
          rw [show ((0 : Nat) : Int) = 0 from rfl] at *
          go_wp2_with fail
          generalize w5.alloc (.cells (madeCells #[.int .u8 0] r) 5) = W6 at *
          refine HGA.out.mono ?_
          rintro e w7 ⟨rfl, x7⟩
          have bz := B6.out.trans x7
          go_wp2_with fail
          go_ret
          exact ⟨rfl, by rw [HB.out]; exact bz⟩
theorem walk (n : Int) (mv : Value) (mlen : Nat) (M : Nat → ByteArray) (w : World) (hM : InStrs w mv mlen M) : Calls Try.prog 5 #[.int .i64 n, mv] w fun e w' => e = .returned (.bool true) ∧ Below w.heap.size w w' := by
  by_cases h : n < 0 ∨ 3000 < n
  · exact walk_no n mv w h
  · obtain ⟨q, rfl⟩ : ∃ q : Nat, n = q := ⟨n.toNat, by omega⟩
    exact walk_yes q mv mlen M w hM (by omega)
set_option maxRecDepth 100000 in
theorem lifted (os : Os) (started : os.Started) (H : Type) (enc : TypeId × Value → H) :
    ReturnsInHanded {} Try.checked os 5 .any (Rows.diskRoomSpec.pre6 enc Try.prog Try.f5 Rows.diskRoomRow.domain false) (Rows.diskRoomSpec.post enc Try.prog Try.f5 false true false false) := by
  refine returnsInHanded_of_change (C := Try.checked) own started (by kernel_rfl) Try.func5
    (ChangeSpec.witness6 (enc := enc) (C := Try.checked) false ⟨#[], #[.int .i64 0, .slice none 0 0], []⟩ 8 (by kernel_rfl) (by kernel_rfl) (by kernel_rfl) (by kernel_rfl)) ?_
  intro W base args ds gs before hval0 hW _ _
  have hval : ∀ (j : Nat) t v, Try.f5.params[j]? = some t → args[j]? = some v → Value.okWide Try.prog W .any base t v := hval0
  clear hval0
  have hW' := hW
  obtain ⟨p, q, hA0, hV, rfl, hfz, hnd⟩ := hW
  have hA : DataW.TrodAll enc Try.prog W 0 (fun _ => true) true Try.f5.params.toList args.toList ds p := hA0
  rw [Try.params5] at hA hval
  clear hA0 hfz hnd hV
  have hr : Readable Try.f5.params.toList := by
    rw [Try.params5]
    exact readable_of_all (by kernel_rfl)
  have fin : ∀ W', Below W.heap.size W W' → Rows.diskRoomSpec.post enc Try.prog Try.f5 false true false false W args (.bool true) W' := fun W' hb =>
    law_post rfl hW' hr (fun l hl => by
      rw [Try.params5] at hl
      match l, hl with
      | [d1, d2], _ => rfl) (by kernel_rfl) hb
  clear hW' hr
  obtain ⟨v0, v1, d0, d1, p0, p1, rfl, rfl, rfl, h0, h1⟩ := trodAll_two hA; obtain ⟨n, rfl, _, _, w0⟩ := open_int Try.underlying3 (hval 0 3 v0 rfl rfl) h0; obtain ⟨l1, S1, hs1⟩ := in_strs Try.underlying35 Try.underlying9 cellsOf_string (hval 1 35 v1 rfl rfl) h1
  exact (walk n v1 l1 S1 W hs1).mono fun e W' ⟨he, hb⟩ => ⟨_, he, fin W' hb⟩
theorem proved : Rows.DiskRoomSaid :=
  OpenClaim.holds_of_wide 5 Try.f5 rfl rfl rfl rfl rfl rfl rfl ⟨rfl, rfl, rfl, rfl, rfl⟩ rfl rfl rfl rfl rfl (by kernel_rfl) Try.func5 (by kernel_rfl)
    (of_decide_eq_true (by kernel_rfl)) (by unfold Func.isWrapper; first | (rw [if_pos (by decide +kernel)]; kernel_rfl) | (rw [if_neg (by decide +kernel)]; exact ⟨rfl, rfl⟩))
    (fun os started H enc _ => lifted os started H enc)
end Go.Proofs.Ytmffjnmhbpnkcaa.room
