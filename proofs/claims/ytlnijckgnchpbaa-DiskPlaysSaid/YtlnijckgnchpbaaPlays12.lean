/- The document's disk crashes. Conditions: none. -/
import Derived.Test.YtlnijckgnchpbaaPlays11
import Derived.Test.YtlnijckgnchpbaaDiskLaw
namespace Go.Proofs.Ytlnijckgnchpbaa
open Go Go.RowKit Go.Maps
attribute [local go_sem] Oper.semAt_some

def crashL (ks : List Int) (fs : List DFile) (i : Nat) : List DFile := (fs.take i).mapIdx fun j f => crashF f (keepAt ks j)
theorem crashL_succ (ks : List Int) (fs : List DFile) (i : Nat) (f : DFile) (h : fs[i]? = some f) : crashL ks fs (i + 1) = crashL ks fs i ++ [crashF f (keepAt ks i)] := by
  have hl := (List.getElem?_eq_some_iff.1 h).1
  unfold crashL
  rw [List.take_add_one, h, Option.toList_some, List.mapIdx_append, List.length_take, Nat.min_eq_left (by omega)]
  simp
theorem crashL_length (ks : List Int) (fs : List DFile) (i : Nat) : (crashL ks fs i).length ≤ i := by
  unfold crashL
  rw [List.length_mapIdx]
  exact List.length_take_le _ _
theorem crashL_all (ks : List Int) (fs : List DFile) : crashTo ks fs fs.length = crashL ks fs fs.length := by
  unfold crashTo crashL
  rw [List.drop_length, List.append_nil]
structure CrAt (C : Nat) (c0 : Array Value) (w0 wr : World) (u : Value) (L : List DFile) : Prop where
  own : OwnFiles wr (C + 2) u L
  r0 : rowAt wr C = some c0
  r1 : rowAt wr (C + 1) = some #[.int .i64 0, .int .i64 0, .bool false, .slice none 0 0]
  b : Below C w0 wr
theorem CrAt.alloc {C : Nat} {c0 : Array Value} {w0 wr : World} {u : Value} {L : List DFile} (h : CrAt C c0 w0 wr u L) (o : Obj) : CrAt C c0 w0 (wr.alloc o) u L :=
  ⟨World.ownsRow.alloc h.own _, (rowAt_alloc_past _ _ _ (lt_of_rowAt h.r0)).trans h.r0, (rowAt_alloc_past _ _ _ (lt_of_rowAt h.r1)).trans h.r1, h.b.alloc (Nat.le_of_lt (lt_of_rowAt h.r0)) o⟩
theorem CrAt.app {C : Nat} {c0 : Array Value} {w0 wr : World} {u : Value} {L : List DFile} (h : CrAt C c0 w0 wr u L) {f : DFile} {w3 : World} {v' : Value} (h1 : w3.ownsRow (C + 2) 37 3 v' (L.length + 1) (fileCells L ++ fileC f)) (hg : wr.grownBy w3 u.ownBlock) : CrAt C c0 w0 w3 v' (L ++ [f]) := by
  have hrow : ∀ k c, k < C + 2 → rowAt wr k = some c → rowAt w3 k = some c := fun k c hk hr => by
    have hkl := lt_of_rowAt hr
    unfold rowAt at hr ⊢
    rw [hg.block k hkl (fun e => by have := (World.ownsRow.lt h.own k e.symm).1; omega)]
    exact hr
  refine ⟨?_, hrow _ _ (by omega) h.r0, hrow _ _ (by omega) h.r1, h.b.grown hg (Nat.le_of_lt (lt_of_rowAt h.r0)) (fun k hk => by have := (World.ownsRow.lt h.own k hk).1; omega)⟩
  unfold OwnFiles
  rw [fileCells_append, fileCells_one, List.length_append]
  exact h1
set_option maxRecDepth 100000 in
set_option maxHeartbeats 4000000 in
theorem r5Crash_any (d : DDisk) (v kv : Value) (ks : List Int) (Bk : Nat) (w : World) (h : RFiles w v d.files) (hl : d.files.length ≤ 1000000) (hu : dUsed d.files ≤ 1000000000) (hsu : ∀ f ∈ d.files, f.sure ≤ f.bytes.length) (hk : OwnInts w Bk kv ks) (hkr : ∀ k ∈ ks, -9223372036854775808 ≤ k ∧ k ≤ 9223372036854775807) (hkl : ks.length ≤ 1000) :
    Calls Try.prog 28 #[.agg (diskC d v), kv] w (R5One (crashD d ks) w) := by
  obtain ⟨i0, ih, hz0, hz1, hz2⟩ := info_rfile
  obtain ⟨⟨ao, cap, rfl, hc⟩, -⟩ := id h
  obtain ⟨room, fuse, dead, fs⟩ := d
  dsimp only at h hl hu hsu hc ⊢
  have HC := Lib.hid hc
  have HSU := Lib.hid hsu
  have HKR := Lib.hid hkr
  unfold crashD
  dsimp only
  rw [crashL_all]
  obtain ⟨n, hn⟩ : ∃ n, fs.length = n := ⟨_, rfl⟩
  have HN := Lib.hid hn
  have HU := Lib.hid hu
  rw [hn] at hl
  rw [hn]
  obtain ⟨ko, kc, rfl⟩ := own_shape hk
  have HK := Lib.hid fun j hj => own_cell hk j hj
  obtain ⟨kl, hkk⟩ : ∃ kl, ks.length = kl := ⟨_, rfl⟩
  have HKL := Lib.hid hkk
  rw [hkk] at hkl
  rw [hkk]
  have hni : (n : Int) ≤ 1000000 := by omega
  have hkli : (kl : Int) ≤ 1000 := by omega
  unfold diskC
  have s0 : CrAt w.heap.size #[.int .i64 room, .int .i64 fuse, .bool dead, .slice ao n cap] w (((w.alloc (.cells #[.int .i64 room, .int .i64 fuse, .bool dead, .slice ao n cap] 27)).alloc (.cells #[.int .i64 0, .int .i64 0, .bool false, .slice none 0 0] 27)).alloc (.cells #[] 37)) (.slice (some ⟨w.heap.size + 2, 0, none⟩) 0 0) [] := by
    refine ⟨⟨rfl, .inr ⟨w.heap.size + 2, 0, #[], rfl, Nat.le_refl _, ?_, Nat.le_refl _, Nat.zero_le _, rfl, rfl⟩⟩, ?_, ?_, ?_⟩
    · have := World.alloc_heap_new ((w.alloc (.cells #[.int .i64 room, .int .i64 fuse, .bool dead, .slice ao n cap] 27)).alloc (.cells #[.int .i64 0, .int .i64 0, .bool false, .slice none 0 0] 27)) (.cells #[] 37)
      rwa [World.size_alloc, World.size_alloc] at this
    · exact (rowAt_alloc_past _ _ _ (by simp only [World.size_alloc]; omega)).trans ((rowAt_alloc_past _ _ _ (by simp only [World.size_alloc]; omega)).trans (rowAt_alloc_at _ _ _ _ rfl))
    · exact (rowAt_alloc_past _ _ _ (by simp only [World.size_alloc]; omega)).trans (rowAt_alloc_at _ _ _ _ (by simp only [World.size_alloc]))
    · exact (((Below.refl _ _).alloc (Nat.le_refl _) _).alloc (by simp only [World.size_alloc]; omega) _).alloc (by simp only [World.size_alloc]; omega) _
  have HLTK : Hid (∀ j g, j < kl → ko = some ⟨g, 0, none⟩ → g < w.heap.size) := Lib.hid fun j g hj hg => by
    obtain ⟨g', e, k1, _⟩ := HK.out j (by rw [HKL.out]; exact hj)
    rw [hg] at e
    have e2 : g = g' := by injection e with t; injection t
    subst e2
    have hj2 : j < ks.length := by rw [HKL.out]; exact hj
    rw [show (intCells ks)[j]? = some (.int .i64 ks[j]) from by simp [intCells, hj2]] at k1
    exact cellLt k1
  clear hc hsu hkr hn hk hkk h hu
  go_enter Try.func28, Try.ntmps28
  go_wp2_with fail
  generalize ((w.alloc (.cells #[.int .i64 room, .int .i64 fuse, .bool dead, .slice ao n cap] 27)).alloc (.cells #[.int .i64 0, .int .i64 0, .bool false, .slice none 0 0] 27)).alloc (.cells #[] 37) = W at *
  have c3 := (cell_of_rowAt s0.r0 3).trans (rfl : _ = some (Value.slice ao n cap))
  go_wp2_with fail
  go_loopw [5, 14] (fun al ix wr => ∃ i : Nat, i ≤ n ∧ ix = .int .i64 i ∧ CrAt w.heap.size #[.int .i64 room, .int .i64 fuse, .bool dead, .slice ao n cap] w wr al (crashL ks fs i)) (fun _ ix _ => (n - intOf ix).toNat)
  case atStart => exact ⟨0, Nat.zero_le _, rfl, s0⟩
  case round =>
    obtain ⟨i, hi, rfl, s1⟩ := hrel
    clear s0 c3
    by_cases hlt : i < n
    · have hlt' : (i : Int) < n := by omega
      obtain ⟨f, hf⟩ : ∃ f, fs[i]? = some f := ⟨_, List.getElem?_eq_getElem (by rw [HN.out]; exact hlt)⟩
      have hcr := crashL_succ ks fs i f hf
      have hsu := HSU.out f (List.mem_of_getElem? hf)
      have hfu : f.bytes.length ≤ 1000000000 := Nat.le_trans (dUsed_mem (List.mem_of_getElem? hf)) HU.out
      have hlen := crashL_length ks fs i
      obtain ⟨g, rfl, k1, k2, k3⟩ := HC.out i f hf
      have c1 := (s1.b.cell (p := ⟨g, i * 3, none⟩) (cellLt k1)).trans k1
      have c2 := (s1.b.cell (p := ⟨g, i * 3 + 1, none⟩) (cellLt k2)).trans k2
      have c3 := (s1.b.cell (p := ⟨g, i * 3 + 2, none⟩) (cellLt k3)).trans k3
      obtain ⟨keep, hkeep⟩ : ∃ keep, keepAt ks i = keep := ⟨_, rfl⟩
      rw [hkeep] at hcr
      obtain ⟨nm, bs, s⟩ := f
      dsimp only at hsu hfu c1 c2 c3
      obtain ⟨c, hc⟩ : ∃ c : Int, (bs.length : Int) - s + 1 = c := ⟨_, rfl⟩
      have hc0 : 0 < c := by omega
      have hcb : c ≤ 1000000001 := by omega
      have hb := tmod_bounds (a := keep) hc0
      have hem := Int.emod_lt_of_pos keep hc0
      have hem0 := Int.emod_nonneg keep (show c ≠ 0 by omega)
      obtain ⟨k, hkk⟩ : ∃ k, crashK ⟨nm, bs, s⟩ keep = k := ⟨_, rfl⟩
      have hke : keep % c = (k : Int) := by
        rw [← hkk]
        unfold crashK
        dsimp only
        rw [hc]
        omega
      obtain ⟨su, hsu'⟩ : ∃ su, s + k = su := ⟨_, rfl⟩
      have hsk : su ≤ bs.length := by omega
      have hski : (su : Int) ≤ bs.length := by omega
      have hsi : (s : Int) + k = su := by omega
      obtain ⟨fb, hfb⟩ : ∃ fb, bs.take su = fb := ⟨_, rfl⟩
      rw [show crashF ⟨nm, bs, s⟩ keep = ⟨nm, fb, su⟩ from by unfold crashF; rw [hkk, hsu']; dsimp only; rw [hfb]] at hcr
      have HCR := Lib.hid hcr.symm
      have hex : (stx bs).extract 0 su = stx fb := by rw [stx_extract, hfb]; rfl
      have hkz : kl = 0 → keep = 0 := fun e => by rw [← hkeep, keepAt, if_neg (by rw [HKL.out, e]; decide)]
      clear k1 k2 k3 hf hcr hkk hfb hsu
      generalize crashL ks fs i = L at *
      by_cases hk0 : 0 < kl
      · have hk0' : decide (0 < kl) = true := decide_eq_true hk0
        have hk0i : (0 : Int) < kl := by omega
        obtain ⟨r, hr⟩ : ∃ r, i % kl = r := ⟨_, rfl⟩
        have hrl : r < kl := by rw [← hr]; exact Nat.mod_lt _ hk0
        have hri : (i : Int) % (kl : Int) = r := by rw [← hr]; exact (Int.natCast_emod i kl).symm
        have hrli : (r : Int) < kl := by omega
        obtain ⟨gk, rfl, q1, _⟩ := HK.out r (by rw [HKL.out]; exact hrl)
        have hkv : (intCells ks)[r]? = some (.int .i64 keep) := by
          rw [← hkeep, keepAt, if_pos (by rw [HKL.out]; exact hk0), HKL.out, hr]
          unfold intCells
          rw [List.getElem?_map, List.getD_eq_getElem?_getD, List.getElem?_eq_getElem (by rw [HKL.out]; exact hrl)]
          rfl
        have ck := (s1.b.cell (p := ⟨gk, r, none⟩) (HLTK.out r gk hrl rfl)).trans (q1.trans hkv)
        have ck2 := (((Below.refl wr.heap.size wr).alloc (Nat.le_refl _) (.cells #[.string (stx nm), .string (stx bs), .int .i64 s] 37)).cell (p := ⟨gk, r, none⟩) (cellLt ck)).trans ck
        clear q1 hkv hr hkz hkeep
        by_cases hneg : keep.tmod c < 0
        · have hq : decide (keep.tmod c < 0) = true := decide_eq_true hneg
          have hke2 : keep.tmod c + c = k := by rw [tmod_neg hc0 hneg, hke]
          clear hke hneg hem hem0 hsu' hlt'
          have s3 := (s1.alloc (.cells #[.string (stx nm), .string (stx fb), .int .i64 su] 37)).alloc (.cells #[.string (stx nm), .string (stx fb), .int .i64 su] 37)
          have S3 := Lib.hid s3
          have HNW := Lib.hid (news_of ⟨nm, fb, su⟩ (wr.alloc (.cells #[.string (stx nm), .string (stx fb), .int .i64 su] 37)) (wr.heap.size + 1) (by simp only [World.size_alloc]))
          have HC3 := Lib.hid (show w.heap.size + 2 ≤ ((wr.alloc (.cells #[.string (stx nm), .string (stx fb), .int .i64 su] 37)).alloc (.cells #[.string (stx nm), .string (stx fb), .int .i64 su] 37)).heap.size from by have := lt_of_rowAt s3.r1; omega)
          have HSZ := Lib.hid (show w.heap.size ≤ wr.heap.size from by have := lt_of_rowAt s1.r1; omega)
          clear s3 s1
          go_wp2_with (at_builtin; refine wpList_append_own_at _ rfl _ _ 25 rfl (w.heap.size + 2) 37 i0 _ 3 40 Try.underlying25 ih hz0 hz1 hz2 rfl (by decide) _ L.length (fileCells L) rfl S3.out.own ⟨wr.heap.size + 1, 0, none⟩ 1 1 (fileC ⟨nm, fb, su⟩) rfl rfl HNW.out (one_of ⟨nm, fb, su⟩) ?c1 ?c2 ?c3 ?_)
          case c1 => unfold maxLen; omega
          case c2 => omega
          case c3 => first | exact HC3.out | exact HSZ.out
          intro v' w3 h1 h2 _ h4
          have s4 := CrAt.app S3.out h1 h2
          rw [HCR.out] at s4
          clear h1 h2 h4
          go_wp2_with fail
          exact ⟨⟨i + 1, hlt, by go_num, s4⟩, by simp [intOf]; omega⟩
        · have hq : decide (keep.tmod c < 0) = false := decide_eq_false hneg
          have hke2 : keep.tmod c = k := by rw [tmod_pos hc0 hneg, hke]
          clear hke hneg hem hem0 hsu' hlt'
          have s3 := (s1.alloc (.cells #[.string (stx nm), .string (stx fb), .int .i64 su] 37)).alloc (.cells #[.string (stx nm), .string (stx fb), .int .i64 su] 37)
          have S3 := Lib.hid s3
          have HNW := Lib.hid (news_of ⟨nm, fb, su⟩ (wr.alloc (.cells #[.string (stx nm), .string (stx fb), .int .i64 su] 37)) (wr.heap.size + 1) (by simp only [World.size_alloc]))
          have HC3 := Lib.hid (show w.heap.size + 2 ≤ ((wr.alloc (.cells #[.string (stx nm), .string (stx fb), .int .i64 su] 37)).alloc (.cells #[.string (stx nm), .string (stx fb), .int .i64 su] 37)).heap.size from by have := lt_of_rowAt s3.r1; omega)
          have HSZ := Lib.hid (show w.heap.size ≤ wr.heap.size from by have := lt_of_rowAt s1.r1; omega)
          clear s3 s1
          go_wp2_with (at_builtin; refine wpList_append_own_at _ rfl _ _ 25 rfl (w.heap.size + 2) 37 i0 _ 3 40 Try.underlying25 ih hz0 hz1 hz2 rfl (by decide) _ L.length (fileCells L) rfl S3.out.own ⟨wr.heap.size + 1, 0, none⟩ 1 1 (fileC ⟨nm, fb, su⟩) rfl rfl HNW.out (one_of ⟨nm, fb, su⟩) ?c1 ?c2 ?c3 ?_)
          case c1 => unfold maxLen; omega
          case c2 => omega
          case c3 => first | exact HC3.out | exact HSZ.out
          intro v' w3 h1 h2 _ h4
          have s4 := CrAt.app S3.out h1 h2
          rw [HCR.out] at s4
          clear h1 h2 h4
          go_wp2_with fail
          exact ⟨⟨i + 1, hlt, by go_num, s4⟩, by simp [intOf]; omega⟩
      · obtain rfl : kl = 0 := by omega
        obtain rfl := hkz rfl
        obtain rfl : k = 0 := by
          rw [Int.zero_emod] at hke
          omega
        obtain rfl : su = s := by omega
        clear hke hem hem0 hb hkz hsi hsu' hkeep hlt'
        have s3 := (s1.alloc (.cells #[.string (stx nm), .string (stx fb), .int .i64 su] 37)).alloc (.cells #[.string (stx nm), .string (stx fb), .int .i64 su] 37)
        have S3 := Lib.hid s3
        have HNW := Lib.hid (news_of ⟨nm, fb, su⟩ (wr.alloc (.cells #[.string (stx nm), .string (stx fb), .int .i64 su] 37)) (wr.heap.size + 1) (by simp only [World.size_alloc]))
        have HC3 := Lib.hid (show w.heap.size + 2 ≤ ((wr.alloc (.cells #[.string (stx nm), .string (stx fb), .int .i64 su] 37)).alloc (.cells #[.string (stx nm), .string (stx fb), .int .i64 su] 37)).heap.size from by have := lt_of_rowAt s3.r1; omega)
        have HSZ := Lib.hid (show w.heap.size ≤ wr.heap.size from by have := lt_of_rowAt s1.r1; omega)
        clear s3 s1
        go_wp2_with (at_builtin; refine wpList_append_own_at _ rfl _ _ 25 rfl (w.heap.size + 2) 37 i0 _ 3 40 Try.underlying25 ih hz0 hz1 hz2 rfl (by decide) _ L.length (fileCells L) rfl S3.out.own ⟨wr.heap.size + 1, 0, none⟩ 1 1 (fileC ⟨nm, fb, su⟩) rfl rfl HNW.out (one_of ⟨nm, fb, su⟩) ?c1 ?c2 ?c3 ?_)
        case c1 => unfold maxLen; omega
        case c2 => omega
        case c3 => first | exact HC3.out | exact HSZ.out
        intro v' w3 h1 h2 _ h4
        have s4 := CrAt.app S3.out h1 h2
        rw [HCR.out] at s4
        clear h1 h2 h4
        go_wp2_with fail
        exact ⟨⟨i + 1, hlt, by go_num, s4⟩, by simp [intOf]; omega⟩
    · obtain rfl : i = n := by omega
      obtain ⟨L, hL⟩ : ∃ L, crashL ks fs i = L := ⟨_, rfl⟩
      rw [hL] at s1
      obtain ⟨uo, uc, rfl⟩ := own_shapeF s1.own
      have c0 := (cell_of_rowAt s1.r0 0).trans (rfl : _ = some (Value.int .i64 room))
      have g0 := (cell_of_rowAt s1.r1 0).trans (rfl : _ = some (Value.int .i64 0))
      have g1 := (cell_of_rowAt s1.r1 1).trans (rfl : _ = some (Value.int .i64 0))
      have g2 := (cell_of_rowAt s1.r1 2).trans (rfl : _ = some (Value.bool false))
      have g3 := (cell_of_rowAt s1.r1 3).trans (rfl : _ = some (Value.slice none 0 0))
      have e0 := frozen_of_rowAt s1.r1 0
      have e1 := frozen_of_rowAt s1.r1 1
      have e2 := frozen_of_rowAt s1.r1 2
      have e3 := frozen_of_rowAt s1.r1 3
      have rr := Lib.hid (rowAt_setCell_same (rowAt_setCell_same (rowAt_setCell_same (rowAt_setCell_same s1.r1 0 (.int .i64 room)) 1 (.int .i64 (-1))) 2 (.bool false)) 3 (.slice uo L.length uc))
      have oo := Lib.hid (own_beside (own_beside (own_beside (own_beside s1.own ⟨w.heap.size + 1, 0, none⟩ (by show w.heap.size + 1 < w.heap.size + 2; omega) (.int .i64 room)) ⟨w.heap.size + 1, 1, none⟩ (by show w.heap.size + 1 < w.heap.size + 2; omega) (.int .i64 (-1))) ⟨w.heap.size + 1, 2, none⟩ (by show w.heap.size + 1 < w.heap.size + 2; omega) (.bool false)) ⟨w.heap.size + 1, 3, none⟩ (by show w.heap.size + 1 < w.heap.size + 2; omega) (.slice uo L.length uc))
      have bb := Lib.hid ((((s1.b.setCell (p := ⟨w.heap.size + 1, 0, none⟩) (Nat.le_succ w.heap.size) (.int .i64 room)).setCell (p := ⟨w.heap.size + 1, 1, none⟩) (Nat.le_succ w.heap.size) (.int .i64 (-1))).setCell (p := ⟨w.heap.size + 1, 2, none⟩) (Nat.le_succ w.heap.size) (.bool false)).setCell (p := ⟨w.heap.size + 1, 3, none⟩) (Nat.le_succ w.heap.size) (.slice uo L.length uc))
      clear s1
      go_wp2_with fail
      refine bodyPost_ret (results_row rfl _ _ _ _ _ rfl rr.out Try.underlying27 rfl (by kernel_rfl)) rfl ⟨_, rfl, OwnFiles.lie (B := w.heap.size + 2) (by show OwnFiles _ _ _ (crashL ks fs i); rw [hL]; exact oo.out), bb.out⟩
end Go.Proofs.Ytlnijckgnchpbaa
