/- The document's disk: a file is put, walked to its end. Conditions: none. -/
import Derived.Test.YtlnijckgnchpbaaPlays5
import Derived.Laws.Cover1
namespace Go.Proofs.Ytlnijckgnchpbaa
open Go Go.RowKit Go.Maps
attribute [local go_sem] Oper.semAt_some

set_option maxRecDepth 100000 in
set_option maxHeartbeats 4000000 in
theorem r5Put_any (d : DDisk) (v : Value) (F : DFile) (w : World) (h : RFiles w v d.files) (hl : d.files.length ≤ 1000000) :
    Calls Try.prog 39 #[.agg (diskC d v), .agg (fileC F).toArray] w fun e w' => ∃ v', e = .returned (.agg (diskC d v')) ∧ OwnFiles w' w.heap.size v' (dPut F d.files) ∧ Below w.heap.size w w' := by
  obtain ⟨i0, ih, hz0, hz1, hz2⟩ := info_rfile
  obtain ⟨⟨ao, cap, rfl, hc⟩, -⟩ := id h
  clear h
  obtain ⟨fs, hfs⟩ : ∃ fs, d.files = fs := ⟨_, rfl⟩
  rw [hfs] at hc hl ⊢
  have HC := Lib.hid hc
  obtain ⟨n, hn⟩ : ∃ n, fs.length = n := ⟨_, rfl⟩
  have HN := Lib.hid hn
  rw [hn] at hl ⊢
  have hli : (n : Int) ≤ 1000000 := by omega
  unfold diskC
  unfold fileC
  clear hc hfs hn
  have s0 : PutAt w.heap.size #[.int .i64 d.room, .int .i64 d.fuse, .bool d.dead, .slice ao n cap] #[.string (stx F.name), .string (stx F.bytes), .int .i64 F.sure] #[.int .i64 0, .int .i64 0, .bool false, .slice none 0 0] w ((((w.alloc (.cells #[.int .i64 d.room, .int .i64 d.fuse, .bool d.dead, .slice ao n cap] 27)).alloc (.cells #[.string (stx F.name), .string (stx F.bytes), .int .i64 F.sure] 37)).alloc (.cells #[.int .i64 0, .int .i64 0, .bool false, .slice none 0 0] 27)).alloc (.cells #[] 37)) (.slice (some ⟨w.heap.size + 3, 0, none⟩) 0 0) [] := by
    refine ⟨⟨rfl, .inr ⟨w.heap.size + 3, 0, #[], rfl, Nat.le_refl _, ?_, Nat.le_refl _, Nat.zero_le _, rfl, rfl⟩⟩, ?_, ?_, ?_, ?_⟩
    · have := World.alloc_heap_new (((w.alloc (.cells #[.int .i64 d.room, .int .i64 d.fuse, .bool d.dead, .slice ao n cap] 27)).alloc (.cells #[.string (stx F.name), .string (stx F.bytes), .int .i64 F.sure] 37)).alloc (.cells #[.int .i64 0, .int .i64 0, .bool false, .slice none 0 0] 27)) (.cells #[] 37)
      rwa [World.size_alloc, World.size_alloc, World.size_alloc] at this
    · exact (rowAt_alloc_past _ _ _ (by simp only [World.size_alloc]; omega)).trans ((rowAt_alloc_past _ _ _ (by simp only [World.size_alloc]; omega)).trans ((rowAt_alloc_past _ _ _ (by simp only [World.size_alloc]; omega)).trans (rowAt_alloc_at _ _ _ _ rfl)))
    · exact (rowAt_alloc_past _ _ _ (by simp only [World.size_alloc]; omega)).trans ((rowAt_alloc_past _ _ _ (by simp only [World.size_alloc]; omega)).trans (rowAt_alloc_at _ _ _ _ (by simp only [World.size_alloc])))
    · exact (rowAt_alloc_past _ _ _ (by simp only [World.size_alloc]; omega)).trans (rowAt_alloc_at _ _ _ _ (by simp only [World.size_alloc]))
    · exact ((((Below.refl _ _).alloc (Nat.le_refl _) _).alloc (by simp only [World.size_alloc]; omega) _).alloc (by simp only [World.size_alloc]; omega) _).alloc (by simp only [World.size_alloc]; omega) _
  go_enter Try.func39, Try.ntmps39
  go_wp2_with fail
  generalize (((w.alloc (.cells #[.int .i64 d.room, .int .i64 d.fuse, .bool d.dead, .slice ao n cap] 27)).alloc (.cells #[.string (stx F.name), .string (stx F.bytes), .int .i64 F.sure] 37)).alloc (.cells #[.int .i64 0, .int .i64 0, .bool false, .slice none 0 0] 27)).alloc (.cells #[] 37) = W at *
  go_loopw [5, 6, 13] (fun u y x wr => ∃ (i : Nat) (dn : Bool) (L : List DFile), i ≤ n ∧ x = .int .i64 i ∧ y = .bool dn ∧ L.length ≤ 2 * i ∧ Hid (L ++ putRest F dn (fs.drop i) = dPut F fs) ∧ PutAt w.heap.size #[.int .i64 d.room, .int .i64 d.fuse, .bool d.dead, .slice ao n cap] #[.string (stx F.name), .string (stx F.bytes), .int .i64 F.sure] #[.int .i64 0, .int .i64 0, .bool false, .slice none 0 0] w wr u L) (fun _ _ x _ => (n - intOf x).toNat)
  case atStart => exact ⟨0, false, [], Nat.zero_le _, rfl, rfl, Nat.zero_le _, Lib.hid rfl, s0⟩
  case round =>
    obtain ⟨i, dn, L, hi, rfl, rfl, hLl, HL, s1⟩ := hrel
    clear s0
    by_cases hlt : i < n
    · have hlt' : (i : Int) < n := by omega
      obtain ⟨f, hf⟩ : ∃ f, fs[i]? = some f := ⟨_, List.getElem?_eq_getElem (by rw [HN.out]; exact hlt)⟩
      obtain ⟨g, rfl, k1, k2, k3⟩ := HC.out i f hf
      have c1 := (s1.b.cell (p := ⟨g, i * 3, none⟩) (cellLt k1)).trans k1
      have c2 := (s1.b.cell (p := ⟨g, i * 3 + 1, none⟩) (cellLt k2)).trans k2
      have c3 := (s1.b.cell (p := ⟨g, i * 3 + 2, none⟩) (cellLt k3)).trans k3
      have hdr : fs.drop i = f :: fs.drop (i + 1) := by
        obtain ⟨h5, h6⟩ := List.getElem?_eq_some_iff.1 hf
        rw [List.drop_eq_getElem_cons h5, h6]
      rw [hdr] at HL
      obtain ⟨r, hr⟩ : ∃ r, fs.drop (i + 1) = r := ⟨_, rfl⟩
      rw [hr] at HL
      have HR := Lib.hid hr
      clear hr
      have s2 := s1.alloc (.cells #[.string (stx f.name), .string (stx f.bytes), .int .i64 f.sure] 37)
      have g0 := (cell_of_rowAt s1.rF 0).trans (rfl : _ = some (Value.string (stx F.name)))
      have g1 := (cell_of_rowAt s1.rF 1).trans (rfl : _ = some (Value.string (stx F.bytes)))
      have g2 := (cell_of_rowAt s1.rF 2).trans (rfl : _ = some (Value.int .i64 F.sure))
      have hw2 := lt_of_rowAt s1.rF
      clear k1 k2 k3 hf hdr
      cases dn with
      | true =>
        by_cases heq : f.name = F.name
        · have hq : (f.name == F.name) = true := beq_iff_eq.2 heq
          have HL2 := Lib.hid HL.out
          rw [putRest_same heq] at HL2
          clear heq s1
          go_wp2_with fail
          exact ⟨⟨i + 1, true, L, hlt, by go_num, rfl, by omega, by rw [HR.out]; exact HL2, s2⟩, by simp [intOf]; omega⟩
        · have hq : (f.name == F.name) = false := beq_eq_false_iff_ne.2 heq
          have HL2 := Lib.hid HL.out
          rw [putRest_ne heq, ← List.append_assoc] at HL2
          have S2 := Lib.hid s2
          clear heq s1 s2
          go_wp2_with (at_builtin; refine wpList_append_own_at _ rfl _ _ 25 rfl (w.heap.size + 3) 37 i0 _ 3 40 Try.underlying25 ih hz0 hz1 hz2 rfl (by decide) _ L.length (fileCells L) rfl (S2.out.alloc (.cells #[.string (stx f.name), .string (stx f.bytes), .int .i64 f.sure] 37)).own ⟨wr.heap.size + 1, 0, none⟩ 1 1 (fileC f) rfl rfl (news_of f _ _ (by first | rfl | simp only [World.size_alloc])) (one_of f) ?c1 ?c2 ?c3 ?_)
          case c1 => unfold maxLen; omega
          case c2 => omega
          case c3 => have := lt_of_rowAt (S2.out.alloc (.cells #[.string (stx f.name), .string (stx f.bytes), .int .i64 f.sure] 37)).r1; omega
          intro v' w3 h1 h2 _ h4
          have s3 := PutAt.app (S2.out.alloc (.cells #[.string (stx f.name), .string (stx f.bytes), .int .i64 f.sure] 37)) h1 h2
          clear h1 h2 h4
          go_wp2_with fail
          exact ⟨⟨i + 1, true, L ++ [f], hlt, by go_num, rfl, by rw [List.length_append]; show L.length + 1 ≤ _; omega, by rw [HR.out]; exact HL2, s3⟩, by simp [intOf]; omega⟩
      | false =>
        have hless := less_iff f.name F.name
        by_cases hlt2 : f.name < F.name
        · rw [decide_eq_true hlt2] at hless
          have heq : f.name ≠ F.name := nlt_ne hlt2
          have hq : (f.name == F.name) = false := beq_eq_false_iff_ne.2 heq
          have HL2 := Lib.hid HL.out
          rw [putRest_lt hlt2, ← List.append_assoc] at HL2
          have S2 := Lib.hid s2
          clear heq hlt2 s1 s2
          go_wp2_with (at_builtin; refine wpList_append_own_at _ rfl _ _ 25 rfl (w.heap.size + 3) 37 i0 _ 3 40 Try.underlying25 ih hz0 hz1 hz2 rfl (by decide) _ L.length (fileCells L) rfl (S2.out.alloc (.cells #[.string (stx f.name), .string (stx f.bytes), .int .i64 f.sure] 37)).own ⟨wr.heap.size + 1, 0, none⟩ 1 1 (fileC f) rfl rfl (news_of f _ _ (by first | rfl | simp only [World.size_alloc])) (one_of f) ?c1 ?c2 ?c3 ?_)
          case c1 => unfold maxLen; omega
          case c2 => omega
          case c3 => have := lt_of_rowAt (S2.out.alloc (.cells #[.string (stx f.name), .string (stx f.bytes), .int .i64 f.sure] 37)).r1; omega
          intro v' w3 h1 h2 _ h4
          have s3 := PutAt.app (S2.out.alloc (.cells #[.string (stx f.name), .string (stx f.bytes), .int .i64 f.sure] 37)) h1 h2
          clear h1 h2 h4
          go_wp2_with fail
          exact ⟨⟨i + 1, false, L ++ [f], hlt, by go_num, rfl, by rw [List.length_append]; show L.length + 1 ≤ _; omega, by rw [HR.out]; exact HL2, s3⟩, by simp [intOf]; omega⟩
        · rw [decide_eq_false hlt2] at hless
          by_cases heq : f.name = F.name
          · have hq : (f.name == F.name) = true := beq_iff_eq.2 heq
            have HL2 := Lib.hid HL.out
            rw [putRest_eq heq, ← List.append_assoc] at HL2
            have S1 := Lib.hid s1
            have S2 := Lib.hid s2
            have hkeep : Hid (∀ w3, ((wr.alloc (.cells #[.string (stx f.name), .string (stx f.bytes), .int .i64 f.sure] 37)).alloc (.cells #[.string (stx F.name), .string (stx F.bytes), .int .i64 F.sure] 37)).grownBy w3 (Value.ownBlock u5) → rowAt w3 wr.heap.size = some #[.string (stx f.name), .string (stx f.bytes), .int .i64 f.sure]) := Lib.hid fun w3 hg => by
              unfold rowAt
              rw [hg.block _ (by simp only [World.size_alloc]; omega) (fun e => by have := (World.ownsRow.lt S1.out.own _ e.symm).2; omega), Below.heap_alloc _ _ _ (by simp only [World.size_alloc]; omega), heap_alloc_new]
              rfl
            clear heq hlt2 s1 s2
            go_wp2_with (at_builtin; refine wpList_append_own_at _ rfl _ _ 25 rfl (w.heap.size + 3) 37 i0 _ 3 40 Try.underlying25 ih hz0 hz1 hz2 rfl (by decide) _ L.length (fileCells L) rfl (S2.out.alloc (.cells #[.string (stx F.name), .string (stx F.bytes), .int .i64 F.sure] 37)).own ⟨wr.heap.size + 1, 0, none⟩ 1 1 (fileC F) rfl rfl (news_of F _ _ (by first | rfl | simp only [World.size_alloc])) (one_of F) ?c1 ?c2 ?c3 ?_)
            case c1 => unfold maxLen; omega
            case c2 => omega
            case c3 => have := lt_of_rowAt (S2.out.alloc (.cells #[.string (stx F.name), .string (stx F.bytes), .int .i64 F.sure] 37)).r1; omega
            intro v' w3 h1 h2 _ h4
            have s3 := PutAt.app (S2.out.alloc (.cells #[.string (stx F.name), .string (stx F.bytes), .int .i64 F.sure] 37)) h1 h2
            have rE := hkeep.out w3 h2
            have e0 := (cell_of_rowAt rE 0).trans (rfl : _ = some (Value.string (stx f.name)))
            have q0 := (cell_of_rowAt s3.rF 0).trans (rfl : _ = some (Value.string (stx F.name)))
            clear h1 h2 h4 rE
            go_wp2_with fail
            exact ⟨⟨i + 1, true, L ++ [F], hlt, by go_num, rfl, by rw [List.length_append]; show L.length + 1 ≤ _; omega, by rw [HR.out]; exact HL2, s3⟩, by simp [intOf]; omega⟩
          · have hq : (f.name == F.name) = false := beq_eq_false_iff_ne.2 heq
            have HL2 := Lib.hid HL.out
            rw [putRest_gt hlt2 heq, show [F, f] = [F] ++ [f] from rfl, ← List.append_assoc, ← List.append_assoc] at HL2
            have S1 := Lib.hid s1
            have S2 := Lib.hid s2
            have hkeep : Hid (∀ w3, ((wr.alloc (.cells #[.string (stx f.name), .string (stx f.bytes), .int .i64 f.sure] 37)).alloc (.cells #[.string (stx F.name), .string (stx F.bytes), .int .i64 F.sure] 37)).grownBy w3 (Value.ownBlock u5) → rowAt w3 wr.heap.size = some #[.string (stx f.name), .string (stx f.bytes), .int .i64 f.sure]) := Lib.hid fun w3 hg => by
              unfold rowAt
              rw [hg.block _ (by simp only [World.size_alloc]; omega) (fun e => by have := (World.ownsRow.lt S1.out.own _ e.symm).2; omega), Below.heap_alloc _ _ _ (by simp only [World.size_alloc]; omega), heap_alloc_new]
              rfl
            clear heq hlt2 s1 s2
            go_wp2_with (at_builtin; refine wpList_append_own_at _ rfl _ _ 25 rfl (w.heap.size + 3) 37 i0 _ 3 40 Try.underlying25 ih hz0 hz1 hz2 rfl (by decide) _ L.length (fileCells L) rfl (S2.out.alloc (.cells #[.string (stx F.name), .string (stx F.bytes), .int .i64 F.sure] 37)).own ⟨wr.heap.size + 1, 0, none⟩ 1 1 (fileC F) rfl rfl (news_of F _ _ (by first | rfl | simp only [World.size_alloc])) (one_of F) ?c1 ?c2 ?c3 ?_)
            case c1 => unfold maxLen; omega
            case c2 => omega
            case c3 => have := lt_of_rowAt (S2.out.alloc (.cells #[.string (stx F.name), .string (stx F.bytes), .int .i64 F.sure] 37)).r1; omega
            intro v' w3 h1 h2 _ h4
            have s3 := PutAt.app (S2.out.alloc (.cells #[.string (stx F.name), .string (stx F.bytes), .int .i64 F.sure] 37)) h1 h2
            have rE := hkeep.out w3 h2
            have e0 := (cell_of_rowAt rE 0).trans (rfl : _ = some (Value.string (stx f.name)))
            have e1 := (cell_of_rowAt rE 1).trans (rfl : _ = some (Value.string (stx f.bytes)))
            have e2 := (cell_of_rowAt rE 2).trans (rfl : _ = some (Value.int .i64 f.sure))
            have q0 := (cell_of_rowAt s3.rF 0).trans (rfl : _ = some (Value.string (stx F.name)))
            have S3 := Lib.hid s3
            have hL3 : (L ++ [F]).length ≤ 2 * i + 1 := by rw [List.length_append]; show L.length + 1 ≤ _; omega
            clear h1 h2 h4 rE s3
            generalize L ++ [F] = L3 at *
            go_wp2_with (at_builtin; refine wpList_append_own_at _ rfl _ _ 25 rfl (w.heap.size + 3) 37 i0 _ 3 40 Try.underlying25 ih hz0 hz1 hz2 rfl (by decide) _ L3.length (fileCells L3) rfl (S3.out.alloc (.cells #[.string (stx f.name), .string (stx f.bytes), .int .i64 f.sure] 37)).own ⟨w3.heap.size, 0, none⟩ 1 1 (fileC f) rfl rfl (news_of f _ _ (by first | rfl | simp only [World.size_alloc])) (one_of f) ?c1 ?c2 ?c3 ?_)
            case c1 => unfold maxLen; omega
            case c2 => omega
            case c3 => have := lt_of_rowAt (S3.out.alloc (.cells #[.string (stx f.name), .string (stx f.bytes), .int .i64 f.sure] 37)).r1; omega
            intro v2 w4 h1 h2 _ h4
            have s4 := PutAt.app (S3.out.alloc (.cells #[.string (stx f.name), .string (stx f.bytes), .int .i64 f.sure] 37)) h1 h2
            clear h1 h2 h4
            go_wp2_with fail
            exact ⟨⟨i + 1, true, L3 ++ [f], hlt, by go_num, rfl, by rw [List.length_append]; show L3.length + 1 ≤ _; omega, by rw [HR.out]; exact HL2, s4⟩, by simp [intOf]; omega⟩
    · obtain rfl : i = n := by omega
      have hdn : fs.drop i = [] := List.drop_eq_nil_of_le (by rw [HN.out]; omega)
      rw [hdn] at HL
      cases dn with
      | true =>
        have HLL : Hid (dPut F fs = L) := Lib.hid (by rw [← HL.out, putRest_nil_true, List.append_nil])
        obtain ⟨uo, uc, rfl⟩ : ∃ uo uc, u5 = .slice uo L.length uc := by
          rcases s1.own.2 with ⟨h1, h2⟩ | ⟨g, cap, cur, h1, _⟩
          · exact ⟨none, 0, by rw [h1, h2]⟩
          · exact ⟨_, _, h1⟩
        clear HL hdn
        have c0 := (cell_of_rowAt s1.r0 0).trans (rfl : _ = some (Value.int .i64 d.room))
        have c1 := (cell_of_rowAt s1.r0 1).trans (rfl : _ = some (Value.int .i64 d.fuse))
        have c2 := (cell_of_rowAt s1.r0 2).trans (rfl : _ = some (Value.bool d.dead))
        have c3 := (cell_of_rowAt s1.r0 3).trans (rfl : _ = some (Value.slice ao i cap))
        have f3 := frozen_of_rowAt s1.r0 3
        have p0 := (cell_of_rowAt s1.r1 0).trans (rfl : _ = some (Value.int .i64 0))
        have p1 := (cell_of_rowAt s1.r1 1).trans (rfl : _ = some (Value.int .i64 0))
        have p2 := (cell_of_rowAt s1.r1 2).trans (rfl : _ = some (Value.bool false))
        have p3 := (cell_of_rowAt s1.r1 3).trans (rfl : _ = some (Value.slice none 0 0))
        have e0 := frozen_of_rowAt s1.r1 0
        have e1 := frozen_of_rowAt s1.r1 1
        have e2 := frozen_of_rowAt s1.r1 2
        have e3 := frozen_of_rowAt s1.r1 3
        have q1 := (rowAt_setCell_other wr ⟨w.heap.size, 3, none⟩ (w.heap.size + 1 + 1) (.slice uo L.length uc) (by show w.heap.size + 1 + 1 ≠ w.heap.size; omega)).trans s1.r1
        have rr := rowAt_setCell_same (rowAt_setCell_same (rowAt_setCell_same (rowAt_setCell_same q1 0 (.int .i64 d.room)) 1 (.int .i64 d.fuse)) 2 (.bool d.dead)) 3 (.slice uo L.length uc)
        have oo := own_beside (own_beside (own_beside (own_beside (own_beside s1.own ⟨w.heap.size, 3, none⟩ (by show w.heap.size < w.heap.size + 3; omega) (.slice uo L.length uc)) ⟨w.heap.size + 1 + 1, 0, none⟩ (by show w.heap.size + 1 + 1 < w.heap.size + 3; omega) (.int .i64 d.room)) ⟨w.heap.size + 1 + 1, 1, none⟩ (by show w.heap.size + 1 + 1 < w.heap.size + 3; omega) (.int .i64 d.fuse)) ⟨w.heap.size + 1 + 1, 2, none⟩ (by show w.heap.size + 1 + 1 < w.heap.size + 3; omega) (.bool d.dead)) ⟨w.heap.size + 1 + 1, 3, none⟩ (by show w.heap.size + 1 + 1 < w.heap.size + 3; omega) (.slice uo L.length uc)
        have hle : w.heap.size ≤ w.heap.size + 1 + 1 := by omega
        have bb := ((((s1.b.setCell (p := ⟨w.heap.size, 3, none⟩) (Nat.le_refl w.heap.size) (.slice uo L.length uc)).setCell (p := ⟨w.heap.size + 1 + 1, 0, none⟩) hle (.int .i64 d.room)).setCell (p := ⟨w.heap.size + 1 + 1, 1, none⟩) hle (.int .i64 d.fuse)).setCell (p := ⟨w.heap.size + 1 + 1, 2, none⟩) hle (.bool d.dead)).setCell (p := ⟨w.heap.size + 1 + 1, 3, none⟩) hle (.slice uo L.length uc)
        clear s1 q1 hle
        go_wp2_with fail
        refine bodyPost_ret (results_row rfl _ _ _ _ _ rfl rr Try.underlying27 rfl (by kernel_rfl)) rfl ⟨_, rfl, by rw [HLL.out]; exact own_low oo (show w.heap.size ≤ w.heap.size + 3 by omega), bb⟩
      | false =>
        have HLL : Hid (dPut F fs = L ++ [F]) := Lib.hid (by rw [← HL.out, putRest_nil_false])
        have g0 := (cell_of_rowAt s1.rF 0).trans (rfl : _ = some (Value.string (stx F.name)))
        have g1 := (cell_of_rowAt s1.rF 1).trans (rfl : _ = some (Value.string (stx F.bytes)))
        have g2 := (cell_of_rowAt s1.rF 2).trans (rfl : _ = some (Value.int .i64 F.sure))
        have S1 := Lib.hid s1
        clear HL hdn s1
        go_wp2_with (at_builtin; refine wpList_append_own_at _ rfl _ _ 25 rfl (w.heap.size + 3) 37 i0 _ 3 40 Try.underlying25 ih hz0 hz1 hz2 rfl (by decide) _ L.length (fileCells L) rfl (S1.out.alloc (.cells #[.string (stx F.name), .string (stx F.bytes), .int .i64 F.sure] 37)).own ⟨wr.heap.size, 0, none⟩ 1 1 (fileC F) rfl rfl (news_of F _ _ (by first | rfl | simp only [World.size_alloc])) (one_of F) ?c1 ?c2 ?c3 ?_)
        case c1 => unfold maxLen; omega
        case c2 => omega
        case c3 => have := lt_of_rowAt (S1.out.alloc (.cells #[.string (stx F.name), .string (stx F.bytes), .int .i64 F.sure] 37)).r1; omega
        intro v' w3 h1 h2 _ h4
        have s3 := PutAt.app (S1.out.alloc (.cells #[.string (stx F.name), .string (stx F.bytes), .int .i64 F.sure] 37)) h1 h2
        clear h1 h2 h4 g0 g1 g2
        generalize L ++ [F] = L3 at *
        obtain ⟨uo, uc, rfl⟩ : ∃ uo uc, v' = .slice uo L3.length uc := by
          rcases s3.own.2 with ⟨h1, h2⟩ | ⟨g, cap, cur, h1, _⟩
          · exact ⟨none, 0, by rw [h1, h2]⟩
          · exact ⟨_, _, h1⟩
        have c0 := (cell_of_rowAt s3.r0 0).trans (rfl : _ = some (Value.int .i64 d.room))
        have c1 := (cell_of_rowAt s3.r0 1).trans (rfl : _ = some (Value.int .i64 d.fuse))
        have c2 := (cell_of_rowAt s3.r0 2).trans (rfl : _ = some (Value.bool d.dead))
        have c3 := (cell_of_rowAt s3.r0 3).trans (rfl : _ = some (Value.slice ao i cap))
        have f3 := frozen_of_rowAt s3.r0 3
        have p0 := (cell_of_rowAt s3.r1 0).trans (rfl : _ = some (Value.int .i64 0))
        have p1 := (cell_of_rowAt s3.r1 1).trans (rfl : _ = some (Value.int .i64 0))
        have p2 := (cell_of_rowAt s3.r1 2).trans (rfl : _ = some (Value.bool false))
        have p3 := (cell_of_rowAt s3.r1 3).trans (rfl : _ = some (Value.slice none 0 0))
        have e0 := frozen_of_rowAt s3.r1 0
        have e1 := frozen_of_rowAt s3.r1 1
        have e2 := frozen_of_rowAt s3.r1 2
        have e3 := frozen_of_rowAt s3.r1 3
        have q1 := (rowAt_setCell_other w3 ⟨w.heap.size, 3, none⟩ (w.heap.size + 1 + 1) (.slice uo L3.length uc) (by show w.heap.size + 1 + 1 ≠ w.heap.size; omega)).trans s3.r1
        have rr := rowAt_setCell_same (rowAt_setCell_same (rowAt_setCell_same (rowAt_setCell_same q1 0 (.int .i64 d.room)) 1 (.int .i64 d.fuse)) 2 (.bool d.dead)) 3 (.slice uo L3.length uc)
        have oo := own_beside (own_beside (own_beside (own_beside (own_beside s3.own ⟨w.heap.size, 3, none⟩ (by show w.heap.size < w.heap.size + 3; omega) (.slice uo L3.length uc)) ⟨w.heap.size + 1 + 1, 0, none⟩ (by show w.heap.size + 1 + 1 < w.heap.size + 3; omega) (.int .i64 d.room)) ⟨w.heap.size + 1 + 1, 1, none⟩ (by show w.heap.size + 1 + 1 < w.heap.size + 3; omega) (.int .i64 d.fuse)) ⟨w.heap.size + 1 + 1, 2, none⟩ (by show w.heap.size + 1 + 1 < w.heap.size + 3; omega) (.bool d.dead)) ⟨w.heap.size + 1 + 1, 3, none⟩ (by show w.heap.size + 1 + 1 < w.heap.size + 3; omega) (.slice uo L3.length uc)
        have hle : w.heap.size ≤ w.heap.size + 1 + 1 := by omega
        have bb := ((((s3.b.setCell (p := ⟨w.heap.size, 3, none⟩) (Nat.le_refl w.heap.size) (.slice uo L3.length uc)).setCell (p := ⟨w.heap.size + 1 + 1, 0, none⟩) hle (.int .i64 d.room)).setCell (p := ⟨w.heap.size + 1 + 1, 1, none⟩) hle (.int .i64 d.fuse)).setCell (p := ⟨w.heap.size + 1 + 1, 2, none⟩) hle (.bool d.dead)).setCell (p := ⟨w.heap.size + 1 + 1, 3, none⟩) hle (.slice uo L3.length uc)
        clear s3 q1 hle
        go_wp2_with fail
        refine bodyPost_ret (results_row rfl _ _ _ _ _ rfl rr Try.underlying27 rfl (by kernel_rfl)) rfl ⟨_, rfl, by rw [HLL.out]; exact own_low oo (show w.heap.size ≤ w.heap.size + 3 by omega), bb⟩
end Go.Proofs.Ytlnijckgnchpbaa
