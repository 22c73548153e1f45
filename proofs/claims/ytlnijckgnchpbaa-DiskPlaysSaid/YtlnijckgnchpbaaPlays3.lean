/- The document's disk: a file is dropped. Conditions: none. -/
import Derived.Test.YtlnijckgnchpbaaPlays2
import Derived.Maps.AppendAt
namespace Go.Proofs.Ytlnijckgnchpbaa
open Go Go.RowKit Go.Maps
attribute [local go_sem] Oper.semAt_some

def fileCells (fs : List DFile) : List Value := fs.flatMap fileC
theorem fileCells_length (fs : List DFile) : (fileCells fs).length = fs.length * 3 := by
  induction fs with
  | nil => rfl
  | cons f r ih => simp [fileCells, fileC] at ih ⊢; omega
theorem fileCells_append (l m : List DFile) : fileCells (l ++ m) = fileCells l ++ fileCells m := by simp [fileCells]
theorem fileCells_one (f : DFile) : fileCells [f] = fileC f := by simp [fileCells]
theorem fileCells_get : ∀ (fs : List DFile) (i : Nat) (f : DFile), fs[i]? = some f → (fileCells fs)[i * 3]? = some (.string (stx f.name)) ∧ (fileCells fs)[i * 3 + 1]? = some (.string (stx f.bytes)) ∧ (fileCells fs)[i * 3 + 2]? = some (.int .i64 f.sure)
  | x :: r, 0, f, h => by
    obtain rfl : x = f := by simpa using h
    simp [fileCells, fileC]
  | x :: r, i + 1, f, h => by
    have := fileCells_get r i f (by simpa using h)
    have e : ∀ k, (fileCells (x :: r))[(i + 1) * 3 + k]? = (fileCells r)[i * 3 + k]? := fun k => by
      rw [show fileCells (x :: r) = fileC x ++ fileCells r by simp [fileCells], List.getElem?_append_right (by simp [fileC]; omega)]
      congr 1
      simp [fileC]
      omega
    exact ⟨(e 0).trans this.1, (e 1).trans this.2.1, (e 2).trans this.2.2⟩
/-- Files of the call's own. -/
def OwnFiles (w : World) (B : Nat) (v : Value) (fs : List DFile) : Prop := w.ownsRow B 37 3 v fs.length (fileCells fs)
theorem OwnFiles.lie {w : World} {B : Nat} {v : Value} {fs : List DFile} (h : OwnFiles w B v fs) : RFiles w v fs := by
  rcases h.2 with ⟨rfl, h0⟩ | ⟨g, cap, cur, rfl, hb, hg, h1, h2, h3, h4⟩
  · exact ⟨⟨none, 0, by rw [h0], fun i f hi => by rw [List.eq_nil_of_length_eq_zero h0] at hi; simp at hi⟩, fun g n cap hv => by injection hv with e; cases e⟩
  · refine ⟨⟨_, cap, rfl, fun i f hi => ⟨g, rfl, ?_⟩⟩, fun g2 n2 c2 hv _ => by injection hv with e _ _; injection e with e; injection e with e; subst e; exact ⟨_, _, hg⟩⟩
    obtain ⟨e0, e1, e2⟩ := fileCells_get fs i f hi
    have hl : i < fs.length := (List.getElem?_eq_some_iff.1 hi).1
    have e : ∀ k, k < 3 → w.cell? ⟨g, i * 3 + k, none⟩ = (fileCells fs)[i * 3 + k]? := fun k hk => by
      rw [Lib.cell_of_heap hg (i * 3 + k), ← h4, List.getElem?_take, if_pos (by omega)]
      simp
    exact ⟨(e 0 (by decide)).trans e0, (e 1 (by decide)).trans e1, (e 2 (by decide)).trans e2⟩
theorem info_rfile : ∃ i : TypeInfo, Try.prog.info? 37 = some i ∧ i.zero = some (.agg #[.string ⟨#[]⟩, .string ⟨#[]⟩, .int .i64 0]) ∧ i.size = 3 ∧ i.bytes = 40 := by
  have h : (Try.prog.info? 37).map (fun i => (i.zero, i.size, i.bytes)) = some (some (.agg #[.string ⟨#[]⟩, .string ⟨#[]⟩, .int .i64 0]), 3, 40) := by kernel_rfl
  cases hq : Try.prog.info? 37 with
  | none => rw [hq] at h; cases h
  | some i =>
    rw [hq] at h
    simp only [Option.map_some, Option.some.injEq, Prod.mk.injEq] at h
    exact ⟨i, rfl, h.1, h.2.1, h.2.2⟩
theorem own_low {w : World} {B B' e s n : Nat} {v : Value} {xs : List Value} (h : w.ownsRow B e s v n xs) (hb : B' ≤ B) : w.ownsRow B' e s v n xs :=
  ⟨h.1, h.2.imp id fun ⟨g, cap, cur, h1, h2, h3⟩ => ⟨g, cap, cur, h1, Nat.le_trans hb h2, h3⟩⟩
theorem own_beside {w : World} {B e s n : Nat} {v : Value} {xs : List Value} (h : w.ownsRow B e s v n xs) (a : Addr) (ha : a.block < B) (u : Value) : (w.setCell a u).ownsRow B e s v n xs := by
  refine ⟨h.1, ?_⟩
  rcases h.2 with h1 | ⟨g, cap, cur, h1, h2, h3, h4⟩
  · exact .inl h1
  · exact .inr ⟨g, cap, cur, h1, h2, (by rw [heap_setCell_other _ _ _ _ (by omega)]; exact h3), h4⟩
set_option maxRecDepth 100000 in
set_option maxHeartbeats 2000000 in
theorem r5Drop_any (d : DDisk) (v : Value) (nm : List UInt8) (w : World) (h : RFiles w v d.files) (hl : d.files.length ≤ 1000000) :
    Calls Try.prog 41 #[.agg (diskC d v), .string (stx nm)] w fun e w' => ∃ v', e = .returned (.agg (diskC d v')) ∧ OwnFiles w' w.heap.size v' (dDrop d.files nm) ∧ Below w.heap.size w w' := by
  obtain ⟨i0, ih, hz0, hz1, hz2⟩ := info_rfile
  obtain ⟨⟨ao, cap, rfl, hc⟩, -⟩ := id h
  clear h
  obtain ⟨fs, hfs⟩ : ∃ fs, d.files = fs := ⟨_, rfl⟩
  rw [hfs] at hc hl ⊢
  have HC := Lib.hid hc
  obtain ⟨n, hn⟩ : ∃ n, fs.length = n := ⟨_, rfl⟩
  have HN := Lib.hid hn
  rw [hn] at hl ⊢
  have hli : (n : Int) ≤ 1000000 := by omega
  unfold diskC
  clear hc hfs hn
  have b0 : Below w.heap.size w (((w.alloc (.cells #[.int .i64 d.room, .int .i64 d.fuse, .bool d.dead, .slice ao n cap] 27)).alloc (.cells #[.int .i64 0, .int .i64 0, .bool false, .slice none 0 0] 27)).alloc (.cells #[] 37)) := (((Below.refl _ _).alloc (Nat.le_refl _) _).alloc (by simp only [World.size_alloc]; omega) _).alloc (by simp only [World.size_alloc]; omega) _
  have r0 : rowAt (((w.alloc (.cells #[.int .i64 d.room, .int .i64 d.fuse, .bool d.dead, .slice ao n cap] 27)).alloc (.cells #[.int .i64 0, .int .i64 0, .bool false, .slice none 0 0] 27)).alloc (.cells #[] 37)) w.heap.size = some #[.int .i64 d.room, .int .i64 d.fuse, .bool d.dead, .slice ao n cap] := (rowAt_alloc_past _ _ _ (by simp only [World.size_alloc]; omega)).trans ((rowAt_alloc_past _ _ _ (by simp only [World.size_alloc]; omega)).trans (rowAt_alloc_at _ _ _ _ rfl))
  have r1 : rowAt (((w.alloc (.cells #[.int .i64 d.room, .int .i64 d.fuse, .bool d.dead, .slice ao n cap] 27)).alloc (.cells #[.int .i64 0, .int .i64 0, .bool false, .slice none 0 0] 27)).alloc (.cells #[] 37)) (w.heap.size + 1) = some #[.int .i64 0, .int .i64 0, .bool false, .slice none 0 0] := (rowAt_alloc_past _ _ _ (by simp only [World.size_alloc]; omega)).trans (rowAt_alloc_at _ _ _ _ (by simp only [World.size_alloc]))
  have o0 : OwnFiles (((w.alloc (.cells #[.int .i64 d.room, .int .i64 d.fuse, .bool d.dead, .slice ao n cap] 27)).alloc (.cells #[.int .i64 0, .int .i64 0, .bool false, .slice none 0 0] 27)).alloc (.cells #[] 37)) (w.heap.size + 1 + 1) (.slice (some ⟨w.heap.size + 1 + 1, 0, none⟩) 0 0) [] := by
    refine ⟨rfl, .inr ⟨w.heap.size + 1 + 1, 0, #[], rfl, Nat.le_refl _, ?_, Nat.le_refl _, Nat.zero_le _, rfl, rfl⟩⟩
    have := World.alloc_heap_new ((w.alloc (.cells #[.int .i64 d.room, .int .i64 d.fuse, .bool d.dead, .slice ao n cap] 27)).alloc (.cells #[.int .i64 0, .int .i64 0, .bool false, .slice none 0 0] 27)) (.cells #[] 37)
    rwa [World.size_alloc, World.size_alloc] at this
  go_enter Try.func41, Try.ntmps41
  go_wp2_with fail
  generalize ((w.alloc (.cells #[.int .i64 d.room, .int .i64 d.fuse, .bool d.dead, .slice ao n cap] 27)).alloc (.cells #[.int .i64 0, .int .i64 0, .bool false, .slice none 0 0] 27)).alloc (.cells #[] 37) = W at *
  go_loopw [5, 12] (fun u x wr => ∃ i : Nat, i ≤ n ∧ x = .int .i64 i ∧ OwnFiles wr (w.heap.size + 1 + 1) u (dDrop (fs.take i) nm) ∧ rowAt wr w.heap.size = some #[.int .i64 d.room, .int .i64 d.fuse, .bool d.dead, .slice ao n cap] ∧ rowAt wr (w.heap.size + 1) = some #[.int .i64 0, .int .i64 0, .bool false, .slice none 0 0] ∧ Below w.heap.size w wr) (fun _ x _ => (n - intOf x).toNat)
  case atStart => exact ⟨0, Nat.zero_le _, rfl, o0, r0, r1, b0⟩
  case round =>
    obtain ⟨i, hi, rfl, o1, s0, s1, b1⟩ := hrel
    clear b0 r0 r1 o0
    by_cases hlt : i < n
    · have hlt' : (i : Int) < n := by omega
      obtain ⟨f, hf⟩ : ∃ f, fs[i]? = some f := ⟨_, List.getElem?_eq_getElem (by rw [HN.out]; exact hlt)⟩
      obtain ⟨g, rfl, k1, k2, k3⟩ := HC.out i f hf
      have c1 := (b1.cell (p := ⟨g, i * 3, none⟩) (cellLt k1)).trans k1
      have c2 := (b1.cell (p := ⟨g, i * 3 + 1, none⟩) (cellLt k2)).trans k2
      have c3 := (b1.cell (p := ⟨g, i * 3 + 2, none⟩) (cellLt k3)).trans k3
      have ht : dDrop (fs.take (i + 1)) nm = dDrop (fs.take i) nm ++ (if f.name = nm then [] else [f]) := by
        unfold dDrop
        rw [List.take_add_one, hf, List.filter_append]
        by_cases e : f.name = nm <;> simp [e]
      have HT := Lib.hid ht
      have hlen : (dDrop (fs.take i) nm).length ≤ i := by
        unfold dDrop
        exact Nat.le_trans (List.length_filter_le _ _) (by rw [List.length_take]; omega)
      clear k1 k2 k3 hf ht
      generalize dDrop (fs.take i) nm = L at *
      by_cases heq : f.name = nm
      · have hq : (f.name == nm) = true := beq_iff_eq.2 heq
        rw [if_pos heq, List.append_nil] at HT
        have o2 : OwnFiles (wr.alloc (.cells #[.string (stx f.name), .string (stx f.bytes), .int .i64 f.sure] 37)) (w.heap.size + 1 + 1) _ L := World.ownsRow.alloc o1 _
        have t0 := (rowAt_alloc_past wr (.cells #[.string (stx f.name), .string (stx f.bytes), .int .i64 f.sure] 37) _ (lt_of_rowAt s0)).trans s0
        have t1 := (rowAt_alloc_past wr (.cells #[.string (stx f.name), .string (stx f.bytes), .int .i64 f.sure] 37) _ (lt_of_rowAt s1)).trans s1
        have b2 := b1.alloc b1.size (.cells #[.string (stx f.name), .string (stx f.bytes), .int .i64 f.sure] 37)
        clear heq s0 s1 b1 o1
        go_wp2_with fail
        exact ⟨⟨i + 1, hlt, by go_num, by rw [HT.out]; exact o2, t0, t1, b2⟩, by simp [intOf]; omega⟩
      · have hq : (f.name == nm) = false := beq_eq_false_iff_ne.2 heq
        rw [if_neg heq] at HT
        have b2 := (b1.alloc b1.size (.cells #[.string (stx f.name), .string (stx f.bytes), .int .i64 f.sure] 37)).alloc (by have := b1.size; simp only [World.size_alloc]; omega) (.cells #[.string (stx f.name), .string (stx f.bytes), .int .i64 f.sure] 37)
        have z2 : ((wr.alloc (.cells #[.string (stx f.name), .string (stx f.bytes), .int .i64 f.sure] 37)).alloc (.cells #[.string (stx f.name), .string (stx f.bytes), .int .i64 f.sure] 37)).heap.size = wr.heap.size + 1 + 1 := by simp only [World.size_alloc]
        have o2 : ((wr.alloc (.cells #[.string (stx f.name), .string (stx f.bytes), .int .i64 f.sure] 37)).alloc (.cells #[.string (stx f.name), .string (stx f.bytes), .int .i64 f.sure] 37)).ownsRow (w.heap.size + 1 + 1) 37 3 _ L.length (fileCells L) := World.ownsRow.alloc (World.ownsRow.alloc o1 _) _
        have hn2 : ∀ (j : Nat) (u : Value), (fileC f)[j]? = some u → ((wr.alloc (.cells #[.string (stx f.name), .string (stx f.bytes), .int .i64 f.sure] 37)).alloc (.cells #[.string (stx f.name), .string (stx f.bytes), .int .i64 f.sure] 37)).cell? ((⟨wr.heap.size + 1, 0, none⟩ : Addr).add j) = some u := by
          have := World.news_of_block (heap_alloc_new (wr.alloc (.cells #[.string (stx f.name), .string (stx f.bytes), .int .i64 f.sure] 37)) (.cells #[.string (stx f.name), .string (stx f.bytes), .int .i64 f.sure] 37))
          rwa [World.size_alloc] at this
        have h1c : ∀ u ∈ fileC f, u.oneCell' = true := by
          intro u hu
          simp only [fileC, List.mem_cons, List.mem_nil_iff, or_false] at hu
          rcases hu with rfl | rfl | rfl <;> rfl
        have hrow : ∀ k c, k < w.heap.size + 1 + 1 → rowAt wr k = some c → ∀ w3, ((wr.alloc (.cells #[.string (stx f.name), .string (stx f.bytes), .int .i64 f.sure] 37)).alloc (.cells #[.string (stx f.name), .string (stx f.bytes), .int .i64 f.sure] 37)).grownBy w3 (Value.ownBlock u5) → rowAt w3 k = some c := fun k c hk hr w3 hg => by
          have hkl := lt_of_rowAt hr
          unfold rowAt at hr ⊢
          rw [hg.block k (by rw [z2]; omega) (fun e => by have := (World.ownsRow.lt o1 k e.symm).1; omega), Below.heap_alloc _ _ _ (by simp only [World.size_alloc]; omega), Below.heap_alloc _ _ _ hkl]
          exact hr
        have S0 := Lib.hid s0
        have S1 := Lib.hid s1
        have HRW := Lib.hid hrow
        have hCw : w.heap.size + 1 + 1 ≤ wr.heap.size + 1 + 1 := by have := b1.size; omega
        have O1 := Lib.hid o1
        have hLl : L.length ≤ 1000000 := by omega
        clear heq s0 s1 b1 o1 hrow
        go_wp2_with (at_builtin; refine wpList_append_own_at _ rfl _ _ 25 rfl (w.heap.size + 1 + 1) 37 i0 _ 3 40 Try.underlying25 ih hz0 hz1 hz2 rfl (by decide) _ L.length (fileCells L) rfl o2 ⟨wr.heap.size + 1, 0, none⟩ 1 1 (fileC f) rfl rfl hn2 h1c ?c1 ?c2 ?c3 ?_)
        case c1 => unfold maxLen; omega
        case c2 => omega
        case c3 => rw [z2]; exact hCw
        intro v' w3 h1 h2 _ h4
        have t0 := HRW.out _ _ (by omega) S0.out w3 h2
        have t1 := HRW.out _ _ (by omega) S1.out w3 h2
        have b3 := b2.grown h2 (by rw [z2]; omega) (fun k hk => by have := (World.ownsRow.lt O1.out k hk).1; omega)
        have o3 : OwnFiles w3 (w.heap.size + 1 + 1) v' (L ++ [f]) := by
          unfold OwnFiles
          rw [fileCells_append, fileCells_one, List.length_append]
          exact h1
        clear h1 h2 h4 o2 hn2 b2 z2
        go_wp2_with fail
        exact ⟨⟨i + 1, hlt, by go_num, by rw [HT.out]; exact o3, t0, t1, b3⟩, by simp [intOf]; omega⟩
    · obtain rfl : i = n := by omega
      rw [← HN.out, List.take_length] at o1
      obtain ⟨uo, uc, rfl⟩ : ∃ uo uc, u5 = .slice uo (dDrop fs nm).length uc := by
        rcases o1.2 with ⟨h1, h2⟩ | ⟨g, cap, cur, h1, _⟩
        · exact ⟨none, 0, by rw [h1, h2]⟩
        · exact ⟨_, _, h1⟩
      obtain ⟨L, hL⟩ : ∃ L, dDrop fs nm = L := ⟨_, rfl⟩
      rw [hL] at o1 ⊢
      have HLL := Lib.hid hL
      clear hL
      have c0 := (cell_of_rowAt s0 0).trans (rfl : _ = some (Value.int .i64 d.room))
      have c1 := (cell_of_rowAt s0 1).trans (rfl : _ = some (Value.int .i64 d.fuse))
      have c2 := (cell_of_rowAt s0 2).trans (rfl : _ = some (Value.bool d.dead))
      have c3 := (cell_of_rowAt s0 3).trans (rfl : _ = some (Value.slice ao i cap))
      have f3 := frozen_of_rowAt s0 3
      have g0 := (cell_of_rowAt s1 0).trans (rfl : _ = some (Value.int .i64 0))
      have g1 := (cell_of_rowAt s1 1).trans (rfl : _ = some (Value.int .i64 0))
      have g2 := (cell_of_rowAt s1 2).trans (rfl : _ = some (Value.bool false))
      have g3 := (cell_of_rowAt s1 3).trans (rfl : _ = some (Value.slice none 0 0))
      have e0 := frozen_of_rowAt s1 0
      have e1 := frozen_of_rowAt s1 1
      have e2 := frozen_of_rowAt s1 2
      have e3 := frozen_of_rowAt s1 3
      have p1 := (rowAt_setCell_other wr ⟨w.heap.size, 3, none⟩ (w.heap.size + 1) (.slice uo L.length uc) (by show w.heap.size + 1 ≠ w.heap.size; omega)).trans s1
      have rr := rowAt_setCell_same (rowAt_setCell_same (rowAt_setCell_same (rowAt_setCell_same p1 0 (.int .i64 d.room)) 1 (.int .i64 d.fuse)) 2 (.bool d.dead)) 3 (.slice uo L.length uc)
      have oo := own_beside (own_beside (own_beside (own_beside (own_beside o1 ⟨w.heap.size, 3, none⟩ (by show w.heap.size < w.heap.size + 1 + 1; omega) (.slice uo L.length uc)) ⟨w.heap.size + 1, 0, none⟩ (by show w.heap.size + 1 < w.heap.size + 1 + 1; omega) (.int .i64 d.room)) ⟨w.heap.size + 1, 1, none⟩ (by show w.heap.size + 1 < w.heap.size + 1 + 1; omega) (.int .i64 d.fuse)) ⟨w.heap.size + 1, 2, none⟩ (by show w.heap.size + 1 < w.heap.size + 1 + 1; omega) (.bool d.dead)) ⟨w.heap.size + 1, 3, none⟩ (by show w.heap.size + 1 < w.heap.size + 1 + 1; omega) (.slice uo L.length uc)
      have bb := ((((b1.setCell (p := ⟨w.heap.size, 3, none⟩) (Nat.le_refl w.heap.size) (.slice uo L.length uc)).setCell (p := ⟨w.heap.size + 1, 0, none⟩) (Nat.le_succ w.heap.size) (.int .i64 d.room)).setCell (p := ⟨w.heap.size + 1, 1, none⟩) (Nat.le_succ w.heap.size) (.int .i64 d.fuse)).setCell (p := ⟨w.heap.size + 1, 2, none⟩) (Nat.le_succ w.heap.size) (.bool d.dead)).setCell (p := ⟨w.heap.size + 1, 3, none⟩) (Nat.le_succ w.heap.size) (.slice uo L.length uc)
      clear s0 s1 o1 b1 p1
      go_wp2_with fail
      refine bodyPost_ret (results_row rfl _ _ _ _ _ rfl rr Try.underlying27 rfl (by kernel_rfl)) rfl ⟨_, rfl, by rw [HLL.out]; exact own_low oo (show w.heap.size ≤ w.heap.size + 1 + 1 by omega), bb⟩
end Go.Proofs.Ytlnijckgnchpbaa
