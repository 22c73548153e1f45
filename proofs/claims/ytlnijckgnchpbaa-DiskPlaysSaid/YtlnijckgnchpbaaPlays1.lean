/- The document's disk: its small functions. Conditions: none. -/
import Derived.Test.YtlnijckgnchpbaaDisk9
import Derived.Deep.AppendLies
namespace Go.Proofs.Ytlnijckgnchpbaa
open Go Go.RowKit Go.Maps
attribute [local go_sem] Oper.semAt_some

def fileC (f : DFile) : List Value := [.string (stx f.name), .string (stx f.bytes), .int .i64 f.sure]
/-- The array of a list of files is one of files. -/
def RTy (w : World) (v : Value) (fs : List DFile) : Prop := ∀ g n cap, v = .slice (some ⟨g, 0, none⟩) n cap → fs ≠ [] → ∃ cs fr, w.heap[g]? = some (.cells cs 37 fr)
theorem RTy.below {w w' : World} {v : Value} {fs : List DFile} (h : RTy w v fs) (k : Below w.heap.size w w') : RTy w' v fs := fun g n cap hv hn => by
  obtain ⟨cs, fr, e⟩ := h g n cap hv hn
  exact ⟨cs, fr, (k.block g (dHeap_lt e)).trans e⟩
theorem RTy.set {w : World} {v : Value} {fs : List DFile} (h : RTy w v fs) (b j : Nat) (y : Value) : RTy (w.setCell ⟨b, j, none⟩ y) v fs := fun g n cap hv hn => by
  obtain ⟨cs, fr, e⟩ := h g n cap hv hn
  by_cases hb : b = g
  · subst hb
    exact ⟨_, fr, dHeap_put e y⟩
  · exact ⟨cs, fr, (Below.heap_setCell _ _ _ _ (fun e => hb (by first | exact e.symm | exact e))).trans e⟩
/-- A list of files of the document. -/
def RFiles (w : World) (v : Value) (fs : List DFile) : Prop :=
  (∃ ao cap, v = .slice ao fs.length cap ∧ ∀ i f, fs[i]? = some f → ∃ g, ao = some ⟨g, 0, none⟩ ∧ w.cell? ⟨g, i * 3, none⟩ = some (.string (stx f.name)) ∧ w.cell? ⟨g, i * 3 + 1, none⟩ = some (.string (stx f.bytes)) ∧ w.cell? ⟨g, i * 3 + 2, none⟩ = some (.int .i64 f.sure)) ∧ RTy w v fs
theorem RFiles.below {w w' : World} {v : Value} {fs : List DFile} (h : RFiles w v fs) (k : Below w.heap.size w w') : RFiles w' v fs := by
  obtain ⟨⟨ao, cap, h1, h2⟩, hty⟩ := h
  refine ⟨⟨ao, cap, h1, fun i f hi => ?_⟩, hty.below k⟩
  obtain ⟨g, h3, h4, h5, h6⟩ := h2 i f hi
  exact ⟨g, h3, (k.cell (p := ⟨g, i * 3, none⟩) (cellLt h4)).trans h4, (k.cell (p := ⟨g, i * 3 + 1, none⟩) (cellLt h5)).trans h5, (k.cell (p := ⟨g, i * 3 + 2, none⟩) (cellLt h6)).trans h6⟩
theorem RFiles.stir {B : Nat} {w w' : World} {v : Value} {fs : List DFile} (h : RFiles w v fs) (k : Stir B w w') : RFiles w' v fs := by
  obtain ⟨⟨ao, cap, rfl, h2⟩, hty⟩ := h
  have hk : ∀ g, ao = some ⟨g, 0, none⟩ → fs ≠ [] → ∃ cs fr, w.heap[g]? = some (.cells cs 37 fr) ∧ w'.heap[g]? = some (.cells cs 37 fr) := fun g hg hn => by
    subst hg
    obtain ⟨cs, fr, e⟩ := hty g _ _ rfl hn
    exact ⟨cs, fr, e, k.keep e (by decide)⟩
  refine ⟨⟨ao, cap, rfl, fun i f hi => ?_⟩, fun g n c hv hn => ?_⟩
  · obtain ⟨g, h3, h4, h5, h6⟩ := h2 i f hi
    obtain ⟨cs, fr, e1, e2⟩ := hk g h3 (fun e => by rw [e] at hi; simp at hi)
    have s : ∀ j, w'.cell? ⟨g, j, none⟩ = w.cell? ⟨g, j, none⟩ := fun j => (Lib.cell_of_heap e2 j).trans (Lib.cell_of_heap e1 j).symm
    exact ⟨g, h3, (s _).trans h4, (s _).trans h5, (s _).trans h6⟩
  · injection hv with e1 _ _
    obtain ⟨cs, fr, _, e2⟩ := hk g e1 hn
    exact ⟨cs, fr, e2⟩
def diskC (d : DDisk) (v : Value) : Array Value := #[.int .i64 d.room, .int .i64 d.fuse, .bool d.dead, v]
theorem r5good_any (s : ByteArray) (w : World) : Calls Try.prog 37 #[.string s] w fun e w' => e = .returned (.bool (decide (0 < s.size ∧ s.size ≤ 100))) ∧ w' = w := by
  obtain ⟨R, hR⟩ : ∃ R, decide (0 < s.size ∧ s.size ≤ 100) = R := ⟨_, rfl⟩
  rw [hR]
  by_cases h0 : 0 < s.size
  · have q0 : decide (0 < s.size) = true := decide_eq_true h0
    by_cases h1 : s.size ≤ 100
    · have q1 : decide (s.size ≤ 100) = true := decide_eq_true h1
      have q1i : decide ((s.size : Int) ≤ 100) = true := decide_eq_true (by omega)
      rw [decide_eq_true ⟨h0, h1⟩] at hR
      subst hR
      go_enter Try.func37, Try.ntmps37
      go_wp2_with fail
      go_ret
      exact ⟨rfl, rfl⟩
    · have q1 : decide (s.size ≤ 100) = false := decide_eq_false h1
      have q1i : decide ((s.size : Int) ≤ 100) = false := decide_eq_false (by omega)
      rw [decide_eq_false (fun h => h1 h.2)] at hR
      subst hR
      go_enter Try.func37, Try.ntmps37
      go_wp2_with fail
      go_ret
      exact ⟨rfl, rfl⟩
  · have q0 : decide (0 < s.size) = false := decide_eq_false h0
    rw [decide_eq_false (fun h => h0 h.1)] at hR
    subst hR
    go_enter Try.func37, Try.ntmps37
    go_wp2_with fail
    go_ret
    exact ⟨rfl, rfl⟩
set_option maxRecDepth 100000 in
theorem r5Used_any (d : DDisk) (v : Value) (w : World) (h : RFiles w v d.files) (hl : d.files.length ≤ 1000000) (hu : dUsed d.files ≤ 1000000000000) :
    Calls Try.prog 12 #[.agg (diskC d v)] w fun e w' => e = .returned (.int .i64 (dUsed d.files)) ∧ Below w.heap.size w w' := by
  obtain ⟨⟨ao, cap, rfl, hc⟩, -⟩ := id h
  clear h
  obtain ⟨fs, hfs⟩ : ∃ fs, d.files = fs := ⟨_, rfl⟩
  rw [hfs] at hc hl hu ⊢
  have HC := Lib.hid hc
  obtain ⟨n, hn⟩ : ∃ n, fs.length = n := ⟨_, rfl⟩
  have HN := Lib.hid hn
  have HU := Lib.hid hu
  rw [hn] at hl ⊢
  have hli : (n : Int) ≤ 1000000 := by omega
  unfold diskC
  have b0 : Below w.heap.size w (w.alloc (.cells #[.int .i64 d.room, .int .i64 d.fuse, .bool d.dead, .slice ao n cap] 27)) := (Below.refl _ _).alloc (Nat.le_refl _) _
  clear hc hfs hn hu
  go_enter Try.func12, Try.ntmps12
  go_wp2_with fail
  generalize w.alloc (.cells #[.int .i64 d.room, .int .i64 d.fuse, .bool d.dead, .slice ao n cap] 27) = W at *
  go_loopw [3, 9] (fun u x wr => ∃ i : Nat, i ≤ n ∧ x = .int .i64 i ∧ u = .int .i64 (dUsed (fs.take i)) ∧ Below w.heap.size w wr) (fun _ x _ => (n - intOf x).toNat)
  case atStart => exact ⟨0, Nat.zero_le _, rfl, rfl, b0⟩
  case round =>
    obtain ⟨i, hi, rfl, rfl, b1⟩ := hrel
    clear b0
    by_cases hlt : i < n
    · have hlt' : (i : Int) < n := by omega
      obtain ⟨f, hf⟩ : ∃ f, fs[i]? = some f := ⟨_, List.getElem?_eq_getElem (by rw [HN.out]; exact hlt)⟩
      obtain ⟨g, rfl, k1, k2, k3⟩ := HC.out i f hf
      have c1 := (b1.cell (p := ⟨g, i * 3, none⟩) (cellLt k1)).trans k1
      have c2 := (b1.cell (p := ⟨g, i * 3 + 1, none⟩) (cellLt k2)).trans k2
      have c3 := (b1.cell (p := ⟨g, i * 3 + 2, none⟩) (cellLt k3)).trans k3
      have hs : dUsed (fs.take (i + 1)) = dUsed (fs.take i) + f.bytes.length := by
        unfold dUsed
        rw [List.take_add_one, hf]
        simp
      have hle : dUsed (fs.take (i + 1)) ≤ dUsed fs := dUsed_take _ _
      have hle2 := Nat.le_trans hle HU.out
      have hsz : (stx f.bytes).size = f.bytes.length := by simp [ByteArray.size]
      have HS := Lib.hid hs
      rw [hs] at hle2
      generalize dUsed (fs.take i) = u at *
      generalize f.bytes.length = y at *
      have hui : (u : Int) + y ≤ 1000000000000 := by omega
      have b2 := b1.alloc b1.size (.cells #[.string (stx f.name), .string (stx f.bytes), .int .i64 f.sure] 37)
      clear k1 k2 k3 hle hs hf
      go_wp2_with fail
      exact ⟨⟨i + 1, hlt, by go_num, by rw [HS.out]; go_num, b2⟩, by simp [intOf]; omega⟩
    · obtain rfl : i = n := by omega
      go_wp2_with fail
      go_ret
      exact ⟨by rw [← HN.out, List.take_length]; rfl, b1⟩
def fileZ : List Value := [.string ⟨#[]⟩, .string ⟨#[]⟩, .int .i64 0]
def foundV : Option DFile → Value
  | some f => .tuple #[.agg (fileC f).toArray, .bool true]
  | none => .tuple #[.agg fileZ.toArray, .bool false]
set_option maxRecDepth 100000 in
set_option maxHeartbeats 1000000 in
theorem r5Find_any (d : DDisk) (v : Value) (nm : List UInt8) (w : World) (h : RFiles w v d.files) (hl : d.files.length ≤ 1000000) :
    Calls Try.prog 9 #[.agg (diskC d v), .string (stx nm)] w fun e w' => e = .returned (foundV (dFind d.files nm)) ∧ Below w.heap.size w w' := by
  obtain ⟨⟨ao, cap, rfl, hc⟩, -⟩ := id h
  clear h
  obtain ⟨fs, hfs⟩ : ∃ fs, d.files = fs := ⟨_, rfl⟩
  rw [hfs] at hc hl ⊢
  have HC := Lib.hid hc
  obtain ⟨n, hn⟩ : ∃ n, fs.length = n := ⟨_, rfl⟩
  have HN := Lib.hid hn
  rw [hn] at hl ⊢
  have hli : (n : Int) ≤ 1000000 := by omega
  unfold diskC
  clear hc hfs hn
  have b0 : Below w.heap.size w ((w.alloc (.cells #[.int .i64 d.room, .int .i64 d.fuse, .bool d.dead, .slice ao n cap] 27)).alloc (.cells #[.string ⟨#[]⟩, .string ⟨#[]⟩, .int .i64 0] 37)) := ((Below.refl _ _).alloc (Nat.le_refl _) _).alloc (by simp only [World.size_alloc]; omega) _
  have r1 : rowAt ((w.alloc (.cells #[.int .i64 d.room, .int .i64 d.fuse, .bool d.dead, .slice ao n cap] 27)).alloc (.cells #[.string ⟨#[]⟩, .string ⟨#[]⟩, .int .i64 0] 37)) (w.heap.size + 1) = some #[.string ⟨#[]⟩, .string ⟨#[]⟩, .int .i64 0] := rowAt_alloc_at _ _ _ _ (by simp only [World.size_alloc])
  go_enter Try.func9, Try.ntmps9
  go_wp2_with fail
  generalize (w.alloc (.cells #[.int .i64 d.room, .int .i64 d.fuse, .bool d.dead, .slice ao n cap] 27)).alloc (.cells #[.string ⟨#[]⟩, .string ⟨#[]⟩, .int .i64 0] 37) = W at *
  go_loopw [11] (fun x wr => ∃ i : Nat, i ≤ n ∧ x = .int .i64 i ∧ Hid (∀ f ∈ fs.take i, f.name ≠ nm) ∧ rowAt wr (w.heap.size + 1) = some #[.string ⟨#[]⟩, .string ⟨#[]⟩, .int .i64 0] ∧ Below w.heap.size w wr) (fun x _ => (n - intOf x).toNat)
  case atStart => exact ⟨0, Nat.zero_le _, rfl, Lib.hid (fun f hf => by simp at hf), r1, b0⟩
  case round =>
    obtain ⟨i, hi, rfl, HF, r2, b1⟩ := hrel
    clear b0 r1
    by_cases hlt : i < n
    · have hlt' : (i : Int) < n := by omega
      obtain ⟨f, hf⟩ : ∃ f, fs[i]? = some f := ⟨_, List.getElem?_eq_getElem (by rw [HN.out]; exact hlt)⟩
      obtain ⟨g, rfl, k1, k2, k3⟩ := HC.out i f hf
      have c1 := (b1.cell (p := ⟨g, i * 3, none⟩) (cellLt k1)).trans k1
      have c2 := (b1.cell (p := ⟨g, i * 3 + 1, none⟩) (cellLt k2)).trans k2
      have c3 := (b1.cell (p := ⟨g, i * 3 + 2, none⟩) (cellLt k3)).trans k3
      have hw2 := lt_of_rowAt r2
      have r3 : rowAt (wr.alloc (.cells #[.string (stx f.name), .string (stx f.bytes), .int .i64 f.sure] 37)) (w.heap.size + 1) = some #[.string ⟨#[]⟩, .string ⟨#[]⟩, .int .i64 0] := (rowAt_alloc_past _ _ _ hw2).trans r2
      have b2 := b1.alloc b1.size (.cells #[.string (stx f.name), .string (stx f.bytes), .int .i64 f.sure] 37)
      have HFF := Lib.hid hf
      have H3 := Lib.hid r3
      have hw3 : ¬ w.heap.size + 1 = wr.heap.size := Nat.ne_of_lt hw2
      have d0 := (cell_of_rowAt r2 0).trans (rfl : _ = some (Value.string ⟨#[]⟩))
      have d1 := (cell_of_rowAt r2 1).trans (rfl : _ = some (Value.string ⟨#[]⟩))
      have d2 := (cell_of_rowAt r2 2).trans (rfl : _ = some (Value.int .i64 0))
      have e0 := frozen_of_rowAt r2 0
      have e1 := frozen_of_rowAt r2 1
      have e2 := frozen_of_rowAt r2 2
      have D0 := (cell_of_rowAt r3 0).trans (rfl : _ = some (Value.string ⟨#[]⟩))
      have D1 := (cell_of_rowAt r3 1).trans (rfl : _ = some (Value.string ⟨#[]⟩))
      have D2 := (cell_of_rowAt r3 2).trans (rfl : _ = some (Value.int .i64 0))
      have E0 := frozen_of_rowAt r3 0
      have E1 := frozen_of_rowAt r3 1
      have E2 := frozen_of_rowAt r3 2
      have R2 := Lib.hid r2
      have B1 := Lib.hid b1
      clear k1 k2 k3 hf b1 r2 r3
      by_cases heq : f.name = nm
      · have hq : (f.name == nm) = true := beq_iff_eq.2 heq
        have HR : Hid (dFind fs nm = some f) := Lib.hid (by
          unfold dFind
          obtain ⟨hi2, hi3⟩ := List.getElem?_eq_some_iff.1 HFF.out
          rw [← List.take_append_drop i fs, List.find?_append, List.find?_eq_none.2 (fun x hx => by simpa using HF.out x hx), Option.none_or, List.drop_eq_getElem_cons hi2, hi3]
          simp [heq])
        clear heq
        go_wp2_with fail
        have rr := rowAt_setCell_same (rowAt_setCell_same (rowAt_setCell_same R2.out 0 (.string (stx f.name))) 1 (.string (stx f.bytes))) 2 (.int .i64 f.sure)
        have rq := (rowAt_alloc_past _ (.cells #[.string (stx f.name), .string (stx f.bytes), .int .i64 f.sure] 37) _ (lt_of_rowAt rr)).trans rr
        have bb := ((B1.out.setCell (p := ⟨w.heap.size + 1, 0, none⟩) (Nat.le_succ w.heap.size) (.string (stx f.name))).setCell (p := ⟨w.heap.size + 1, 1, none⟩) (Nat.le_succ w.heap.size) (.string (stx f.bytes))).setCell (p := ⟨w.heap.size + 1, 2, none⟩) (Nat.le_succ w.heap.size) (.int .i64 f.sure)
        refine bodyPost_ret (results_row_tmp rfl _ _ _ _ _ rfl rq Try.underlying37 rfl (by kernel_rfl)) rfl ⟨by rw [HR.out]; rfl, bb.alloc bb.size _⟩
      · have hq : (f.name == nm) = false := beq_eq_false_iff_ne.2 heq
        have HF2 : Hid (∀ x ∈ fs.take (i + 1), x.name ≠ nm) := Lib.hid (fun x hx => by
          rw [List.take_add_one, HFF.out] at hx
          rcases List.mem_append.1 hx with h | h
          · exact HF.out x h
          · have hx2 : x = f := by simpa using h
            rw [hx2]
            exact heq)
        clear heq hw2 hw3 d0 d1 d2 e0 e1 e2 D0 D1 D2 E0 E1 E2
        go_wp2_with fail
        exact ⟨⟨i + 1, hlt, by go_num, HF2, H3.out, b2⟩, by simp [intOf]; omega⟩
    · obtain rfl : i = n := by omega
      have HR : Hid (dFind fs nm = none) := Lib.hid (by
        unfold dFind
        refine List.find?_eq_none.2 fun x hx => ?_
        have := HF.out x (by rw [← HN.out, List.take_length]; exact hx)
        simpa using this)
      have d0 := (cell_of_rowAt r2 0).trans (rfl : _ = some (Value.string ⟨#[]⟩))
      have d1 := (cell_of_rowAt r2 1).trans (rfl : _ = some (Value.string ⟨#[]⟩))
      have d2 := (cell_of_rowAt r2 2).trans (rfl : _ = some (Value.int .i64 0))
      have e0 := frozen_of_rowAt r2 0
      have e1 := frozen_of_rowAt r2 1
      have e2 := frozen_of_rowAt r2 2
      have R2 := Lib.hid r2
      clear r2
      go_wp2_with fail
      refine bodyPost_ret (results_row_tmp rfl _ _ _ _ _ rfl (rowAt_setCell_same (rowAt_setCell_same (rowAt_setCell_same R2.out 0 (.string ⟨#[]⟩)) 1 (.string ⟨#[]⟩)) 2 (.int .i64 0)) Try.underlying37 rfl (by kernel_rfl)) rfl ⟨by rw [HR.out]; rfl, ((b1.setCell (p := ⟨w.heap.size + 1, 0, none⟩) (Nat.le_succ w.heap.size) (.string ⟨#[]⟩)).setCell (p := ⟨w.heap.size + 1, 1, none⟩) (Nat.le_succ w.heap.size) (.string ⟨#[]⟩)).setCell (p := ⟨w.heap.size + 1, 2, none⟩) (Nat.le_succ w.heap.size) (.int .i64 0)⟩
end Go.Proofs.Ytlnijckgnchpbaa
