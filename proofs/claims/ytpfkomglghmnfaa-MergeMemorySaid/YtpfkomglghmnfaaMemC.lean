/- slices.Insert of one entry where there is no room: a new row. Conditions: lists of at most 1000 entries. -/
import Derived.Test.YtpfkomglghmnfaaMemB
namespace Go.Proofs.Ytpfkomglghmnfaa
open Go Go.RowKit Go.Lib

theorem zc_size (z : Array Value) (k : Nat) : (Builtin.zeroCells z k).size = k * z.size := by
  simp [Builtin.zeroCells]
set_option maxRecDepth 100000 in
set_option maxHeartbeats 4000000 in
theorem ins_grow (g n cap i vb : Nat) (cur : Array Value) (l : List Ent) (x : Ent) (T : TypeId) (w : World) (hl : l.length = n) (hi : i < n) (hnc : n ≤ cap) (hc : cap < n + 1) (hn : n ≤ 1000) (hg : w.heap[g]? = some (.cells cur 28 (0, 0))) (ht : cur.toList.take (n * 3) = entCells l)
    (hv : w.heap[vb]? = some (.cells (entC x).toArray T (0, 0))) :
    Calls Try.prog 23 #[.slice (some ⟨g, 0, none⟩) n cap, .int .i64 i, .slice (some ⟨vb, 0, none⟩) 1 1] w fun e w' =>
      ∃ R G, e = .returned (.slice (some ⟨w.heap.size, 0, none⟩) (n + 1) G) ∧ w' = ((w.alloc (.cells R 28)).drew).drew ∧ n + 1 ≤ G ∧ G ≤ maxLen ∧ R.size = G * 3 ∧ R.toList.take ((n + 1) * 3) = entCells (insE l i x) := by
  have hr : rowAt w g = some cur := rowAt_of_heap hg
  have hrv : rowAt w vb = some (entC x).toArray := rowAt_of_heap hv
  have hgl := lt_of_rowAt hr
  have hvl := lt_of_rowAt hrv
  have hdl : (entCells (l.drop i)).length = (n - i) * 3 := by rw [entCells_length, List.length_drop, hl]
  have htl : (entCells (l.take i)).length = i * 3 := by rw [entCells_length, List.length_take, hl, Nat.min_eq_left (by omega)]
  have e : entCells l = entCells (l.take i) ++ entCells (l.drop i) := by rw [← entCells_append, List.take_append_drop]
  have hat : ∀ j u, (entCells l)[j]? = some u → cur[j]? = some u := fun j u hj => by
    rw [← Array.getElem?_toList]
    have hj2 := (List.getElem?_eq_some_iff.1 hj).1
    rw [entCells_length, hl] at hj2
    rw [← ht, List.getElem?_take, if_pos (by omega)] at hj
    exact hj
  have hold : ∀ (W : World), rowAt W g = some cur → (Builtin.firstCells 3 i (.slice (some ⟨g, 0, none⟩) i cap)).run Try.prog W = .ok (entCells (l.take i)).toArray W := fun W hW =>
    run_firstCells_some W 3 i ⟨g, 0, none⟩ i cap (entCells (l.take i)) htl (fun j u hj => by
      rw [add_lit, Nat.zero_add, cell_of_rowAt hW]
      exact hat j u (by rw [e, List.getElem?_append_left (List.getElem?_eq_some_iff.1 hj).1]; exact hj))
  obtain ⟨i0, hi0, hz0, hz1, hz2⟩ := info_ent
  have hrz : ∀ ty, (Builtin.append_ #[22, 3] ty #[.slice (some ⟨g, 0, none⟩) i cap, .int .i64 ((n : Int) + 1 - (i : Int))]).run Try.prog w =
      .ok (.slice (some ⟨w.heap.size, 0, none⟩) (n + 1) (grownCap w (n + 1) cap 28)) (w.drew.alloc (.cells ((entCells (l.take i)).toArray ++ Builtin.zeroCells (Value.agg #[.string ⟨#[]⟩, .string ⟨#[]⟩, .bool false]).cells (n + 1 - i) ++ Builtin.zeroCells (Value.agg #[.string ⟨#[]⟩, .string ⟨#[]⟩, .bool false]).cells (grownCap w (n + 1) cap 28 - (n + 1))) 28)) := fun ty => by
    have h := Lib.run_append_grow_zeros w 22 3 ty 28 i0 _ .i64 .i64 u_ents Try.underlying3 hi0 hz0 (some ⟨g, 0, none⟩) i cap (entCells (l.take i)) (by rw [hz1]; exact hold w.drew hr) (n + 1 - i) (by omega) (by omega) (by omega) (by omega) (by rw [hz2]; omega) (by rw [hz2]; exact growslice_fits (by omega) (by omega))
    rw [show i + (n + 1 - i) = n + 1 by omega] at h
    rw [show (n : Int) + 1 - (i : Int) = ((n + 1 - i : Nat) : Int) by omega]
    exact h
  have hG1 : n + 1 ≤ grownCap w (n + 1) cap 28 := grownCap_ge w _ _ _
  have hG2 : grownCap w (n + 1) cap 28 ≤ maxLen := grownCap_le_maxLen w (n + 1) cap 28 (by unfold maxLen; omega)
  have hzc : (Value.agg #[.string ⟨#[]⟩, .string ⟨#[]⟩, .bool false]).cells.size = 3 := by kernel_rfl
  generalize grownCap w (n + 1) cap 28 = G at *
  have hRl := zc_size (Value.agg #[.string ⟨#[]⟩, .string ⟨#[]⟩, .bool false]).cells
  generalize (Value.agg #[.string ⟨#[]⟩, .string ⟨#[]⟩, .bool false]).cells = Z at *
  obtain ⟨ROW, hROW⟩ : ∃ ROW : Array Value, ROW = (entCells (l.take i)).toArray ++ Builtin.zeroCells Z (n + 1 - i) ++ Builtin.zeroCells Z (G - (n + 1)) := ⟨_, rfl⟩
  rw [← hROW] at hrz
  have hRs : ROW.size = G * 3 := by
    rw [hROW, Array.size_append, Array.size_append, hRl, hRl, hzc, List.size_toArray, htl]
    omega
  have hRt : ROW.toList.take (i * 3) = entCells (l.take i) := by
    rw [hROW, ← htl]
    simp
  obtain ⟨R1, hR1⟩ : ∃ R1, splice ROW (i * 3) (entC x) = R1 := ⟨_, rfl⟩
  obtain ⟨R2, hR2⟩ : ∃ R2, splice R1 ((i + 1) * 3) (entCells (l.drop i)) = R2 := ⟨_, rfl⟩
  have hc0 : ROW.toList.length = G * 3 := by rw [Array.length_toList, hRs]
  have hR1l : R1.toList = entCells (l.take i) ++ entC x ++ ROW.toList.drop ((i + 1) * 3) := by
    rw [← hR1]
    simp only [splice, hRt, entC_len]
    rw [show i * 3 + 3 = (i + 1) * 3 by omega]
  have hR1s : R1.size = G * 3 := by
    rw [← Array.length_toList, hR1l]
    simp only [List.length_append, List.length_drop, htl, entC_len, hc0]
    omega
  have hl1 : (entCells (l.take i) ++ entC x).length = (i + 1) * 3 := by rw [List.length_append, htl, entC_len]; omega
  have hR2l : R2.toList = entCells (insE l i x) ++ R1.toList.drop ((n + 1) * 3) := by
    rw [← hR2]
    simp only [splice, hdl]
    rw [show (i + 1) * 3 + (n - i) * 3 = (n + 1) * 3 by omega, insE_cells, ← List.append_assoc (entCells (l.take i))]
    congr 2
    rw [hR1l, ← hl1, List.take_left]
  have hil : (entCells (insE l i x)).length = (n + 1) * 3 := by rw [entCells_length, insE_len l i x (by omega), hl]
  have hR2t : R2.toList.take ((n + 1) * 3) = entCells (insE l i x) := by rw [hR2l, ← hil, List.take_left]
  have hR2s : R2.size = G * 3 := by
    rw [← Array.length_toList, hR2l, List.length_append, hil, List.length_drop, Array.length_toList, hR1s]
    omega
  have hcpA : ∀ (W : World), rowAt W w.heap.size = some ROW → rowAt W vb = some (entC x).toArray → ∀ ty dc, (Builtin.copy_ #[22, 22] ty #[.slice (some ⟨w.heap.size, i * 3, none⟩) (n + 1 - i) dc, .slice (some ⟨vb, 0, none⟩) 1 1]).run Try.prog W = .ok (goInt 1) (W.setRow w.heap.size R1) := fun W h1 h2 ty dc => by
    rw [← hR1]
    exact run_copy_three W 22 22 ty 28 w.heap.size (i * 3) (n + 1 - i) dc ⟨vb, 0, none⟩ 1 1 1 (entC x) u_ents size_ent (by simp only [Nat.min_def]; split <;> omega) rfl (fun j u hj => by rw [add_lit, Nat.zero_add, cell_of_rowAt h2, List.getElem?_toArray]; exact hj) ROW h1 (by rw [entC_len]; omega) (oneE x)
  have hcpB : ∀ (W : World), rowAt W w.heap.size = some R1 → rowAt W g = some cur → ∀ ty dc sc, (Builtin.copy_ #[22, 22] ty #[.slice (some ⟨w.heap.size, (i + 1) * 3, none⟩) (n - i) dc, .slice (some ⟨g, i * 3, none⟩) (n - i) sc]).run Try.prog W = .ok (goInt ((n - i : Nat))) (W.setRow w.heap.size R2) := fun W h1 h2 ty dc sc => by
    rw [← hR2]
    exact run_copy_three W 22 22 ty 28 w.heap.size ((i + 1) * 3) (n - i) dc ⟨g, i * 3, none⟩ (n - i) sc (n - i) (entCells (l.drop i)) u_ents size_ent (by simp only [Nat.min_def]; split <;> omega) hdl (fun j u hj => by
      rw [add_lit, cell_of_rowAt h2]
      refine hat _ u ?_
      rw [e, List.getElem?_append_right (by rw [htl]; omega), htl, show i * 3 + j - i * 3 = j by omega]
      exact hj) R1 h1 (by rw [hdl]; omega) (oneEs _)
  clear hold hROW hRt hR1 hR2 hc0 hR1l hR1s hl1 hR2l hil hRl hzc hat e hdl htl hRs hg ht hv hi0 hz0 hz1 hz2
  have hP : ∀ c, rowAt (w.alloc (.cells c 28)).drew w.heap.size = some c := fun c => rowAt_alloc_at w c _ _ rfl
  have hPv : ∀ c, rowAt (w.alloc (.cells c 28)).drew vb = some (entC x).toArray := fun c => (rowAt_alloc_past w _ _ hvl).trans hrv
  have hPg : ∀ c, rowAt (w.alloc (.cells c 28)).drew g = some cur := fun c => (rowAt_alloc_past w _ _ hgl).trans hr
  have hPw : ∀ c c', (w.alloc (.cells c 28)).drew.setRow w.heap.size c' = (w.alloc (.cells c' 28)).drew := fun c c' => by rw [setRow_drew, setRow_alloc_at w c c' _ _ rfl]
  have hcA := fun ty dc => (hcpA (w.alloc (.cells ROW 28)).drew (hP _) (hPv _) ty dc).trans (by rw [hPw])
  have hcB := fun ty dc sc => (hcpB ((w.alloc (.cells R1 28)).drew).drew (hP R1) (hPg R1) ty dc sc)
  have hb1 : (0 : Int) ≤ (i : Int) + 1 := by omega
  have hb2 : ¬ (cap = i) := by omega
  have hb3 : ¬ (G = i) := by omega
  have hb4 : ¬ (G = i + 1) := by omega
  have hb5 : ¬ ((i : Int) = (n : Int)) := by omega
  have hb6 : (cap : Int) < (n : Int) + 1 := by omega
  have hb7 : (i : Int) ≤ (n : Int) := by omega
  have hb8 : (G : Int) ≤ 9223372036854775807 := by unfold maxLen at hG2; omega
  have hin : i ≤ n := by omega
  have htn : ((i : Int) + 1).toNat = i + 1 := by omega
  have hw1 : IntKind.i64.wrap ((i : Int) + 1) = (i : Int) + 1 := by rw [IntKind.wrap_i64]; omega
  have mixed : Try.prog.follows Departure.mixedOrders = true := by kernel_rfl
  clear hP hPv hPg hPw hcpA hcpB hr hrv
  have HE := Lib.hid (And.intro hG2 (And.intro hR2s hR2t))
  clear hG2 hR2s hR2t
  go_enter Try.func23, Try.ntmps23
  go_wp2_with (first
    | (at_builtin; refine Lib.wpList_append_run _ rfl _ _ _ _ rfl _ _ rfl rfl _ _ (hrz _) ?_)
    | (at_builtin; refine wpList_copy_run3 _ rfl _ _ 22 22 rfl _ _ rfl rfl (hcA _ _) ?_))
  go_region_law_o (refine step_copy_run3 rfl _ _ 22 22 rfl _ _ (by simp [Act.eval, Act.put]) (by simp [Act.eval, Act.put]) (hcB _ _ _) ?_)
  go_wp2
  go_ret
  exact ⟨R2, G, rfl, rfl, hG1, HE.out.1, HE.out.2.1, HE.out.2.2⟩
set_option maxRecDepth 100000 in
set_option maxHeartbeats 2000000 in
theorem ins_end (B : Nat) (v : Value) (l : List Ent) (vb : Nat) (x : Ent) (T : TypeId) (w : World) (h : OwnEnts w B v l) (hn : l.length ≤ 1000) (hB : B ≤ w.heap.size) (hv : w.heap[vb]? = some (.cells (entC x).toArray T (0, 0))) :
    Calls Try.prog 23 #[v, .int .i64 l.length, .slice (some ⟨vb, 0, none⟩) 1 1] w fun e w' => ∃ v', e = .returned v' ∧ OwnEnts w' B v' (l ++ [x]) ∧ w.grownBy w' v.ownBlock ∧ (v'.ownBlock = v.ownBlock ∨ v'.ownBlock = some w.heap.size) := by
  obtain ⟨ao, cap, hva⟩ := h.shape
  have hrv : rowAt w vb = some (entC x).toArray := rowAt_of_heap hv
  have hx : EntAt w vb 0 x := ⟨cell_of_rowAt hrv 0, cell_of_rowAt hrv 1, cell_of_rowAt hrv 2⟩
  have hl := h.lie
  obtain ⟨ao2, cap2, hv2, k1, k2, -⟩ := hl
  obtain ⟨rfl, -, rfl⟩ : ao = ao2 ∧ l.length = l.length ∧ cap = cap2 := by rw [hva] at hv2; simpa using hv2
  obtain ⟨n, hln⟩ : ∃ n, l.length = n := ⟨_, rfl⟩
  have hnn : l.length ≤ 1000000 := by omega
  have HO := Lib.hid h
  have HX := Lib.hid hx
  rw [hln] at hva k1 hn ⊢
  subst hva
  unfold maxLen at k2
  clear h hx hrv hv hv2
  by_cases hcn : cap = n
  · subst hcn
    go_enter Try.func23, Try.ntmps23
    go_wp2_with (at_builtin; refine wpList_put_ent rfl _ _ rfl B _ l rfl HO.out x vb 1 rfl HX.out hB hnn ?_)
    intro v' w' ho hg hb
    go_wp2_with fail
    go_ret
    exact ⟨v', rfl, ho, hg, hb⟩
  · go_enter Try.func23, Try.ntmps23
    go_wp2_with (at_builtin; refine wpList_put_ent rfl _ _ rfl B _ l rfl HO.out x vb 1 rfl HX.out hB hnn ?_)
    intro v' w' ho hg hb
    go_wp2_with fail
    go_ret
    exact ⟨v', rfl, ho, hg, hb⟩
theorem setRow_grown (w : World) (g : Nat) (c : Array Value) : w.grownBy (w.setRow g c) (some g) :=
  ⟨rfl, rfl, rfl, Nat.le_of_eq (setRow_size w g c).symm, fun k _ hk => setRow_other w g k c (fun e => hk (by rw [e]))⟩
/-- slices.Insert of one entry. -/
theorem ins_any (B : Nat) (v : Value) (l : List Ent) (i vb : Nat) (x : Ent) (T : TypeId) (w : World) (h : OwnEnts w B v l) (hi : i ≤ l.length) (hn : l.length ≤ 1000) (hB : B ≤ w.heap.size) (hv : w.heap[vb]? = some (.cells (entC x).toArray T (0, 0))) (hne : v.ownBlock ≠ some vb) :
    Calls Try.prog 23 #[v, .int .i64 i, .slice (some ⟨vb, 0, none⟩) 1 1] w fun e w' => ∃ v', e = .returned v' ∧ OwnEnts w' B v' (insE l i x) ∧ w.grownBy w' v.ownBlock ∧ (v'.ownBlock = v.ownBlock ∨ v'.ownBlock = some w.heap.size) := by
  by_cases hil : i = l.length
  · subst hil
    have := ins_end B v l vb x T w h hn hB hv
    rwa [show insE l l.length x = l ++ [x] by simp [insE]]
  · rcases h.2 with ⟨rfl, h0⟩ | ⟨g, cap, cur, rfl, hb, hg, h1, h2, h3, h4⟩
    · omega
    · by_cases hr : l.length + 1 ≤ cap
      · refine (ins_shift g l.length cap i vb cur l x T w rfl (by omega) hr h2 hg h3 h4 hv (fun e => hne (by rw [e]; rfl))).mono ?_
        rintro e w' ⟨rfl, rfl⟩
        have hsp := insE_splice cur l i x hi (by omega) (by
          have : (cur.toList.take (l.length * 3)).take (i * 3) = (entCells l).take (i * 3) := by rw [h4]
          rw [List.take_take, Nat.min_eq_left (by omega)] at this
          rw [this, show entCells l = entCells (l.take i) ++ entCells (l.drop i) by rw [← entCells_append, List.take_append_drop],
            show i * 3 = (entCells (l.take i)).length by rw [entCells_length, List.length_take, Nat.min_eq_left hi], List.take_left])
        rw [setRow_setRow]
        refine ⟨_, rfl, ⟨by rw [entCells_length], .inr ⟨g, cap, _, by rw [insE_len l i x hi], hb, setRow_heap _ g cur _ _ _ hg, by rw [insE_len l i x hi]; exact hr, h2, by rw [hsp.2, h3], by rw [insE_len l i x hi]; exact hsp.1⟩⟩, ?_, .inl rfl⟩
        exact ⟨rfl, rfl, rfl, Nat.le_of_eq (setRow_size w.drew g _).symm, fun k _ hk => setRow_other w.drew g k _ (fun e => hk (by rw [e]; rfl))⟩
      · refine (ins_grow g l.length cap i vb cur l x T w rfl (by omega) h1 (by omega) hn hg h4 hv).mono ?_
        rintro e w' ⟨R, G, rfl, rfl, q1, q2, q3, q4⟩
        refine ⟨_, rfl, ⟨by rw [entCells_length], .inr ⟨w.heap.size, G, R, by rw [insE_len l i x hi], hB, heap_alloc_new w _, by rw [insE_len l i x hi]; exact q1, q2, q3, by rw [insE_len l i x hi]; exact q4⟩⟩, ?_, .inr rfl⟩
        exact ⟨rfl, rfl, rfl, by show w.heap.size ≤ (w.alloc _).heap.size; rw [World.size_alloc]; omega, fun k hk _ => ((Below.refl w.heap.size w).alloc (Nat.le_refl _) _).block k hk⟩
end Go.Proofs.Ytpfkomglghmnfaa
