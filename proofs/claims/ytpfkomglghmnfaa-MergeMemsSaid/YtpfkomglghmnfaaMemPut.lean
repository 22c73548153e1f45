/- Entries in memory: Put. Conditions: at most 500 entries of at most 2^48 bytes. -/
import Derived.Test.YtpfkomglghmnfaaMemD
import Derived.Test.YtpfkomglghmnfaaMemMath
namespace Go.Proofs.Ytpfkomglghmnfaa
open Go Go.RowKit
attribute [local go_sem] Oper.semAt_some

/-- Below n nothing but these blocks changes. -/
structure Kept (n : Nat) (bs : List Nat) (a b : World) : Prop where
  os : b.os = a.os
  tape : b.tape = a.tape
  output : b.output = a.output
  size : a.heap.size ≤ b.heap.size
  block : ∀ k, k < n → k ∉ bs → b.heap[k]? = a.heap[k]?
theorem Kept.of {n : Nat} (bs : List Nat) {a b : World} (h : Below n a b) : Kept n bs a b := ⟨h.os, h.tape, h.output, h.size, fun k hk _ => h.block k hk⟩
theorem Kept.trans {n : Nat} {bs : List Nat} {a b c : World} (h : Kept n bs a b) (k : Kept n bs b c) : Kept n bs a c :=
  ⟨k.os.trans h.os, k.tape.trans h.tape, k.output.trans h.output, Nat.le_trans h.size k.size, fun i hi hb => (k.block i hi hb).trans (h.block i hi hb)⟩
theorem Kept.past {n : Nat} {bs : List Nat} {a b c : World} (h : Kept n bs a b) (k : Below b.heap.size b c) (hn : n ≤ a.heap.size) : Kept n bs a c :=
  h.trans (Kept.of bs ⟨k.os, k.tape, k.output, k.size, fun i hi => k.block i (Nat.lt_of_lt_of_le hi (Nat.le_trans hn h.size))⟩)
theorem heap_setCell_other (w : World) (b i k : Nat) (v : Value) (h : k ≠ b) : (w.setCell ⟨b, i, none⟩ v).heap[k]? = w.heap[k]? := by
  have : ¬ b = k := fun e => h e.symm
  simp [World.setCell, Array.getElem?_modify, this]
theorem Kept.setCell {n : Nat} {bs : List Nat} {a b : World} (h : Kept n bs a b) (m i : Nat) (hm : m ∈ bs ∨ n ≤ m) (v : Value) : Kept n bs a (b.setCell ⟨m, i, none⟩ v) :=
  h.trans ⟨rfl, rfl, rfl, by simp [World.setCell], fun k hk hb => heap_setCell_other b m i k v (fun e => by
    subst e
    rcases hm with q | q
    · exact hb q
    · omega)⟩
theorem Kept.alloc {n : Nat} {bs : List Nat} {a b : World} (h : Kept n bs a b) (hn : n ≤ a.heap.size) (o : Obj) : Kept n bs a (b.alloc o) :=
  h.past ((Below.refl _ _).alloc (Nat.le_refl _) o) hn
theorem Kept.grown {n : Nat} {bs : List Nat} {a b c : World} (h : Kept n bs a b) (hn : n ≤ a.heap.size) {row : Option Nat} (g : b.grownBy c row) (hr : ∀ k, row = some k → k ∈ bs ∨ n ≤ k) : Kept n bs a c :=
  h.trans ⟨g.os, g.tape, g.output, g.size, fun k hk hb => g.block k (Nat.lt_of_lt_of_le hk (Nat.le_trans hn h.size)) (fun e => by
    rcases hr k e.symm with q | q
    · exact hb q
    · omega)⟩
theorem entCells_set (x : Ent) : ∀ (l : List Ent) (c : Nat), c < l.length → (((entCells l).set (c * 3) (.string (stx x.key))).set (c * 3 + 1) (.string (stx x.val))).set (c * 3 + 2) (.bool x.gone) = entCells (l.set c x)
  | [], c, h => by simp at h
  | y :: r, 0, _ => rfl
  | y :: r, c + 1, h => by
    have ih := entCells_set x r c (by simpa using h)
    have e : ∀ z : Ent, ∀ t, entCells (z :: t) = .string (stx z.key) :: .string (stx z.val) :: .bool z.gone :: entCells t := fun z t => rfl
    rw [List.set_cons_succ, e, e, ← ih, show (c + 1) * 3 = c * 3 + 1 + 1 + 1 by omega]
    simp only [List.set_cons_succ]
theorem own_set {w : World} {B g n cap c : Nat} {l : List Ent} (x : Ent) (h : OwnEnts w B (.slice (some ⟨g, 0, none⟩) n cap) l) (hc : c < l.length) :
    OwnEnts (((w.setCell ⟨g, c * 3, none⟩ (.string (stx x.key))).setCell ⟨g, c * 3 + 1, none⟩ (.string (stx x.val))).setCell ⟨g, c * 3 + 2, none⟩ (.bool x.gone)) B (.slice (some ⟨g, 0, none⟩) n cap) (l.set c x) := by
  refine ⟨by rw [entCells_length], ?_⟩
  rcases h.2 with ⟨e, _⟩ | ⟨g', cap', cur, e, h1, h2, h3, h4, h5, h6⟩
  · cases e
  · obtain ⟨rfl, rfl, rfl⟩ : g = g' ∧ n = l.length ∧ cap = cap' := by simpa using e
    refine .inr ⟨g, cap, _, by rw [List.length_set], h1, heap_putF (heap_putF (heap_putF h2 _) _) _, by rw [List.length_set]; exact h3, h4, by simpa using h5, ?_⟩
    rw [List.length_set]
    simp only [Array.toList_setIfInBounds, List.take_set, h6]
    exact entCells_set x l c hc
theorem mem_ins {B m bb g n cap c N : Nat} {l : List Ent} {x : Ent} {sz : Int} {Wc w8 : World} {v' u : Value} (hN : N ≤ Wc.heap.size) (h2 : B ≤ m) (k2 : B ≤ bb) (hm : m < N) (hb : bb < N) (k5 : m ≠ bb) (k6 : g ≠ m) (k7 : g ≠ bb) (hc : c ≤ l.length)
    (r1 : rowAt Wc m = some #[.slice (some ⟨bb, 0, none⟩) 1 1, .int .i64 sz]) (hsz : sz = (costs (insE l c x) : Nat)) (r2 : rowAt w8 bb = some #[u])
    (ow : OwnEnts w8 B v' (insE l c x)) (gr : Wc.grownBy w8 (Value.slice (some ⟨g, 0, none⟩) n cap).ownBlock) (hb' : v'.ownBlock = (Value.slice (some ⟨g, 0, none⟩) n cap).ownBlock ∨ v'.ownBlock = some Wc.heap.size) :
    ∃ bs', MemAt (w8.setCell ⟨bb, 0, none⟩ v') B m bs' (insE l c x) ∧ ∀ k ∈ bs', k ∈ [m, bb, g] ∨ N ≤ k := by
  have hlen := insE_len l c x hc
  rcases ow.2 with ⟨_, h0⟩ | ⟨g', cap', cur, rfl, q1, q2, q3, q4, q5, q6⟩
  · omega
  · have hg : g' = g ∨ g' = Wc.heap.size := by
      rcases hb' with e | e
      · exact .inl (by simpa [Value.ownBlock] using e)
      · exact .inr (by simpa [Value.ownBlock] using e)
    have hgm : g' ≠ m := by
      rcases hg with rfl | rfl
      · exact k6
      · omega
    have hgb : g' ≠ bb := by
      rcases hg with rfl | rfl
      · exact k7
      · omega
    have r3 : rowAt w8 m = some #[.slice (some ⟨bb, 0, none⟩) 1 1, .int .i64 sz] := (rowAt_same (gr.block m (by omega) (by simpa [Value.ownBlock] using fun e => k6 e.symm))).trans r1
    rw [hsz] at r3
    refine ⟨[m, bb, g'], ⟨_, (rowAt_setCell_other _ _ _ _ (by show m ≠ bb; exact k5)).trans r3, h2, .inr ⟨bb, g', cap', rfl, (rowAt_setCell_same r2 0 _).trans rfl, k2, own_same ow (heap_setCell_other _ _ _ _ _ hgb), by omega, k5, hgm, hgb, rfl⟩⟩, fun k hk => ?_⟩
    simp only [List.mem_cons, List.mem_nil_iff, or_false] at hk ⊢
    rcases hg with rfl | rfl
    · exact .inl hk
    · rcases hk with rfl | rfl | rfl
      · exact .inl (.inl rfl)
      · exact .inl (.inr (.inl rfl))
      · exact .inr hN
set_option maxRecDepth 100000 in
set_option maxHeartbeats 8000000 in
theorem memPut_any (B m : Nat) (bs : List Nat) (l : List Ent) (x : Ent) (w : World) (h : MemAt w B m bs l) (hB : B ≤ w.heap.size) (hr : rising l) (hl : l.length ≤ 500) (hs : ∀ y ∈ l, costE y ≤ 1125899906842624) (hx : costE x ≤ 1125899906842624) (hxs : smallE x) :
    Calls Try.prog 7 #[.pointer (some ⟨m, 0, none⟩), .agg (entC x).toArray] w fun e w' => e = .returned (.tuple #[]) ∧ ∃ bs', MemAt w' B m bs' (putE (keepE x) l) ∧ Kept w.heap.size bs w w' ∧ ∀ k ∈ bs', k ∈ bs ∨ w.heap.size ≤ k := by
  obtain ⟨k, vl, gn⟩ := x
  have b0 : Below w.heap.size w (w.alloc (.cells #[.string (stx k), .string (stx vl), .bool gn] 28)) := (Below.refl _ _).alloc (Nat.le_refl _) _
  have r0 : rowAt (w.alloc (.cells #[.string (stx k), .string (stx vl), .bool gn] 28)) w.heap.size = some #[.string (stx k), .string (stx vl), .bool gn] := rowAt_alloc_at _ _ _ _ rfl
  have HO : ∀ W, Hid (Calls Try.prog 19 #[.agg #[.string (stx k), .string (stx vl), .bool gn]] W fun e w' => e = .returned (.agg #[.string (stx k), .string (stx vl), .bool gn]) ∧ Below W.heap.size W w') := fun W => Lib.hid (mOwn_any ⟨k, vl, gn⟩ W hxs.1 hxs.2)
  have c0 := cell_of_rowAt r0 0
  have c1 := cell_of_rowAt r0 1
  have c2 := cell_of_rowAt r0 2
  have HM := Lib.hid h
  have HX := Lib.hid hx
  have HS := Lib.hid hs
  have HR := Lib.hid hr
  simp at c0 c1 c2
  clear h hx hs hr hxs
  unfold entC
  dsimp only
  go_enter Try.func7, Try.ntmps7
  go_wp2_with fail
  generalize w.alloc (.cells #[.string (stx k), .string (stx vl), .bool gn] 28) = W at *
  refine (HO _).out.mono ?_
  rintro e w1 ⟨rfl, b1⟩
  have b2 := below_past b0 b1 b0.size
  have r1 := (rowAt_below b1 (lt_of_rowAt r0)).trans r0
  clear HO c0 c1 c2 r0 b0 b1
  have c0 := cell_of_rowAt r1 0
  have c1 := cell_of_rowAt r1 1
  have c2 := cell_of_rowAt r1 2
  have f0 := frozen_of_rowAt r1 0
  have f1 := frozen_of_rowAt r1 1
  have f2 := frozen_of_rowAt r1 2
  have R1 := Lib.hid r1
  simp at c0 c1 c2
  clear r1
  cases gn with
  | true =>
    go_upto_region 4 with fail
    have r2 := rowAt_setCell_same (rowAt_setCell_same (rowAt_setCell_same (rowAt_setCell_same R1.out 0 (.string (stx k))) 1 (.string (stx vl))) 2 (.bool true)) 1 (.string ⟨#[]⟩)
    have b3 := (((b2.setCell (p := ⟨w.heap.size, 0, none⟩) (Nat.le_refl w.heap.size) (.string (stx k))).setCell (p := ⟨w.heap.size, 1, none⟩) (Nat.le_refl w.heap.size) (.string (stx vl))).setCell (p := ⟨w.heap.size, 2, none⟩) (Nat.le_refl w.heap.size) (.bool true)).setCell (p := ⟨w.heap.size, 1, none⟩) (Nat.le_refl w.heap.size) (.string ⟨#[]⟩)
    have HX2 : Hid (costE ⟨k, [], true⟩ ≤ 1125899906842624) := Lib.hid (by have := HX.out; unfold costE at this ⊢; dsimp only at this ⊢; simp; omega)
    have HK : Hid (keepE ⟨k, vl, true⟩ = ⟨k, [], true⟩) := Lib.hid rfl
    clear f0 f1 f2 c0 c1 c2 b2 R1 HX
    generalize (((w1.setCell { block := w.heap.size, off := 0 } (Value.string (stx k))).setCell { block := w.heap.size, off := 1 } (Value.string (stx vl))).setCell { block := w.heap.size, off := 2 } (Value.bool true)).setCell { block := w.heap.size, off := 1 } (Value.string { data := #[] }) = W2 at *
    replace r2 : rowAt W2 w.heap.size = some #[.string (stx k), .string (stx []), .bool true] := r2
    have hm2 := HM.out.below b3
    have hmx := HM.out.lt
    clear HM
    obtain ⟨lv, h1, h2, ⟨rfl, rfl, rfl⟩ | ⟨bb, g, cap, rfl, k1, k2, k3, k4, k5, k6, k7, rfl⟩⟩ := id hm2
    · have q0 : W2.cell? ⟨m, 0, none⟩ = some (.slice none 0 0) := cell_of_rowAt h1 0
      have q1 : W2.cell? ⟨m, 1, none⟩ = some (.int .i64 0) := cell_of_rowAt h1 1
      have p0 := frozen_of_rowAt h1 0
      have p1 := frozen_of_rowAt h1 1
      have d0 : W2.cell? ⟨w.heap.size, 0, none⟩ = some (.string (stx k)) := cell_of_rowAt r2 0
      have d1 : W2.cell? ⟨w.heap.size, 1, none⟩ = some (.string (stx [])) := cell_of_rowAt r2 1
      have d2 : W2.cell? ⟨w.heap.size, 2, none⟩ = some (.bool true) := cell_of_rowAt r2 2
      have HC : ∀ W, Hid (Calls Try.prog 20 #[.agg #[.string (stx k), .string (stx []), .bool true]] W fun e w' => e = .returned (.int .i64 (costE ⟨k, [], true⟩)) ∧ Below W.heap.size W w') := fun W => Lib.hid (mCost_any ⟨k, [], true⟩ W (by have := HX2.out; omega))
      have hmw : m < w.heap.size := (hmx m (by simp)).2
      have hmn : ¬ m = w.heap.size := Nat.ne_of_lt hmw
      have hmn2 : ¬ w.heap.size = m := fun e => hmn e.symm
      have hH1 := Lib.hid h1
      have hR2 := Lib.hid r2
      have hxw : w.heap.size < W2.heap.size := lt_of_rowAt r2
      have hmw2 : m < W2.heap.size := Nat.lt_trans hmw hxw
      have hmn3 : ¬ m = W2.heap.size := Nat.ne_of_lt hmw2
      have hmn4 : ¬ m = W2.heap.size + 1 := by omega
      have hxn3 : ¬ w.heap.size = W2.heap.size := Nat.ne_of_lt hxw
      have hxn4 : ¬ w.heap.size = W2.heap.size + 1 := by omega
      have hmw3 : m < W2.heap.size + 1 := by omega
      have hxw3 : w.heap.size < W2.heap.size + 1 := by omega
      have u1 := rowAt_setCell_same h1 0 (.slice (some ⟨W2.heap.size + 1, 0, none⟩) 1 1)
      have u2 : rowAt (((W2.setCell ⟨m, 0, none⟩ (.slice (some ⟨W2.heap.size + 1, 0, none⟩) 1 1)).alloc (.cells #[.string (stx k), .string (stx []), .bool true] 28)).alloc (.cells #[.slice (some ⟨W2.heap.size, 0, none⟩) 1 1] 22)) m = some #[.slice (some ⟨W2.heap.size + 1, 0, none⟩) 1 1, .int .i64 0] := (rowAt_alloc_past _ _ _ (by simp only [World.size_alloc, World.size_setCell]; omega)).trans ((rowAt_alloc_past _ _ _ (by simp only [World.size_setCell]; omega)).trans u1)
      have u3 : rowAt (((W2.setCell ⟨m, 0, none⟩ (.slice (some ⟨W2.heap.size + 1, 0, none⟩) 1 1)).alloc (.cells #[.string (stx k), .string (stx []), .bool true] 28)).alloc (.cells #[.slice (some ⟨W2.heap.size, 0, none⟩) 1 1] 22)) (W2.heap.size + 1) = some #[.slice (some ⟨W2.heap.size, 0, none⟩) 1 1] := rowAt_alloc_at _ _ _ _ (by simp only [World.size_alloc, World.size_setCell])
      have u4 : (((W2.setCell ⟨m, 0, none⟩ (.slice (some ⟨W2.heap.size + 1, 0, none⟩) 1 1)).alloc (.cells #[.string (stx k), .string (stx []), .bool true] 28)).alloc (.cells #[.slice (some ⟨W2.heap.size, 0, none⟩) 1 1] 22)).heap[W2.heap.size]? = some (.cells #[.string (stx k), .string (stx []), .bool true] 28) := by
        rw [((Below.refl _ ((W2.setCell ⟨m, 0, none⟩ (.slice (some ⟨W2.heap.size + 1, 0, none⟩) 1 1)).alloc (.cells #[.string (stx k), .string (stx []), .bool true] 28))).alloc (Nat.le_refl _) (.cells #[.slice (some ⟨W2.heap.size, 0, none⟩) 1 1] 22)).block _ (by simp only [World.size_alloc, World.size_setCell]; omega)]
        have := heap_alloc_new (W2.setCell ⟨m, 0, none⟩ (.slice (some ⟨W2.heap.size + 1, 0, none⟩) 1 1)) (.cells #[.string (stx k), .string (stx []), .bool true] 28)
        rwa [World.size_setCell] at this
      have u5 := (((Kept.of [m] b3).setCell m 0 (.inl (by simp)) (.slice (some ⟨W2.heap.size + 1, 0, none⟩) 1 1)).alloc (Nat.le_refl _) (.cells #[.string (stx k), .string (stx []), .bool true] 28)).alloc (Nat.le_refl _) (.cells #[.slice (some ⟨W2.heap.size, 0, none⟩) 1 1] 22)
      have hBW : B ≤ W2.heap.size := Nat.le_trans hB b3.size
      have hwW : w.heap.size ≤ W2.heap.size := b3.size
      clear h1 r2 hm2 hmx u1 b3
      go_wp2_with fail
      generalize ((W2.setCell ⟨m, 0, none⟩ (.slice (some ⟨W2.heap.size + 1, 0, none⟩) 1 1)).alloc (.cells #[.string (stx k), .string (stx []), .bool true] 28)).alloc (.cells #[.slice (some ⟨W2.heap.size, 0, none⟩) 1 1] 22) = W3 at *
      refine (HC _).out.mono ?_
      rintro e w4 ⟨rfl, b4⟩
      have v2 := (rowAt_below b4 (lt_of_rowAt u2)).trans u2
      have v3 := (rowAt_below b4 (lt_of_rowAt u3)).trans u3
      have v4 := (b4.block _ (heap_ltF u4)).trans u4
      have v5 := u5.past b4 (Nat.le_refl _)
      have i0 := cell_of_rowAt v2 0
      have i1 := cell_of_rowAt v2 1
      have i2 := frozen_of_rowAt v2 1
      generalize hsW : W2.heap.size = s2 at *
      clear q0 q1 p0 p1 d0 d1 d2 HC u2 u3 u4 u5 b4 hH1 hR2
      have V2 := Lib.hid v2
      have V3 := Lib.hid v3
      have V4 := Lib.hid v4
      simp at i0 i1
      clear v2 v3 v4
      go_wp2_with fail
      refine bodyPost_ret (results_none rfl _ _ _) rfl ⟨rfl, [m, s2 + 1, s2], ?_, v5.setCell m 1 (.inl (by simp)) _, ?_⟩
      · rw [HK.out, putE_nil]
        refine ⟨_, (rowAt_setCell_same V2.out 1 _), h2, .inr ⟨s2 + 1, s2, 1, rfl, (rowAt_setCell_other _ _ _ _ (by show s2 + 1 ≠ m; omega)).trans V3.out, by omega, ⟨rfl, .inr ⟨s2, 1, _, rfl, hBW, (heap_setCell_other _ m 1 s2 _ (by omega)).trans V4.out, Nat.le_refl _, by decide, rfl, rfl⟩⟩, Nat.succ_pos _, by omega, by omega, by omega, rfl⟩⟩
      · intro j hj
        simp only [List.mem_cons, List.mem_nil_iff, or_false] at hj ⊢
        omega
    · obtain ⟨n, hnn⟩ : ∃ n, l.length = n := ⟨_, rfl⟩
      have HN := Lib.hid hnn
      have HPL := Lib.hid (memPlace_any B m [m, bb, g] l k W2 hm2 k4)
      have HSK : ∀ W, Below W2.heap.size W2 W → Hid (Calls Try.prog 22 #[.slice (some ⟨g, 0, none⟩) n cap, .string (stx k)] W fun e w' => e = .returned (.int .i64 (seekE l k)) ∧ Below W.heap.size W w') := fun W hW => Lib.hid (by rw [← hnn]; exact kSeek_any _ l k W (k3.lie.below hW) HR.out (by omega))
      have HPA := Lib.hid (put_at (x := ⟨k, [], true⟩) HR.out)
      have HCL := Lib.hid (costs_le HS.out)
      have hcl := seekE_le l k
      dsimp only at HPA
      generalize seekE l k = c at *
      rw [hnn] at k1 k3 k4 hl hcl HCL
      have q0 : W2.cell? ⟨m, 0, none⟩ = some (.slice (some ⟨bb, 0, none⟩) 1 1) := cell_of_rowAt h1 0
      have q2 : W2.cell? ⟨bb, 0, none⟩ = some (.slice (some ⟨g, 0, none⟩) n cap) := cell_of_rowAt k1 0
      have d0 : W2.cell? ⟨w.heap.size, 0, none⟩ = some (.string (stx k)) := cell_of_rowAt r2 0
      have hmw : m < w.heap.size := (hmx m (by simp)).2
      have hbw : bb < w.heap.size := (hmx bb (by simp)).2
      have hgw : g < w.heap.size := (hmx g (by simp)).2
      have K0 := Kept.of [m, bb, g] b3
      have hwW : w.heap.size ≤ W2.heap.size := b3.size
      clear hm2 hmx hnn b3
      go_wp2_with fail
      refine HPL.out.mono ?_
      rintro e w3 ⟨rfl, b4⟩
      have HSK2 := HSK w3 b4
      have K1 := K0.past b4 (Nat.le_refl _)
      have r3 := (rowAt_below b4 (lt_of_rowAt r2)).trans r2
      have h3 := (rowAt_below b4 (lt_of_rowAt h1)).trans h1
      have k13 := (rowAt_below b4 (lt_of_rowAt k1)).trans k1
      have k33 := k3.below b4
      have hwW3 := Nat.le_trans hwW b4.size
      clear HPL HSK q0 q2 d0 K0 r2 h1 k1 k3 b4 hwW
      have q0 : w3.cell? ⟨m, 0, none⟩ = some (.slice (some ⟨bb, 0, none⟩) 1 1) := cell_of_rowAt h3 0
      have q2 : w3.cell? ⟨bb, 0, none⟩ = some (.slice (some ⟨g, 0, none⟩) n cap) := cell_of_rowAt k13 0
      have d0 : w3.cell? ⟨w.heap.size, 0, none⟩ = some (.string (stx k)) := cell_of_rowAt r3 0
      go_wp2_with fail
      refine HSK2.out.mono ?_
      rintro e w4 ⟨rfl, b4⟩
      have K2 := K1.past b4 (Nat.le_refl _)
      have r4 := (rowAt_below b4 (lt_of_rowAt r3)).trans r3
      have h4 := (rowAt_below b4 (lt_of_rowAt h3)).trans h3
      have k14 := (rowAt_below b4 (lt_of_rowAt k13)).trans k13
      have k34 := k33.below b4
      have hwW4 := Nat.le_trans hwW3 b4.size
      clear HSK2 q0 q2 d0 K1 r3 h3 k13 k33 b4 hwW3
      have y0 := fun y : Past w4 => (cell_of_rowAt (rowAt_past y.h r4) 0).trans (rfl : _ = some (Value.string (stx k)))
      have y1 := fun y : Past w4 => (cell_of_rowAt (rowAt_past y.h r4) 1).trans (rfl : _ = some (Value.string (stx [])))
      have y2 := fun y : Past w4 => (cell_of_rowAt (rowAt_past y.h r4) 2).trans (rfl : _ = some (Value.bool true))
      have y3 := fun y : Past w4 => (cell_of_rowAt (rowAt_past y.h h4) 1).trans (rfl : _ = some (Value.int .i64 (costs l)))
      have HC : Hid (∀ W, Below w4.heap.size w4 W → Calls Try.prog 20 #[.agg #[.string (stx k), .string (stx []), .bool true]] W fun e w' => e = .returned (.int .i64 (costE ⟨k, [], true⟩)) ∧ Below W.heap.size W w') := Lib.hid fun W _ => mCost_any ⟨k, [], true⟩ W (by have := HX2.out; omega)
      have hcc1 : costE ⟨k, [], true⟩ ≤ 1125899906842624 := HX2.out
      have hcc2 : costs l ≤ n * 1125899906842624 := HCL.out
      have hw1 : IntKind.i64.wrap ((costs l : Int) + (costE ⟨k, [], true⟩ : Int)) = (costs l : Int) + (costE ⟨k, [], true⟩ : Int) := by rw [IntKind.wrap_i64]; omega
      generalize hcx : costE ⟨k, [], true⟩ = cx at *
      go_upto_region 10 with fail
      refine wp_region_wildL [] 9 (by kernel_rfl) (by kernel_rfl) ?_
      simp only [List.take_succ_cons, List.take_zero]
      iterate 5 (refine wildL_val (by decide) (by kernel_rfl) rfl ?_; intro K hK; go_big_quiet_op; go_big_quiet_on)
      refine wildL_call (by decide) (by kernel_rfl) (by kernel_rfl) ?_
      apply Exists.intro
      refine And.intro ?_ ?_
      focus
        intro x K hK
        go_big_quiet_op
        go_big_quiet_call (exact call_back (HC.out _ (Past.two _)))
        rfl
      iterate 3 (refine wildL_val (by decide) (by kernel_rfl) rfl ?_; intro K hK; go_big_quiet_op; go_big_quiet_on)
      refine wildL_nil ?_
      simp only [List.drop_succ_cons, List.drop_zero]
      rintro ⟨w5, b5⟩
      dsimp only
      clear y0 y1 y2 y3 hw1
      have K3 := K2.past b5 (Nat.le_refl _)
      have r5 := (rowAt_below b5 (lt_of_rowAt r4)).trans r4
      have h5 := (rowAt_below b5 (lt_of_rowAt h4)).trans h4
      have k15 := (rowAt_below b5 (lt_of_rowAt k14)).trans k14
      have k35 := k34.below b5
      have hwW5 := Nat.le_trans hwW4 b5.size
      clear K2 r4 h4 k14 k34 b5 hwW4
      have f1 := frozen_of_rowAt h5 1
      have q1 : w5.cell? ⟨m, 1, none⟩ = some (.int .i64 (costs l)) := cell_of_rowAt h5 1
      go_upto_region 11 with fail
      have r6 := (rowAt_setCell_other w5 ⟨m, 1, none⟩ w.heap.size (.int .i64 ((costs l : Int) + cx)) (by show w.heap.size ≠ m; omega)).trans r5
      have h6 := rowAt_setCell_same h5 1 (.int .i64 ((costs l : Int) + cx))
      have k16 := (rowAt_setCell_other w5 ⟨m, 1, none⟩ bb (.int .i64 ((costs l : Int) + cx)) (by show bb ≠ m; omega)).trans k15
      have k36 := own_same k35 (heap_setCell_other w5 m 1 g (.int .i64 ((costs l : Int) + cx)) k6)
      have K4 := K3.setCell m 1 (.inl (by simp)) (.int .i64 ((costs l : Int) + cx))
      have hwW6 : w.heap.size ≤ (w5.setCell ⟨m, 1, none⟩ (.int .i64 ((costs l : Int) + cx))).heap.size := by rw [World.size_setCell]; exact hwW5
      replace h6 : rowAt (w5.setCell ⟨m, 1, none⟩ (.int .i64 ((costs l : Int) + cx))) m = some #[.slice (some ⟨bb, 0, none⟩) 1 1, .int .i64 ((costs l : Int) + cx)] := h6
      clear K3 r5 h5 k15 k35 hwW5 f1 q1 HC
      generalize w5.setCell ⟨m, 1, none⟩ (.int .i64 ((costs l : Int) + cx)) = W6 at *
      have hci : (c : Int) ≤ n := by omega
      have z0 := fun y : Past W6 => (cell_of_rowAt (rowAt_past y.h r6) 0).trans (rfl : _ = some (Value.string (stx k)))
      by_cases hlt : c < n
      · obtain ⟨x, hx⟩ : ∃ x, l[c]? = some x := ⟨_, List.getElem?_eq_getElem (by rw [HN.out]; exact hlt)⟩
        have hgd : l.getD c ⟨[], [], false⟩ = x := by rw [List.getD_eq_getElem?_getD, hx]; rfl
        obtain ⟨ao, cap2, e1, e2, e3, e4⟩ := k36.lie
        obtain ⟨g', o', rfl, hat⟩ := e4 c x hx
        obtain ⟨⟨rfl, rfl⟩, -, rfl⟩ : (g = g' ∧ 0 = o') ∧ n = l.length ∧ cap = cap2 := by simpa using e1
        rw [Nat.zero_add] at hat
        have hlti : (c : Int) < n := by omega
        have hld : decide ((c : Int) < n) = true := decide_eq_true hlti
        have hln : decide (c < n) = true := decide_eq_true hlt
        have z1 := fun y : Past W6 => (hat.below y.h).1
        clear e1 e2 e3 e4
        have HX := Lib.hid hx
        clear hx
        rw [hgd] at HPA
        by_cases hk : x.key = k
        · subst hk
          have p1 : ((stx x.key).toList == (stx x.key).toList) = true := beq_self_eq_true _
          have p2 : (x.key == x.key) = true := beq_self_eq_true _
          refine wp_region_past (by kernel_rfl) (by kernel_rfl) ?_
          repeat (go_big_quiet_step (fail))
          refine wpQuiet_nil ?_
          intro w2 hw2
          obtain ⟨⟨wn, hn⟩, rfl⟩ := hw2
          try dsimp only
          have r7 := (rowAt_below hn (lt_of_rowAt r6)).trans r6
          have h7 := (rowAt_below hn (lt_of_rowAt h6)).trans h6
          have k17 := (rowAt_below hn (lt_of_rowAt k16)).trans k16
          have k37 := k36.below hn
          have K5 := K4.past hn (Nat.le_refl _)
          have hwW7 := Nat.le_trans hwW6 hn.size
          have hat7 := hat.below hn
          have HCZ : Hid (costs (l.set c ⟨x.key, [], true⟩) + costE x = costs l + cx) := Lib.hid (by rw [← hcx]; exact costs_set l c ⟨x.key, [], true⟩ x HX.out)
          have hcz : costE x ≤ 1125899906842624 := HS.out x (List.mem_of_getElem? HX.out)
          have hcz2 : costE x ≤ costs l + cx := by have := HCZ.out; omega
          have HPE : Hid (putE ⟨x.key, [], true⟩ l = l.set c ⟨x.key, [], true⟩) := Lib.hid (HPA.out.trans (if_pos ⟨by rw [HN.out]; exact hlt, rfl⟩))
          have HOS : Hid (∀ W, OwnEnts W B (.slice (some ⟨g, 0, none⟩) n cap) l → OwnEnts (((W.setCell ⟨g, c * 3, none⟩ (.string (stx x.key))).setCell ⟨g, c * 3 + 1, none⟩ (.string (stx []))).setCell ⟨g, c * 3 + 2, none⟩ (.bool true)) B (.slice (some ⟨g, 0, none⟩) n cap) (l.set c ⟨x.key, [], true⟩)) := Lib.hid fun W hW => own_set ⟨x.key, [], true⟩ hW (by rw [HN.out]; exact hlt)
          have hC : ∀ W, Hid (Calls Try.prog 20 #[.agg #[.string (stx x.key), .string (stx x.val), .bool x.gone]] W fun e w' => e = .returned (.int .i64 (costE x)) ∧ Below W.heap.size W w') := fun W => Lib.hid (mCost_any x W (by omega))
          have y3 := fun y : Past w2 => (cell_of_rowAt (rowAt_past y.h h7) 1).trans (rfl : _ = some (Value.int .i64 ((costs l : Int) + cx)))
          have y4 := fun y : Past w2 => (hat7.below y.h).1
          have y5 := fun y : Past w2 => (hat7.below y.h).2.1
          have y6 := fun y : Past w2 => (hat7.below y.h).2.2
          have hw2 : IntKind.i64.wrap ((costs l : Int) + cx - (costE x : Int)) = (costs l : Int) + cx - (costE x : Int) := by rw [IntKind.wrap_i64]; omega
          clear r6 h6 k16 k36 K4 hwW6 hat hn z0 z1 hgd HPA
          generalize costE x = cz at *
          go_upto_region 12 with fail
          refine wp_region_wildL [] 12 (by kernel_rfl) (by kernel_rfl) ?_
          simp only [List.take_succ_cons, List.take_zero]
          iterate 8 (refine wildL_val (by decide) (by kernel_rfl) rfl ?_; intro K hK; go_big_quiet_op; go_big_quiet_on)
          refine wildL_call (by decide) (by kernel_rfl) (by kernel_rfl) ?_
          apply Exists.intro
          refine And.intro ?_ ?_
          focus
            intro x K hK
            go_big_quiet_op
            go_big_quiet_call (exact call_back (hC _).out)
            rfl
          iterate 3 (refine wildL_val (by decide) (by kernel_rfl) rfl ?_; intro K hK; go_big_quiet_op; go_big_quiet_on)
          refine wildL_nil ?_
          simp only [List.drop_succ_cons, List.drop_zero]
          rintro ⟨w8, b8⟩
          dsimp only
          clear y3 y4 y5 y6 hw2 hC hat7
          have K6 := K5.past b8 (Nat.le_refl _)
          have r8 := (rowAt_below b8 (lt_of_rowAt r7)).trans r7
          have h8 := (rowAt_below b8 (lt_of_rowAt h7)).trans h7
          have k18 := (rowAt_below b8 (lt_of_rowAt k17)).trans k17
          have k38 := k37.below b8
          have hwW8 := Nat.le_trans hwW7 b8.size
          clear K5 r7 h7 k17 k37 b8 hwW7
          have f1 := frozen_of_rowAt h8 1
          have q1 : w8.cell? ⟨m, 1, none⟩ = some (.int .i64 ((costs l : Int) + cx)) := cell_of_rowAt h8 1
          go_upto_region 13 with fail
          have r9 := (rowAt_setCell_other w8 ⟨m, 1, none⟩ w.heap.size (.int .i64 ((costs l : Int) + cx - cz)) (by show w.heap.size ≠ m; omega)).trans r8
          have h9 := rowAt_setCell_same h8 1 (.int .i64 ((costs l : Int) + cx - cz))
          have k19 := (rowAt_setCell_other w8 ⟨m, 1, none⟩ bb (.int .i64 ((costs l : Int) + cx - cz)) (by show bb ≠ m; omega)).trans k18
          have k39 := own_same k38 (heap_setCell_other w8 m 1 g (.int .i64 ((costs l : Int) + cx - cz)) k6)
          have K7 := K6.setCell m 1 (.inl (by simp)) (.int .i64 ((costs l : Int) + cx - cz))
          replace h9 : rowAt (w8.setCell ⟨m, 1, none⟩ (.int .i64 ((costs l : Int) + cx - cz))) m = some #[.slice (some ⟨bb, 0, none⟩) 1 1, .int .i64 ((costs l : Int) + cx - cz)] := h9
          clear K6 r8 h8 k18 k38 hwW8 f1 q1
          generalize w8.setCell ⟨m, 1, none⟩ (.int .i64 ((costs l : Int) + cx - cz)) = W9 at *
          have d0 : W9.cell? ⟨w.heap.size, 0, none⟩ = some (.string (stx x.key)) := cell_of_rowAt r9 0
          have d1 : W9.cell? ⟨w.heap.size, 1, none⟩ = some (.string (stx [])) := cell_of_rowAt r9 1
          have d2 : W9.cell? ⟨w.heap.size, 2, none⟩ = some (.bool true) := cell_of_rowAt r9 2
          obtain ⟨ao, cap2, e1, e2, e3, e4⟩ := k39.lie
          obtain ⟨g', o', rfl, e5, e6, e7⟩ := e4 c x HX.out
          obtain ⟨⟨rfl, rfl⟩, -, rfl⟩ : (g = g' ∧ 0 = o') ∧ n = l.length ∧ cap = cap2 := by simpa using e1
          rw [Nat.zero_add] at e5 e6 e7
          have i0 : W9.frozen? ⟨g, c * 3, none⟩ = false := by
            rcases k39.2 with ⟨e, _⟩ | ⟨g', cap', cur, e, _, hh, _⟩
            · cases e
            · obtain ⟨rfl, -, -⟩ : g = g' ∧ n = l.length ∧ cap = cap' := by simpa using e
              exact Lib.frozen_of_heap hh _
          have i1 : W9.frozen? ⟨g, c * 3 + 1, none⟩ = false := by
            rcases k39.2 with ⟨e, _⟩ | ⟨g', cap', cur, e, _, hh, _⟩
            · cases e
            · obtain ⟨rfl, -, -⟩ : g = g' ∧ n = l.length ∧ cap = cap' := by simpa using e
              exact Lib.frozen_of_heap hh _
          have i2 : W9.frozen? ⟨g, c * 3 + 2, none⟩ = false := by
            rcases k39.2 with ⟨e, _⟩ | ⟨g', cap', cur, e, _, hh, _⟩
            · cases e
            · obtain ⟨rfl, -, -⟩ : g = g' ∧ n = l.length ∧ cap = cap' := by simpa using e
              exact Lib.frozen_of_heap hh _
          have hgx : ¬ g = w.heap.size := by omega
          clear e1 e2 e3 e4
          have R9 := Lib.hid r9
          have H9 := Lib.hid h9
          have K19 := Lib.hid k19
          have K39 := Lib.hid k39
          clear r9 h9 k19 k39
          go_wp2_with fail
          refine bodyPost_ret (results_none rfl _ _ _) rfl ⟨rfl, [m, bb, g], ?_, ?_, fun j hj => .inl hj⟩
          · rw [HK.out, HPE.out]
            have hcf : ((costs l : Int) + cx - cz) = (costs (l.set c ⟨x.key, [], true⟩) : Nat) := by have := HCZ.out; omega
            refine ⟨_, ((rowAt_setCell_other _ _ _ _ (by show m ≠ g; omega)).trans ((rowAt_setCell_other _ _ _ _ (by show m ≠ g; omega)).trans ((rowAt_setCell_other _ _ _ _ (by show m ≠ g; omega)).trans (H9.out.trans (by rw [hcf]))))), h2, .inr ⟨bb, g, cap, rfl, ((rowAt_setCell_other _ _ _ _ (by show bb ≠ g; omega)).trans ((rowAt_setCell_other _ _ _ _ (by show bb ≠ g; omega)).trans ((rowAt_setCell_other _ _ _ _ (by show bb ≠ g; omega)).trans (K19.out.trans (by rw [List.length_set, HN.out]))))), k2, ?_, by rw [List.length_set, HN.out]; exact k4, k5, k6, k7, rfl⟩⟩
            rw [List.length_set, HN.out]
            exact HOS.out _ K39.out
          · exact ((K7.setCell g _ (.inl (by simp)) _).setCell g _ (.inl (by simp)) _).setCell g _ (.inl (by simp)) _
        · have q1 : (x.key == k) = false := by rw [beq_eq_false_iff_ne]; exact hk
          have q2 := str_ne (fun e => hk (stx_inj e))
          have HPE : Hid (putE ⟨k, [], true⟩ l = insE l c ⟨k, [], true⟩) := Lib.hid (HPA.out.trans (if_neg (fun e => hk e.2)))
          refine wp_region_past (by kernel_rfl) (by kernel_rfl) ?_
          repeat (go_big_quiet_step (fail))
          refine wpQuiet_nil ?_
          intro w2 hw2
          obtain ⟨⟨wn, hn⟩, rfl⟩ := hw2
          try dsimp only
          clear hat z1 hgd hk q1 q2 hld hln hlti HX
          have r7 := (rowAt_below hn (lt_of_rowAt r6)).trans r6
          have h7 := (rowAt_below hn (lt_of_rowAt h6)).trans h6
          have k17 := (rowAt_below hn (lt_of_rowAt k16)).trans k16
          have k37 := k36.below hn
          have K5 := K4.past hn (Nat.le_refl _)
          have hwW7 := Nat.le_trans hwW6 hn.size
          clear r6 h6 k16 k36 K4 hwW6 hn z0 HPA
          have ba : Below w2.heap.size w2 (w2.alloc (.cells #[.string (stx k), .string (stx []), .bool true] 28)).drew := ((Below.refl _ _).alloc (Nat.le_refl _) _).drew
          have va : (w2.alloc (.cells #[.string (stx k), .string (stx []), .bool true] 28)).drew.heap[w2.heap.size]? = some (.cells #[.string (stx k), .string (stx []), .bool true] 28 (0, 0)) := heap_alloc_new w2 _
          have hza : (w2.alloc (.cells #[.string (stx k), .string (stx []), .bool true] 28)).drew.heap.size = w2.heap.size + 1 := World.size_alloc w2 _
          have hBW : B ≤ w2.heap.size := by omega
          have hgv : (Value.slice (some ⟨g, 0, none⟩) n cap).ownBlock ≠ some w2.heap.size := by
            intro e
            have e2 : g = w2.heap.size := by simpa [Value.ownBlock] using e
            omega
          have HI := Lib.hid (ins_any B (.slice (some ⟨g, 0, none⟩) n cap) l c w2.heap.size ⟨k, [], true⟩ 28 (w2.alloc (.cells #[.string (stx k), .string (stx []), .bool true] 28)).drew (k37.below ba) (by rw [HN.out]; exact hcl) (by rw [HN.out]; omega) (by rw [hza]; omega) va hgv)
          have r8 := (rowAt_below ba (lt_of_rowAt r7)).trans r7
          have h8 := (rowAt_below ba (lt_of_rowAt h7)).trans h7
          have k18 := (rowAt_below ba (lt_of_rowAt k17)).trans k17
          have K6 := K5.past ba (Nat.le_refl _)
          have d0 : w2.cell? ⟨w.heap.size, 0, none⟩ = some (.string (stx k)) := cell_of_rowAt r7 0
          have d1 : w2.cell? ⟨w.heap.size, 1, none⟩ = some (.string (stx [])) := cell_of_rowAt r7 1
          have d2 : w2.cell? ⟨w.heap.size, 2, none⟩ = some (.bool true) := cell_of_rowAt r7 2
          have j0 : w2.cell? ⟨m, 0, none⟩ = some (.slice (some ⟨bb, 0, none⟩) 1 1) := cell_of_rowAt h7 0
          have j1 : w2.cell? ⟨bb, 0, none⟩ = some (.slice (some ⟨g, 0, none⟩) n cap) := cell_of_rowAt k17 0
          have hmz : m < w2.heap.size := by omega
          have hbz : bb < w2.heap.size := by omega
          have hxz : w.heap.size < w2.heap.size := lt_of_rowAt r7
          have hmz1 : ¬ m = w2.heap.size := by omega
          have hbz1 : ¬ bb = w2.heap.size := by omega
          have hxz1 : ¬ w.heap.size = w2.heap.size := by omega
          have J0 := Lib.hid r8
          have J1 := Lib.hid h8
          have J2 := Lib.hid k18
          have J3 := Lib.hid K6
          have J4 := Lib.hid hza
          have J5 : Hid (n ≤ 500 ∧ w.heap.size ≤ w2.heap.size) := Lib.hid ⟨hl, hwW7⟩
          clear r7 h7 k17 k37 K5 ba va hza r8 h8 k18 K6 hwW7
          go_upto_region 14 with fail
          go_region_with (go_at_call 23; refine HI.out.mono ?_; rintro e w8 ⟨v', rfl, ow, gr, hb⟩; obtain ⟨ao', cp', rfl⟩ := ow.shape; have j2 : w8.cell? ⟨m, 0, none⟩ = some (.slice (some ⟨bb, 0, none⟩) 1 1) := gr.cell (cell_of_rowAt J1.out 0) (by simpa [Value.ownBlock] using fun e => k6 e.symm); have j3 : w8.cell? ⟨bb, 0, none⟩ = some (.slice (some ⟨g, 0, none⟩) n cap) := gr.cell (cell_of_rowAt J2.out 0) (by simpa [Value.ownBlock] using fun e => k7 e.symm); have j4 : rowAt w8 bb = some #[.slice (some ⟨g, 0, none⟩) n cap] := (rowAt_same (gr.block bb (lt_of_rowAt J2.out) (by simpa [Value.ownBlock] using fun e => k7 e.symm))).trans J2.out; have j5 := frozen_of_rowAt j4 0; have OW := Lib.hid ow; have GR := Lib.hid gr; have HB := Lib.hid hb; have J6 := Lib.hid j4; clear ow gr hb j4)
          all_goals
            clear j2 j3 j5 d0 d1 d2 j0 j1 hmz hbz hxz hmz1 hbz1 hxz1 HI
            obtain ⟨bs', hM, hbs⟩ := mem_ins (N := w.heap.size) (by rw [J4.out]; have := J5.out.2; omega) h2 k2 hmw hbw k5 k6 k7 (by rw [HN.out]; exact hcl) J1.out (by rw [costs_insE, hcx]; rfl) J6.out OW.out GR.out HB.out
            have K9 := (J3.out.grown (Nat.le_refl _) GR.out (fun j hj => .inl (by
              obtain rfl : g = j := by simpa [Value.ownBlock] using hj
              simp))).setCell bb 0 (.inl (by simp)) (.slice ao' (insE l c ⟨k, [], true⟩).length cp')
            have HM9 := Lib.hid hM
            have HH := Lib.hid (memHalve_any B m bs' _ _ hM (by rw [insE_len _ _ _ (by rw [HN.out]; exact hcl)]; omega) (by rw [insE_len _ _ _ (by rw [HN.out]; exact hcl), HN.out]; have := J5.out.1; omega))
            clear J0 J1 J2 J3 J4 J6 OW GR HB hM
            generalize w8.setCell ⟨bb, 0, none⟩ (.slice ao' (insE l c ⟨k, [], true⟩).length cp') = W9 at *
            go_wp2_with fail
            refine HH.out.mono ?_
            rintro e w10 ⟨rfl, b10⟩
            clear HH
            go_wp2_with fail
            go_end0
            exact ⟨rfl, bs', by rw [HK.out, HPE.out]; exact HM9.out.below b10, K9.past b10 (Nat.le_refl _), hbs⟩
      · have hld : decide ((c : Int) < n) = false := decide_eq_false (by omega)
        have hln : decide (c < n) = false := decide_eq_false hlt
        have HPE : Hid (putE ⟨k, [], true⟩ l = insE l c ⟨k, [], true⟩) := Lib.hid (HPA.out.trans (if_neg (fun e => hlt (by rw [← HN.out]; exact e.1))))
        refine wp_region_past (by kernel_rfl) (by kernel_rfl) ?_
        repeat (go_big_quiet_step (fail))
        refine wpQuiet_nil ?_
        intro w2 hw2
        obtain ⟨⟨wn, hn⟩, rfl⟩ := hw2
        try dsimp only
        clear hld hln
        have r7 := (rowAt_below hn (lt_of_rowAt r6)).trans r6
        have h7 := (rowAt_below hn (lt_of_rowAt h6)).trans h6
        have k17 := (rowAt_below hn (lt_of_rowAt k16)).trans k16
        have k37 := k36.below hn
        have K5 := K4.past hn (Nat.le_refl _)
        have hwW7 := Nat.le_trans hwW6 hn.size
        clear r6 h6 k16 k36 K4 hwW6 hn z0 HPA
        have ba : Below w2.heap.size w2 (w2.alloc (.cells #[.string (stx k), .string (stx []), .bool true] 28)).drew := ((Below.refl _ _).alloc (Nat.le_refl _) _).drew
        have va : (w2.alloc (.cells #[.string (stx k), .string (stx []), .bool true] 28)).drew.heap[w2.heap.size]? = some (.cells #[.string (stx k), .string (stx []), .bool true] 28 (0, 0)) := heap_alloc_new w2 _
        have hza : (w2.alloc (.cells #[.string (stx k), .string (stx []), .bool true] 28)).drew.heap.size = w2.heap.size + 1 := World.size_alloc w2 _
        have hBW : B ≤ w2.heap.size := by omega
        have hgv : (Value.slice (some ⟨g, 0, none⟩) n cap).ownBlock ≠ some w2.heap.size := by
          intro e
          have e2 : g = w2.heap.size := by simpa [Value.ownBlock] using e
          omega
        have HI := Lib.hid (ins_any B (.slice (some ⟨g, 0, none⟩) n cap) l c w2.heap.size ⟨k, [], true⟩ 28 (w2.alloc (.cells #[.string (stx k), .string (stx []), .bool true] 28)).drew (k37.below ba) (by rw [HN.out]; exact hcl) (by rw [HN.out]; omega) (by rw [hza]; omega) va hgv)
        have r8 := (rowAt_below ba (lt_of_rowAt r7)).trans r7
        have h8 := (rowAt_below ba (lt_of_rowAt h7)).trans h7
        have k18 := (rowAt_below ba (lt_of_rowAt k17)).trans k17
        have K6 := K5.past ba (Nat.le_refl _)
        have d0 : w2.cell? ⟨w.heap.size, 0, none⟩ = some (.string (stx k)) := cell_of_rowAt r7 0
        have d1 : w2.cell? ⟨w.heap.size, 1, none⟩ = some (.string (stx [])) := cell_of_rowAt r7 1
        have d2 : w2.cell? ⟨w.heap.size, 2, none⟩ = some (.bool true) := cell_of_rowAt r7 2
        have j0 : w2.cell? ⟨m, 0, none⟩ = some (.slice (some ⟨bb, 0, none⟩) 1 1) := cell_of_rowAt h7 0
        have j1 : w2.cell? ⟨bb, 0, none⟩ = some (.slice (some ⟨g, 0, none⟩) n cap) := cell_of_rowAt k17 0
        have hmz : m < w2.heap.size := by omega
        have hbz : bb < w2.heap.size := by omega
        have hxz : w.heap.size < w2.heap.size := lt_of_rowAt r7
        have hmz1 : ¬ m = w2.heap.size := by omega
        have hbz1 : ¬ bb = w2.heap.size := by omega
        have hxz1 : ¬ w.heap.size = w2.heap.size := by omega
        have J0 := Lib.hid r8
        have J1 := Lib.hid h8
        have J2 := Lib.hid k18
        have J3 := Lib.hid K6
        have J4 := Lib.hid hza
        have J5 : Hid (n ≤ 500 ∧ w.heap.size ≤ w2.heap.size) := Lib.hid ⟨hl, hwW7⟩
        clear r7 h7 k17 k37 K5 ba va hza r8 h8 k18 K6 hwW7
        go_upto_region 14 with fail
        go_region_with (go_at_call 23; refine HI.out.mono ?_; rintro e w8 ⟨v', rfl, ow, gr, hb⟩; obtain ⟨ao', cp', rfl⟩ := ow.shape; have j2 : w8.cell? ⟨m, 0, none⟩ = some (.slice (some ⟨bb, 0, none⟩) 1 1) := gr.cell (cell_of_rowAt J1.out 0) (by simpa [Value.ownBlock] using fun e => k6 e.symm); have j3 : w8.cell? ⟨bb, 0, none⟩ = some (.slice (some ⟨g, 0, none⟩) n cap) := gr.cell (cell_of_rowAt J2.out 0) (by simpa [Value.ownBlock] using fun e => k7 e.symm); have j4 : rowAt w8 bb = some #[.slice (some ⟨g, 0, none⟩) n cap] := (rowAt_same (gr.block bb (lt_of_rowAt J2.out) (by simpa [Value.ownBlock] using fun e => k7 e.symm))).trans J2.out; have j5 := frozen_of_rowAt j4 0; have OW := Lib.hid ow; have GR := Lib.hid gr; have HB := Lib.hid hb; have J6 := Lib.hid j4; clear ow gr hb j4)
        all_goals
          clear j2 j3 j5 d0 d1 d2 j0 j1 hmz hbz hxz hmz1 hbz1 hxz1 HI
          obtain ⟨bs', hM, hbs⟩ := mem_ins (N := w.heap.size) (by rw [J4.out]; have := J5.out.2; omega) h2 k2 hmw hbw k5 k6 k7 (by rw [HN.out]; exact hcl) J1.out (by rw [costs_insE, hcx]; rfl) J6.out OW.out GR.out HB.out
          have K9 := (J3.out.grown (Nat.le_refl _) GR.out (fun j hj => .inl (by
            obtain rfl : g = j := by simpa [Value.ownBlock] using hj
            simp))).setCell bb 0 (.inl (by simp)) (.slice ao' (insE l c ⟨k, [], true⟩).length cp')
          have HM9 := Lib.hid hM
          have HH := Lib.hid (memHalve_any B m bs' _ _ hM (by rw [insE_len _ _ _ (by rw [HN.out]; exact hcl)]; omega) (by rw [insE_len _ _ _ (by rw [HN.out]; exact hcl), HN.out]; have := J5.out.1; omega))
          clear J0 J1 J2 J3 J4 J6 OW GR HB hM
          generalize w8.setCell ⟨bb, 0, none⟩ (.slice ao' (insE l c ⟨k, [], true⟩).length cp') = W9 at *
          go_wp2_with fail
          refine HH.out.mono ?_
          rintro e w10 ⟨rfl, b10⟩
          clear HH
          go_wp2_with fail
          go_end0
          exact ⟨rfl, bs', by rw [HK.out, HPE.out]; exact HM9.out.below b10, K9.past b10 (Nat.le_refl _), hbs⟩
  | false =>
    go_upto_region 4 with fail
    have r2 := rowAt_setCell_same (rowAt_setCell_same (rowAt_setCell_same R1.out 0 (.string (stx k))) 1 (.string (stx vl))) 2 (.bool false)
    have b3 := ((b2.setCell (p := ⟨w.heap.size, 0, none⟩) (Nat.le_refl w.heap.size) (.string (stx k))).setCell (p := ⟨w.heap.size, 1, none⟩) (Nat.le_refl w.heap.size) (.string (stx vl))).setCell (p := ⟨w.heap.size, 2, none⟩) (Nat.le_refl w.heap.size) (.bool false)
    have HX2 : Hid (costE ⟨k, vl, false⟩ ≤ 1125899906842624) := Lib.hid HX.out
    have HK : Hid (keepE ⟨k, vl, false⟩ = ⟨k, vl, false⟩) := Lib.hid rfl
    clear f0 f1 f2 c0 c1 c2 b2 R1 HX
    generalize ((w1.setCell { block := w.heap.size, off := 0 } (Value.string (stx k))).setCell { block := w.heap.size, off := 1 } (Value.string (stx vl))).setCell { block := w.heap.size, off := 2 } (Value.bool false) = W2 at *
    replace r2 : rowAt W2 w.heap.size = some #[.string (stx k), .string (stx vl), .bool false] := r2
    have hm2 := HM.out.below b3
    have hmx := HM.out.lt
    clear HM
    obtain ⟨lv, h1, h2, ⟨rfl, rfl, rfl⟩ | ⟨bb, g, cap, rfl, k1, k2, k3, k4, k5, k6, k7, rfl⟩⟩ := id hm2
    · have q0 : W2.cell? ⟨m, 0, none⟩ = some (.slice none 0 0) := cell_of_rowAt h1 0
      have q1 : W2.cell? ⟨m, 1, none⟩ = some (.int .i64 0) := cell_of_rowAt h1 1
      have p0 := frozen_of_rowAt h1 0
      have p1 := frozen_of_rowAt h1 1
      have d0 : W2.cell? ⟨w.heap.size, 0, none⟩ = some (.string (stx k)) := cell_of_rowAt r2 0
      have d1 : W2.cell? ⟨w.heap.size, 1, none⟩ = some (.string (stx vl)) := cell_of_rowAt r2 1
      have d2 : W2.cell? ⟨w.heap.size, 2, none⟩ = some (.bool false) := cell_of_rowAt r2 2
      have HC : ∀ W, Hid (Calls Try.prog 20 #[.agg #[.string (stx k), .string (stx vl), .bool false]] W fun e w' => e = .returned (.int .i64 (costE ⟨k, vl, false⟩)) ∧ Below W.heap.size W w') := fun W => Lib.hid (mCost_any ⟨k, vl, false⟩ W (by have := HX2.out; omega))
      have hmw : m < w.heap.size := (hmx m (by simp)).2
      have hmn : ¬ m = w.heap.size := Nat.ne_of_lt hmw
      have hmn2 : ¬ w.heap.size = m := fun e => hmn e.symm
      have hH1 := Lib.hid h1
      have hR2 := Lib.hid r2
      have hxw : w.heap.size < W2.heap.size := lt_of_rowAt r2
      have hmw2 : m < W2.heap.size := Nat.lt_trans hmw hxw
      have hmn3 : ¬ m = W2.heap.size := Nat.ne_of_lt hmw2
      have hmn4 : ¬ m = W2.heap.size + 1 := by omega
      have hxn3 : ¬ w.heap.size = W2.heap.size := Nat.ne_of_lt hxw
      have hxn4 : ¬ w.heap.size = W2.heap.size + 1 := by omega
      have hmw3 : m < W2.heap.size + 1 := by omega
      have hxw3 : w.heap.size < W2.heap.size + 1 := by omega
      have u1 := rowAt_setCell_same h1 0 (.slice (some ⟨W2.heap.size + 1, 0, none⟩) 1 1)
      have u2 : rowAt (((W2.setCell ⟨m, 0, none⟩ (.slice (some ⟨W2.heap.size + 1, 0, none⟩) 1 1)).alloc (.cells #[.string (stx k), .string (stx vl), .bool false] 28)).alloc (.cells #[.slice (some ⟨W2.heap.size, 0, none⟩) 1 1] 22)) m = some #[.slice (some ⟨W2.heap.size + 1, 0, none⟩) 1 1, .int .i64 0] := (rowAt_alloc_past _ _ _ (by simp only [World.size_alloc, World.size_setCell]; omega)).trans ((rowAt_alloc_past _ _ _ (by simp only [World.size_setCell]; omega)).trans u1)
      have u3 : rowAt (((W2.setCell ⟨m, 0, none⟩ (.slice (some ⟨W2.heap.size + 1, 0, none⟩) 1 1)).alloc (.cells #[.string (stx k), .string (stx vl), .bool false] 28)).alloc (.cells #[.slice (some ⟨W2.heap.size, 0, none⟩) 1 1] 22)) (W2.heap.size + 1) = some #[.slice (some ⟨W2.heap.size, 0, none⟩) 1 1] := rowAt_alloc_at _ _ _ _ (by simp only [World.size_alloc, World.size_setCell])
      have u4 : (((W2.setCell ⟨m, 0, none⟩ (.slice (some ⟨W2.heap.size + 1, 0, none⟩) 1 1)).alloc (.cells #[.string (stx k), .string (stx vl), .bool false] 28)).alloc (.cells #[.slice (some ⟨W2.heap.size, 0, none⟩) 1 1] 22)).heap[W2.heap.size]? = some (.cells #[.string (stx k), .string (stx vl), .bool false] 28) := by
        rw [((Below.refl _ ((W2.setCell ⟨m, 0, none⟩ (.slice (some ⟨W2.heap.size + 1, 0, none⟩) 1 1)).alloc (.cells #[.string (stx k), .string (stx vl), .bool false] 28))).alloc (Nat.le_refl _) (.cells #[.slice (some ⟨W2.heap.size, 0, none⟩) 1 1] 22)).block _ (by simp only [World.size_alloc, World.size_setCell]; omega)]
        have := heap_alloc_new (W2.setCell ⟨m, 0, none⟩ (.slice (some ⟨W2.heap.size + 1, 0, none⟩) 1 1)) (.cells #[.string (stx k), .string (stx vl), .bool false] 28)
        rwa [World.size_setCell] at this
      have u5 := (((Kept.of [m] b3).setCell m 0 (.inl (by simp)) (.slice (some ⟨W2.heap.size + 1, 0, none⟩) 1 1)).alloc (Nat.le_refl _) (.cells #[.string (stx k), .string (stx vl), .bool false] 28)).alloc (Nat.le_refl _) (.cells #[.slice (some ⟨W2.heap.size, 0, none⟩) 1 1] 22)
      have hBW : B ≤ W2.heap.size := Nat.le_trans hB b3.size
      have hwW : w.heap.size ≤ W2.heap.size := b3.size
      clear h1 r2 hm2 hmx u1 b3
      go_wp2_with fail
      generalize ((W2.setCell ⟨m, 0, none⟩ (.slice (some ⟨W2.heap.size + 1, 0, none⟩) 1 1)).alloc (.cells #[.string (stx k), .string (stx vl), .bool false] 28)).alloc (.cells #[.slice (some ⟨W2.heap.size, 0, none⟩) 1 1] 22) = W3 at *
      refine (HC _).out.mono ?_
      rintro e w4 ⟨rfl, b4⟩
      have v2 := (rowAt_below b4 (lt_of_rowAt u2)).trans u2
      have v3 := (rowAt_below b4 (lt_of_rowAt u3)).trans u3
      have v4 := (b4.block _ (heap_ltF u4)).trans u4
      have v5 := u5.past b4 (Nat.le_refl _)
      have i0 := cell_of_rowAt v2 0
      have i1 := cell_of_rowAt v2 1
      have i2 := frozen_of_rowAt v2 1
      generalize hsW : W2.heap.size = s2 at *
      clear q0 q1 p0 p1 d0 d1 d2 HC u2 u3 u4 u5 b4 hH1 hR2
      have V2 := Lib.hid v2
      have V3 := Lib.hid v3
      have V4 := Lib.hid v4
      simp at i0 i1
      clear v2 v3 v4
      go_wp2_with fail
      refine bodyPost_ret (results_none rfl _ _ _) rfl ⟨rfl, [m, s2 + 1, s2], ?_, v5.setCell m 1 (.inl (by simp)) _, ?_⟩
      · rw [HK.out, putE_nil]
        refine ⟨_, (rowAt_setCell_same V2.out 1 _), h2, .inr ⟨s2 + 1, s2, 1, rfl, (rowAt_setCell_other _ _ _ _ (by show s2 + 1 ≠ m; omega)).trans V3.out, by omega, ⟨rfl, .inr ⟨s2, 1, _, rfl, hBW, (heap_setCell_other _ m 1 s2 _ (by omega)).trans V4.out, Nat.le_refl _, by decide, rfl, rfl⟩⟩, Nat.succ_pos _, by omega, by omega, by omega, rfl⟩⟩
      · intro j hj
        simp only [List.mem_cons, List.mem_nil_iff, or_false] at hj ⊢
        omega
    · obtain ⟨n, hnn⟩ : ∃ n, l.length = n := ⟨_, rfl⟩
      have HN := Lib.hid hnn
      have HPL := Lib.hid (memPlace_any B m [m, bb, g] l k W2 hm2 k4)
      have HSK : ∀ W, Below W2.heap.size W2 W → Hid (Calls Try.prog 22 #[.slice (some ⟨g, 0, none⟩) n cap, .string (stx k)] W fun e w' => e = .returned (.int .i64 (seekE l k)) ∧ Below W.heap.size W w') := fun W hW => Lib.hid (by rw [← hnn]; exact kSeek_any _ l k W (k3.lie.below hW) HR.out (by omega))
      have HPA := Lib.hid (put_at (x := ⟨k, vl, false⟩) HR.out)
      have HCL := Lib.hid (costs_le HS.out)
      have hcl := seekE_le l k
      dsimp only at HPA
      generalize seekE l k = c at *
      rw [hnn] at k1 k3 k4 hl hcl HCL
      have q0 : W2.cell? ⟨m, 0, none⟩ = some (.slice (some ⟨bb, 0, none⟩) 1 1) := cell_of_rowAt h1 0
      have q2 : W2.cell? ⟨bb, 0, none⟩ = some (.slice (some ⟨g, 0, none⟩) n cap) := cell_of_rowAt k1 0
      have d0 : W2.cell? ⟨w.heap.size, 0, none⟩ = some (.string (stx k)) := cell_of_rowAt r2 0
      have hmw : m < w.heap.size := (hmx m (by simp)).2
      have hbw : bb < w.heap.size := (hmx bb (by simp)).2
      have hgw : g < w.heap.size := (hmx g (by simp)).2
      have K0 := Kept.of [m, bb, g] b3
      have hwW : w.heap.size ≤ W2.heap.size := b3.size
      clear hm2 hmx hnn b3
      go_wp2_with fail
      refine HPL.out.mono ?_
      rintro e w3 ⟨rfl, b4⟩
      have HSK2 := HSK w3 b4
      have K1 := K0.past b4 (Nat.le_refl _)
      have r3 := (rowAt_below b4 (lt_of_rowAt r2)).trans r2
      have h3 := (rowAt_below b4 (lt_of_rowAt h1)).trans h1
      have k13 := (rowAt_below b4 (lt_of_rowAt k1)).trans k1
      have k33 := k3.below b4
      have hwW3 := Nat.le_trans hwW b4.size
      clear HPL HSK q0 q2 d0 K0 r2 h1 k1 k3 b4 hwW
      have q0 : w3.cell? ⟨m, 0, none⟩ = some (.slice (some ⟨bb, 0, none⟩) 1 1) := cell_of_rowAt h3 0
      have q2 : w3.cell? ⟨bb, 0, none⟩ = some (.slice (some ⟨g, 0, none⟩) n cap) := cell_of_rowAt k13 0
      have d0 : w3.cell? ⟨w.heap.size, 0, none⟩ = some (.string (stx k)) := cell_of_rowAt r3 0
      go_wp2_with fail
      refine HSK2.out.mono ?_
      rintro e w4 ⟨rfl, b4⟩
      have K2 := K1.past b4 (Nat.le_refl _)
      have r4 := (rowAt_below b4 (lt_of_rowAt r3)).trans r3
      have h4 := (rowAt_below b4 (lt_of_rowAt h3)).trans h3
      have k14 := (rowAt_below b4 (lt_of_rowAt k13)).trans k13
      have k34 := k33.below b4
      have hwW4 := Nat.le_trans hwW3 b4.size
      clear HSK2 q0 q2 d0 K1 r3 h3 k13 k33 b4 hwW3
      have y0 := fun y : Past w4 => (cell_of_rowAt (rowAt_past y.h r4) 0).trans (rfl : _ = some (Value.string (stx k)))
      have y1 := fun y : Past w4 => (cell_of_rowAt (rowAt_past y.h r4) 1).trans (rfl : _ = some (Value.string (stx vl)))
      have y2 := fun y : Past w4 => (cell_of_rowAt (rowAt_past y.h r4) 2).trans (rfl : _ = some (Value.bool false))
      have y3 := fun y : Past w4 => (cell_of_rowAt (rowAt_past y.h h4) 1).trans (rfl : _ = some (Value.int .i64 (costs l)))
      have HC : Hid (∀ W, Below w4.heap.size w4 W → Calls Try.prog 20 #[.agg #[.string (stx k), .string (stx vl), .bool false]] W fun e w' => e = .returned (.int .i64 (costE ⟨k, vl, false⟩)) ∧ Below W.heap.size W w') := Lib.hid fun W _ => mCost_any ⟨k, vl, false⟩ W (by have := HX2.out; omega)
      have hcc1 : costE ⟨k, vl, false⟩ ≤ 1125899906842624 := HX2.out
      have hcc2 : costs l ≤ n * 1125899906842624 := HCL.out
      have hw1 : IntKind.i64.wrap ((costs l : Int) + (costE ⟨k, vl, false⟩ : Int)) = (costs l : Int) + (costE ⟨k, vl, false⟩ : Int) := by rw [IntKind.wrap_i64]; omega
      generalize hcx : costE ⟨k, vl, false⟩ = cx at *
      go_upto_region 10 with fail
      refine wp_region_wildL [] 9 (by kernel_rfl) (by kernel_rfl) ?_
      simp only [List.take_succ_cons, List.take_zero]
      iterate 5 (refine wildL_val (by decide) (by kernel_rfl) rfl ?_; intro K hK; go_big_quiet_op; go_big_quiet_on)
      refine wildL_call (by decide) (by kernel_rfl) (by kernel_rfl) ?_
      apply Exists.intro
      refine And.intro ?_ ?_
      focus
        intro x K hK
        go_big_quiet_op
        go_big_quiet_call (exact call_back (HC.out _ (Past.two _)))
        rfl
      iterate 3 (refine wildL_val (by decide) (by kernel_rfl) rfl ?_; intro K hK; go_big_quiet_op; go_big_quiet_on)
      refine wildL_nil ?_
      simp only [List.drop_succ_cons, List.drop_zero]
      rintro ⟨w5, b5⟩
      dsimp only
      clear y0 y1 y2 y3 hw1
      have K3 := K2.past b5 (Nat.le_refl _)
      have r5 := (rowAt_below b5 (lt_of_rowAt r4)).trans r4
      have h5 := (rowAt_below b5 (lt_of_rowAt h4)).trans h4
      have k15 := (rowAt_below b5 (lt_of_rowAt k14)).trans k14
      have k35 := k34.below b5
      have hwW5 := Nat.le_trans hwW4 b5.size
      clear K2 r4 h4 k14 k34 b5 hwW4
      have f1 := frozen_of_rowAt h5 1
      have q1 : w5.cell? ⟨m, 1, none⟩ = some (.int .i64 (costs l)) := cell_of_rowAt h5 1
      go_upto_region 11 with fail
      have r6 := (rowAt_setCell_other w5 ⟨m, 1, none⟩ w.heap.size (.int .i64 ((costs l : Int) + cx)) (by show w.heap.size ≠ m; omega)).trans r5
      have h6 := rowAt_setCell_same h5 1 (.int .i64 ((costs l : Int) + cx))
      have k16 := (rowAt_setCell_other w5 ⟨m, 1, none⟩ bb (.int .i64 ((costs l : Int) + cx)) (by show bb ≠ m; omega)).trans k15
      have k36 := own_same k35 (heap_setCell_other w5 m 1 g (.int .i64 ((costs l : Int) + cx)) k6)
      have K4 := K3.setCell m 1 (.inl (by simp)) (.int .i64 ((costs l : Int) + cx))
      have hwW6 : w.heap.size ≤ (w5.setCell ⟨m, 1, none⟩ (.int .i64 ((costs l : Int) + cx))).heap.size := by rw [World.size_setCell]; exact hwW5
      replace h6 : rowAt (w5.setCell ⟨m, 1, none⟩ (.int .i64 ((costs l : Int) + cx))) m = some #[.slice (some ⟨bb, 0, none⟩) 1 1, .int .i64 ((costs l : Int) + cx)] := h6
      clear K3 r5 h5 k15 k35 hwW5 f1 q1 HC
      generalize w5.setCell ⟨m, 1, none⟩ (.int .i64 ((costs l : Int) + cx)) = W6 at *
      have hci : (c : Int) ≤ n := by omega
      have z0 := fun y : Past W6 => (cell_of_rowAt (rowAt_past y.h r6) 0).trans (rfl : _ = some (Value.string (stx k)))
      by_cases hlt : c < n
      · obtain ⟨x, hx⟩ : ∃ x, l[c]? = some x := ⟨_, List.getElem?_eq_getElem (by rw [HN.out]; exact hlt)⟩
        have hgd : l.getD c ⟨[], [], false⟩ = x := by rw [List.getD_eq_getElem?_getD, hx]; rfl
        obtain ⟨ao, cap2, e1, e2, e3, e4⟩ := k36.lie
        obtain ⟨g', o', rfl, hat⟩ := e4 c x hx
        obtain ⟨⟨rfl, rfl⟩, -, rfl⟩ : (g = g' ∧ 0 = o') ∧ n = l.length ∧ cap = cap2 := by simpa using e1
        rw [Nat.zero_add] at hat
        have hlti : (c : Int) < n := by omega
        have hld : decide ((c : Int) < n) = true := decide_eq_true hlti
        have hln : decide (c < n) = true := decide_eq_true hlt
        have z1 := fun y : Past W6 => (hat.below y.h).1
        clear e1 e2 e3 e4
        have HX := Lib.hid hx
        clear hx
        rw [hgd] at HPA
        by_cases hk : x.key = k
        · subst hk
          have p1 : ((stx x.key).toList == (stx x.key).toList) = true := beq_self_eq_true _
          have p2 : (x.key == x.key) = true := beq_self_eq_true _
          refine wp_region_past (by kernel_rfl) (by kernel_rfl) ?_
          repeat (go_big_quiet_step (fail))
          refine wpQuiet_nil ?_
          intro w2 hw2
          obtain ⟨⟨wn, hn⟩, rfl⟩ := hw2
          try dsimp only
          have r7 := (rowAt_below hn (lt_of_rowAt r6)).trans r6
          have h7 := (rowAt_below hn (lt_of_rowAt h6)).trans h6
          have k17 := (rowAt_below hn (lt_of_rowAt k16)).trans k16
          have k37 := k36.below hn
          have K5 := K4.past hn (Nat.le_refl _)
          have hwW7 := Nat.le_trans hwW6 hn.size
          have hat7 := hat.below hn
          have HCZ : Hid (costs (l.set c ⟨x.key, vl, false⟩) + costE x = costs l + cx) := Lib.hid (by rw [← hcx]; exact costs_set l c ⟨x.key, vl, false⟩ x HX.out)
          have hcz : costE x ≤ 1125899906842624 := HS.out x (List.mem_of_getElem? HX.out)
          have hcz2 : costE x ≤ costs l + cx := by have := HCZ.out; omega
          have HPE : Hid (putE ⟨x.key, vl, false⟩ l = l.set c ⟨x.key, vl, false⟩) := Lib.hid (HPA.out.trans (if_pos ⟨by rw [HN.out]; exact hlt, rfl⟩))
          have HOS : Hid (∀ W, OwnEnts W B (.slice (some ⟨g, 0, none⟩) n cap) l → OwnEnts (((W.setCell ⟨g, c * 3, none⟩ (.string (stx x.key))).setCell ⟨g, c * 3 + 1, none⟩ (.string (stx vl))).setCell ⟨g, c * 3 + 2, none⟩ (.bool false)) B (.slice (some ⟨g, 0, none⟩) n cap) (l.set c ⟨x.key, vl, false⟩)) := Lib.hid fun W hW => own_set ⟨x.key, vl, false⟩ hW (by rw [HN.out]; exact hlt)
          have hC : ∀ W, Hid (Calls Try.prog 20 #[.agg #[.string (stx x.key), .string (stx x.val), .bool x.gone]] W fun e w' => e = .returned (.int .i64 (costE x)) ∧ Below W.heap.size W w') := fun W => Lib.hid (mCost_any x W (by omega))
          have y3 := fun y : Past w2 => (cell_of_rowAt (rowAt_past y.h h7) 1).trans (rfl : _ = some (Value.int .i64 ((costs l : Int) + cx)))
          have y4 := fun y : Past w2 => (hat7.below y.h).1
          have y5 := fun y : Past w2 => (hat7.below y.h).2.1
          have y6 := fun y : Past w2 => (hat7.below y.h).2.2
          have hw2 : IntKind.i64.wrap ((costs l : Int) + cx - (costE x : Int)) = (costs l : Int) + cx - (costE x : Int) := by rw [IntKind.wrap_i64]; omega
          clear r6 h6 k16 k36 K4 hwW6 hat hn z0 z1 hgd HPA
          generalize costE x = cz at *
          go_upto_region 12 with fail
          refine wp_region_wildL [] 12 (by kernel_rfl) (by kernel_rfl) ?_
          simp only [List.take_succ_cons, List.take_zero]
          iterate 8 (refine wildL_val (by decide) (by kernel_rfl) rfl ?_; intro K hK; go_big_quiet_op; go_big_quiet_on)
          refine wildL_call (by decide) (by kernel_rfl) (by kernel_rfl) ?_
          apply Exists.intro
          refine And.intro ?_ ?_
          focus
            intro x K hK
            go_big_quiet_op
            go_big_quiet_call (exact call_back (hC _).out)
            rfl
          iterate 3 (refine wildL_val (by decide) (by kernel_rfl) rfl ?_; intro K hK; go_big_quiet_op; go_big_quiet_on)
          refine wildL_nil ?_
          simp only [List.drop_succ_cons, List.drop_zero]
          rintro ⟨w8, b8⟩
          dsimp only
          clear y3 y4 y5 y6 hw2 hC hat7
          have K6 := K5.past b8 (Nat.le_refl _)
          have r8 := (rowAt_below b8 (lt_of_rowAt r7)).trans r7
          have h8 := (rowAt_below b8 (lt_of_rowAt h7)).trans h7
          have k18 := (rowAt_below b8 (lt_of_rowAt k17)).trans k17
          have k38 := k37.below b8
          have hwW8 := Nat.le_trans hwW7 b8.size
          clear K5 r7 h7 k17 k37 b8 hwW7
          have f1 := frozen_of_rowAt h8 1
          have q1 : w8.cell? ⟨m, 1, none⟩ = some (.int .i64 ((costs l : Int) + cx)) := cell_of_rowAt h8 1
          go_upto_region 13 with fail
          have r9 := (rowAt_setCell_other w8 ⟨m, 1, none⟩ w.heap.size (.int .i64 ((costs l : Int) + cx - cz)) (by show w.heap.size ≠ m; omega)).trans r8
          have h9 := rowAt_setCell_same h8 1 (.int .i64 ((costs l : Int) + cx - cz))
          have k19 := (rowAt_setCell_other w8 ⟨m, 1, none⟩ bb (.int .i64 ((costs l : Int) + cx - cz)) (by show bb ≠ m; omega)).trans k18
          have k39 := own_same k38 (heap_setCell_other w8 m 1 g (.int .i64 ((costs l : Int) + cx - cz)) k6)
          have K7 := K6.setCell m 1 (.inl (by simp)) (.int .i64 ((costs l : Int) + cx - cz))
          replace h9 : rowAt (w8.setCell ⟨m, 1, none⟩ (.int .i64 ((costs l : Int) + cx - cz))) m = some #[.slice (some ⟨bb, 0, none⟩) 1 1, .int .i64 ((costs l : Int) + cx - cz)] := h9
          clear K6 r8 h8 k18 k38 hwW8 f1 q1
          generalize w8.setCell ⟨m, 1, none⟩ (.int .i64 ((costs l : Int) + cx - cz)) = W9 at *
          have d0 : W9.cell? ⟨w.heap.size, 0, none⟩ = some (.string (stx x.key)) := cell_of_rowAt r9 0
          have d1 : W9.cell? ⟨w.heap.size, 1, none⟩ = some (.string (stx vl)) := cell_of_rowAt r9 1
          have d2 : W9.cell? ⟨w.heap.size, 2, none⟩ = some (.bool false) := cell_of_rowAt r9 2
          obtain ⟨ao, cap2, e1, e2, e3, e4⟩ := k39.lie
          obtain ⟨g', o', rfl, e5, e6, e7⟩ := e4 c x HX.out
          obtain ⟨⟨rfl, rfl⟩, -, rfl⟩ : (g = g' ∧ 0 = o') ∧ n = l.length ∧ cap = cap2 := by simpa using e1
          rw [Nat.zero_add] at e5 e6 e7
          have i0 : W9.frozen? ⟨g, c * 3, none⟩ = false := by
            rcases k39.2 with ⟨e, _⟩ | ⟨g', cap', cur, e, _, hh, _⟩
            · cases e
            · obtain ⟨rfl, -, -⟩ : g = g' ∧ n = l.length ∧ cap = cap' := by simpa using e
              exact Lib.frozen_of_heap hh _
          have i1 : W9.frozen? ⟨g, c * 3 + 1, none⟩ = false := by
            rcases k39.2 with ⟨e, _⟩ | ⟨g', cap', cur, e, _, hh, _⟩
            · cases e
            · obtain ⟨rfl, -, -⟩ : g = g' ∧ n = l.length ∧ cap = cap' := by simpa using e
              exact Lib.frozen_of_heap hh _
          have i2 : W9.frozen? ⟨g, c * 3 + 2, none⟩ = false := by
            rcases k39.2 with ⟨e, _⟩ | ⟨g', cap', cur, e, _, hh, _⟩
            · cases e
            · obtain ⟨rfl, -, -⟩ : g = g' ∧ n = l.length ∧ cap = cap' := by simpa using e
              exact Lib.frozen_of_heap hh _
          have hgx : ¬ g = w.heap.size := by omega
          clear e1 e2 e3 e4
          have R9 := Lib.hid r9
          have H9 := Lib.hid h9
          have K19 := Lib.hid k19
          have K39 := Lib.hid k39
          clear r9 h9 k19 k39
          go_wp2_with fail
          refine bodyPost_ret (results_none rfl _ _ _) rfl ⟨rfl, [m, bb, g], ?_, ?_, fun j hj => .inl hj⟩
          · rw [HK.out, HPE.out]
            have hcf : ((costs l : Int) + cx - cz) = (costs (l.set c ⟨x.key, vl, false⟩) : Nat) := by have := HCZ.out; omega
            refine ⟨_, ((rowAt_setCell_other _ _ _ _ (by show m ≠ g; omega)).trans ((rowAt_setCell_other _ _ _ _ (by show m ≠ g; omega)).trans ((rowAt_setCell_other _ _ _ _ (by show m ≠ g; omega)).trans (H9.out.trans (by rw [hcf]))))), h2, .inr ⟨bb, g, cap, rfl, ((rowAt_setCell_other _ _ _ _ (by show bb ≠ g; omega)).trans ((rowAt_setCell_other _ _ _ _ (by show bb ≠ g; omega)).trans ((rowAt_setCell_other _ _ _ _ (by show bb ≠ g; omega)).trans (K19.out.trans (by rw [List.length_set, HN.out]))))), k2, ?_, by rw [List.length_set, HN.out]; exact k4, k5, k6, k7, rfl⟩⟩
            rw [List.length_set, HN.out]
            exact HOS.out _ K39.out
          · exact ((K7.setCell g _ (.inl (by simp)) _).setCell g _ (.inl (by simp)) _).setCell g _ (.inl (by simp)) _
        · have q1 : (x.key == k) = false := by rw [beq_eq_false_iff_ne]; exact hk
          have q2 := str_ne (fun e => hk (stx_inj e))
          have HPE : Hid (putE ⟨k, vl, false⟩ l = insE l c ⟨k, vl, false⟩) := Lib.hid (HPA.out.trans (if_neg (fun e => hk e.2)))
          refine wp_region_past (by kernel_rfl) (by kernel_rfl) ?_
          repeat (go_big_quiet_step (fail))
          refine wpQuiet_nil ?_
          intro w2 hw2
          obtain ⟨⟨wn, hn⟩, rfl⟩ := hw2
          try dsimp only
          clear hat z1 hgd hk q1 q2 hld hln hlti HX
          have r7 := (rowAt_below hn (lt_of_rowAt r6)).trans r6
          have h7 := (rowAt_below hn (lt_of_rowAt h6)).trans h6
          have k17 := (rowAt_below hn (lt_of_rowAt k16)).trans k16
          have k37 := k36.below hn
          have K5 := K4.past hn (Nat.le_refl _)
          have hwW7 := Nat.le_trans hwW6 hn.size
          clear r6 h6 k16 k36 K4 hwW6 hn z0 HPA
          have ba : Below w2.heap.size w2 (w2.alloc (.cells #[.string (stx k), .string (stx vl), .bool false] 28)).drew := ((Below.refl _ _).alloc (Nat.le_refl _) _).drew
          have va : (w2.alloc (.cells #[.string (stx k), .string (stx vl), .bool false] 28)).drew.heap[w2.heap.size]? = some (.cells #[.string (stx k), .string (stx vl), .bool false] 28 (0, 0)) := heap_alloc_new w2 _
          have hza : (w2.alloc (.cells #[.string (stx k), .string (stx vl), .bool false] 28)).drew.heap.size = w2.heap.size + 1 := World.size_alloc w2 _
          have hBW : B ≤ w2.heap.size := by omega
          have hgv : (Value.slice (some ⟨g, 0, none⟩) n cap).ownBlock ≠ some w2.heap.size := by
            intro e
            have e2 : g = w2.heap.size := by simpa [Value.ownBlock] using e
            omega
          have HI := Lib.hid (ins_any B (.slice (some ⟨g, 0, none⟩) n cap) l c w2.heap.size ⟨k, vl, false⟩ 28 (w2.alloc (.cells #[.string (stx k), .string (stx vl), .bool false] 28)).drew (k37.below ba) (by rw [HN.out]; exact hcl) (by rw [HN.out]; omega) (by rw [hza]; omega) va hgv)
          have r8 := (rowAt_below ba (lt_of_rowAt r7)).trans r7
          have h8 := (rowAt_below ba (lt_of_rowAt h7)).trans h7
          have k18 := (rowAt_below ba (lt_of_rowAt k17)).trans k17
          have K6 := K5.past ba (Nat.le_refl _)
          have d0 : w2.cell? ⟨w.heap.size, 0, none⟩ = some (.string (stx k)) := cell_of_rowAt r7 0
          have d1 : w2.cell? ⟨w.heap.size, 1, none⟩ = some (.string (stx vl)) := cell_of_rowAt r7 1
          have d2 : w2.cell? ⟨w.heap.size, 2, none⟩ = some (.bool false) := cell_of_rowAt r7 2
          have j0 : w2.cell? ⟨m, 0, none⟩ = some (.slice (some ⟨bb, 0, none⟩) 1 1) := cell_of_rowAt h7 0
          have j1 : w2.cell? ⟨bb, 0, none⟩ = some (.slice (some ⟨g, 0, none⟩) n cap) := cell_of_rowAt k17 0
          have hmz : m < w2.heap.size := by omega
          have hbz : bb < w2.heap.size := by omega
          have hxz : w.heap.size < w2.heap.size := lt_of_rowAt r7
          have hmz1 : ¬ m = w2.heap.size := by omega
          have hbz1 : ¬ bb = w2.heap.size := by omega
          have hxz1 : ¬ w.heap.size = w2.heap.size := by omega
          have J0 := Lib.hid r8
          have J1 := Lib.hid h8
          have J2 := Lib.hid k18
          have J3 := Lib.hid K6
          have J4 := Lib.hid hza
          have J5 : Hid (n ≤ 500 ∧ w.heap.size ≤ w2.heap.size) := Lib.hid ⟨hl, hwW7⟩
          clear r7 h7 k17 k37 K5 ba va hza r8 h8 k18 K6 hwW7
          go_upto_region 14 with fail
          go_region_with (go_at_call 23; refine HI.out.mono ?_; rintro e w8 ⟨v', rfl, ow, gr, hb⟩; obtain ⟨ao', cp', rfl⟩ := ow.shape; have j2 : w8.cell? ⟨m, 0, none⟩ = some (.slice (some ⟨bb, 0, none⟩) 1 1) := gr.cell (cell_of_rowAt J1.out 0) (by simpa [Value.ownBlock] using fun e => k6 e.symm); have j3 : w8.cell? ⟨bb, 0, none⟩ = some (.slice (some ⟨g, 0, none⟩) n cap) := gr.cell (cell_of_rowAt J2.out 0) (by simpa [Value.ownBlock] using fun e => k7 e.symm); have j4 : rowAt w8 bb = some #[.slice (some ⟨g, 0, none⟩) n cap] := (rowAt_same (gr.block bb (lt_of_rowAt J2.out) (by simpa [Value.ownBlock] using fun e => k7 e.symm))).trans J2.out; have j5 := frozen_of_rowAt j4 0; have OW := Lib.hid ow; have GR := Lib.hid gr; have HB := Lib.hid hb; have J6 := Lib.hid j4; clear ow gr hb j4)
          all_goals
            clear j2 j3 j5 d0 d1 d2 j0 j1 hmz hbz hxz hmz1 hbz1 hxz1 HI
            obtain ⟨bs', hM, hbs⟩ := mem_ins (N := w.heap.size) (by rw [J4.out]; have := J5.out.2; omega) h2 k2 hmw hbw k5 k6 k7 (by rw [HN.out]; exact hcl) J1.out (by rw [costs_insE, hcx]; rfl) J6.out OW.out GR.out HB.out
            have K9 := (J3.out.grown (Nat.le_refl _) GR.out (fun j hj => .inl (by
              obtain rfl : g = j := by simpa [Value.ownBlock] using hj
              simp))).setCell bb 0 (.inl (by simp)) (.slice ao' (insE l c ⟨k, vl, false⟩).length cp')
            have HM9 := Lib.hid hM
            have HH := Lib.hid (memHalve_any B m bs' _ _ hM (by rw [insE_len _ _ _ (by rw [HN.out]; exact hcl)]; omega) (by rw [insE_len _ _ _ (by rw [HN.out]; exact hcl), HN.out]; have := J5.out.1; omega))
            clear J0 J1 J2 J3 J4 J6 OW GR HB hM
            generalize w8.setCell ⟨bb, 0, none⟩ (.slice ao' (insE l c ⟨k, vl, false⟩).length cp') = W9 at *
            go_wp2_with fail
            refine HH.out.mono ?_
            rintro e w10 ⟨rfl, b10⟩
            clear HH
            go_wp2_with fail
            go_end0
            exact ⟨rfl, bs', by rw [HK.out, HPE.out]; exact HM9.out.below b10, K9.past b10 (Nat.le_refl _), hbs⟩
      · have hld : decide ((c : Int) < n) = false := decide_eq_false (by omega)
        have hln : decide (c < n) = false := decide_eq_false hlt
        have HPE : Hid (putE ⟨k, vl, false⟩ l = insE l c ⟨k, vl, false⟩) := Lib.hid (HPA.out.trans (if_neg (fun e => hlt (by rw [← HN.out]; exact e.1))))
        refine wp_region_past (by kernel_rfl) (by kernel_rfl) ?_
        repeat (go_big_quiet_step (fail))
        refine wpQuiet_nil ?_
        intro w2 hw2
        obtain ⟨⟨wn, hn⟩, rfl⟩ := hw2
        try dsimp only
        clear hld hln
        have r7 := (rowAt_below hn (lt_of_rowAt r6)).trans r6
        have h7 := (rowAt_below hn (lt_of_rowAt h6)).trans h6
        have k17 := (rowAt_below hn (lt_of_rowAt k16)).trans k16
        have k37 := k36.below hn
        have K5 := K4.past hn (Nat.le_refl _)
        have hwW7 := Nat.le_trans hwW6 hn.size
        clear r6 h6 k16 k36 K4 hwW6 hn z0 HPA
        have ba : Below w2.heap.size w2 (w2.alloc (.cells #[.string (stx k), .string (stx vl), .bool false] 28)).drew := ((Below.refl _ _).alloc (Nat.le_refl _) _).drew
        have va : (w2.alloc (.cells #[.string (stx k), .string (stx vl), .bool false] 28)).drew.heap[w2.heap.size]? = some (.cells #[.string (stx k), .string (stx vl), .bool false] 28 (0, 0)) := heap_alloc_new w2 _
        have hza : (w2.alloc (.cells #[.string (stx k), .string (stx vl), .bool false] 28)).drew.heap.size = w2.heap.size + 1 := World.size_alloc w2 _
        have hBW : B ≤ w2.heap.size := by omega
        have hgv : (Value.slice (some ⟨g, 0, none⟩) n cap).ownBlock ≠ some w2.heap.size := by
          intro e
          have e2 : g = w2.heap.size := by simpa [Value.ownBlock] using e
          omega
        have HI := Lib.hid (ins_any B (.slice (some ⟨g, 0, none⟩) n cap) l c w2.heap.size ⟨k, vl, false⟩ 28 (w2.alloc (.cells #[.string (stx k), .string (stx vl), .bool false] 28)).drew (k37.below ba) (by rw [HN.out]; exact hcl) (by rw [HN.out]; omega) (by rw [hza]; omega) va hgv)
        have r8 := (rowAt_below ba (lt_of_rowAt r7)).trans r7
        have h8 := (rowAt_below ba (lt_of_rowAt h7)).trans h7
        have k18 := (rowAt_below ba (lt_of_rowAt k17)).trans k17
        have K6 := K5.past ba (Nat.le_refl _)
        have d0 : w2.cell? ⟨w.heap.size, 0, none⟩ = some (.string (stx k)) := cell_of_rowAt r7 0
        have d1 : w2.cell? ⟨w.heap.size, 1, none⟩ = some (.string (stx vl)) := cell_of_rowAt r7 1
        have d2 : w2.cell? ⟨w.heap.size, 2, none⟩ = some (.bool false) := cell_of_rowAt r7 2
        have j0 : w2.cell? ⟨m, 0, none⟩ = some (.slice (some ⟨bb, 0, none⟩) 1 1) := cell_of_rowAt h7 0
        have j1 : w2.cell? ⟨bb, 0, none⟩ = some (.slice (some ⟨g, 0, none⟩) n cap) := cell_of_rowAt k17 0
        have hmz : m < w2.heap.size := by omega
        have hbz : bb < w2.heap.size := by omega
        have hxz : w.heap.size < w2.heap.size := lt_of_rowAt r7
        have hmz1 : ¬ m = w2.heap.size := by omega
        have hbz1 : ¬ bb = w2.heap.size := by omega
        have hxz1 : ¬ w.heap.size = w2.heap.size := by omega
        have J0 := Lib.hid r8
        have J1 := Lib.hid h8
        have J2 := Lib.hid k18
        have J3 := Lib.hid K6
        have J4 := Lib.hid hza
        have J5 : Hid (n ≤ 500 ∧ w.heap.size ≤ w2.heap.size) := Lib.hid ⟨hl, hwW7⟩
        clear r7 h7 k17 k37 K5 ba va hza r8 h8 k18 K6 hwW7
        go_upto_region 14 with fail
        go_region_with (go_at_call 23; refine HI.out.mono ?_; rintro e w8 ⟨v', rfl, ow, gr, hb⟩; obtain ⟨ao', cp', rfl⟩ := ow.shape; have j2 : w8.cell? ⟨m, 0, none⟩ = some (.slice (some ⟨bb, 0, none⟩) 1 1) := gr.cell (cell_of_rowAt J1.out 0) (by simpa [Value.ownBlock] using fun e => k6 e.symm); have j3 : w8.cell? ⟨bb, 0, none⟩ = some (.slice (some ⟨g, 0, none⟩) n cap) := gr.cell (cell_of_rowAt J2.out 0) (by simpa [Value.ownBlock] using fun e => k7 e.symm); have j4 : rowAt w8 bb = some #[.slice (some ⟨g, 0, none⟩) n cap] := (rowAt_same (gr.block bb (lt_of_rowAt J2.out) (by simpa [Value.ownBlock] using fun e => k7 e.symm))).trans J2.out; have j5 := frozen_of_rowAt j4 0; have OW := Lib.hid ow; have GR := Lib.hid gr; have HB := Lib.hid hb; have J6 := Lib.hid j4; clear ow gr hb j4)
        all_goals
          clear j2 j3 j5 d0 d1 d2 j0 j1 hmz hbz hxz hmz1 hbz1 hxz1 HI
          obtain ⟨bs', hM, hbs⟩ := mem_ins (N := w.heap.size) (by rw [J4.out]; have := J5.out.2; omega) h2 k2 hmw hbw k5 k6 k7 (by rw [HN.out]; exact hcl) J1.out (by rw [costs_insE, hcx]; rfl) J6.out OW.out GR.out HB.out
          have K9 := (J3.out.grown (Nat.le_refl _) GR.out (fun j hj => .inl (by
            obtain rfl : g = j := by simpa [Value.ownBlock] using hj
            simp))).setCell bb 0 (.inl (by simp)) (.slice ao' (insE l c ⟨k, vl, false⟩).length cp')
          have HM9 := Lib.hid hM
          have HH := Lib.hid (memHalve_any B m bs' _ _ hM (by rw [insE_len _ _ _ (by rw [HN.out]; exact hcl)]; omega) (by rw [insE_len _ _ _ (by rw [HN.out]; exact hcl), HN.out]; have := J5.out.1; omega))
          clear J0 J1 J2 J3 J4 J6 OW GR HB hM
          generalize w8.setCell ⟨bb, 0, none⟩ (.slice ao' (insE l c ⟨k, vl, false⟩).length cp') = W9 at *
          go_wp2_with fail
          refine HH.out.mono ?_
          rintro e w10 ⟨rfl, b10⟩
          clear HH
          go_wp2_with fail
          go_end0
          exact ⟨rfl, bs', by rw [HK.out, HPE.out]; exact HM9.out.below b10, K9.past b10 (Nat.le_refl _), hbs⟩
end Go.Proofs.Ytpfkomglghmnfaa
