/- For every two lists of texts and every key the law BloomMore returns true. Conditions: none. -/
import Derived.Test.YthcaolinajfjpaaHas
namespace Go.Proofs.Ythcaolinajfjpaa.more
open Go Go.ChangeShapes Go.WideShapes Go.ChangeAt Go.ChangeMaps Go.RowKit Go.Proofs.Ythcaolinajfjpaa
open Go.Proofs.Ythcaolinajfjpaa.has (strs_in keys_of)
attribute [local go_sem] Oper.semAt_some

theorem cells_of {w : World} {ad : Addr} {m c : Nat} {A : List (List UInt8)} (h : StrsAt w (.slice (some ad) m c) A) : ∀ j u, (strCells A)[j]? = some u → w.cell? (ad.add j) = some u := by
  intro j u hj
  obtain ⟨ao, cap, hv, h2⟩ := strs_in h
  have hl : j < A.length := by
    have := (List.getElem?_eq_some_iff.1 hj).1
    rwa [strCells_length] at this
  obtain ⟨a, ha, h3⟩ := h2 j hl
  obtain ⟨rfl, _⟩ : some ad = ao ∧ _ := by simpa using hv
  obtain rfl := Option.some.inj ha
  rw [h3, ← hj, strCells, List.getElem?_map, List.getElem?_eq_getElem hl]
  simp [hl]
theorem make12 (v : Value) (P : List (List UInt8)) (w : World) (h : StrsAt w v P) (h1 : P.length ≤ 100) (h2 : ∀ t ∈ P, t.length ≤ 100) (n : Nat) (hn : sizeK P.length 12 = n) :
    Calls Try.prog 52 #[v, .int .i64 12] w fun e w' => ∃ g cap, e = .returned (.tuple #[.agg #[.int .i64 8, .slice (some ⟨g, 0, none⟩) n cap], .int .i64 0]) ∧ BytesIn w' (some ⟨g, 0, none⟩) (makeK 8 n P) ∧ w.heap.size ≤ g ∧ Below w.heap.size w w' :=
  make_full v P.length _ 12 w (strs_in h) (fun i hi => by
    have := h2 _ (List.getElem_mem hi)
    simp [ByteArray.size, hi]
    omega) ⟨by decide, by decide⟩ (by omega) P (keys_of P) 8 n (by decide) hn
/-- The list that is padded with its own texts. -/
def padL (A : List (List UInt8)) (i : Nat) : List (List UInt8) := A ++ (List.range i).map fun j => A.getD (j % A.length) []
theorem padL_succ (A : List (List UInt8)) (i : Nat) : padL A (i + 1) = padL A i ++ [A.getD (i % A.length) []] := by simp [padL, List.range_succ]
theorem padL_length (A : List (List UInt8)) (i : Nat) : (padL A i).length = A.length + i := by simp [padL]
theorem padL_mem (A : List (List UInt8)) (i : Nat) (h : 0 < A.length) : ∀ t ∈ padL A i, t ∈ A := by
  intro t ht
  rcases List.mem_append.1 ht with ht | ht
  · exact ht
  · obtain ⟨j, _, rfl⟩ := List.mem_map.1 ht
    have hj := Nat.mod_lt j h
    rw [List.getD_eq_getElem?_getD, List.getElem?_eq_getElem hj]
    exact List.getElem_mem hj

theorem padL_mem0 (A : List (List UInt8)) (i : Nat) (h : A.length = 0 → i = 0) : ∀ t ∈ padL A i, t ∈ A := by
  intro t ht
  by_cases h0 : A.length = 0
  · rw [h h0] at ht
    simpa [padL] using ht
  · exact padL_mem A i (by omega) t ht
set_option maxRecDepth 100000 in
set_option maxHeartbeats 4000000 in
theorem walk (v1 v2 : Value) (len1 len2 : Nat) (S1 S2 : Nat → ByteArray) (key : ByteArray) (w : World) (h1 : InStrs w v1 len1 S1) (h2 : InStrs w v2 len2 S2) :
    Calls Try.prog 13 #[v1, v2, .string key] w fun e w' => e = .returned (.bool true) ∧ Below w.heap.size w w' := by
  obtain ⟨A, hA, hA1, hA2⟩ : ∃ A : List (List UInt8), A = cutsL S1 100 (min len1 40) ∧ A.length = min len1 40 ∧ (∀ t ∈ A, t.length ≤ 100) := ⟨_, rfl, by rw [cutsL_length], cutsL_short _ _ _⟩
  obtain ⟨B, hB, hB1, hB2⟩ : ∃ B : List (List UInt8), B = cutsL S2 100 (min len2 40) ∧ B.length = min len2 40 ∧ (∀ t ∈ B, t.length ≤ 100) := ⟨_, rfl, by rw [cutsL_length], cutsL_short _ _ _⟩
  have HF1 := Lib.hid (few8_some v1 len1 S1 40 w h1 (by decide))
  have HF2 : ∀ w1, Below w.heap.size w w1 → Hid _ := fun w1 hb => Lib.hid (few8_some v2 len2 S2 40 w1 (h2.below hb) (by decide))
  rw [show ((40 : Nat) : Int) = 40 from rfl] at HF1 HF2
  rw [← hA, ← hA1] at HF1
  rw [← hB, ← hB1] at HF2
  obtain ⟨la, hla⟩ : ∃ la, A.length = la := ⟨_, rfl⟩
  obtain ⟨lb, hlb⟩ : ∃ lb, B.length = lb := ⟨_, rfl⟩
  rw [hla] at HF1
  rw [hlb] at HF2
  have hla1 : la ≤ 40 := by omega
  have hlb1 : lb ≤ 40 := by omega
  have hlai : (la : Int) ≤ 40 := by omega
  have hlbi : (lb : Int) ≤ 40 := by omega
  have HLA := Lib.hid hla
  have HLB := Lib.hid hlb
  have HA2 := Lib.hid hA2
  have HB2 := Lib.hid hB2
  have HA : ∀ w, Hid (Calls Try.prog 53 #[] w fun e w' => e = .returned (.bool true) ∧ Below w.heap.size w w') := fun w => Lib.hid (awake8 w)
  clear h1 h2 hA hB hA1 hB1 hA2 hB2 hla hlb
  go_enter Try.func13, Try.ntmps13
  go_wp2_with fail
  refine HF1.out.mono ?_
  rintro e w1 ⟨va, rfl, oa, b1, ga, ca, rfl⟩
  have sa1 := oa.lie
  clear HF1 oa
  go_wp2_with fail
  refine (HF2 w1 b1).out.mono ?_
  rintro e w2 ⟨vb, rfl, ob, b2, gb, cb, rfl⟩
  have sb2 := ob.lie
  have sa2 := sa1.below b2
  have a2 := below_past b1 b2 b1.size
  clear HF2 ob sa1 b1 b2
  have b3 : Below w2.heap.size w2 (w2.alloc (.cells #[] 9)) := (Below.refl _ _).alloc (Nat.le_refl _) _
  have o3 : OwnStrs (w2.alloc (.cells #[] 9)) w2.heap.size (.slice (some ⟨w2.heap.size, 0, none⟩) 0 0) [] := ownStrs_new w2 _ _ rfl (Nat.le_refl _)
  have z3 : w2.heap.size ≤ (w2.alloc (.cells #[] 9)).heap.size := by simp
  have ca3 := cells_of (sa2.below b3)
  go_wp2_with (at_builtin; refine wpList_put_texts rfl _ _ rfl w2.heap.size _ [] A rfl o3 ⟨ga, 0, none⟩ la ca rfl HLA.out ca3 z3 (by simp) (by rw [HLA.out]; omega) ?_)
  intro vt w4 ot gr4 at4
  have b4 := o3.grown gr4 b3 z3
  have z4 := b4.size
  have cb4 := cells_of (sb2.below b4)
  clear o3 gr4 at4 b3 z3 ca3
  go_wp2_with (at_builtin; refine wpList_put_texts rfl _ _ rfl w2.heap.size _ A B rfl ot ⟨gb, 0, none⟩ lb cb rfl HLB.out cb4 z4 (by rw [HLA.out]; omega) (by rw [HLB.out]; omega) ?_)
  intro vl w5 ol gr5 at5
  have b5 := ot.grown gr5 b4 z4
  have sl5 := ol.lie
  have sa5 := sa2.below b5
  have a5 := below_past a2 b5 a2.size
  obtain ⟨aol, cl, hvl, _⟩ := ol.lie
  rw [List.length_append, HLA.out, HLB.out] at hvl
  subst hvl
  clear ot gr5 at5 b4 z4 cb4 ol b5 sb2 sa2 a2
  have b6 : Below w5.heap.size w5 (w5.alloc (.cells #[] 9)) := (Below.refl _ _).alloc (Nat.le_refl _) _
  have o6 : OwnStrs (w5.alloc (.cells #[] 9)) w5.heap.size (.slice (some ⟨w5.heap.size, 0, none⟩) 0 0) [] := ownStrs_new w5 _ _ rfl (Nat.le_refl _)
  have z6 : w5.heap.size ≤ (w5.alloc (.cells #[] 9)).heap.size := by simp
  have ca6 := cells_of (sa5.below b6)
  go_wp2_with (at_builtin; refine wpList_put_texts rfl _ _ rfl w5.heap.size _ [] A rfl o6 ⟨ga, 0, none⟩ la ca rfl HLA.out ca6 z6 (by simp) (by rw [HLA.out]; omega) ?_)
  intro vp w7 op gr7 at7
  have b7 := o6.grown gr7 b6 z6
  have op0 : OwnStrs w7 w5.heap.size vp (padL A 0) := by
    simpa [padL] using op
  have SL := Lib.hid sl5
  have SA := Lib.hid sa5
  clear o6 gr7 at7 b6 z6 ca6 op sl5 sa5
  obtain ⟨N, hN⟩ : ∃ N, w5.heap.size = N := ⟨_, rfl⟩
  rw [hN] at b7 op0
  have HN := Lib.hid hN
  clear hN
  go_wp2_with fail
  go_loopw [8, 28] (fun v x wr => ∃ i : Nat, i ≤ lb ∧ (la = 0 → i = 0) ∧ x = .int .i64 i ∧ OwnStrs wr N v (padL A i) ∧ Below N w5 wr) (fun _ x _ => (lb - intOf x).toNat)
  case atStart => exact ⟨0, Nat.zero_le _, fun _ => rfl, rfl, op0, b7⟩
  case round =>
    obtain ⟨i, hi, hi0, rfl, ow, b0⟩ := hrel
    clear op0 b7
    by_cases hlt : i < lb
    · have hlt' : decide (i < lb) = true := decide_eq_true hlt
      have hlti : (i : Int) < lb := by omega
      by_cases hz : la = 0
      · as_aux_lemma =>
        obtain rfl : i = 0 := hi0 hz
        have SP := ow.lie
        obtain ⟨aop, cp, hvp, _⟩ := ow.lie
        rw [padL_length, HLA.out, Nat.add_zero] at hvp
        subst hvp
        have hlt2 : decide ((0 : Int) < lb) = true := decide_eq_true (by omega)
        have hlt3 : (0 : Int) < lb := by omega
        have hP1 : (padL A 0).length ≤ 100 := by rw [padL_length, HLA.out]; omega
        have hmem : ∀ t ∈ padL A 0, t ∈ A := padL_mem0 A 0 (by rw [HLA.out]; exact hi0)
        have hP2 : ∀ t ∈ padL A 0, t.length ≤ 100 := fun t ht => HA2.out t (hmem t ht)
        have hL1 : (A ++ B).length ≤ 100 := by rw [List.length_append, HLA.out, HLB.out]; omega
        have hL2 : ∀ t ∈ A ++ B, t.length ≤ 100 := fun t ht => by
          rcases List.mem_append.1 ht with h | h
          · exact HA2.out t h
          · exact HB2.out t h
        have hsub : ∀ t ∈ padL A 0, t ∈ A ++ B := fun t ht => List.mem_append.2 (.inl (hmem t ht))
        have SLr := SL.out.below (by rw [HN.out]; exact b0)
        obtain ⟨n1, hn1⟩ : ∃ n1, sizeK (padL A 0).length 12 = n1 := ⟨_, rfl⟩
        obtain ⟨n2, hn2⟩ : ∃ n2, sizeK (A ++ B).length 12 = n2 := ⟨_, rfl⟩
        have HM1 := Lib.hid (make12 _ _ _ SP hP1 hP2 n1 hn1)
        have HM2 : ∀ w', Below wr.heap.size wr w' → Hid (Calls Try.prog 52 #[.slice aol (la + lb) cl, .int .i64 12] w' fun e w'' => ∃ g cap, e = .returned (.tuple #[.agg #[.int .i64 8, .slice (some ⟨g, 0, none⟩) n2 cap], .int .i64 0]) ∧ BytesIn w'' (some ⟨g, 0, none⟩) (makeK 8 n2 (A ++ B)) ∧ w'.heap.size ≤ g ∧ Below w'.heap.size w' w'') := fun w' hb => Lib.hid (make12 _ _ w' (SLr.below hb) hL1 hL2 n2 hn2)
        have hn1p : 0 < n1 := by rw [← hn1]; exact sizeK_pos _ _
        have hn1l : n1 ≤ 8193 := by rw [← hn1]; exact sizeK_le _ _ (by omega) (by decide)
        have hn2p : 0 < n2 := by rw [← hn2]; exact sizeK_pos _ _
        have hn2l : n2 ≤ 8193 := by rw [← hn2]; exact sizeK_le _ _ (by omega) (by decide)
        have a0 := below_past a5 (by rw [HN.out]; exact b0) a5.size
        clear hP1 hmem hP2 hL1 hL2 SLr SP ow b0
        have hlt4 : ((0 : Int) == lb) = false := by
          have : ¬ (0 : Int) = lb := by omega
          simpa using this
        clear hlt' hlti hn1 hn2 hsub
        obtain rfl : la = 0 := hz
        rw [Nat.zero_add] at *
        rw [show ((0 : Nat) : Int) = 0 from rfl]
        go_wp2_with fail
        refine HM1.out.mono ?_
        rintro e w8 ⟨g1, c1, rfl, hB1, hg1, b8⟩
        have x9 := World.alloc_heap_new w8 (.cells #[.int .i64 8, .slice (some ⟨g1, 0, none⟩) n1 c1] 84)
        have b9 := (Below.refl w8.heap.size w8).alloc (Nat.le_refl _) (.cells #[.int .i64 8, .slice (some ⟨g1, 0, none⟩) n1 c1] 84)
        have hB9 := hB1.below b9
        have a9 := below_past a0 (below_past b8 b9 b8.size) a0.size
        have b19 := below_past b8 b9 b8.size
        clear HM1 hB1 b8 b9
        go_wp2_with fail
        generalize w8.alloc (.cells #[.int .i64 8, .slice (some ⟨g1, 0, none⟩) n1 c1] 84) = W9 at *
        refine (HM2 W9 b19).out.mono ?_
        rintro e w10 ⟨g2, c2, rfl, hB2, hg2, b10⟩
        have x10 := (b10.block _ (heap_lt x9)).trans x9
        have hf := heap_lt x10
        have x11 := (Below.heap_alloc w10 (.cells #[.int .i64 8, .slice (some ⟨g2, 0, none⟩) n2 c2] 84) _ hf).trans x10
        have y11 := World.alloc_heap_new w10 (.cells #[.int .i64 8, .slice (some ⟨g2, 0, none⟩) n2 c2] 84)
        have b11 := (Below.refl w10.heap.size w10).alloc (Nat.le_refl _) (.cells #[.int .i64 8, .slice (some ⟨g2, 0, none⟩) n2 c2] 84)
        have HB11 := Lib.hid ((hB9.below b10).below b11)
        have HC11 := Lib.hid (hB2.below b11)
        have a10 := below_past a9 b10 a9.size
        have a11 := below_past a10 b11 a10.size
        clear HM2 hB9 hB2 b10 b11 b19 x9 x10 a0 a9 a10
        go_wp2_with fail
        generalize w10.alloc (.cells #[.int .i64 8, .slice (some ⟨g2, 0, none⟩) n2 c2] 84) = W11 at *
        refine (HA _).out.mono ?_
        rintro e w12 ⟨rfl, b12⟩
        have a12 := below_past a11 b12 a11.size
        go_wp2_with fail
        go_ret
        exact ⟨rfl, a12⟩
      · as_aux_lemma =>
        have hzi : ((la : Int) == 0) = false := by simpa using hz
        obtain ⟨r, hr⟩ : ∃ r, i % la = r := ⟨_, rfl⟩
        have hrl : r < la := by rw [← hr]; exact Nat.mod_lt _ (by omega)
        have hri : (i : Int) % (la : Int) = r := by rw [← hr]; exact (Int.natCast_emod i la).symm
        have hrli : (r : Int) < la := by omega
        obtain ⟨t, ht⟩ : ∃ t, A.getD r [] = t := ⟨_, rfl⟩
        have hcr := cells_of (SA.out.below (by rw [HN.out]; exact b0)) r (.string (stx t)) (by
          rw [← ht, strCells, List.getElem?_map, List.getElem?_eq_getElem (by rw [HLA.out]; exact hrl)]
          simp [HLA.out, hrl])
        have HT : Hid (padL A (i + 1) = padL A i ++ [t]) := Lib.hid (by rw [padL_succ, HLA.out, hr, ht])
        have hll : (padL A i).length ≤ 1000000 := by rw [padL_length, HLA.out]; omega
        have HLL := Lib.hid hll
        have HNr : Hid (N ≤ wr.heap.size) := Lib.hid (by have := b0.size; rw [HN.out] at this; exact this)
        rw [show (⟨ga, 0, none⟩ : Addr).add r = ⟨ga, r, none⟩ by simp [Addr.add]; exact fun e => e.symm] at hcr
        have bq : Below wr.heap.size wr (wr.alloc (.cells #[.string (stx t)] 9)) := (Below.refl _ _).alloc (Nat.le_refl _) _
        have ow2 := ow.below bq
        have b1 := b0.alloc HNr.out (.cells #[.string (stx t)] 9)
        have hN2 : N ≤ (wr.alloc (.cells #[.string (stx t)] 9)).heap.size := by have := HNr.out; simp; omega
        have hcell := cell_of_rowAt (rowAt_alloc_at wr #[.string (stx t)] 9 _ rfl) 0
        clear hr ht hll hi0
        go_wp2_with (at_builtin; refine wpList_put_text rfl _ _ rfl N _ _ rfl ow2 t ⟨wr.heap.size, 0, none⟩ 1 rfl hcell hN2 HLL.out ?_)
        intro v' w' hown hgrow hat
        have b2 := ow2.grown hgrow b1 hN2
        rw [← HT.out] at hown
        clear ow ow2 hgrow hat b0 b1 bq hcell hcr hN2
        go_wp2_with fail
        exact ⟨⟨i + 1, hlt, fun e => absurd e hz, by go_num, hown, b2⟩, by simp [intOf]; omega⟩
    · obtain rfl : i = lb := by omega
      have hlt' : decide (i < i) = false := decide_eq_false hlt
      have SP := ow.lie
      obtain ⟨aop, cp, hvp, _⟩ := ow.lie
      rw [padL_length, HLA.out] at hvp
      subst hvp
      have hP1 : (padL A i).length ≤ 100 := by rw [padL_length, HLA.out]; omega
      have hmem : ∀ t ∈ padL A i, t ∈ A := padL_mem0 A i (by rw [HLA.out]; exact hi0)
      have hP2 : ∀ t ∈ padL A i, t.length ≤ 100 := fun t ht => HA2.out t (hmem t ht)
      have hL1 : (A ++ B).length ≤ 100 := by rw [List.length_append, HLA.out, HLB.out]; omega
      have hL2 : ∀ t ∈ A ++ B, t.length ≤ 100 := fun t ht => by
        rcases List.mem_append.1 ht with h | h
        · exact HA2.out t h
        · exact HB2.out t h
      have hsub : ∀ t ∈ padL A i, t ∈ A ++ B := fun t ht => List.mem_append.2 (.inl (hmem t ht))
      have SLr := SL.out.below (by rw [HN.out]; exact b0)
      obtain ⟨n1, hn1⟩ : ∃ n1, sizeK (padL A i).length 12 = n1 := ⟨_, rfl⟩
      obtain ⟨n2, hn2⟩ : ∃ n2, sizeK (A ++ B).length 12 = n2 := ⟨_, rfl⟩
      have HM1 := Lib.hid (make12 _ _ _ SP hP1 hP2 n1 hn1)
      have HM2 : ∀ w', Below wr.heap.size wr w' → Hid (Calls Try.prog 52 #[.slice aol (la + i) cl, .int .i64 12] w' fun e w'' => ∃ g cap, e = .returned (.tuple #[.agg #[.int .i64 8, .slice (some ⟨g, 0, none⟩) n2 cap], .int .i64 0]) ∧ BytesIn w'' (some ⟨g, 0, none⟩) (makeK 8 n2 (A ++ B)) ∧ w'.heap.size ≤ g ∧ Below w'.heap.size w' w'') := fun w' hb => Lib.hid (make12 _ _ w' (SLr.below hb) hL1 hL2 n2 hn2)
      have hn1p : 0 < n1 := by rw [← hn1]; exact sizeK_pos _ _
      have hn1l : n1 ≤ 8193 := by rw [← hn1]; exact sizeK_le _ _ (by omega) (by decide)
      have hn2p : 0 < n2 := by rw [← hn2]; exact sizeK_pos _ _
      have hn2l : n2 ≤ 8193 := by rw [← hn2]; exact sizeK_le _ _ (by omega) (by decide)
      have a0 := below_past a5 (by rw [HN.out]; exact b0) a5.size
      clear hP1 hmem hP2 hL1 hL2 SLr SP ow b0
      obtain rfl : n1 = n2 := by rw [← hn1, ← hn2, padL_length, List.length_append, HLA.out, HLB.out]
      clear hn1 hn2
      go_wp2_with fail
      refine HM1.out.mono ?_
      rintro e w8 ⟨g1, c1, rfl, hB1, hg1, b8⟩
      have x9 := World.alloc_heap_new w8 (.cells #[.int .i64 8, .slice (some ⟨g1, 0, none⟩) n1 c1] 84)
      have b9 := (Below.refl w8.heap.size w8).alloc (Nat.le_refl _) (.cells #[.int .i64 8, .slice (some ⟨g1, 0, none⟩) n1 c1] 84)
      have hB9 := hB1.below b9
      have a9 := below_past a0 (below_past b8 b9 b8.size) a0.size
      have b19 := below_past b8 b9 b8.size
      clear HM1 hB1 b8 b9
      go_wp2_with fail
      generalize w8.alloc (.cells #[.int .i64 8, .slice (some ⟨g1, 0, none⟩) n1 c1] 84) = W9 at *
      refine (HM2 W9 b19).out.mono ?_
      rintro e w10 ⟨g2, c2, rfl, hB2, hg2, b10⟩
      have x10 := (b10.block _ (heap_lt x9)).trans x9
      have hf := heap_lt x10
      have x11 := (Below.heap_alloc w10 (.cells #[.int .i64 8, .slice (some ⟨g2, 0, none⟩) n1 c2] 84) _ hf).trans x10
      have y11 := World.alloc_heap_new w10 (.cells #[.int .i64 8, .slice (some ⟨g2, 0, none⟩) n1 c2] 84)
      have b11 := (Below.refl w10.heap.size w10).alloc (Nat.le_refl _) (.cells #[.int .i64 8, .slice (some ⟨g2, 0, none⟩) n1 c2] 84)
      have HB11 := Lib.hid ((hB9.below b10).below b11)
      have HC11 := Lib.hid (hB2.below b11)
      have a10 := below_past a9 b10 a9.size
      have a11 := below_past a10 b11 a10.size
      clear HM2 hB9 hB2 b10 b11 b19 x9 x10 a0 a9 a10
      have k1 : (w10.alloc (.cells #[.int .i64 8, .slice (some ⟨g2, 0, none⟩) n1 c2] 84)).cell? ⟨w8.heap.size, 1, none⟩ = some (.slice (some ⟨g1, 0, none⟩) n1 c1) := (Lib.cell_of_heap x11 1).trans rfl
      have himp : mayF 8 (makeK 8 n1 (padL A i)) (hashL key.data.toList) = true → mayF 8 (makeK 8 n1 (A ++ B)) (hashL key.data.toList) = true := fun h => mayF_more 8 n1 _ _ _ hsub hn1p (by omega) h
      have b1n := (Below.refl w10.heap.size w10).alloc (Nat.le_refl _) (.cells #[.int .i64 8, .slice (some ⟨g2, 0, none⟩) n1 c2] 84)
      by_cases hk : 300 < key.size
      · as_aux_lemma =>
        have hk' : decide ((300 : Int) < key.size) = true := decide_eq_true (by omega)
        go_wp2_with fail
        generalize w10.alloc (.cells #[.int .i64 8, .slice (some ⟨g2, 0, none⟩) n1 c2] 84) = W11 at *
        refine (HA _).out.mono ?_
        rintro e w12 ⟨rfl, b12⟩
        have a12 := below_past a11 b12 a11.size
        go_wp2_with fail
        go_ret
        exact ⟨rfl, a12⟩
      · as_aux_lemma =>
        have HMAY : ∀ g c P w, BytesIn w (some ⟨g, 0, none⟩) (makeK 8 n1 P) → Hid (Calls Try.prog 58 #[.agg #[.int .i64 8, .slice (some ⟨g, 0, none⟩) n1 c], .string key] w fun e w' => e = .returned (.bool (mayF 8 (makeK 8 n1 P) (hashL key.data.toList))) ∧ Below w.heap.size w w') := fun g c P w hB => Lib.hid (by
          have := may_any 8 (some ⟨g, 0, none⟩) c (makeK 8 n1 P) key w (by omega) hB
          rwa [makeK_length] at this)
        have hk' : decide ((300 : Int) < key.size) = false := decide_eq_false (by omega)
        go_wp2_with fail
        generalize w10.alloc (.cells #[.int .i64 8, .slice (some ⟨g2, 0, none⟩) n1 c2] 84) = W11 at *
        refine (HA _).out.mono ?_
        rintro e w12 ⟨rfl, b12⟩
        have a12 := below_past a11 b12 a11.size
        have x12 := (b12.block _ (heap_lt x11)).trans x11
        have y12 := (b12.block _ (heap_lt y11)).trans y11
        have HB12 := Lib.hid (HB11.out.below b12)
        have HC12 := Lib.hid (HC11.out.below b12)
        clear k1 b12 x11 y11 a11 HB11 HC11
        have k1 : w12.cell? ⟨w8.heap.size, 0, none⟩ = some (.int .i64 8) := (Lib.cell_of_heap x12 0).trans rfl
        have k2 : w12.cell? ⟨w8.heap.size, 1, none⟩ = some (.slice (some ⟨g1, 0, none⟩) n1 c1) := (Lib.cell_of_heap x12 1).trans rfl
        go_wp2_with fail
        refine (HMAY _ _ _ _ HB12.out).out.mono ?_
        rintro e w13 ⟨rfl, b13⟩
        have a13 := below_past a12 b13 a12.size
        have y13 := (b13.block _ (heap_lt y12)).trans y12
        have HC13 := Lib.hid (HC12.out.below b13)
        clear k1 k2 b13 x12 y12 a12 HB12 HC12
        have k1 : w13.cell? ⟨w10.heap.size, 0, none⟩ = some (.int .i64 8) := (Lib.cell_of_heap y13 0).trans rfl
        have k2 : w13.cell? ⟨w10.heap.size, 1, none⟩ = some (.slice (some ⟨g2, 0, none⟩) n1 c2) := (Lib.cell_of_heap y13 1).trans rfl
        cases hr : mayF 8 (makeK 8 n1 (padL A i)) (hashL key.data.toList) with
        | false =>
          clear himp
          go_wp2_with fail
          go_ret
          exact ⟨rfl, a13⟩
        | true =>
          have h2 := himp hr
          clear himp
          go_wp2_with fail
          refine (HMAY _ _ _ _ HC13.out).out.mono ?_
          rw [h2]
          rintro e w14 ⟨rfl, b14⟩
          have a14 := below_past a13 b14 a13.size
          go_wp2_with fail
          go_ret
          exact ⟨rfl, a14⟩
set_option maxRecDepth 100000 in
theorem lifted (os : Os) (started : os.Started) (H : Type) (enc : TypeId × Value → H) :
    ReturnsInHanded {} Try.checked os 13 .any (Rows.bloomMoreSpec.pre6 enc Try.prog Try.f13 Rows.bloomMoreRow.domain false) (Rows.bloomMoreSpec.post enc Try.prog Try.f13 false true false false) := by
  refine returnsInHanded_of_change (C := Try.checked) own started (by kernel_rfl) Try.func13
    (ChangeSpec.witness6 (enc := enc) (C := Try.checked) false ⟨#[], #[.slice none 0 0, .slice none 0 0, .string ⟨#[]⟩], []⟩ 8 (by kernel_rfl) (by kernel_rfl) (by kernel_rfl) (by kernel_rfl)) ?_
  intro W base args ds gs before hval0 hW _ _
  have hval : ∀ (j : Nat) t v, Try.f13.params[j]? = some t → args[j]? = some v → Value.okWide Try.prog W .any base t v := hval0
  clear hval0
  have hW' := hW
  obtain ⟨p, q, hA0, hV, rfl, hfz, hnd⟩ := hW
  have hA : DataW.TrodAll enc Try.prog W 0 (fun _ => true) true Try.f13.params.toList args.toList ds p := hA0
  rw [Try.params13] at hA hval
  clear hA0 hfz hnd hV
  have hr : Readable Try.f13.params.toList := by
    rw [Try.params13]
    exact readable_of_all (by kernel_rfl)
  have fin : ∀ W', Below W.heap.size W W' → Rows.bloomMoreSpec.post enc Try.prog Try.f13 false true false false W args (.bool true) W' := fun W' hb =>
    law_post rfl hW' hr (fun l hl => by
      rw [Try.params13] at hl
      match l, hl with
      | [d1, d2, d3], _ => rfl) (by kernel_rfl) hb
  clear hW' hr
  obtain ⟨v0, v1, v2, d0, d1, d2, p0, p1, p2, rfl, rfl, rfl, h0, h1, h2⟩ := trodAll_three hA; obtain ⟨l1, S1, hs1⟩ := in_strs Try.underlying81 Try.underlying9 cellsOf_string (hval 0 81 v0 rfl rfl) h0; obtain ⟨l2, S2, hs2⟩ := in_strs Try.underlying81 Try.underlying9 cellsOf_string (hval 1 81 v1 rfl rfl) h1; obtain ⟨s, rfl, _, _, w2⟩ := open_string Try.underlying9 (hval 2 9 v2 rfl rfl) h2
  exact (walk v0 v1 l1 l2 S1 S2 s W hs1 hs2).mono fun e W' ⟨he, hb⟩ => ⟨_, he, fin W' hb⟩
theorem proved : Rows.BloomMoreSaid :=
  OpenClaim.holds_of_wide 13 Try.f13 rfl rfl rfl rfl rfl rfl rfl ⟨rfl, rfl, rfl, rfl, rfl⟩ rfl rfl rfl rfl rfl (by kernel_rfl) Try.func13 (by kernel_rfl)
    (of_decide_eq_true (by kernel_rfl)) (by unfold Func.isWrapper; first | (rw [if_pos (by decide +kernel)]; kernel_rfl) | (rw [if_neg (by decide +kernel)]; exact ⟨rfl, rfl⟩))
    (fun os started H enc _ => lifted os started H enc)
end Go.Proofs.Ythcaolinajfjpaa.more
