/- A list of entries split in lists, by the document. Conditions: none. -/
import Derived.Test.YtgddmbfacmgfpaaSplit3
namespace Go.Proofs.Ytgddmbfacmgfpaa
open Go Go.RowKit
attribute [local go_sem] Oper.semAt_some

theorem splitE_full {size most : Int} {g : List Ent} {x : Ent} {l : List Ent} (h : fullE (g ++ [x]) size most = true) : splitE size most g (x :: l) = (g ++ [x]) :: splitE size most [] l := by
  rw [splitE, if_pos h]
theorem splitE_more {size most : Int} {g : List Ent} {x : Ent} {l : List Ent} (h : fullE (g ++ [x]) size most = false) : splitE size most g (x :: l) = splitE size most (g ++ [x]) l := by
  rw [splitE, if_neg (by rw [h]; decide)]
/-- What has been split off, what has been gathered since. -/
structure GatherAt (B : Nat) (w0 wr : World) (al gl : Value) (Ls : List (List Ent)) (g : List Ent) (wc : World) : Prop where
  out : OwnLists wc B al Ls
  low : B ≤ wc.heap.size
  b : Below wc.heap.size wc wr
  own : OwnEnts wr wc.heap.size gl g
  b0 : Below B w0 wr
theorem GatherAt.below {B : Nat} {w0 wr w' : World} {al gl : Value} {Ls : List (List Ent)} {g : List Ent} {wc : World} (h : GatherAt B w0 wr al gl Ls g wc) (k : Below wr.heap.size wr w') : GatherAt B w0 w' al gl Ls g wc :=
  ⟨h.out, h.low, below_past h.b k h.b.size, h.own.below k, below_past h.b0 k (Nat.le_trans h.low h.b.size)⟩
set_option maxRecDepth 100000 in
set_option maxHeartbeats 4000000 in
theorem r12Split_any (v : Value) (l : List Ent) (size most : Int) (w : World) (h : EntsAt w v l) (hl : l.length ≤ 1000) (hc : ∀ x ∈ l, costE x ≤ 100000000) :
    Calls Try.prog 45 #[v, .int .i64 size, .int .i64 most] w fun e w' => ∃ v', e = .returned v' ∧ OwnLists w' w.heap.size v' (splitE size most [] l) ∧ Below w.heap.size w w' := by
  obtain ⟨A, cap, rfl, _, _, h3⟩ := h
  have H3 := Lib.hid h3
  have HC := Lib.hid hc
  obtain ⟨T, hT⟩ : ∃ T, splitE size most [] l = T := ⟨_, rfl⟩
  have HT : Hid ([] ++ splitE size most [] (l.drop 0) = T) := Lib.hid hT
  rw [hT]
  obtain ⟨n, hn⟩ : ∃ n, l.length = n := ⟨_, rfl⟩
  have HN := Lib.hid hn
  rw [hn] at hl ⊢
  have hni : (n : Int) ≤ 1000 := by omega
  have s0 : GatherAt w.heap.size w ((w.alloc (.cells #[] 63)).alloc (.cells #[] 71)) (.slice (some ⟨w.heap.size, 0, none⟩) 0 0) (.slice (some ⟨w.heap.size + 1, 0, none⟩) 0 0) [] [] (w.alloc (.cells #[] 63)) := by
    refine ⟨ownLists_new w _ _ rfl (Nat.le_refl _), by simp, (Below.refl _ _).alloc (Nat.le_refl _) _, ownEnts_new _ _ _ (by simp) (by simp), ((Below.refl _ _).alloc (Nat.le_refl _) _).alloc (by simp) _⟩
  clear h3 hc hT hn
  go_enter Try.func45, Try.ntmps45
  go_wp2_with fail
  generalize (w.alloc (.cells #[] 63)).alloc (.cells #[] 71) = W0 at *
  generalize w.alloc (.cells #[] 63) = WC at *
  generalize hB : w.heap.size = B at *
  have HB := Lib.hid hB
  clear hB
  go_loopw [7, 8, 15] (fun al gl ix wr => ∃ (i : Nat) (Ls : List (List Ent)) (g : List Ent) (wc : World), i ≤ n ∧ ix = .int .i64 i ∧ Ls.length + g.length ≤ i ∧ Hid (∀ x ∈ g, costE x ≤ 100000000) ∧ GatherAt B w wr al gl Ls g wc ∧ Hid (Ls ++ splitE size most g (l.drop i) = T)) (fun _ _ ix _ => (n - intOf ix).toNat)
  case atStart => exact ⟨0, [], [], WC, Nat.zero_le _, rfl, Nat.le_refl _, Lib.hid (fun x hx => by cases hx), s0, HT⟩
  case round =>
    obtain ⟨i, Ls, g, wc, hi, rfl, hll, HGC, s1, HLT⟩ := hrel
    clear s0 HT
    by_cases hlt : i < n
    · have hlt' : (i : Int) < n := by omega
      obtain ⟨x, hx⟩ : ∃ x, l[i]? = some x := ⟨_, List.getElem?_eq_getElem (by rw [HN.out]; exact hlt)⟩
      obtain ⟨gg, o, rfl, hat⟩ := H3.out i x hx
      obtain ⟨c0, c1, c2⟩ := hat.below (by rw [HB.out]; exact s1.b0)
      have hdr : l.drop i = x :: l.drop (i + 1) := by
        obtain ⟨h5, h6⟩ := List.getElem?_eq_some_iff.1 hx
        rw [List.drop_eq_getElem_cons h5, h6]
      rw [hdr] at HLT
      have hxc := HC.out x (List.mem_of_getElem? hx)
      have HGC2 : Hid (∀ y ∈ g ++ [x], costE y ≤ 100000000) := Lib.hid fun y hy => by
        rcases List.mem_append.1 hy with e | e
        · exact HGC.out y e
        · rw [List.mem_singleton.1 e]; exact hxc
      have hwc : wc.heap.size ≤ wr.heap.size := s1.b.size
      have hlen : g.length ≤ 1000000 := by omega
      have hw2 : wr.heap.size ≤ ((wr.alloc (.cells #[.string (stx x.key), .string (stx x.val), .bool x.gone] 71)).alloc (.cells #[.string (stx x.key), .string (stx x.val), .bool x.gone] 71)).heap.size := by simp; omega
      have ow4 : OwnEnts ((wr.alloc (.cells #[.string (stx x.key), .string (stx x.val), .bool x.gone] 71)).alloc (.cells #[.string (stx x.key), .string (stx x.val), .bool x.gone] 71)) wc.heap.size _ g := World.ownsRow.alloc (World.ownsRow.alloc s1.own _) _
      have hc4 := entAt_new (wr.alloc (.cells #[.string (stx x.key), .string (stx x.val), .bool x.gone] 71)) x (wr.heap.size + 1) (by simp)
      have bb4 : Below wc.heap.size wc ((wr.alloc (.cells #[.string (stx x.key), .string (stx x.val), .bool x.gone] 71)).alloc (.cells #[.string (stx x.key), .string (stx x.val), .bool x.gone] 71)) := (s1.b.alloc hwc _).alloc (by simp; omega) _
      have bb0 : Below B w ((wr.alloc (.cells #[.string (stx x.key), .string (stx x.val), .bool x.gone] 71)).alloc (.cells #[.string (stx x.key), .string (stx x.val), .bool x.gone] 71)) := (s1.b0.alloc (Nat.le_trans s1.low hwc) _).alloc (by have := s1.low; simp; omega) _
      have S1 := Lib.hid s1
      clear hat hx hdr hxc HGC s1
      go_wp2_with (at_builtin; refine wpList_put_ent rfl _ _ rfl wc.heap.size _ g rfl ow4 x (wr.heap.size + 1) 1 rfl hc4 (Nat.le_trans hwc hw2) hlen ?_)
      intro v5 w5 hown5 hgrow5 _
      have s5 : GatherAt B w w5 _ v5 Ls (g ++ [x]) wc := ⟨S1.out.out, S1.out.low, ow4.grown hgrow5 bb4 (Nat.le_trans hwc hw2), hown5, bb0.grown hgrow5 (Nat.le_trans S1.out.low (Nat.le_trans hwc hw2)) (fun k hk => Nat.le_trans S1.out.low (World.ownsRow.lt ow4 k hk).1)⟩
      have hgl : (g ++ [x]).length ≤ 1000 := by rw [List.length_append, List.length_singleton]; omega
      have HCO := Lib.hid (r12Cost_any v5 (g ++ [x]) w5 hown5.lie hgl HGC2.out)
      have hll2 : Ls.length + (g ++ [x]).length ≤ i + 1 := by rw [List.length_append, List.length_singleton]; omega
      have hg1 : 1 ≤ (g ++ [x]).length := by rw [List.length_append, List.length_singleton]; omega
      have hcb : costs (g ++ [x]) ≤ 100000000000 := Nat.le_trans (costs_le HGC2.out) (by omega)
      have HFU : Hid (fullE (g ++ [x]) size most = (decide (size ≤ ((costs (g ++ [x]) : Nat) : Int)) || decide (most ≤ (((g ++ [x]).length : Nat) : Int)))) := Lib.hid rfl
      have HF1 : fullE (g ++ [x]) size most = true → Hid (Ls ++ ((g ++ [x]) :: splitE size most [] (l.drop (i + 1))) = T) := fun h => Lib.hid (by rw [← HLT.out, splitE_full h])
      have HF2 : fullE (g ++ [x]) size most = false → Hid (Ls ++ splitE size most (g ++ [x]) (l.drop (i + 1)) = T) := fun h => Lib.hid (by rw [← HLT.out, splitE_more h])
      have HF1 := Lib.hid HF1
      have HF2 := Lib.hid HF2
      clear ow4 hc4 bb4 bb0 hown5 hgrow5 S1 HLT hll hwc hw2 c0 c1 c2 hlen
      generalize g ++ [x] = G1 at *
      obtain ⟨A9, c9, rfl⟩ := s5.own.shape
      obtain ⟨gn, hgn⟩ : ∃ gn, G1.length = gn := ⟨_, rfl⟩
      have hfu := HFU.out
      rw [hgn] at s5 hgl hll2 hfu hg1
      have hco := HCO.out
      rw [hgn] at hco
      have HCO := Lib.hid hco
      rw [hgn]
      have HGN := Lib.hid hgn
      have HFU := Lib.hid hfu
      have hgi : (gn : Int) ≤ 1000 := by omega
      clear hgn hco hfu
      generalize costs G1 = C at *
      have hci : (C : Int) ≤ 100000000000 := by omega
      clear hcb
      go_wp2_with fail
      refine HCO.out.mono ?_
      rintro e w6 ⟨rfl, b6⟩
      have s6 := s5.below b6
      clear s5 b6 HCO
      by_cases hf1 : size ≤ (C : Int)
      · have q1 : decide (size ≤ (C : Int)) = true := decide_eq_true hf1
        have HR := HF1.out (by rw [HFU.out, q1]; rfl)
        clear HFU HF1 HF2
        have ow9 := s6.out.below s6.b
        have og9 := s6.own.low s6.low
        have hz9 : B ≤ w6.heap.size := Nat.le_trans s6.low s6.b.size
        have b09 := s6.b0
        have bq : Below w6.heap.size w6 (w6.alloc (.cells #[.slice A9 gn c9] 63)) := (Below.refl _ _).alloc (Nat.le_refl _) _
        have ow10 := ow9.below bq
        have og10 := og9.below bq
        have b10 := below_past b09 bq hz9
        have hcell := cell_of_rowAt (rowAt_alloc_at w6 #[.slice A9 gn c9] 63 _ rfl) 0
        have hz10 : B ≤ (w6.alloc (.cells #[.slice A9 gn c9] 63)).heap.size := Nat.le_trans hz9 bq.size
        have hll9 : Ls.length ≤ 1000000 := by omega
        clear ow9 og9 b09 bq s6
        go_wp2_with (at_builtin; refine wpList_put_list rfl _ _ rfl B _ Ls rfl ow10 _ G1 og10 w6.heap.size 1 rfl hcell hz10 hll9 ?_)
        intro v8 w8 hown hgrow
        have b8 := ow10.grown hgrow b10 hz10
        have hz8 : B ≤ w8.heap.size := Nat.le_trans hz10 hgrow.size
        clear ow10 og10 hgrow b10 hcell
        go_wp2_with fail
        exact ⟨⟨i + 1, Ls ++ [G1], [], w8, hlt, by go_num, by simp; omega, Lib.hid (fun x hx => by cases hx), ⟨hown, hz8, (Below.refl _ _).alloc (Nat.le_refl _) _, ownEnts_new _ _ _ rfl (Nat.le_refl _), b8.alloc hz8 _⟩, by rw [← HR.out]; exact Lib.hid (by simp)⟩, by simp [intOf]; omega⟩
      · have q1 : decide (size ≤ (C : Int)) = false := decide_eq_false hf1
        by_cases hf2 : most ≤ (gn : Int)
        · have q2 : decide (most ≤ (gn : Int)) = true := decide_eq_true hf2
          have HR := HF1.out (by rw [HFU.out, q1, q2]; rfl)
          clear HFU HF1 HF2
          have ow9 := s6.out.below s6.b
          have og9 := s6.own.low s6.low
          have hz9 : B ≤ w6.heap.size := Nat.le_trans s6.low s6.b.size
          have b09 := s6.b0
          have bq : Below w6.heap.size w6 (w6.alloc (.cells #[.slice A9 gn c9] 63)) := (Below.refl _ _).alloc (Nat.le_refl _) _
          have ow10 := ow9.below bq
          have og10 := og9.below bq
          have b10 := below_past b09 bq hz9
          have hcell := cell_of_rowAt (rowAt_alloc_at w6 #[.slice A9 gn c9] 63 _ rfl) 0
          have hz10 : B ≤ (w6.alloc (.cells #[.slice A9 gn c9] 63)).heap.size := Nat.le_trans hz9 bq.size
          have hll9 : Ls.length ≤ 1000000 := by omega
          clear ow9 og9 b09 bq s6
          go_wp2_with (at_builtin; refine wpList_put_list rfl _ _ rfl B _ Ls rfl ow10 _ G1 og10 w6.heap.size 1 rfl hcell hz10 hll9 ?_)
          intro v8 w8 hown hgrow
          have b8 := ow10.grown hgrow b10 hz10
          have hz8 : B ≤ w8.heap.size := Nat.le_trans hz10 hgrow.size
          clear ow10 og10 hgrow b10 hcell
          go_wp2_with fail
          exact ⟨⟨i + 1, Ls ++ [G1], [], w8, hlt, by go_num, by simp; omega, Lib.hid (fun x hx => by cases hx), ⟨hown, hz8, (Below.refl _ _).alloc (Nat.le_refl _) _, ownEnts_new _ _ _ rfl (Nat.le_refl _), b8.alloc hz8 _⟩, by rw [← HR.out]; exact Lib.hid (by simp)⟩, by simp [intOf]; omega⟩
        · have q2 : decide (most ≤ (gn : Int)) = false := decide_eq_false hf2
          have HR := HF2.out (by rw [HFU.out, q1, q2]; rfl)
          clear HFU HF1 HF2
          go_wp2_with fail
          exact ⟨⟨i + 1, Ls, G1, wc, hlt, by go_num, by rw [HGN.out]; exact hll2, HGC2, s6, HR⟩, by simp [intOf]; omega⟩
    · obtain rfl : i = n := by omega
      have hdn : l.drop i = [] := List.drop_eq_nil_of_le (by rw [HN.out]; exact Nat.le_refl _)
      rw [hdn] at HLT
      clear hdn
      by_cases hg : g = []
      · subst hg
        have HR : Hid (Ls = T) := Lib.hid (by rw [← HLT.out]; simp [splitE])
        obtain ⟨A9, c9, rfl⟩ := s1.own.shape
        simp only [List.length_nil]
        clear HLT
        go_wp2_with fail
        go_ret
        exact ⟨_, rfl, by rw [← HR.out, HB.out]; exact s1.out.below s1.b, by rw [HB.out]; exact s1.b0⟩
      · have HR : Hid (Ls ++ [g] = T) := Lib.hid (by rw [← HLT.out, splitE, if_neg hg])
        obtain ⟨A9, c9, rfl⟩ := s1.own.shape
        obtain ⟨gn, hgn⟩ : ∃ gn, g.length = gn := ⟨_, rfl⟩
        have hgp : 0 < gn := by
          rw [← hgn]
          cases g with
          | nil => exact absurd rfl hg
          | cons x g => simp
        rw [hgn] at s1 hll
        rw [hgn]
        have HGN := Lib.hid hgn
        have q1 : decide ((0 : Int) < gn) = true := decide_eq_true (by omega)
        have q2 : decide (0 < gn) = true := decide_eq_true hgp
        have s6 := s1
        generalize wr = w6 at *
        generalize g = G1 at *
        clear hg HLT hgn s1
        have ow9 := s6.out.below s6.b
        have og9 := s6.own.low s6.low
        have hz9 : B ≤ w6.heap.size := Nat.le_trans s6.low s6.b.size
        have b09 := s6.b0
        have bq : Below w6.heap.size w6 (w6.alloc (.cells #[.slice A9 gn c9] 63)) := (Below.refl _ _).alloc (Nat.le_refl _) _
        have ow10 := ow9.below bq
        have og10 := og9.below bq
        have b10 := below_past b09 bq hz9
        have hcell := cell_of_rowAt (rowAt_alloc_at w6 #[.slice A9 gn c9] 63 _ rfl) 0
        have hz10 : B ≤ (w6.alloc (.cells #[.slice A9 gn c9] 63)).heap.size := Nat.le_trans hz9 bq.size
        have hll9 : Ls.length ≤ 1000000 := by omega
        clear ow9 og9 b09 bq s6
        go_wp2_with (at_builtin; refine wpList_put_list rfl _ _ rfl B _ Ls rfl ow10 _ G1 og10 w6.heap.size 1 rfl hcell hz10 hll9 ?_)
        intro v8 w8 hown hgrow
        have b8 := ow10.grown hgrow b10 hz10
        have hz8 : B ≤ w8.heap.size := Nat.le_trans hz10 hgrow.size
        clear ow10 og10 hgrow b10 hcell
        go_wp2_with fail
        go_ret
        exact ⟨_, rfl, by rw [← HR.out, HB.out]; exact hown, by rw [HB.out]; exact b8⟩
end Go.Proofs.Ytgddmbfacmgfpaa
