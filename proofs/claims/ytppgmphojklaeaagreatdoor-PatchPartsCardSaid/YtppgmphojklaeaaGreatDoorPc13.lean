/- Texts that the next ones stand on: Ref16b, Ref16c, OverMath, PermMath, PartsMath, PartsTop, NodeT, L16a, L16b. -/
import Derived.Test.YtppgmphojklaeaaGreatDoorPc12
namespace Go.Proofs.YtppgmphojklaeaaGreatDoor
open Go Go.RowKit

theorem take_nextR {α : Type} (L : List α) (d : α) (i : Nat) (h : i < L.length) : L.take i ++ [L.getD i d] = L.take (i + 1) := by
  rw [List.take_succ_eq_append_getElem h, List.getD_eq_getElem?_getD, List.getElem?_eq_getElem h]
  rfl
def ltR (x y : Itm) : Bool := decide (order x.b y.b < 0)
theorem order_neg (a b : Lab) : order a b < 0 ↔ order a b = -1 := by
  unfold order
  split
  · omega
  · have := bit_lt a (common a b)
    omega
theorem insL_all {α : Type} {lt : α → α → Bool} (x : α) : ∀ {l : List α}, l.any (lt x) = false → insL lt x l = l ++ [x]
  | [], _ => rfl
  | y :: l, h => by
    rw [List.any_cons, Bool.or_eq_false_iff] at h
    rw [insL, if_neg (by rw [h.1]; decide), insL_all x h.2]
    rfl
theorem insL_putB {α : Type} {lt : α → α → Bool} (x y : α) : ∀ {l : List α}, l.any (lt x) = true → insL lt x (l ++ [y]) = insL lt x l ++ [y]
  | [], h => by cases h
  | z :: l, h => by
    rw [List.cons_append, insL, insL]
    split
    · rfl
    · rename_i hz
      rw [List.any_cons, show lt x z = false by simpa using hz, Bool.false_or] at h
      rw [insL_putB x y h, List.cons_append]
theorem insL_putN {α : Type} {lt : α → α → Bool} (x y : α) (hy : lt x y = true) : ∀ {l : List α}, l.any (lt x) = false → insL lt x (l ++ [y]) = l ++ [x] ++ [y]
  | [], _ => by rw [List.nil_append, insL, if_pos hy]; rfl
  | z :: l, h => by
    rw [List.any_cons, Bool.or_eq_false_iff] at h
    rw [List.cons_append, insL, if_neg (by rw [h.1]; decide), insL_putN x y hy h.2]
    rfl
/-- What stands in the new list once some of the old one were looked at. -/
def nextL (x : Itm) (S : List Itm) (j : Nat) : List Itm := if (S.take j).any (ltR x) = true then insL ltR x (S.take j) else S.take j
theorem nextL_len (x : Itm) (S : List Itm) (j : Nat) : (nextL x S j).length ≤ S.length + 1 := by
  unfold nextL
  split
  · rw [insL_length, List.length_take]; omega
  · rw [List.length_take]; omega
theorem nextL_done {x : Itm} {S : List Itm} {j : Nat} (hj : j < S.length) (hd : (S.take j).any (ltR x) = true) : nextL x S j ++ [S.getD j zeroItm] = nextL x S (j + 1) ∧ (S.take (j + 1)).any (ltR x) = true := by
  have hn := take_nextR S zeroItm j hj
  have h2 : (S.take (j + 1)).any (ltR x) = true := by rw [← hn, List.any_append, hd]; rfl
  refine ⟨?_, h2⟩
  rw [nextL, nextL, if_pos hd, if_pos h2, ← hn, insL_putB _ _ hd]
theorem nextL_put {x : Itm} {S : List Itm} {j : Nat} (hj : j < S.length) (hd : (S.take j).any (ltR x) = false) (hy : ltR x (S.getD j zeroItm) = true) : nextL x S j ++ [x] ++ [S.getD j zeroItm] = nextL x S (j + 1) ∧ (S.take (j + 1)).any (ltR x) = true := by
  have hn := take_nextR S zeroItm j hj
  have h2 : (S.take (j + 1)).any (ltR x) = true := by rw [← hn, List.any_append, List.any_cons, hy]; simp
  refine ⟨?_, h2⟩
  rw [nextL, nextL, if_neg (by rw [hd]; decide), if_pos h2, ← hn, insL_putN _ _ hy hd]
theorem nextL_go {x : Itm} {S : List Itm} {j : Nat} (hj : j < S.length) (hd : (S.take j).any (ltR x) = false) (hy : ltR x (S.getD j zeroItm) = false) : nextL x S j ++ [S.getD j zeroItm] = nextL x S (j + 1) ∧ (S.take (j + 1)).any (ltR x) = false := by
  have hn := take_nextR S zeroItm j hj
  have h2 : (S.take (j + 1)).any (ltR x) = false := by rw [← hn, List.any_append, List.any_cons, hd, hy]; rfl
  refine ⟨?_, h2⟩
  rw [nextL, nextL, if_neg (by rw [hd]; decide), if_neg (by rw [h2]; decide), ← hn]
theorem nextL_end {x : Itm} {S : List Itm} : ((S.take S.length).any (ltR x) = true → nextL x S S.length = insL ltR x S) ∧ ((S.take S.length).any (ltR x) = false → nextL x S S.length ++ [x] = insL ltR x S) := by
  rw [nextL, List.take_length]
  constructor
  · intro h; rw [if_pos h]
  · intro h; rw [if_neg (by rw [h]; decide), insL_all x h]
theorem rowAt_grownJ {w0 w w' : World} {B b : Nat} {v : Value} {L : List Itm} {c : Array Value} (h : OwnJ w0 B v L) (hb : w0.heap.size ≤ b) (hg : w.grownBy w' v.ownBlock) (hr : rowAt w b = some c) : rowAt w' b = some c := by
  obtain ⟨T, hT⟩ := heap_of_rowAt hr
  refine rowAt_of_heap ((hg.block b (Array.getElem?_eq_some_iff.1 hT).1 fun e => ?_).trans hT)
  have := (h.block e.symm).2.1
  omega
set_option maxRecDepth 100000 in
set_option maxHeartbeats 4000000 in
theorem r16Sorted_any (v : Value) (L : List Itm) (hL : L.length ≤ 10000) (w : World) (hA : AtJ w.heap.size w v L) :
    Calls Tryz.prog 19 #[v] w fun e w' => ∃ u, e = .returned u ∧ OwnJ w' w.heap.size u (isortL ltR L) ∧ Below w.heap.size w w' := by
  obtain ⟨ao, cap, rfl, hA2⟩ := hA
  obtain ⟨B, hB⟩ : ∃ B, w.heap.size = B := ⟨_, rfl⟩
  obtain ⟨m, hm⟩ : ∃ m, L.length = m := ⟨_, rfl⟩
  have HM : Hid (L.length = m) := hm
  have HB : Hid (w.heap.size = B) := hB
  have hm1 : (m : Int) ≤ 10000 := by omega
  have HA := Lib.hid hA2
  have b0 : Below B w (w.alloc (.cells #[] 66)) := by rw [← hB]; exact (Below.refl _ _).alloc (Nat.le_refl _) _
  have o0 : OwnJ (w.alloc (.cells #[] 66)) B (.slice (some ⟨w.heap.size, 0, none⟩) 0 0) [] := by rw [← hB]; exact ownJ_empty w
  have s0 : B ≤ (w.alloc (.cells #[] 66)).heap.size := by rw [World.size_alloc]; omega
  rw [hm, hB] at HA
  rw [hm, hB]
  rw [hB] at o0
  clear hA2 hm hL hB
  go_enter Tryz.func19, Tryz.ntmps19
  go_wp2
  rw [HB.out]
  generalize w.alloc (.cells #[] 66) = W at *
  go_loopw [3, 13] (fun s3 s13 wr => ∃ (i : Nat) (u : Value), u = s3 ∧ s13 = .int .i64 i ∧ i ≤ m ∧ OwnJ wr B u (isortL ltR (L.take i)) ∧ Below B w wr ∧ B ≤ wr.heap.size) (fun _ s13 _ => (m - intOf s13).toNat)
  case atStart => exact ⟨0, _, rfl, rfl, Nat.zero_le _, o0, b0, s0⟩
  case round =>
    clear b0 o0 s0
    obtain ⟨i, u, rfl, rfl, hi, O1, B1, S1⟩ := hrel
    by_cases hlt : i < m
    · have hlt' : (i : Int) < m := by omega
      obtain ⟨g, o, cur, rfl, hg, hr0, hsz, hex⟩ := HA.out i hlt
      have hr1 : rowAt wr g = some cur := (rowAt_below B1 hg).trans hr0
      have hsz1 : o + i * 66 + 66 ≤ cur.size := by omega
      have HX : Hid (insL ltR (L.getD i zeroItm) (isortL ltR (L.take i)) = isortL ltR (L.take (i + 1))) := by
        show _ = _
        rw [← isortL_put, take_nextR L zeroItm i (by rw [HM.out]; exact hlt)]
      have hSl : (isortL ltR (L.take i)).length = i := by rw [isortL_length, List.length_take, HM.out]; omega
      generalize L.getD i zeroItm = x at hex HX
      generalize isortL ltR (L.take i) = S at O1 HX hSl
      obtain ⟨ao2, cap2, rfl⟩ := O1.shape
      rw [hSl] at O1 ⊢
      have HSl := Lib.hid hSl
      have bx : Below wr.heap.size wr (wr.alloc (.cells (cellsI x) 66)) := (Below.refl _ _).alloc (Nat.le_refl _) _
      have ax := O1.at.below (Nat.le_refl _) bx
      have rx : rowAt (wr.alloc (.cells (cellsI x) 66)) wr.heap.size = some (cellsI x) := rowAt_of_heap (World.alloc_heap_new _ _)
      have Bx : Below B w (wr.alloc (.cells (cellsI x) 66)) := B1.trans (bx.mono S1)
      have sx : wr.heap.size < (wr.alloc (.cells (cellsI x) 66)).heap.size := by rw [World.size_alloc]; omega
      have HX2 := HX
      clear hr0 hsz hSl HX
      have Ax : Hid (AtJ (wr.heap.size + 1) ((wr.alloc (.cells (cellsI x) 66)).alloc (.cells #[] 66)) (.slice ao2 i cap2) S) := by
        have := ax.below (Nat.le_of_lt sx) ((Below.refl _ _).alloc (Nat.le_refl _) (.cells #[] 66))
        rwa [World.size_alloc] at this
      have oe : OwnJ ((wr.alloc (.cells (cellsI x) 66)).alloc (.cells #[] 66)) (wr.heap.size + 1) (.slice (some ⟨wr.heap.size + 1, 0, none⟩) 0 0) [] := by
        have := ownJ_empty (wr.alloc (.cells (cellsI x) 66))
        rwa [World.size_alloc] at this
      have re : rowAt ((wr.alloc (.cells (cellsI x) 66)).alloc (.cells #[] 66)) wr.heap.size = some (cellsI x) := (rowAt_alloc_past _ _ _ sx).trans rx
      have Be : Below B w ((wr.alloc (.cells (cellsI x) 66)).alloc (.cells #[] 66)) := Bx.alloc (Nat.le_trans S1 (Nat.le_of_lt sx)) _
      have se : wr.heap.size + 1 ≤ ((wr.alloc (.cells (cellsI x) 66)).alloc (.cells #[] 66)).heap.size := by simp only [World.size_alloc]; omega
      have HBC : Hid (B ≤ wr.heap.size) := S1
      clear ax bx Bx sx rx O1 B1 S1
      go_wp2_with fail
      generalize (wr.alloc (.cells (cellsI x) 66)).alloc (.cells #[] 66) = W1 at *
      generalize wr.heap.size = q5 at *
      clear hr1 hex hsz1
      go_loopw [6, 7, 20] (fun s6 s7 s20 w3 => ∃ (j : Nat) (u6 : Value) (D : Bool), u6 = s6 ∧ s7 = .bool D ∧ s20 = .int .i64 j ∧ j ≤ i ∧ Hid ((S.take j).any (ltR x) = D) ∧ OwnJ w3 (q5 + 1) u6 (nextL x S j) ∧ Below (q5 + 1) W1 w3 ∧ q5 + 1 ≤ w3.heap.size) (fun _ _ s20 _ => (i - intOf s20).toNat)
      case atStart => exact ⟨0, _, false, rfl, rfl, rfl, Nat.zero_le _, rfl, oe, Below.refl _ _, se⟩
      case round =>
        clear oe se
        obtain ⟨j, u6, D, rfl, rfl, rfl, hj, HD, O2, B2, S2⟩ := hrel
        have hSi := HSl.out
        have lenN : (nextL x S j).length ≤ 10001 := by have := nextL_len x S j; omega
        by_cases hji : j < i
        · have hji' : (j : Int) < i := by omega
          obtain ⟨ao3, cap3, e1, hA3⟩ := Ax.out
          obtain ⟨g2, o2, c2, e2, hg2, hr2, hs2, hx2⟩ := hA3 j (by omega)
          injection e1 with e3 e4 e5
          rw [e2] at e3
          subst e3
          clear e4 e5 e2 hA3
          have hr3 : rowAt wr g2 = some c2 := (rowAt_below B2 hg2).trans hr2
          have hs3 : o2 + j * 66 + 66 ≤ c2.size := by omega
          have r2 : rowAt wr q5 = some (cellsI x) := (rowAt_below B2 (by omega)).trans re
          have hjS : j < S.length := by omega
          have HS := Lib.hid hSi
          have hjSH := Lib.hid hjS
          have by1 : Below wr.heap.size wr (wr.alloc (.cells (cellsI (S.getD j zeroItm)) 66)) := (Below.refl _ _).alloc (Nat.le_refl _) _
          clear hr2 hs2 hSi hg2 hjS
          cases D
          · have hz3 : q5 < wr.heap.size := by omega
            have HO := Lib.hid (rOrder_any x.b (S.getD j zeroItm).b (wr.alloc (.cells (cellsI (S.getD j zeroItm)) 66)))
            have r4 : rowAt (wr.alloc (.cells (cellsI (S.getD j zeroItm)) 66)) q5 = some (cellsI x) := rowAt_past by1 r2
            have r5 : rowAt (wr.alloc (.cells (cellsI (S.getD j zeroItm)) 66)) wr.heap.size = some (cellsI (S.getD j zeroItm)) := rowAt_of_heap (World.alloc_heap_new _ _)
            by_cases hz : order x.b (S.getD j zeroItm).b = -1
            · have HN := Lib.hid (nextL_put hjSH.out HD.out (decide_eq_true ((order_neg _ _).2 hz)))
              rw [hz] at HO
              generalize S.getD j zeroItm = y at *
              have O3 := O2.below by1
              have B3 := B2.trans (by1.mono S2)
              have S3 := Nat.le_trans S2 by1.size
              have hzy : wr.heap.size < (wr.alloc (.cells (cellsI y) 66)).heap.size := by rw [World.size_alloc]; omega
              clear r2 B2 hz by1
              go_wp2_with fail
              refine HO.out.mono ?_
              rintro e w4 ⟨rfl, b4⟩
              have O4 := O3.below b4
              have B4 := B3.trans (b4.mono S3)
              have S4 := Nat.le_trans S3 b4.size
              have rx4 := rowAt_past b4 r4
              have ry4 := rowAt_past b4 r5
              have z4 : wr.heap.size < w4.heap.size := Nat.lt_of_lt_of_le hzy b4.size
              clear O3 B3 S3 r4 r5 b4 hzy HO
              have Oq : OwnJ (w4.alloc (.cells (cellsI x) 66)) (q5 + 1) _ _ := O4.below ((Below.refl _ _).alloc (Nat.le_refl _) _)
              have rq : rowAt (w4.alloc (.cells (cellsI x) 66)) (w4.heap.size) = some (cellsI x) := rowAt_alloc_at _ _ _ _ (by first | rfl | exact (World.size_alloc _ _).symm)
              have Sq : (q5 + 1) ≤ (w4.alloc (.cells (cellsI x) 66)).heap.size := by simp only [World.size_alloc] at *; omega
              have Bq : Below (q5 + 1) W1 (w4.alloc (.cells (cellsI x) 66)) := B4.alloc S4 _
              have Lq := (show (nextL x S j).length ≤ 1000000 by omega)
              go_upto_region 13 with (at_builtin; refine wpList_putJ rfl _ _ rfl (q5 + 1) _ _ rfl Oq x (w4.heap.size) 1 rfl rq Sq Lq ?_; intro v' w' u1 u2 _; have Bz := Bq.grown u2 Sq (fun k e => (Oq.block e).1); have Sz := Nat.le_trans Sq u2.size; (have u2' := Lib.hid u2; have O5 := Lib.hid u1; clear u1); clear Oq rq Sq Bq Lq u2)
              have ry5 := rowAt_grownJ O2 (Nat.le_refl _) u2'.out ((rowAt_alloc_past _ _ _ z4).trans ry4)
              clear O2 B4 S4 rx4 ry4 z4 O4 u2'
              obtain ⟨ao', cap', rfl⟩ := O5.out.shape
              have u3 := O5.out
              have hl5 : (nextL x S j ++ [x]).length ≤ 1000000 := by rw [List.length_append]; simp; omega
              have HY := Lib.hid HN.out.1
              have HD2 := Lib.hid HN.out.2
              generalize nextL x S j ++ [x] = T5 at *
              generalize T5.length = ll at u3 ⊢
              have Bz2 := Bz
              have Sz2 := Sz
              clear O5 HN Bz Sz
              have Oq : OwnJ (w'.alloc (.cells (cellsI y) 66)) (q5 + 1) _ _ := u3.below ((Below.refl _ _).alloc (Nat.le_refl _) _)
              have rq : rowAt (w'.alloc (.cells (cellsI y) 66)) (w'.heap.size) = some (cellsI y) := rowAt_alloc_at _ _ _ _ (by first | rfl | exact (World.size_alloc _ _).symm)
              have Sq : (q5 + 1) ≤ (w'.alloc (.cells (cellsI y) 66)).heap.size := by simp only [World.size_alloc] at *; omega
              have Bq : Below (q5 + 1) W1 (w'.alloc (.cells (cellsI y) 66)) := Bz2.alloc Sz2 _
              have Lq := hl5
              go_wp2_with (at_builtin; refine wpList_putJ rfl _ _ rfl (q5 + 1) _ _ rfl Oq y (w'.heap.size) 1 rfl rq Sq Lq ?_; intro v' w' u1 u2 _; have Bz := Bq.grown u2 Sq (fun k e => (Oq.block e).1); have Sz := Nat.le_trans Sq u2.size; skip; clear Oq rq Sq Bq Lq u2)
              rw [HY.out] at u1
              obtain ⟨ao6, cap6, rfl⟩ := u1.shape
              have U1 := Lib.hid u1
              clear u1 u3 Bz2 Sz2 hl5 HY ry5
              go_wp2
              go_roundw
              case rel => exact ⟨j + 1, _, true, rfl, rfl, by go_num, by omega, HD2.out, U1.out, Bz, Sz⟩
              case measure => simp [intOf]; omega
            · have hlt2 : ¬ order x.b (S.getD j zeroItm).b < 0 := fun q => hz ((order_neg _ _).1 q)
              have HN := Lib.hid (nextL_go hjSH.out HD.out (decide_eq_false hlt2))
              generalize order x.b (S.getD j zeroItm).b = z at HO hz
              have qz : (z == -1) = false := beq_eq_false_iff_ne.2 hz
              generalize S.getD j zeroItm = y at *
              have O3 := O2.below by1
              have B3 := B2.trans (by1.mono S2)
              have S3 := Nat.le_trans S2 by1.size
              have hzy : wr.heap.size < (wr.alloc (.cells (cellsI y) 66)).heap.size := by rw [World.size_alloc]; omega
              clear r2 B2 hz hlt2 by1 O2
              go_wp2_with fail
              refine HO.out.mono ?_
              rintro e w4 ⟨rfl, b4⟩
              have O4 := O3.below b4
              have B4 := B3.trans (b4.mono S3)
              have S4 := Nat.le_trans S3 b4.size
              have ry4 := rowAt_past b4 r5
              clear O3 B3 S3 r4 r5 b4 hzy HO
              have Oq : OwnJ (w4.alloc (.cells (cellsI y) 66)) (q5 + 1) _ _ := O4.below ((Below.refl _ _).alloc (Nat.le_refl _) _)
              have rq : rowAt (w4.alloc (.cells (cellsI y) 66)) (w4.heap.size) = some (cellsI y) := rowAt_alloc_at _ _ _ _ (by first | rfl | exact (World.size_alloc _ _).symm)
              have Sq : (q5 + 1) ≤ (w4.alloc (.cells (cellsI y) 66)).heap.size := by simp only [World.size_alloc] at *; omega
              have Bq : Below (q5 + 1) W1 (w4.alloc (.cells (cellsI y) 66)) := B4.alloc S4 _
              have Lq := (show (nextL x S j).length ≤ 1000000 by omega)
              go_wp2_with (at_builtin; refine wpList_putJ rfl _ _ rfl (q5 + 1) _ _ rfl Oq y (w4.heap.size) 1 rfl rq Sq Lq ?_; intro v' w' u1 u2 _; have Bz := Bq.grown u2 Sq (fun k e => (Oq.block e).1); have Sz := Nat.le_trans Sq u2.size; skip; clear Oq rq Sq Bq Lq u2)
              rw [HN.out.1] at u1
              obtain ⟨ao', cap', rfl⟩ := u1.shape
              have U1 := Lib.hid u1
              have HD2 := Lib.hid HN.out.2
              clear u1 O4 B4 S4 HN ry4
              go_wp2
              go_roundw
              case rel => exact ⟨j + 1, _, false, rfl, rfl, by go_num, by omega, HD2.out, U1.out, Bz, Sz⟩
              case measure => simp [intOf]; omega
          · have HN := Lib.hid (nextL_done hjSH.out HD.out)
            generalize S.getD j zeroItm = y at *
            have O3 := O2.below by1
            have B3 := B2.trans (by1.mono S2)
            have S3 := Nat.le_trans S2 by1.size
            clear r2 O2 B2
            have Oq : OwnJ ((wr.alloc (.cells (cellsI y) 66)).alloc (.cells (cellsI y) 66)) (q5 + 1) _ _ := O3.below ((Below.refl _ _).alloc (Nat.le_refl _) _)
            have rq : rowAt ((wr.alloc (.cells (cellsI y) 66)).alloc (.cells (cellsI y) 66)) (wr.heap.size + 1) = some (cellsI y) := rowAt_alloc_at _ _ _ _ (by first | rfl | exact (World.size_alloc _ _).symm)
            have Sq : (q5 + 1) ≤ ((wr.alloc (.cells (cellsI y) 66)).alloc (.cells (cellsI y) 66)).heap.size := by simp only [World.size_alloc] at *; omega
            have Bq : Below (q5 + 1) W1 ((wr.alloc (.cells (cellsI y) 66)).alloc (.cells (cellsI y) 66)) := B3.alloc S3 _
            have Lq := (show (nextL x S j).length ≤ 1000000 by omega)
            go_wp2_with (at_builtin; refine wpList_putJ rfl _ _ rfl (q5 + 1) _ _ rfl Oq y (wr.heap.size + 1) 1 rfl rq Sq Lq ?_; intro v' w' u1 u2 _; have Bz := Bq.grown u2 Sq (fun k e => (Oq.block e).1); have Sz := Nat.le_trans Sq u2.size; skip; clear Oq rq Sq Bq Lq u2)
            rw [HN.out.1] at u1
            obtain ⟨ao', cap', rfl⟩ := u1.shape
            have U1 := Lib.hid u1
            have HD2 := Lib.hid HN.out.2
            clear u1 O3 B3 S3 HN
            go_wp2
            go_roundw
            case rel => exact ⟨j + 1, _, true, rfl, rfl, by go_num, by omega, HD2.out, U1.out, Bz, Sz⟩
            case measure => simp [intOf]; omega
        · obtain rfl : j = i := by omega
          have hji' : ¬ (j : Int) < j := by omega
          have hJ : j = S.length := hSi.symm
          have HE := Lib.hid (nextL_end (x := x) (S := S))
          rw [← hJ] at HE
          have r2 : rowAt wr q5 = some (cellsI x) := (rowAt_below B2 (by omega)).trans re
          have Bw : Below B w wr := Be.trans (B2.mono (by have := HBC.out; omega))
          have Sw : B ≤ wr.heap.size := by have := HBC.out; omega
          clear hJ hSi
          cases D
          · have HY : Hid (nextL x S j ++ [x] = isortL ltR (L.take (j + 1))) := Lib.hid ((HE.out.2 HD.out).trans HX2.out)
            have Oq : OwnJ (wr.alloc (.cells (cellsI x) 66)) (q5 + 1) _ _ := O2.below ((Below.refl _ _).alloc (Nat.le_refl _) _)
            have rq : rowAt (wr.alloc (.cells (cellsI x) 66)) (wr.heap.size) = some (cellsI x) := rowAt_alloc_at _ _ _ _ (by first | rfl | exact (World.size_alloc _ _).symm)
            have Sq : (q5 + 1) ≤ (wr.alloc (.cells (cellsI x) 66)).heap.size := by simp only [World.size_alloc] at *; omega
            have Bq : Below (q5 + 1) W1 (wr.alloc (.cells (cellsI x) 66)) := B2.alloc S2 _
            have Lq := (show (nextL x S j).length ≤ 1000000 by omega)
            go_wp2_with (at_builtin; refine wpList_putJ rfl _ _ rfl (q5 + 1) _ _ rfl Oq x (wr.heap.size) 1 rfl rq Sq Lq ?_; intro v' w' u1 u2 _; have Bz := Bq.grown u2 Sq (fun k e => (Oq.block e).1); have Sz := Nat.le_trans Sq u2.size; skip; clear Oq rq Sq Bq Lq u2)
            rw [HY.out] at u1
            obtain ⟨ao', cap', rfl⟩ := u1.shape
            have U1 := Lib.hid (u1.base (B' := B) (by have := HBC.out; omega))
            have B5 := Lib.hid (Be.trans (Bz.mono (by have := HBC.out; omega)))
            have S5 := Lib.hid (Nat.le_trans (by have := HBC.out; omega : B ≤ q5 + 1) Sz)
            clear u1 O2 Bz Sz B2 S2 HY r2 Bw Sw
            go_wp2
            go_roundw
            case rel => exact ⟨j + 1, _, rfl, by go_num, by omega, U1.out, B5.out, S5.out⟩
            case measure => simp [intOf]; omega
          · have HY : Hid (nextL x S j = isortL ltR (L.take (j + 1))) := Lib.hid ((HE.out.1 HD.out).trans HX2.out)
            rw [HY.out] at O2
            obtain ⟨ao', cap', rfl⟩ := O2.shape
            have U1 := Lib.hid (O2.base (B' := B) (by have := HBC.out; omega))
            have B5 := Lib.hid Bw
            have S5 := Lib.hid Sw
            clear O2 B2 S2 HY r2 Bw Sw
            go_wp2
            go_roundw
            case rel => exact ⟨j + 1, _, rfl, by go_num, by omega, U1.out, B5.out, S5.out⟩
            case measure => simp [intOf]; omega
    · obtain rfl : i = m := by omega
      have hlt' : ¬ (i : Int) < i := by omega
      have e1 : L.take i = L := by rw [← HM.out, List.take_length]
      rw [e1] at O1
      obtain ⟨ao', cap', rfl⟩ := O1.shape
      generalize (isortL ltR L).length = kk at O1 ⊢
      have U1 := Lib.hid O1
      have B5 := Lib.hid B1
      clear O1 B1 e1
      go_wp2
      go_ret
      exact ⟨_, rfl, U1.out, B5.out⟩
end Go.Proofs.YtppgmphojklaeaaGreatDoor
namespace Go.Proofs.YtppgmphojklaeaaGreatDoor
open Go Go.RowKit

set_option maxRecDepth 100000 in
set_option maxHeartbeats 2000000 in
theorem r16Of_any (v : Value) (L : List Lf) (hL : L.length ≤ 10000) (w : World) (hA : AtG w.heap.size w v L) :
    Calls Tryz.prog 27 #[v] w fun e w' => ∃ u, e = .returned u ∧ OwnJ w' w.heap.size u (isortL ltR (L.map leafI)) ∧ Below w.heap.size w w' := by
  obtain ⟨ao, cap, rfl, hA2⟩ := hA
  obtain ⟨B, hB⟩ : ∃ B, w.heap.size = B := ⟨_, rfl⟩
  obtain ⟨m, hm⟩ : ∃ m, L.length = m := ⟨_, rfl⟩
  have HM : Hid (L.length = m) := hm
  have HB : Hid (w.heap.size = B) := hB
  have hm1 : (m : Int) ≤ 10000 := by omega
  have HA := Lib.hid hA2
  have b0 : Below B w (w.alloc (.cells #[] 66)) := by rw [← hB]; exact (Below.refl _ _).alloc (Nat.le_refl _) _
  have o0 : OwnJ (w.alloc (.cells #[] 66)) B (.slice (some ⟨w.heap.size, 0, none⟩) 0 0) [] := by rw [← hB]; exact ownJ_empty w
  have s0 : B ≤ (w.alloc (.cells #[] 66)).heap.size := by rw [World.size_alloc]; omega
  rw [hm, hB] at HA
  rw [hm, hB]
  rw [hB] at o0
  clear hA2 hm hL hB
  go_enter Tryz.func27, Tryz.ntmps27
  go_wp2
  rw [HB.out]
  generalize w.alloc (.cells #[] 66) = W at *
  go_loopw [3, 9] (fun s3 s9 wr => ∃ (i : Nat) (u : Value), u = s3 ∧ s9 = .int .i64 i ∧ i ≤ m ∧ OwnJ wr B u ((L.take i).map leafI) ∧ Below B w wr ∧ B ≤ wr.heap.size) (fun _ s9 _ => (m - intOf s9).toNat)
  case atStart => exact ⟨0, _, rfl, rfl, Nat.zero_le _, o0, b0, s0⟩
  case round =>
    clear b0 o0 s0
    obtain ⟨i, u, rfl, rfl, hi, O1, B1, S1⟩ := hrel
    by_cases hlt : i < m
    · have hlt' : (i : Int) < m := by omega
      obtain ⟨g, o, cur, rfl, hg, hr0, hsz, hex⟩ := HA.out i hlt
      have hr1 : rowAt wr g = some cur := (rowAt_below B1 hg).trans hr0
      have hsz1 : o + i * 65 + 65 ≤ cur.size := by omega
      have HX : Hid ((L.take i).map leafI ++ [leafI (L.getD i zeroLf)] = (L.take (i + 1)).map leafI) := by
        show _ = _
        rw [← take_nextR L zeroLf i (by rw [HM.out]; exact hlt), List.map_append]
        rfl
      generalize L.getD i zeroLf = x at hex HX
      have hlen : ((L.take i).map leafI).length ≤ 1000000 := by rw [List.length_map, List.length_take]; omega
      have b2 : Below wr.heap.size wr (wr.alloc (.cells (cellsF x) 64)) := (Below.refl _ _).alloc (Nat.le_refl _) _
      have O2 := O1.below b2
      have B2 : Below B w (wr.alloc (.cells (cellsF x) 64)) := B1.trans (b2.mono S1)
      have S2 := Nat.le_trans S1 b2.size
      have HC := Lib.hid (r16Leaf_any x (wr.alloc (.cells (cellsF x) 64)))
      clear hr0 hsz O1 B1 S1 b2
      go_wp2_with fail
      refine HC.out.mono ?_
      rintro e w4 ⟨rfl, b4⟩
      have O4 := O2.below b4
      have B4 := B2.trans (b4.mono S2)
      have S4 := Nat.le_trans S2 b4.size
      generalize leafI x = y at *
      clear O2 B2 S2 HC b4 hr1 hex hsz1
      have Oq : OwnJ (w4.alloc (.cells (cellsI y) 66)) (B) _ _ := O4.below ((Below.refl _ _).alloc (Nat.le_refl _) _)
      have rq : rowAt (w4.alloc (.cells (cellsI y) 66)) (w4.heap.size) = some (cellsI y) := rowAt_alloc_at _ _ _ _ (by first | rfl | exact (World.size_alloc _ _).symm)
      have Sq : (B) ≤ (w4.alloc (.cells (cellsI y) 66)).heap.size := by simp only [World.size_alloc] at *; omega
      have Bq : Below (B) w (w4.alloc (.cells (cellsI y) 66)) := B4.alloc S4 _
      have Lq := hlen
      go_wp2_with (at_builtin; refine wpList_putJ rfl _ _ rfl (B) _ _ rfl Oq y (w4.heap.size) 1 rfl rq Sq Lq ?_; intro v' w' u1 u2 _; have Bz := Bq.grown u2 Sq (fun k e => (Oq.block e).1); have Sz := Nat.le_trans Sq u2.size; skip; clear Oq rq Sq Bq Lq u2)
      rw [HX.out] at u1
      obtain ⟨ao', cap', rfl⟩ := u1.shape
      generalize ((L.take (i + 1)).map leafI).length = kk at u1 ⊢
      have U1 := Lib.hid u1
      clear u1 O4 B4 S4 hlen
      go_wp2
      go_roundw
      case rel => exact ⟨i + 1, _, rfl, by go_num, hlt, U1.out, Bz, Sz⟩
      case measure => simp [intOf]; omega
    · obtain rfl : i = m := by omega
      have hlt' : ¬ (i : Int) < i := by omega
      have e1 : L.take i = L := by rw [← HM.out, List.take_length]
      rw [e1] at O1
      have HS := Lib.hid (r16Sorted_any u (L.map leafI) (by rw [List.length_map, HM.out]; omega) wr O1.at)
      obtain ⟨ao', cap', rfl⟩ := O1.shape
      generalize (L.map leafI).length = kk at HS ⊢
      have B5 := Lib.hid B1
      have S5 := Lib.hid S1
      clear O1 B1 e1 S1
      go_wp2_with fail
      refine HS.out.mono ?_
      rintro e w2 ⟨z, rfl, z1, z2⟩
      have Z1 := Lib.hid (z1.base (B' := B) S5.out)
      have Z2 := Lib.hid (B5.out.trans (z2.mono S5.out))
      obtain ⟨ao2, cap2, rfl⟩ := z1.shape
      generalize (isortL ltR (L.map leafI)).length = k3 at Z1 ⊢
      clear z1 z2 HS B5 S5
      go_wp2
      go_ret
      exact ⟨_, rfl, Z1.out, Z2.out⟩
def someR (K : List Lab) (x : Itm) : Bool := K.any fun l => decide (cut l x.n.toNat = x.b)
end Go.Proofs.YtppgmphojklaeaaGreatDoor
namespace Go.Proofs.YtppgmphojklaeaaGreatDoor
open Go Go.RowKit Go.Sort Go.Lib

theorem cut_less (a : Lab) {n m : Nat} (h : n ≤ m) : cut (cut a m) n = cut a n := lab_ext fun i hi => by
  rw [bit_cut _ _ _ hi, bit_cut _ _ _ hi, bit_cut _ _ _ hi]
  split
  · rw [if_pos (by omega)]
  · rfl
theorem fork_bits {L : List Itm} (h : RiseI L) (h2 : 2 ≤ L.length) {i : Nat} (hi : i < L.length) : (i < forkC L → bit (L.getD i zeroItm).b (commonL L) = 0) ∧ (¬ i < forkC L → bit (L.getD i zeroItm).b (commonL L) = 1) := by
  have hf := forkC_at h
  have hn := (fork_ends h h2).1
  constructor
  · intro hc
    have h1 := hf.2.1 i hc
    have h3 : ¬ forkP L (commonL L) i = true := by rw [h1]; decide
    rw [forkP_nat] at h3
    have := bit_lt (L.getD i zeroItm).b (commonL L)
    have h4 : ¬ bit (L.getD i zeroItm).b (commonL L) = 1 := fun q => h3 ⟨hn, q⟩
    omega
  · intro hc
    exact ((forkP_nat _ _ _).1 (hf.2.2 i (by omega) hi)).2
theorem getD_take {L : List Itm} {c i : Nat} (h : i < c) : (L.take c).getD i zeroItm = L.getD i zeroItm := by
  rw [List.getD_eq_getElem?_getD, List.getD_eq_getElem?_getD, List.getElem?_take, if_pos h]
theorem getD_drop {L : List Itm} {c i : Nat} : (L.drop c).getD i zeroItm = L.getD (c + i) zeroItm := by
  rw [List.getD_eq_getElem?_getD, List.getD_eq_getElem?_getD, List.getElem?_drop]
/-- Of two that share a bit behind what all have in common. -/
theorem more_common {L : List Itm} (h : RiseI L) (h2 : 2 ≤ L.length) {i j : Nat} (hi : i < L.length) (hj : j < L.length) (hb : bit (L.getD i zeroItm).b (commonL L) = bit (L.getD j zeroItm).b (commonL L)) : commonL L < common (L.getD i zeroItm).b (L.getD j zeroItm).b := by
  have h1 := h.bits hi hj
  have hn := (fork_ends h h2).1
  by_cases e : common (L.getD i zeroItm).b (L.getD j zeroItm).b = commonL L
  · have := (common_is (L.getD i zeroItm).b (L.getD j zeroItm).b).other (by omega)
    rw [e] at this
    exact absurd hb this
  · omega
theorem whole_b : ∀ (f : Nat) (L : List Itm), L.length ≤ f → 0 < L.length → RiseI L → (wholeF f L).b = cut (L.getD 0 zeroItm).b (commonL L) ∧ (2 ≤ L.length → (wholeF f L).n = (commonL L : Int)) := by
  intro f
  induction f with
  | zero => intro L h1 h2; omega
  | succ f ih =>
    intro L hf h0 hr
    by_cases h1 : L.length = 1
    · refine ⟨?_, fun h => by omega⟩
      have e : commonL L = 256 := by
        unfold commonL
        rw [h1]
        exact common_256.2 rfl
      rw [wholeF, if_pos h1, e, cut_256 _ _ (Nat.le_refl _)]
    · have h2 : 2 ≤ L.length := by omega
      obtain ⟨hc0, hcl⟩ := (forkC_at hr).inside hr h2
      have hn := (fork_ends hr h2).1
      obtain ⟨c, hc⟩ : ∃ c, forkC L = c := ⟨_, rfl⟩
      have hfb := fun i (hi : i < L.length) => fork_bits hr h2 hi
      rw [hc] at hc0 hcl hfb
      have lT : (L.take c).length = c := by rw [List.length_take]; omega
      have lD : (L.drop c).length = L.length - c := List.length_drop
      have iA := (ih (L.take c) (by omega) (by omega) (hr.take c)).1
      have iD := (ih (L.drop c) (by omega) (by omega) (hr.drop c)).1
      have cA : commonL L < commonL (L.take c) := by
        unfold commonL
        rw [lT, getD_take (by omega), getD_take (by omega)]
        exact more_common hr h2 (by omega) (by omega) (by rw [(hfb 0 (by omega)).1 (by omega), (hfb (c - 1) (by omega)).1 (by omega)])
      have cD : commonL L < commonL (L.drop c) := by
        unfold commonL
        rw [lD, getD_drop, getD_drop]
        exact more_common hr h2 (by omega) (by omega) (by rw [(hfb (c + 0) (by omega)).2 (by omega), (hfb (c + (L.length - c - 1)) (by omega)).2 (by omega)])
      rw [getD_take (by omega)] at iA
      rw [getD_drop, Nat.add_zero] at iD
      have hcom : common (wholeF f (L.take c)).b (wholeF f (L.drop c)).b = commonL L := by
        refine common_of ⟨by omega, fun i hi => ?_, fun _ => ?_⟩
        · rw [iA, iD, bit_cut _ _ _ (by omega), bit_cut _ _ _ (by omega), if_pos (by omega), if_pos (by omega)]
          exact (common_is (L.getD 0 zeroItm).b (L.getD c zeroItm).b).same i (by have := hr.bits (i := 0) (j := c) (by omega) hcl; omega)
        · rw [iA, iD, bit_cut _ _ _ hn, bit_cut _ _ _ hn, if_pos cA, if_pos cD, (hfb 0 (by omega)).1 hc0, (hfb c hcl).2 (Nat.lt_irrefl _)]
          decide
      rw [wholeF, if_neg h1, hc]
      refine ⟨?_, fun _ => ?_⟩
      · show cut (wholeF f (L.take c)).b (common (wholeF f (L.take c)).b (wholeF f (L.drop c)).b) = _
        rw [hcom, iA, cut_less _ (Nat.le_of_lt cA)]
      · show ((common (wholeF f (L.take c)).b (wholeF f (L.drop c)).b : Nat) : Int) = _
        rw [hcom]
/-- A label touches the top of the tree of leaves just if it begins as the top's item. -/
theorem touch_some {P : List Lf} (K : List Lab) (h0 : 0 < P.length) (hr : RiseI (P.map leafI)) : touchL K (overL (P.map leafI)).1 (overL (P.map leafI)).2 = someR K (wholeF P.length (P.map leafI)) := by
  have hl : (P.map leafI).length = P.length := List.length_map _
  have hw := whole_b P.length (P.map leafI) (by omega) (by omega) hr
  have hle : commonL (P.map leafI) ≤ 256 := common_le _ _
  have key : ∀ (n : Int) (b : Lab), good n b = true → (wholeF P.length (P.map leafI)).n = n → (wholeF P.length (P.map leafI)).b = b → touchL K n b = someR K (wholeF P.length (P.map leafI)) := by
    intro n b hg h1 h2
    unfold touchL someR
    rw [h1, h2]
    congr 1
    funext l
    rw [has_cut, hg, Bool.true_and]
  unfold overL
  rw [hl]
  by_cases h1 : P.length = 1
  · rw [if_pos h1]
    have e : wholeF P.length (P.map leafI) = (P.map leafI).getD 0 zeroItm := by rw [h1, wholeF, if_pos (by omega)]
    refine key _ _ ?_ (by rw [e]) (by rw [e])
    match P, h1 with
    | [y], _ =>
      show good (leafI y).n (leafI y).b = true
      exact good_of (Nat.le_refl _) (cut_cut y.a 256 256 (Nat.le_refl _))
  · rw [if_neg h1]
    refine key _ _ ?_ ?_ hw.1
    · rw [show min (max (commonL (P.map leafI) : Int) 0) 256 = (commonL (P.map leafI) : Int) by omega]
      exact good_of hle (cut_cut _ _ _ (Nat.le_refl _))
    · rw [hw.2 (by omega)]
      omega
end Go.Proofs.YtppgmphojklaeaaGreatDoor
namespace Go.Proofs.YtppgmphojklaeaaGreatDoor
open Go Go.RowKit Go.Sort Go.Lib

theorem insL_perm {α : Type} {lt : α → α → Bool} (x : α) : ∀ l : List α, (insL lt x l).Perm (x :: l)
  | [] => List.Perm.refl _
  | y :: l => by
    rw [insL]
    split
    · exact List.Perm.refl _
    · exact ((insL_perm x l).cons y).trans (List.Perm.swap x y l)
theorem isortL_perm {α : Type} {lt : α → α → Bool} (L : List α) : (isortL lt L).Perm L := by
  have key : ∀ (L acc : List α), (L.foldl (fun acc x => insL lt x acc) acc).Perm (acc ++ L) := by
    intro L
    induction L with
    | nil => intro acc; rw [List.append_nil]; exact List.Perm.refl _
    | cons x L ih =>
      intro acc
      rw [List.foldl_cons]
      exact (ih _).trans (((insL_perm x acc).append_right L).trans (List.perm_middle.symm))
  exact key L []
/-- Two lists of the same items, one of which rises, are one, if the other one is in order. -/
theorem rise_unique {A B : List Itm} (hA : RiseI A) (hB : NoInv (ltOf ordI) B) (h : A.Perm B) : A = B := by
  refine List.Perm.eq_of_pairwise (le := fun x y : Itm => order x.b y.b ≤ 0) ?_ (hA.imp fun h => Int.le_of_lt h) (hB.imp ?_) h
  · intro a b ha hb h1 h2
    have hb2 := h.symm.subset hb
    by_cases e : a = b
    · exact e
    · exfalso
      obtain ⟨i, hi, rfl⟩ := List.getElem_of_mem ha
      obtain ⟨j, hj, rfl⟩ := List.getElem_of_mem hb2
      have hp := List.pairwise_iff_getElem.1 hA
      rcases Nat.lt_trichotomy i j with q | q | q
      · have := hp i j hi hj q
        have h3 := order_swap.1 this
        omega
      · subst q
        exact e rfl
      · have := hp j i hj hi q
        have h3 := order_swap.1 this
        omega
  · intro x y hxy
    have h1 : ¬ order y.b x.b < 0 := of_decide_eq_false hxy
    show order x.b y.b ≤ 0
    by_cases h0 : 0 < order x.b y.b
    · exact absurd (order_swap.2 h0) h1
    · omega
theorem items_perm {L M : List Lf} (h : L.Perm M) (h0 : chkL (itemsL L) = 0) : itemsL M = itemsL L := by
  refine (rise_unique (chkL_rise h0) (isortL_sorted weakI _) ?_).symm
  exact (isortL_perm (L.map leafI)).trans ((h.map leafI).trans (isortL_perm (M.map leafI)).symm)
/-- The order of the leaves doesn't matter to their tree. -/
theorem top_perm {L M : List Lf} (h : L.Perm M) : topL (itemsL L) = topL (itemsL M) ∨ (chkL (itemsL L) ≠ 0 ∧ chkL (itemsL M) ≠ 0) := by
  by_cases h1 : chkL (itemsL L) = 0
  · exact .inl (by rw [items_perm h h1])
  · by_cases h2 : chkL (itemsL M) = 0
    · exact .inl (by rw [items_perm h.symm h2])
    · exact .inr ⟨h1, h2⟩
end Go.Proofs.YtppgmphojklaeaaGreatDoor
namespace Go.Proofs.YtppgmphojklaeaaGreatDoor
open Go Go.RowKit Go.Sort Go.Lib

theorem fork_inside {L : List Itm} (h : RiseI L) (h2 : 2 ≤ L.length) : 0 < forkC L ∧ forkC L < L.length := (forkC_at h).inside h h2
theorem whole_fuel : ∀ (f : Nat) (L : List Itm), 0 < L.length → L.length ≤ f → RiseI L → wholeF f L = wholeL L := by
  intro f
  induction f using Nat.strongRecOn with
  | ind f ih =>
    intro L h0 hf hr
    match f, hf, ih with
    | 0, hf, _ => omega
    | f + 1, hf, ih =>
      obtain ⟨k, hk⟩ : ∃ k, L.length = k + 1 := ⟨L.length - 1, by omega⟩
      rw [wholeL, hk, wholeF, wholeF]
      by_cases h1 : L.length = 1
      · rw [if_pos h1, if_pos h1]
      · rw [if_neg h1, if_neg h1]
        obtain ⟨hc0, hcl⟩ := fork_inside hr (by omega)
        have l1 : (L.take (forkC L)).length = forkC L := by rw [List.length_take]; omega
        have l2 : (L.drop (forkC L)).length = L.length - forkC L := List.length_drop
        rw [ih f (by omega) _ (by omega) (by omega) (hr.take _), ih f (by omega) _ (by omega) (by omega) (hr.drop _)]
        rw [ih k (by omega) (L.take (forkC L)) (by omega) (by omega) (hr.take _), ih k (by omega) (L.drop (forkC L)) (by omega) (by omega) (hr.drop _)]
theorem whole_one (x : Itm) : wholeL [x] = x := rfl
theorem tw_len {α : Type} {p : α → Bool} : ∀ {A B : List α}, (∀ x ∈ A, p x = true) → (∀ x ∈ B, p x = false) → ((A ++ B).takeWhile p).length = A.length
  | [], [], _, _ => rfl
  | [], y :: B, _, h => by rw [List.nil_append, List.takeWhile_cons_of_neg (by rw [h y (List.mem_cons_self ..)]; decide)]
  | x :: A, B, h, k => by
    rw [List.cons_append, List.takeWhile_cons_of_pos (h x (List.mem_cons_self ..)), List.length_cons, tw_len (fun y hy => h y (List.mem_cons_of_mem _ hy)) k]
    rfl
/-- A tree of two sides. -/
theorem whole_split {A B : List Itm} {n : Nat} (hn : n < 256) (hA : 0 < A.length) (hB : 0 < B.length) (hr : RiseI (A ++ B)) (h0 : ∀ x ∈ A, bit x.b n = 0) (h1 : ∀ x ∈ B, bit x.b n = 1) (hs : ∀ x ∈ A, ∀ y ∈ B, ∀ i, i < n → bit x.b i = bit y.b i) :
    commonL (A ++ B) = n ∧ forkC (A ++ B) = A.length ∧ wholeL (A ++ B) = innerI (wholeL A) (wholeL B) := by
  have hl : (A ++ B).length = A.length + B.length := List.length_append
  have eA : (A ++ B).getD 0 zeroItm = A[0] := by
    rw [List.getD_eq_getElem?_getD, List.getElem?_append_left hA, List.getElem?_eq_getElem hA]; rfl
  have eB : (A ++ B).getD ((A ++ B).length - 1) zeroItm = B[B.length - 1] := by
    rw [List.getD_eq_getElem?_getD, List.getElem?_append_right (by omega), hl, show A.length + B.length - 1 - A.length = B.length - 1 by omega, List.getElem?_eq_getElem (by omega)]; rfl
  have hc : commonL (A ++ B) = n := by
    unfold commonL
    rw [eA, eB]
    refine common_of ⟨by omega, fun i hi => hs _ (List.getElem_mem _) _ (List.getElem_mem _) i hi, fun _ => ?_⟩
    rw [h0 _ (List.getElem_mem _), h1 _ (List.getElem_mem _)]
    decide
  have hf : forkC (A ++ B) = A.length := by
    unfold forkC
    rw [hc]
    refine tw_len (fun x hx => ?_) (fun x hx => ?_)
    · rw [bitI_if, if_pos hn, h0 x hx]; decide
    · rw [bitI_if, if_pos hn, h1 x hx]; decide
  refine ⟨hc, hf, ?_⟩
  obtain ⟨k, hk⟩ : ∃ k, (A ++ B).length = k + 1 := ⟨(A ++ B).length - 1, by omega⟩
  rw [show wholeL (A ++ B) = wholeF (A ++ B).length (A ++ B) from rfl, hk, wholeF, if_neg (by omega), hf, List.take_left, List.drop_left]
  rw [whole_fuel k A hA (by omega) (List.Pairwise.sublist (List.sublist_append_left ..) hr), whole_fuel k B hB (by omega) (List.Pairwise.sublist (List.sublist_append_right ..) hr)]
/-- Does a leaf's label begin as an item? -/
def begI (s : Itm) (q : Lf) : Bool := has s.n s.b q.a
theorem begI_bits {s : Itm} {q : Lf} (h : begI s q = true) {i : Nat} (hi : (i : Int) < s.n) : bit s.b i = bit q.a i := by
  unfold begI has at h
  rw [Bool.and_eq_true, decide_eq_true_iff] at h
  exact (common_is s.b q.a).same i (by omega)
theorem begI_of {s : Itm} {q : Lf} (hg : good s.n s.b = true) (h : ∀ i : Nat, (i : Int) < s.n → bit s.b i = bit q.a i) : begI s q = true := by
  obtain ⟨m, hm, h1, h2⟩ := good_nat hg
  unfold begI
  rw [has_cut, hg, Bool.true_and, decide_eq_true_iff, hm, Int.toNat_natCast, ← h2]
  refine lab_ext fun i hi => ?_
  rw [bit_cut _ _ _ hi, bit_cut _ _ _ hi]
  by_cases h3 : i < m
  · rw [if_pos h3, if_pos h3, h i (by omega)]
  · rw [if_neg h3, if_neg h3]
theorem begI_good {s : Itm} {q : Lf} (h : begI s q = true) : good s.n s.b = true := by
  unfold begI has at h
  rw [Bool.and_eq_true] at h
  exact h.1
/-- Items that are the tree of leaves, part by part. -/
structure Tiles (Q : List Lf) (M : List Itm) : Prop where
  rise : RiseI M
  part : ∀ x ∈ M, good x.n x.b = true ∧ Q.filter (begI x) ≠ [] ∧ x = wholeL ((Q.filter (begI x)).map leafI)
  apart : ∀ x ∈ M, ∀ y ∈ M, ∀ q ∈ Q, begI x q = true → begI y q = true → x = y
  all : ∀ q ∈ Q, ∃ x ∈ M, begI x q = true
theorem mono_filter {α : Type} {p : α → Bool} : ∀ {L : List α}, L.Pairwise (fun x y => p y = true → p x = true) → L.filter p ++ L.filter (fun x => !p x) = L
  | [], _ => rfl
  | x :: L, h => by
    obtain ⟨h1, h2⟩ := List.pairwise_cons.1 h
    have ih := mono_filter h2
    cases hp : p x with
    | true =>
      rw [List.filter_cons_of_pos hp, List.filter_cons_of_neg (by rw [hp]; decide), List.cons_append, ih]
    | false =>
      have h3 : L.filter p = [] := List.filter_eq_nil_iff.2 fun y hy hpy => by
        rw [h1 y hy hpy] at hp
        cases hp
      rw [h3, List.nil_append] at ih
      rw [List.filter_cons_of_neg (by rw [hp]; decide), List.filter_cons_of_pos (by rw [hp]; rfl), h3, List.nil_append, ih]
theorem order_of_bits {a b : Lab} {n : Nat} (hn : n < 256) (hs : ∀ i, i < n → bit a i = bit b i) (h0 : bit a n = 0) (h1 : bit b n = 1) : common a b = n ∧ order a b < 0 := by
  have hc : common a b = n := common_of ⟨by omega, hs, fun _ => by rw [h0, h1]; decide⟩
  refine ⟨hc, ?_⟩
  have h2 : order a b ≤ 0 := order_le.2 (.inr ⟨n, hn, hc, h0, h1⟩)
  have h3 : order a b ≠ 0 := fun h => by
    have := common_256.2 (order_zero.1 h)
    omega
  omega
theorem order_bit {a b : Lab} {n : Nat} (hn : n < 256) (hs : ∀ i, i < n → bit a i = bit b i) (h : order a b < 0) : bit b n = 0 → bit a n = 0 := by
  intro hb
  rcases order_le.1 (Int.le_of_lt h) with rfl | ⟨k, hk, e, h1, h2⟩
  · exact hb
  · have is := common_is a b
    rw [e] at is
    rcases Nat.lt_trichotomy k n with q | rfl | q
    · exact absurd (hs k q) (is.other hk)
    · exact h1
    · rw [is.same n q]; exact hb
theorem rise_labels {Q : List Lf} (h : RiseI (Q.map leafI)) : Q.Pairwise fun x y => order x.a y.a < 0 := by
  have := List.pairwise_map.1 h
  refine this.imp fun {x y} h => ?_
  rw [leafI_b, leafI_b] at h
  exact h
theorem rise_of_labels {Q : List Lf} (h : Q.Pairwise fun x y => order x.a y.a < 0) : RiseI (Q.map leafI) := by
  refine List.pairwise_map.2 (h.imp fun {x y} h => ?_)
  rw [leafI_b, leafI_b]
  exact h
theorem getD_mapI {Q : List Lf} {i : Nat} (h : i < Q.length) : (Q.map leafI).getD i zeroItm = leafI Q[i] := by
  rw [List.getD_eq_getElem?_getD, List.getElem?_map, List.getElem?_eq_getElem h]
  rfl
/-- How a rising list of leaves parts. -/
theorem leaves_fork {Q : List Lf} (hr : RiseI (Q.map leafI)) (h2 : 2 ≤ Q.length) :
    ∃ n c, n < 256 ∧ commonL (Q.map leafI) = n ∧ forkC (Q.map leafI) = c ∧ 0 < c ∧ c < Q.length ∧ (∀ q ∈ Q.take c, bit q.a n = 0) ∧ (∀ q ∈ Q.drop c, bit q.a n = 1) ∧ (∀ x ∈ Q, ∀ y ∈ Q, ∀ i, i < n → bit x.a i = bit y.a i) := by
  have hl : (Q.map leafI).length = Q.length := List.length_map _
  have h2' : 2 ≤ (Q.map leafI).length := by omega
  obtain ⟨c0, c1⟩ := fork_inside hr h2'
  refine ⟨_, _, (fork_ends hr h2').1, rfl, rfl, c0, by omega, fun q hq => ?_, fun q hq => ?_, fun x hx y hy i hi => ?_⟩
  · obtain ⟨i, hi, rfl⟩ := List.getElem_of_mem hq
    rw [List.length_take] at hi
    have := (fork_bits hr h2' (i := i) (by omega)).1 (by omega)
    rw [getD_mapI (by omega), leafI_b] at this
    rw [List.getElem_take]
    exact this
  · obtain ⟨i, hi, rfl⟩ := List.getElem_of_mem hq
    rw [List.length_drop] at hi
    have := (fork_bits hr h2' (i := forkC (Q.map leafI) + i) (by omega)).2 (by omega)
    rw [getD_mapI (by omega), leafI_b] at this
    rw [List.getElem_drop]
    exact this
  · obtain ⟨j, hj, rfl⟩ := List.getElem_of_mem hx
    obtain ⟨k, hk, rfl⟩ := List.getElem_of_mem hy
    have := hr.bits (i := j) (j := k) (by omega) (by omega)
    rw [getD_mapI hj, getD_mapI hk, leafI_b, leafI_b] at this
    exact (common_is _ _).same i (by omega)
theorem filter_all {α : Type} {p : α → Bool} {L : List α} (h : ∀ x ∈ L, p x = true) : L.filter p = L := List.filter_eq_self.2 h
/-- Such items' tree is that of the leaves. -/
theorem tiles_whole : ∀ (k : Nat) (Q : List Lf) (M : List Itm), Q.length ≤ k → 0 < Q.length → RiseI (Q.map leafI) → Tiles Q M → 0 < M.length ∧ wholeL M = wholeL (Q.map leafI) := by
  intro k
  induction k with
  | zero => intro Q M h1 h2; omega
  | succ k ih =>
    intro Q M hk h0 hr T
    obtain ⟨q0, hq0⟩ : ∃ q, q ∈ Q := ⟨Q[0], List.getElem_mem _⟩
    obtain ⟨x0, hx0, _⟩ := T.all q0 hq0
    have hM0 : 0 < M.length := List.length_pos_of_mem hx0
    refine ⟨hM0, ?_⟩
    by_cases hw : ∃ s ∈ M, Q.filter (begI s) = Q
    · obtain ⟨s, hs, hf⟩ := hw
      have hall : ∀ x ∈ M, x = s := fun x hx => by
        obtain ⟨q, hq⟩ : ∃ q, q ∈ Q.filter (begI x) := by
          cases hc : Q.filter (begI x) with
          | nil => exact absurd hc (T.part x hx).2.1
          | cons q r => exact ⟨q, List.mem_cons_self ..⟩
        obtain ⟨hq1, hq2⟩ := List.mem_filter.1 hq
        refine T.apart x hx s hs q hq1 hq2 ?_
        rw [← hf] at hq1
        exact (List.mem_filter.1 hq1).2
      have hM : M = [s] := by
        match M, hM0, hall, T.rise with
        | [x], _, h, _ => rw [h x (List.mem_cons_self ..)]
        | x :: y :: r, _, h, hp =>
          have h1 := (List.pairwise_cons.1 hp).1 y (List.mem_cons_self ..)
          rw [h x (List.mem_cons_self ..), h y (List.mem_cons_of_mem _ (List.mem_cons_self ..)), order_zero.2 rfl] at h1
          omega
      have h3 := (T.part s hs).2.2
      rw [hf] at h3
      rw [hM, whole_one]
      exact h3
    · have h2 : 2 ≤ Q.length := by
        by_cases h2 : 2 ≤ Q.length
        · exact h2
        · exfalso
          obtain ⟨q, rfl⟩ : ∃ q, Q = [q] := by
            match Q, h0, h2 with
            | [q], _, _ => exact ⟨q, rfl⟩
            | x :: y :: r, _, h2 => exact absurd (show 2 ≤ (x :: y :: r).length by simp) h2
          obtain ⟨x, hx, hxq⟩ := T.all q (List.mem_cons_self ..)
          exact hw ⟨x, hx, by rw [List.filter_cons_of_pos hxq]; rfl⟩
      obtain ⟨n, c, hn, hcm, hfk, hc0, hcl, hb0, hb1, hs⟩ := leaves_fork hr h2
      have lT : (Q.take c).length = c := by rw [List.length_take]; omega
      have lD : (Q.drop c).length = Q.length - c := List.length_drop
      have hQ : Q.take c ++ Q.drop c = Q := List.take_append_drop ..
      -- each item goes on behind what all have in common
      have hdeep : ∀ x ∈ M, (n : Int) < x.n := fun x hx => by
        obtain ⟨p1, p2, _⟩ := T.part x hx
        by_cases h : (n : Int) < x.n
        · exact h
        · exfalso
          obtain ⟨q, hq⟩ : ∃ q, q ∈ Q.filter (begI x) := by
            cases hc : Q.filter (begI x) with
            | nil => exact absurd hc p2
            | cons q r => exact ⟨q, List.mem_cons_self ..⟩
          obtain ⟨hq1, hq2⟩ := List.mem_filter.1 hq
          refine hw ⟨x, hx, filter_all fun y hy => begI_of p1 fun i hi => ?_⟩
          rw [begI_bits hq2 hi]
          exact hs q hq1 y hy i (by omega)
      have hof : ∀ x ∈ M, ∃ q ∈ Q, begI x q = true := fun x hx => by
        cases hc : Q.filter (begI x) with
        | nil => exact absurd hc (T.part x hx).2.1
        | cons q r =>
          obtain ⟨h1, h2⟩ := List.mem_filter.1 (show q ∈ Q.filter (begI x) by rw [hc]; exact List.mem_cons_self ..)
          exact ⟨q, h1, h2⟩
      have hsame : ∀ x ∈ M, ∀ y ∈ Q, ∀ i, i < n → bit x.b i = bit y.a i := fun x hx y hy i hi => by
        obtain ⟨q, h1, h2⟩ := hof x hx
        rw [begI_bits h2 (by have := hdeep x hx; omega)]
        exact hs q h1 y hy i hi
      have hsameM : ∀ x ∈ M, ∀ y ∈ M, ∀ i, i < n → bit x.b i = bit y.b i := fun x hx y hy i hi => by
        rw [hsame x hx q0 hq0 i hi, hsame y hy q0 hq0 i hi]
      have hbit : ∀ x ∈ M, ∀ q, begI x q = true → bit x.b n = bit q.a n := fun x hx q h => begI_bits h (hdeep x hx)
      obtain ⟨p, hp⟩ : ∃ p : Itm → Bool, p = fun x => decide (bit x.b n = 0) := ⟨_, rfl⟩
      have hp0 : ∀ x, p x = true ↔ bit x.b n = 0 := fun x => by rw [hp]; exact decide_eq_true_iff
      have hp1 : ∀ x, p x = false ↔ bit x.b n = 1 := fun x => by
        have := bit_lt x.b n
        rw [hp]
        rw [decide_eq_false_iff_not]
        omega
      have hMs : M.filter p ++ M.filter (fun x => !p x) = M := mono_filter (by
        refine List.Pairwise.imp_of_mem ?_ T.rise
        intro x y hx hy hxy hpy
        exact (hp0 x).2 (order_bit hn (hsameM x hx y hy) hxy ((hp0 y).1 hpy)))
      have part : ∀ (R : List Lf) (v : Nat) (N : List Itm), (∀ q ∈ R, q ∈ Q) → (∀ q ∈ R, bit q.a n = v) → (∀ q ∈ Q, bit q.a n = v → q ∈ R) → (∀ x ∈ M, bit x.b n = v → Q.filter (begI x) = R.filter (begI x)) → (∀ x, x ∈ N ↔ x ∈ M ∧ bit x.b n = v) → RiseI N → Tiles R N := by
        intro R v N r1 r2 r3 r4 r5 r6
        refine ⟨r6, fun x hx => ?_, fun x hx y hy q hq => T.apart x ((r5 x).1 hx).1 y ((r5 y).1 hy).1 q (r1 q hq), fun q hq => ?_⟩
        · obtain ⟨h1, h2⟩ := (r5 x).1 hx
          rw [← r4 x h1 h2]
          exact T.part x h1
        · obtain ⟨x, h1, h2⟩ := T.all q (r1 q hq)
          exact ⟨x, (r5 x).2 ⟨h1, (hbit x h1 q h2).trans (r2 q hq)⟩, h2⟩
      have split : ∀ x ∈ M, Q.filter (begI x) = (Q.take c).filter (begI x) ++ (Q.drop c).filter (begI x) := fun x _ => by
        rw [← List.filter_append, hQ]
      have T0 : Tiles (Q.take c) (M.filter p) := part _ 0 _ (fun q h => List.mem_of_mem_take h) hb0 (fun q hq hv => by
          rw [← hQ] at hq
          rcases List.mem_append.1 hq with h | h
          · exact h
          · rw [hb1 q h] at hv; cases hv) (fun x hx hv => by
          rw [split x hx, (List.filter_eq_nil_iff (l := Q.drop c)).2 (fun q hq h => by
            have := hbit x hx q h
            rw [hv, hb1 q hq] at this
            cases this), List.append_nil]) (fun x => by rw [List.mem_filter, hp0]) (List.Pairwise.filter _ T.rise)
      have T1 : Tiles (Q.drop c) (M.filter fun x => !p x) := part _ 1 _ (fun q h => List.mem_of_mem_drop h) hb1 (fun q hq hv => by
          rw [← hQ] at hq
          rcases List.mem_append.1 hq with h | h
          · rw [hb0 q h] at hv; cases hv
          · exact h) (fun x hx hv => by
          rw [split x hx, (List.filter_eq_nil_iff (l := Q.take c)).2 (fun q hq h => by
            have := hbit x hx q h
            rw [hv, hb0 q hq] at this
            cases this), List.nil_append]) (fun x => by rw [List.mem_filter, Bool.not_eq_true', hp1]) (List.Pairwise.filter _ T.rise)
      have rT : RiseI ((Q.take c).map leafI) := by rw [List.map_take]; exact hr.take c
      have rD : RiseI ((Q.drop c).map leafI) := by rw [List.map_drop]; exact hr.drop c
      obtain ⟨l0, e0⟩ := ih (Q.take c) (M.filter p) (by omega) (by omega) rT T0
      obtain ⟨l1, e1⟩ := ih (Q.drop c) (M.filter fun x => !p x) (by omega) (by omega) rD T1
      have w1 := (whole_split (A := M.filter p) (B := M.filter fun x => !p x) hn l0 l1 (by rw [hMs]; exact T.rise) (fun x hx => (hp0 x).1 (List.mem_filter.1 hx).2) (fun x hx => (hp1 x).1 (by have := (List.mem_filter.1 hx).2; rwa [Bool.not_eq_true'] at this)) (fun x hx y hy => hsameM x (List.mem_filter.1 hx).1 y (List.mem_filter.1 hy).1)).2.2
      have hQm : (Q.take c).map leafI ++ (Q.drop c).map leafI = Q.map leafI := by rw [← List.map_append, hQ]
      have w2 := (whole_split (A := (Q.take c).map leafI) (B := (Q.drop c).map leafI) hn (by rw [List.length_map]; omega) (by rw [List.length_map]; omega) (by rw [hQm]; exact hr) (fun x hx => by
        obtain ⟨q, hq, rfl⟩ := List.mem_map.1 hx
        rw [leafI_b]; exact hb0 q hq) (fun x hx => by
        obtain ⟨q, hq, rfl⟩ := List.mem_map.1 hx
        rw [leafI_b]; exact hb1 q hq) (fun x hx y hy i hi => by
        obtain ⟨q, hq, rfl⟩ := List.mem_map.1 hx
        obtain ⟨q', hq', rfl⟩ := List.mem_map.1 hy
        rw [leafI_b, leafI_b]
        exact hs q (List.mem_of_mem_take hq) q' (List.mem_of_mem_drop hq') i hi)).2.2
      rw [hMs] at w1
      rw [hQm] at w2
      rw [w1, w2, e0, e1]
theorem fork_deeper {P : List Lf} (hr : RiseI (P.map leafI)) (h2 : 2 ≤ P.length) : commonL (P.map leafI) < commonL ((P.take (forkC (P.map leafI))).map leafI) ∧ commonL (P.map leafI) < commonL ((P.drop (forkC (P.map leafI))).map leafI) := by
  have hl : (P.map leafI).length = P.length := List.length_map _
  have h2' : 2 ≤ (P.map leafI).length := by omega
  obtain ⟨c0, c1⟩ := fork_inside hr h2'
  rw [List.map_take, List.map_drop]
  generalize P.map leafI = L at *
  obtain ⟨c, hc⟩ : ∃ c, forkC L = c := ⟨_, rfl⟩
  have hfb := fun i (hi : i < L.length) => fork_bits hr h2' hi
  rw [hc] at c0 c1 hfb ⊢
  have lT : (L.take c).length = c := by rw [List.length_take]; omega
  have lD : (L.drop c).length = L.length - c := List.length_drop
  constructor
  · rw [show commonL (L.take c) = common ((L.take c).getD 0 zeroItm).b ((L.take c).getD ((L.take c).length - 1) zeroItm).b from rfl, lT, getD_take (by omega), getD_take (by omega)]
    exact more_common hr h2' (by omega) (by omega) (by rw [(hfb 0 (by omega)).1 (by omega), (hfb (c - 1) (by omega)).1 (by omega)])
  · rw [show commonL (L.drop c) = common ((L.drop c).getD 0 zeroItm).b ((L.drop c).getD ((L.drop c).length - 1) zeroItm).b from rfl, lD, getD_drop, getD_drop]
    exact more_common hr h2' (by omega) (by omega) (by rw [(hfb (c + 0) (by omega)).2 (by omega), (hfb (c + (L.length - c - 1)) (by omega)).2 (by omega)])
theorem common_one {L : List Itm} (h : L.length = 1) : commonL L = 256 := by
  unfold commonL
  rw [h]
  exact common_256.2 rfl
theorem good_leaf (x : Lf) : good (leafI x).n (leafI x).b = true := good_of (Nat.le_refl _) (cut_cut x.a 256 256 (Nat.le_refl _))
theorem begI_leaf {x q : Lf} : begI (leafI x) q = true ↔ q.a = x.a := by
  have hg := good_leaf x
  unfold begI
  rw [has_cut, hg, Bool.true_and, decide_eq_true_iff, leafI_b]
  show cut q.a 256 = x.a ↔ _
  rw [cut_256 _ _ (Nat.le_refl _)]
/-- The item of a whole tree, over which its leaves stand. -/
theorem whole_over {P : List Lf} (h0 : 0 < P.length) (hr : RiseI (P.map leafI)) :
    ((wholeL (P.map leafI)).n, (wholeL (P.map leafI)).b) = overL (P.map leafI) ∧ (wholeL (P.map leafI)).n = commonL (P.map leafI) ∧ good (wholeL (P.map leafI)).n (wholeL (P.map leafI)).b = true ∧ P.filter (begI (wholeL (P.map leafI))) = P := by
  have hl : (P.map leafI).length = P.length := List.length_map _
  by_cases h1 : P.length = 1
  · obtain ⟨x, rfl⟩ : ∃ x, P = [x] := List.length_eq_one_iff.1 h1
    have e : wholeL ([x].map leafI) = leafI x := rfl
    rw [e]
    refine ⟨rfl, ?_, good_leaf x, ?_⟩
    · rw [common_one rfl]; rfl
    · rw [List.filter_cons_of_pos (begI_leaf.2 rfl)]; rfl
  · have h2 : 2 ≤ P.length := by omega
    have hw := whole_b (P.map leafI).length (P.map leafI) (Nat.le_refl _) (by omega) hr
    have hle : commonL (P.map leafI) ≤ 256 := common_le _ _
    have en : (wholeL (P.map leafI)).n = commonL (P.map leafI) := hw.2 (by omega)
    have eb : (wholeL (P.map leafI)).b = cut ((P.map leafI).getD 0 zeroItm).b (commonL (P.map leafI)) := hw.1
    have hg : good (wholeL (P.map leafI)).n (wholeL (P.map leafI)).b = true := by
      rw [en, eb]
      exact good_of hle (cut_cut _ _ _ (Nat.le_refl _))
    refine ⟨?_, en, hg, filter_all fun q hq => begI_of hg fun i hi => ?_⟩
    · unfold overL
      rw [hl, if_neg h1, en, eb]
      congr 1
      omega
    · obtain ⟨j, hj, rfl⟩ := List.getElem_of_mem hq
      rw [en] at hi
      rw [eb, bit_cut _ _ _ (by omega), if_pos (by omega)]
      have := hr.bits (i := 0) (j := j) (by omega) (by omega)
      rw [getD_mapI hj, leafI_b] at this
      exact (common_is _ _).same i (by omega)
theorem touch_no {K : List Lab} {s : Itm} (h : touchL K s.n s.b = false) {q : Lf} (hq : begI s q = true) : q.a ∉ K := fun hk => by
  have := List.any_eq_false.1 h q.a hk
  exact this hq
/-- What Cover answers of rising leaves. -/
theorem cov_is (K : List Lab) : ∀ (f : Nat) (P : List Lf), P.length ≤ f → 0 < P.length → RiseI (P.map leafI) →
    (covF f (touchL K) P).2 = P.filter (fun q => decide (q.a ∈ K)) ∧ RiseI (covF f (touchL K) P).1 ∧
    (∀ s ∈ (covF f (touchL K) P).1, touchL K s.n s.b = false ∧ (commonL (P.map leafI) : Int) ≤ s.n ∧ good s.n s.b = true ∧ P.filter (begI s) ≠ [] ∧ s = wholeL ((P.filter (begI s)).map leafI)) ∧
    (∀ s ∈ (covF f (touchL K) P).1, ∀ t ∈ (covF f (touchL K) P).1, ∀ q ∈ P, begI s q = true → begI t q = true → s = t) ∧
    (∀ q ∈ P, q.a ∉ K → ∃ s ∈ (covF f (touchL K) P).1, begI s q = true) := by
  intro f
  induction f with
  | zero => intro P h1 h2; omega
  | succ f ih =>
    intro P hf h0 hr
    have hl : (P.map leafI).length = P.length := List.length_map _
    obtain ⟨w1, w2, w3, w4⟩ := whole_over h0 hr
    have e1 : (overL (P.map leafI)).1 = (wholeL (P.map leafI)).n := by rw [← w1]
    have e2 : (overL (P.map leafI)).2 = (wholeL (P.map leafI)).b := by rw [← w1]
    rw [covF, e1, e2]
    by_cases ht : touchL K (wholeL (P.map leafI)).n (wholeL (P.map leafI)).b = false
    · rw [if_pos ht, show wholeF P.length (P.map leafI) = wholeL (P.map leafI) by rw [wholeL, hl]]
      have hin : ∀ q ∈ P, begI (wholeL (P.map leafI)) q = true := fun q hq => by
        rw [← w4] at hq
        exact (List.mem_filter.1 hq).2
      refine ⟨(List.filter_eq_nil_iff.2 fun q hq h => ?_).symm, List.pairwise_singleton _ _, fun s hs => ?_, fun s hs t ht _ _ _ _ => ?_, fun q hq _ => ⟨_, List.mem_cons_self .., hin q hq⟩⟩
      · exact touch_no ht (hin q hq) (of_decide_eq_true h)
      · rw [List.mem_singleton.1 hs]
        exact ⟨ht, by omega, w3, by rw [w4]; intro e; rw [e] at h0; exact absurd h0 (by decide), by rw [w4]⟩
      · rw [List.mem_singleton.1 hs, List.mem_singleton.1 ht]
    · rw [if_neg ht]
      by_cases h1 : P.length = 1
      · rw [if_pos h1]
        obtain ⟨x, rfl⟩ := List.length_eq_one_iff.1 h1
        have htt : touchL K (leafI x).n (leafI x).b = true := by
          have : touchL K (leafI x).n (leafI x).b ≠ false := ht
          simpa using this
        obtain ⟨l, hl1, hl2⟩ := List.any_eq_true.1 htt
        have hx : x.a ∈ K := by
          have := (begI_leaf (x := x) (q := ⟨l, zeroLab, 0⟩)).1 hl2
          have e : l = x.a := this
          rw [← e]; exact hl1
        refine ⟨(filter_all fun q hq => ?_).symm, List.Pairwise.nil, fun s hs => (by cases hs), fun s hs => (by cases hs), fun q hq hk => ?_⟩
        · rw [List.mem_singleton.1 hq]; exact decide_eq_true hx
        · rw [List.mem_singleton.1 hq] at hk; exact absurd hx hk
      · rw [if_neg h1]
        have h2 : 2 ≤ P.length := by omega
        obtain ⟨d0, d1⟩ := fork_deeper hr h2
        obtain ⟨n, c, hn, hcm, hfk, hc0, hcl, hb0, hb1, hs⟩ := leaves_fork hr h2
        rw [hfk] at d0 d1 ⊢
        rw [hcm] at d0 d1 ⊢
        have lT : (P.take c).length = c := by rw [List.length_take]; omega
        have lD : (P.drop c).length = P.length - c := List.length_drop
        have hP : P.take c ++ P.drop c = P := List.take_append_drop ..
        obtain ⟨a1, a2, a3, a4, a5⟩ := ih (P.take c) (by omega) (by omega) (by rw [List.map_take]; exact hr.take c)
        obtain ⟨b1, b2, b3, b4, b5⟩ := ih (P.drop c) (by omega) (by omega) (by rw [List.map_drop]; exact hr.drop c)
        generalize covF f (touchL K) (P.take c) = A at *
        generalize covF f (touchL K) (P.drop c) = B at *
        dsimp only
        have some_of : ∀ {R : List Lf} {s : Itm}, R.filter (begI s) ≠ [] → ∃ q ∈ R, begI s q = true := fun {R s} h => by
          cases hc : R.filter (begI s) with
          | nil => exact absurd hc h
          | cons q r =>
            obtain ⟨h1, h2⟩ := List.mem_filter.1 (show q ∈ R.filter (begI s) by rw [hc]; exact List.mem_cons_self ..)
            exact ⟨q, h1, h2⟩
        have bitA : ∀ s ∈ A.1, bit s.b n = 0 := fun s hs => by
          obtain ⟨_, q2, _, q4, _⟩ := a3 s hs
          obtain ⟨q, hq, hi⟩ := some_of q4
          rw [begI_bits hi (i := n) (by omega)]
          exact hb0 q hq
        have bitB : ∀ s ∈ B.1, bit s.b n = 1 := fun s hs => by
          obtain ⟨_, q2, _, q4, _⟩ := b3 s hs
          obtain ⟨q, hq, hi⟩ := some_of q4
          rw [begI_bits hi (i := n) (by omega)]
          exact hb1 q hq
        have crossA : ∀ s ∈ A.1, ∀ q ∈ P.drop c, begI s q = false := fun s hs q hq => by
          cases hi : begI s q with
          | false => rfl
          | true =>
            obtain ⟨_, q2, _, _, _⟩ := a3 s hs
            have := begI_bits hi (i := n) (by omega)
            rw [bitA s hs, hb1 q hq] at this
            cases this
        have crossB : ∀ s ∈ B.1, ∀ q ∈ P.take c, begI s q = false := fun s hs q hq => by
          cases hi : begI s q with
          | false => rfl
          | true =>
            obtain ⟨_, q2, _, _, _⟩ := b3 s hs
            have := begI_bits hi (i := n) (by omega)
            rw [bitB s hs, hb0 q hq] at this
            cases this
        have fA : ∀ s ∈ A.1, P.filter (begI s) = (P.take c).filter (begI s) := fun s hs => by
          have : P.filter (begI s) = (P.take c).filter (begI s) ++ (P.drop c).filter (begI s) := by rw [← List.filter_append, hP]
          rw [this, (List.filter_eq_nil_iff (l := P.drop c)).2 (fun q hq h => by rw [crossA s hs q hq] at h; cases h), List.append_nil]
        have fB : ∀ s ∈ B.1, P.filter (begI s) = (P.drop c).filter (begI s) := fun s hs => by
          have : P.filter (begI s) = (P.take c).filter (begI s) ++ (P.drop c).filter (begI s) := by rw [← List.filter_append, hP]
          rw [this, (List.filter_eq_nil_iff (l := P.take c)).2 (fun q hq h => by rw [crossB s hs q hq] at h; cases h), List.nil_append]
        refine ⟨?_, ?_, ?_, ?_, ?_⟩
        · rw [a1, b1, ← List.filter_append, hP]
        · refine List.pairwise_append.2 ⟨a2, b2, fun s hs t ht => ?_⟩
          refine (order_of_bits hn (fun i hi => ?_) (bitA s hs) (bitB t ht)).2
          obtain ⟨_, s2, _, s4, _⟩ := a3 s hs
          obtain ⟨_, t2, _, t4, _⟩ := b3 t ht
          obtain ⟨q, hq, hqi⟩ := some_of s4
          obtain ⟨q', hq', hqi'⟩ := some_of t4
          rw [begI_bits hqi (i := i) (by omega), begI_bits hqi' (i := i) (by omega)]
          exact ‹∀ x ∈ P, ∀ y ∈ P, ∀ i, i < n → bit x.a i = bit y.a i› q (List.mem_of_mem_take hq) q' (List.mem_of_mem_drop hq') i hi
        · intro s hs
          rcases List.mem_append.1 hs with h | h
          · obtain ⟨q1, q2, q3, q4, q5⟩ := a3 s h
            rw [fA s h]
            exact ⟨q1, by omega, q3, q4, q5⟩
          · obtain ⟨q1, q2, q3, q4, q5⟩ := b3 s h
            rw [fB s h]
            exact ⟨q1, by omega, q3, q4, q5⟩
        · intro s hs t ht q hq i1 i2
          rw [← hP] at hq
          rcases List.mem_append.1 hs with h | h <;> rcases List.mem_append.1 ht with k | k <;> rcases List.mem_append.1 hq with z | z
          · exact a4 s h t k q z i1 i2
          · rw [crossA s h q z] at i1; cases i1
          · rw [crossB t k q z] at i2; cases i2
          · rw [crossA s h q z] at i1; cases i1
          · rw [crossB s h q z] at i1; cases i1
          · rw [crossA t k q z] at i2; cases i2
          · rw [crossB s h q z] at i1; cases i1
          · exact b4 s h t k q z i1 i2
        · intro q hq hk
          rw [← hP] at hq
          rcases List.mem_append.1 hq with z | z
          · obtain ⟨s, h1, h2⟩ := a5 q z hk
            exact ⟨s, List.mem_append_left _ h1, h2⟩
          · obtain ⟨s, h1, h2⟩ := b5 q z hk
            exact ⟨s, List.mem_append_right _ h1, h2⟩
theorem rise_nodup {Q : List Lf} (h : Q.Pairwise fun x y => order x.a y.a < 0) : Q.Nodup := h.imp fun {x y} hxy e => by
  rw [e, order_zero.2 rfl] at hxy
  omega
/-- Two rising lists of the same leaves are one. -/
theorem rise_ext {P Q : List Lf} (hP : P.Pairwise fun x y => order x.a y.a < 0) (hQ : Q.Pairwise fun x y => order x.a y.a < 0) (h : ∀ q, q ∈ P ↔ q ∈ Q) : P = Q := by
  have hp : P.Perm Q := (List.perm_ext_iff_of_nodup (rise_nodup hP) (rise_nodup hQ)).2 h
  refine List.Perm.eq_of_pairwise (le := fun x y : Lf => order x.a y.a < 0) ?_ hP hQ hp
  intro a b _ _ h1 h2
  have := order_swap.1 h1
  omega
theorem rise_label {Q : List Lf} (h : Q.Pairwise fun x y => order x.a y.a < 0) {x y : Lf} (hx : x ∈ Q) (hy : y ∈ Q) (e : x.a = y.a) : x = y := by
  obtain ⟨i, hi, rfl⟩ := List.getElem_of_mem hx
  obtain ⟨j, hj, rfl⟩ := List.getElem_of_mem hy
  have hp := List.pairwise_iff_getElem.1 h
  rcases Nat.lt_trichotomy i j with q | q | q
  · have := hp i j hi hj q
    rw [e, order_zero.2 rfl] at this
    omega
  · subst q; rfl
  · have := hp j i hj hi q
    rw [← e, order_zero.2 rfl] at this
    omega
/-- The untouched parts, and other leaves at the labels, are the tree of both. -/
theorem regrown {K : List Lab} {P Q V : List Lf} {S M : List Itm} (hP : P.Pairwise fun x y => order x.a y.a < 0) (hQ : Q.Pairwise fun x y => order x.a y.a < 0)
    (h3 : ∀ s ∈ S, touchL K s.n s.b = false ∧ good s.n s.b = true ∧ P.filter (begI s) ≠ [] ∧ s = wholeL ((P.filter (begI s)).map leafI))
    (h4 : ∀ s ∈ S, ∀ t ∈ S, ∀ q ∈ P, begI s q = true → begI t q = true → s = t) (h5 : ∀ q ∈ P, q.a ∉ K → ∃ s ∈ S, begI s q = true)
    (hV : ∀ v ∈ V, v.a ∈ K) (hq : ∀ q, q ∈ Q ↔ (q ∈ P ∧ q.a ∉ K) ∨ q ∈ V) (hm : ∀ x, x ∈ M ↔ x ∈ S ∨ ∃ v ∈ V, x = leafI v) (hr : RiseI M) : Tiles Q M := by
  have back : ∀ s ∈ S, ∀ q ∈ Q, begI s q = true → q ∈ P := fun s hs q hqq hi => by
    rcases (hq q).1 hqq with h | h
    · exact h.1
    · exact absurd (hV q h) (touch_no (h3 s hs).1 hi)
  have filt : ∀ s ∈ S, Q.filter (begI s) = P.filter (begI s) := fun s hs => rise_ext (hQ.filter _) (hP.filter _) fun q => by
    rw [List.mem_filter, List.mem_filter]
    constructor
    · rintro ⟨a, b⟩
      exact ⟨back s hs q a b, b⟩
    · rintro ⟨a, b⟩
      exact ⟨(hq q).2 (.inl ⟨a, touch_no (h3 s hs).1 b⟩), b⟩
  have inQ : ∀ v ∈ V, v ∈ Q := fun v hv => (hq v).2 (.inr hv)
  refine ⟨hr, fun x hx => ?_, fun x hx y hy q hqq i1 i2 => ?_, fun q hqq => ?_⟩
  · rcases (hm x).1 hx with h | ⟨v, hv, rfl⟩
    · rw [filt x h]
      exact (h3 x h).2
    · have e : Q.filter (begI (leafI v)) = [v] := rise_ext (hQ.filter _) (List.pairwise_singleton _ _) fun q => by
        rw [List.mem_filter, List.mem_singleton, begI_leaf]
        constructor
        · rintro ⟨a, b⟩
          exact rise_label hQ a (inQ v hv) b
        · rintro rfl
          exact ⟨inQ q hv, rfl⟩
      rw [e]
      exact ⟨good_leaf v, by simp, rfl⟩
  · rcases (hm x).1 hx with h | ⟨v, hv, rfl⟩ <;> rcases (hm y).1 hy with k | ⟨u, hu, rfl⟩
    · exact h4 x h y k q (back x h q hqq i1) i1 i2
    · exact absurd (by rw [begI_leaf.1 i2]; exact hV u hu) (touch_no (h3 x h).1 i1)
    · exact absurd (by rw [begI_leaf.1 i1]; exact hV v hv) (touch_no (h3 y k).1 i2)
    · rw [rise_label hQ (inQ v hv) (inQ u hu) ((begI_leaf.1 i1).symm.trans (begI_leaf.1 i2))]
  · rcases (hq q).1 hqq with h | h
    · obtain ⟨s, hs, hi⟩ := h5 q h.1 h.2
      exact ⟨s, (hm s).2 (.inl hs), hi⟩
    · exact ⟨leafI q, (hm _).2 (.inr ⟨q, h, rfl⟩), begI_leaf.2 rfl⟩
theorem leaves_tiles {Q : List Lf} (h : RiseI (Q.map leafI)) : Tiles Q (Q.map leafI) :=
  regrown (K := Q.map fun q => q.a) (P := []) (V := Q) (S := []) List.Pairwise.nil (rise_labels h) (fun s hs => (by cases hs)) (fun s hs => (by cases hs)) (fun q hq => (by cases hq)) (fun v hv => List.mem_map.2 ⟨v, hv, rfl⟩) (fun q => by simp) (fun x => by simp [List.mem_map, eq_comm]) h
theorem whole_e : ∀ (f : Nat) (L : List Itm), (∀ x ∈ L, epB x.e = true) → epB (wholeF f L).e = true := by
  have h0 : ∀ (L : List Itm), (∀ x ∈ L, epB x.e = true) → epB (L.getD 0 zeroItm).e = true := fun L h => by
    cases L with
    | nil => rfl
    | cons x r => exact h x (List.mem_cons_self ..)
  intro f
  induction f with
  | zero => intro L h; exact h0 L h
  | succ f ih =>
    intro L h
    rw [wholeF]
    split
    · exact h0 L h
    · have a := ih (L.take (forkC L)) fun x hx => h x (List.mem_of_mem_take hx)
      have b := ih (L.drop (forkC L)) fun x hx => h x (List.mem_of_mem_drop hx)
      unfold epB at *
      rw [Bool.and_eq_true, decide_eq_true_iff, decide_eq_true_iff] at *
      show 0 ≤ max _ _ ∧ max _ _ ≤ _
      omega
theorem chkR_of : ∀ {L : List Itm}, L.Pairwise (fun x y => chkI x y = 0) → chkR L = 0
  | [], _ => rfl
  | [_], _ => rfl
  | x :: y :: r, h => by
    obtain ⟨h1, h2⟩ := List.pairwise_cons.1 h
    rw [chkR, if_pos (h1 y (List.mem_cons_self ..))]
    exact chkR_of h2
theorem Tiles.check {Q : List Lf} {M : List Itm} (T : Tiles Q M) (he : ∀ q ∈ Q, epB q.e = true) (hl : M.length ≤ 2000) : chkL M = 0 := by
  have nest : ∀ x ∈ M, ∀ y ∈ M, x.n ≤ (common x.b y.b : Int) → x.n ≤ y.n → x = y := fun x hx y hy h1 h2 => by
    obtain ⟨p1, p2, _⟩ := T.part y hy
    cases hc : Q.filter (begI y) with
    | nil => exact absurd hc p2
    | cons q r =>
      obtain ⟨q1, q2⟩ := List.mem_filter.1 (show q ∈ Q.filter (begI y) by rw [hc]; exact List.mem_cons_self ..)
      refine T.apart x hx y hy q q1 (begI_of (T.part x hx).1 fun i hi => ?_) q2
      rw [(common_is x.b y.b).same i (by omega)]
      exact begI_bits q2 (by omega)
  have hg : ∀ x ∈ M, goodI x = true := fun x hx => by
    obtain ⟨p1, _, p3⟩ := T.part x hx
    have : epB x.e = true := by
      rw [p3]
      refine whole_e _ _ fun y hy => ?_
      obtain ⟨q, hq, rfl⟩ := List.mem_map.1 hy
      exact he q (List.mem_filter.1 hq).1
    unfold goodI
    rw [p1, this]; rfl
  have hp : M.Pairwise (fun x y => chkI x y = 0) := by
    refine List.Pairwise.imp_of_mem ?_ T.rise
    intro x y hx hy hxy
    have hne : x ≠ y := fun e => by rw [e, order_zero.2 rfl] at hxy; omega
    unfold chkI
    rw [hg x hx, hg y hy, if_pos (by decide), if_neg]
    rintro (h | h | h)
    · by_cases h2 : x.n ≤ y.n
      · exact hne (nest x hx y hy h h2)
      · exact hne (nest y hy x hx (by rw [common_symm]; omega) (by omega)).symm
    · by_cases h2 : y.n ≤ x.n
      · exact hne (nest y hy x hx (by rw [common_symm]; exact h) h2).symm
      · exact hne (nest x hx y hy (by omega) (by omega))
    · exact h ((order_neg _ _).1 hxy)
  unfold chkL
  rw [if_neg (by omega)]
  cases M with
  | nil => rfl
  | cons x r =>
    dsimp only
    rw [if_neg (by rw [hg x (List.mem_cons_self ..)]; decide)]
    exact chkR_of hp
theorem chkR_good : ∀ {L : List Itm} {x : Itm}, goodI x = true → chkR (x :: L) = 0 → ∀ y ∈ x :: L, goodI y = true
  | [], x, h, _, y, hy => by rw [List.mem_singleton.1 hy]; exact h
  | z :: r, x, h, k, y, hy => by
    rw [chkR] at k
    split at k
    · rename_i h1
      have hz : goodI z = true := by
        unfold chkI at h1
        split at h1
        · rename_i h2; rw [Bool.and_eq_true] at h2; exact h2.2
        · cases h1
      rcases List.mem_cons.1 hy with rfl | hy
      · exact h
      · exact chkR_good hz k y hy
    · rename_i h1; exact absurd k h1
theorem chkL_good {L : List Itm} (h : chkL L = 0) : ∀ y ∈ L, goodI y = true := by
  unfold chkL at h
  split at h
  · cases h
  · cases L with
    | nil => intro y hy; cases hy
    | cons x r =>
      dsimp only at h
      split at h
      · cases h
      · rename_i hx
        exact chkR_good (by simpa using hx) h
end Go.Proofs.YtppgmphojklaeaaGreatDoor
namespace Go.Proofs.YtppgmphojklaeaaGreatDoor
open Go Go.RowKit Go.Sort Go.Lib

/-- What is in order and has no two alike rises. -/
theorem sort_rise {X : List Itm} (h : X.Pairwise fun x y => x.b ≠ y.b) : RiseI (isortL (ltOf ordI) X) := by
  have h1 := isortL_sorted weakI X
  have h2 : (isortL (ltOf ordI) X).Pairwise fun x y => x.b ≠ y.b := (isortL_perm X).symm.pairwise h (fun {x y} h e => h e.symm)
  refine (List.Pairwise.and h1 h2).imp fun {x y} hxy => ?_
  obtain ⟨a, b⟩ := hxy
  have a1 : ¬ order y.b x.b < 0 := of_decide_eq_false a
  by_cases h0 : 0 < order x.b y.b
  · exact absurd (order_swap.2 h0) a1
  · have : order x.b y.b ≠ 0 := fun e => b (order_zero.1 e)
    omega
theorem sort_riseF {X : List Lf} (h : X.Pairwise fun x y => x.a ≠ y.a) : (risingL X).Pairwise fun x y => order x.a y.a < 0 := by
  have h1 := isortL_sorted weakF X
  have h2 : (isortL (ltOf ordF) X).Pairwise fun x y => x.a ≠ y.a := (isortL_perm X).symm.pairwise h (fun {x y} h e => h e.symm)
  refine (List.Pairwise.and h1 h2).imp fun {x y} hxy => ?_
  obtain ⟨a, b⟩ := hxy
  have a1 : ¬ order y.a x.a < 0 := of_decide_eq_false a
  by_cases h0 : 0 < order x.a y.a
  · exact absurd (order_swap.2 h0) a1
  · have : order x.a y.a ≠ 0 := fun e => b (order_zero.1 e)
    omega
theorem sort_same {X : List Itm} (h : RiseI X) : isortL (ltOf ordI) X = X := (rise_unique h (isortL_sorted weakI X) (isortL_perm X).symm).symm
theorem risingL_perm (L : List Lf) : (risingL L).Perm L := isortL_perm L
theorem risingL_mem {L : List Lf} {q : Lf} : q ∈ risingL L ↔ q ∈ L := (risingL_perm L).mem_iff
theorem chk_rises {L : List Lf} (h : chkL (itemsL L) = 0) : (risingL L).Pairwise fun x y => order x.a y.a < 0 := rise_labels (by rw [← items_rising]; exact chkL_rise h)
theorem chk_labels {L : List Lf} (h : chkL (itemsL L) = 0) : L.Pairwise fun x y => x.a ≠ y.a := by
  refine (risingL_perm L).pairwise ((chk_rises h).imp fun {x y} hxy e => ?_) (fun {x y} h e => h e.symm)
  rw [e, order_zero.2 rfl] at hxy
  omega
theorem chk_epochs {L : List Lf} (h : chkL (itemsL L) = 0) : ∀ q ∈ L, epB q.e = true := fun q hq => by
  have hm : leafI q ∈ itemsL L := by
    rw [items_rising]
    exact List.mem_map.2 ⟨q, risingL_mem.2 hq, rfl⟩
  have := chkL_good h _ hm
  unfold goodI at this
  rw [Bool.and_eq_true] at this
  exact this.2
theorem cover_facts {L : List Lf} (K : List Lab) (h : chkL (itemsL L) = 0) :
    (coverL L K).2 = (risingL L).filter (fun q => decide (q.a ∈ K)) ∧ RiseI (coverL L K).1 ∧
    (∀ s ∈ (coverL L K).1, touchL K s.n s.b = false ∧ good s.n s.b = true ∧ (risingL L).filter (begI s) ≠ [] ∧ s = wholeL (((risingL L).filter (begI s)).map leafI)) ∧
    (∀ s ∈ (coverL L K).1, ∀ t ∈ (coverL L K).1, ∀ q ∈ risingL L, begI s q = true → begI t q = true → s = t) ∧
    (∀ q ∈ risingL L, q.a ∉ K → ∃ s ∈ (coverL L K).1, begI s q = true) := by
  have hl : (risingL L).length = L.length := isortL_length L
  have e : coverL L K = covF L.length (touchL K) (risingL L) := by rw [coverL, if_neg (by rw [h]; decide)]
  rw [e]
  by_cases h0 : 0 < L.length
  · obtain ⟨a1, a2, a3, a4, a5⟩ := cov_is K L.length (risingL L) (by omega) (by omega) (by rw [← items_rising]; exact chkL_rise h)
    exact ⟨a1, a2, fun s hs => ⟨(a3 s hs).1, (a3 s hs).2.2⟩, a4, a5⟩
  · have : L.length = 0 := by omega
    rw [this, List.eq_nil_of_length_eq_zero (hl.trans this)]
    exact ⟨rfl, List.Pairwise.nil, fun s hs => (by cases hs), fun s hs => (by cases hs), fun q hq => (by cases hq)⟩
theorem topL_ok {M : List Itm} (h : chkL M = 0) : topL M = (if M.length = 0 then shaLab [18] else (wholeL M).s, 0) := by
  unfold topL
  rw [if_neg (by rw [h]; decide)]
  split <;> rfl
theorem tiles_top {Q : List Lf} {M : List Itm} (T : Tiles Q M) (hr : RiseI (Q.map leafI)) (he : ∀ q ∈ Q, epB q.e = true) (h1 : M.length ≤ 2000) (h2 : Q.length ≤ 2000) : chkL M = 0 ∧ chkL (Q.map leafI) = 0 ∧ topL M = topL (Q.map leafI) := by
  have c1 := T.check he h1
  have hl : (Q.map leafI).length = Q.length := List.length_map _
  have c2 := (leaves_tiles hr).check he (by omega)
  refine ⟨c1, c2, ?_⟩
  rw [topL_ok c1, topL_ok c2]
  by_cases h0 : 0 < Q.length
  · obtain ⟨a, b⟩ := tiles_whole Q.length Q M (Nat.le_refl _) h0 hr T
    rw [if_neg (by omega), if_neg (by omega), b]
  · have hM : M.length = 0 := by
      cases hM : M with
      | nil => rfl
      | cons x r =>
        exfalso
        have := (T.part x (by rw [hM]; exact List.mem_cons_self ..)).2.1
        rw [List.eq_nil_of_length_eq_zero (show Q.length = 0 by omega)] at this
        exact this rfl
    rw [if_pos hM, if_pos (by omega)]
/-- The untouched parts with other leaves at the labels have the tree of all the others with these. -/
theorem regrown_top {L V W : List Lf} {K : List Lab} (h : chkL (itemsL L) = 0) (hV : ∀ v ∈ V, v.a ∈ K) (hd : V.Pairwise fun x y => x.a ≠ y.a) (he : ∀ v ∈ V, epB v.e = true)
    (hW : W.Perm (L.filter (fun q => !decide (q.a ∈ K)) ++ V)) (h1 : (coverL L K).1.length + V.length ≤ 2000) (h2 : W.length ≤ 2000) :
    chkL (isortL (ltOf ordI) ((coverL L K).1 ++ itemsL V)) = 0 ∧ chkL (itemsL W) = 0 ∧ topL (isortL (ltOf ordI) ((coverL L K).1 ++ itemsL V)) = topL (itemsL W) := by
  obtain ⟨a1, a2, a3, a4, a5⟩ := cover_facts K h
  have hWl : W.Pairwise fun x y => x.a ≠ y.a := by
    refine hW.symm.pairwise ?_ (fun {x y} h e => h e.symm)
    refine List.pairwise_append.2 ⟨(chk_labels h).filter _, hd, fun x hx y hy e => ?_⟩
    have := (List.mem_filter.1 hx).2
    rw [Bool.not_eq_true', decide_eq_false_iff_not, e] at this
    exact this (hV y hy)
  have hQ := sort_riseF hWl
  have hWe : ∀ q ∈ W, epB q.e = true := fun q hq => by
    rcases List.mem_append.1 (hW.mem_iff.1 hq) with k | k
    · exact chk_epochs h q (List.mem_filter.1 k).1
    · exact he q k
  have hm0 : ∀ x, x ∈ (coverL L K).1 ++ itemsL V ↔ x ∈ (coverL L K).1 ∨ ∃ v ∈ V, x = leafI v := fun x => by
    rw [List.mem_append, items_rising, List.mem_map]
    constructor
    · rintro (k | ⟨v, hv, rfl⟩)
      · exact .inl k
      · exact .inr ⟨v, risingL_mem.1 hv, rfl⟩
    · rintro (k | ⟨v, hv, rfl⟩)
      · exact .inl k
      · exact .inr ⟨v, risingL_mem.2 hv, rfl⟩
  have hne : ((coverL L K).1 ++ itemsL V).Pairwise fun x y => x.b ≠ y.b := by
    refine List.pairwise_append.2 ⟨a2.imp fun {x y} hxy e => ?_, ?_, fun x hx y hy e => ?_⟩
    · rw [e, order_zero.2 rfl] at hxy; omega
    · rw [items_rising]
      refine List.pairwise_map.2 ((sort_riseF hd).imp fun {x y} hxy e => ?_)
      rw [leafI_b, leafI_b] at e
      rw [e, order_zero.2 rfl] at hxy
      omega
    · rw [items_rising] at hy
      obtain ⟨v, hv, rfl⟩ := List.mem_map.1 hy
      rw [leafI_b] at e
      have hvV := risingL_mem.1 hv
      refine absurd (hV v hvV) (touch_no (s := x) (q := v) (a3 x hx).1 (begI_of (a3 x hx).2.1 fun i hi => by rw [e]))
  have hr := sort_rise hne
  have T : Tiles (risingL W) (isortL (ltOf ordI) ((coverL L K).1 ++ itemsL V)) := regrown (chk_rises h) hQ a3 a4 a5 hV (fun q => by
    rw [risingL_mem, hW.mem_iff, List.mem_append, List.mem_filter, risingL_mem, Bool.not_eq_true', decide_eq_false_iff_not]) (fun x => by rw [(isortL_perm _).mem_iff]; exact hm0 x) hr
  have l1 : (itemsL V).length = V.length := (isortL_length _).trans (List.length_map _)
  have l2 : (risingL W).length = W.length := isortL_length _
  have := tiles_top T (rise_of_labels hQ) (fun q hq => hWe q (risingL_mem.1 hq)) (by rw [isortL_length, List.length_append]; omega) (by omega)
  rw [← items_rising] at this
  exact this
theorem cover_touched {L : List Lf} {K : List Lab} (h : chkL (itemsL L) = 0) : ∀ q ∈ (coverL L K).2, q.a ∈ K := fun q hq => by
  rw [(cover_facts K h).1] at hq
  exact of_decide_eq_true (List.mem_filter.1 hq).2
theorem cover_perm {L : List Lf} {K : List Lab} (h : chkL (itemsL L) = 0) : L.Perm (L.filter (fun q => !decide (q.a ∈ K)) ++ (coverL L K).2) := by
  rw [(cover_facts K h).1]
  have h1 : ((risingL L).filter fun q => decide (q.a ∈ K)).Perm (L.filter fun q => decide (q.a ∈ K)) := (risingL_perm L).filter _
  have h2 := (List.filter_append_perm (fun q : Lf => decide (q.a ∈ K)) L).symm
  exact h2.trans (List.perm_append_comm.trans (h1.symm.append_left _))
/-- The untouched parts and the touched leaves have the tree of all. -/
theorem cover_top {L : List Lf} {K : List Lab} (h : chkL (itemsL L) = 0) (h1 : (coverL L K).1.length + (coverL L K).2.length ≤ 2000) (h2 : L.length ≤ 2000) :
    chkL (isortL (ltOf ordI) ((coverL L K).1 ++ itemsL (coverL L K).2)) = 0 ∧ topL (isortL (ltOf ordI) ((coverL L K).1 ++ itemsL (coverL L K).2)) = topL (itemsL L) := by
  have hd : (coverL L K).2.Pairwise fun x y => x.a ≠ y.a := by
    rw [(cover_facts K h).1]
    refine ((chk_rises h).imp fun {x y} hxy e => ?_).filter _
    rw [e, order_zero.2 rfl] at hxy
    omega
  have he : ∀ v ∈ (coverL L K).2, epB v.e = true := fun v hv => by
    rw [(cover_facts K h).1] at hv
    exact chk_epochs h v (risingL_mem.1 (List.mem_filter.1 hv).1)
  obtain ⟨a, b, c⟩ := regrown_top (W := L) h (cover_touched h) hd he (cover_perm h) h1 h2
  exact ⟨a, c⟩
theorem filter_none {L : List Lf} (hL : L.Pairwise fun x y => x.a ≠ y.a) {i : Nat} (hi : i < L.length) : L.filter (fun q => !decide (q.a ∈ [L[i].a])) = L.take i ++ L.drop (i + 1) ∧ L.filter (fun q => decide (q.a ∈ [L[i].a])) = [L[i]] := by
  have hp := List.pairwise_iff_getElem.1 hL
  have e : L = L.take i ++ L[i] :: L.drop (i + 1) := by rw [← List.drop_eq_getElem_cons hi, List.take_append_drop]
  have o1 : ∀ q ∈ L.take i, q.a ≠ L[i].a := fun q hq => by
    obtain ⟨j, hj, rfl⟩ := List.getElem_of_mem hq
    rw [List.length_take] at hj
    rw [List.getElem_take]
    exact hp j i (by omega) hi (by omega)
  have o2 : ∀ q ∈ L.drop (i + 1), q.a ≠ L[i].a := fun q hq => by
    obtain ⟨j, hj, rfl⟩ := List.getElem_of_mem hq
    rw [List.length_drop] at hj
    rw [List.getElem_drop]
    exact fun e => hp i (i + 1 + j) hi (by omega) (by omega) e.symm
  generalize L[i] = x at *
  generalize L.take i = A at *
  generalize L.drop (i + 1) = B at *
  subst e
  constructor
  · rw [List.filter_append, List.filter_cons_of_neg (by simp), List.filter_eq_self.2, List.filter_eq_self.2]
    · intro q hq; simpa using o2 q hq
    · intro q hq; simpa using o1 q hq
  · rw [List.filter_append, List.filter_cons_of_pos (by simp), List.filter_eq_nil_iff.2, List.filter_eq_nil_iff.2]
    · rfl
    · intro q hq; simpa using o2 q hq
    · intro q hq; simpa using o1 q hq
/-- A tree without one leaf is that of the parts beside its way. -/
theorem less_top {L : List Lf} (h : chkL (itemsL L) = 0) {i : Nat} (hi : i < L.length) (h2 : L.length ≤ 1000) (h3 : (coverL L [L[i].a]).1.length ≤ 1000) :
    chkL (coverL L [L[i].a]).1 = 0 ∧ chkL (itemsL (L.take i ++ L.drop (i + 1))) = 0 ∧ topL (coverL L [L[i].a]).1 = topL (itemsL (L.take i ++ L.drop (i + 1))) ∧ (coverL L [L[i].a]).2 = [L[i]] := by
  have hl : (L.take i ++ L.drop (i + 1)).length ≤ 2000 := by rw [List.length_append, List.length_take, List.length_drop]; omega
  obtain ⟨f1, f2⟩ := filter_none (chk_labels h) hi
  obtain ⟨a, b, c⟩ := regrown_top (V := []) (W := L.take i ++ L.drop (i + 1)) (K := [L[i].a]) h (fun v hv => (by cases hv)) List.Pairwise.nil (fun v hv => (by cases hv)) (by rw [f1, List.append_nil]) (by rw [List.length_nil]; omega) hl
  rw [show itemsL [] = [] from rfl, List.append_nil, sort_same (cover_facts [L[i].a] h).2.1] at a c
  refine ⟨a, b, c, ?_⟩
  rw [(cover_facts [L[i].a] h).1]
  have h1 : ((risingL L).filter fun q => decide (q.a ∈ [L[i].a])).Perm (L.filter fun q => decide (q.a ∈ [L[i].a])) := (risingL_perm L).filter _
  rw [f2] at h1
  exact List.perm_singleton.1 h1
theorem cover_lens {L : List Lf} {K : List Lab} (h : chkL (itemsL L) = 0) : (coverL L K).1.length ≤ L.length ∧ (coverL L K).2.length ≤ L.length := by
  have hl : (risingL L).length = L.length := isortL_length L
  have e : coverL L K = covF L.length (touchL K) (risingL L) := by rw [coverL, if_neg (by rw [h]; decide)]
  rw [e]
  by_cases h0 : 0 < L.length
  · have := covF_len L.length (touchL K) (risingL L) (by omega) (by rw [← items_rising]; exact chkL_rise h)
    omega
  · have : L.length = 0 := by omega
    rw [this, List.eq_nil_of_length_eq_zero (hl.trans this)]
    exact ⟨Nat.le_refl _, Nat.le_refl _⟩
end Go.Proofs.YtppgmphojklaeaaGreatDoor
namespace Go.Proofs.YtppgmphojklaeaaGreatDoor
open Go Go.RowKit

theorem part_agg {P : Program} {t : TypeId} {n : Nat} (cs : Array Value) (off : Nat) (w : World) (h1 : (isAgg t).run P w = .ok true w) (h2 : (sizeOf t).run P w = .ok n w) : (part t cs off).run P w = .ok (.agg (cs.extract off (off + n))) w := by
  simp only [part, Sem.run_bind, h1, h2, Result.andThen_ok, if_true, Sem.run_pure]
theorem part_one {P : Program} {t : TypeId} {v : Value} (cs : Array Value) (off : Nat) (w : World) (h1 : (isAgg t).run P w = .ok false w) (hc : cs[off]? = some v) : (part t cs off).run P w = .ok v w := by
  simp only [part, Sem.run_bind, h1, Result.andThen_ok, Bool.false_eq_true, if_false, hc, Sem.run_pure]
theorem agg_lab (w : World) : (isAgg 27).run Tryz.prog w = .ok true w := by kernel_rfl
theorem agg_pre (w : World) : (isAgg 53).run Tryz.prog w = .ok true w := by kernel_rfl
theorem agg_item (w : World) : (isAgg 55).run Tryz.prog w = .ok true w := by kernel_rfl
theorem agg_int (w : World) : (isAgg 3).run Tryz.prog w = .ok false w := by kernel_rfl
theorem siz_lab (w : World) : (sizeOf 27).run Tryz.prog w = .ok 32 w := by kernel_rfl
theorem siz_pre (w : World) : (sizeOf 53).run Tryz.prog w = .ok 33 w := by kernel_rfl
theorem siz_item (w : World) : (sizeOf 55).run Tryz.prog w = .ok 66 w := by kernel_rfl
theorem p_I_pre (x : Itm) (w : World) : (part 53 (cellsI x) 0).run Tryz.prog w = .ok (.agg (cellsP x.n x.b)) w := by
  rw [part_agg _ _ w (agg_pre w) (siz_pre w), Nat.zero_add, extract_I0]
theorem p_I_sum (x : Itm) (w : World) : (part 27 (cellsI x) 33).run Tryz.prog w = .ok (.agg (cellsL x.s)) w := by
  rw [part_agg _ _ w (agg_lab w) (siz_lab w), extract_I2]
theorem p_I_at (x : Itm) (w : World) : (part 3 (cellsI x) 65).run Tryz.prog w = .ok (.int .i64 x.e) w := part_one _ _ w (agg_int w) (get_I65 x)
theorem p_I_len (x : Itm) (w : World) : (part 3 (cellsI x) 0).run Tryz.prog w = .ok (.int .i64 x.n) w := part_one _ _ w (agg_int w) (get_I0 x)
theorem p_I_bits (x : Itm) (w : World) : (part 27 (cellsI x) 1).run Tryz.prog w = .ok (.agg (cellsL x.b)) w := by
  rw [part_agg _ _ w (agg_lab w) (siz_lab w), extract_I1]
theorem p_F_lab (x : Lf) (w : World) : (part 27 (cellsF x) 0).run Tryz.prog w = .ok (.agg (cellsL x.a)) w := by
  rw [part_agg _ _ w (agg_lab w) (siz_lab w), Nat.zero_add, extract_F0]
theorem p_F_val (x : Lf) (w : World) : (part 27 (cellsF x) 32).run Tryz.prog w = .ok (.agg (cellsL x.v)) w := by
  rw [part_agg _ _ w (agg_lab w) (siz_lab w), extract_F1]
theorem p_F_at (x : Lf) (w : World) : (part 3 (cellsF x) 64).run Tryz.prog w = .ok (.int .i64 x.e) w := part_one _ _ w (agg_int w) (get_F64 x)
theorem p_N_fst (x y : Itm) (w : World) : (part 55 (cellsN x y) 0).run Tryz.prog w = .ok (.agg (cellsI x)) w := by
  rw [part_agg _ _ w (agg_item w) (siz_item w), Nat.zero_add, extract_N0]
theorem p_N_snd (x y : Itm) (w : World) : (part 55 (cellsN x y) 66).run Tryz.prog w = .ok (.agg (cellsI y)) w := by
  rw [part_agg _ _ w (agg_item w) (siz_item w), extract_N1]

def fieldOf (ty : TypeId) (v : Value) (k : Nat) : Sem Value := Instr.field ty v k
@[go_sem ↓] theorem field_item (v : Value) (k : Nat) : Instr.field 55 v k = fieldOf 55 v k := rfl
@[go_sem ↓] theorem field_pre (v : Value) (k : Nat) : Instr.field 53 v k = fieldOf 53 v k := rfl
theorem run_field {P : Program} {t : TypeId} {fs : Array Field} {f : Field} {k : Nat} (cs : Array Value) (w : World) (hu : P.underlying t = some (.struct fs)) (hf : fs[k]? = some f) : (fieldOf t (.agg cs) k).run P w = (part f.type cs f.offset).run P w := by
  simp only [fieldOf, Instr.field, Sem.run_bind, run_underlying hu, Result.andThen_ok, hf, asAgg, Sem.run_pure]
set_option maxRecDepth 100000 in
@[go_sem] theorem field_item0 (x : Itm) (w : World) : (fieldOf 55 (.agg (cellsI x)) 0).run Tryz.prog w = .ok (.agg (cellsP x.n x.b)) w :=
  (run_field _ w Tryz.underlying55 rfl).trans (p_I_pre x w)
set_option maxRecDepth 100000 in
@[go_sem] theorem field_item2 (x : Itm) (w : World) : (fieldOf 55 (.agg (cellsI x)) 2).run Tryz.prog w = .ok (.int .i64 x.e) w :=
  (run_field _ w Tryz.underlying55 rfl).trans (p_I_at x w)
set_option maxRecDepth 100000 in
@[go_sem] theorem field_pre0 (n : Int) (a : Lab) (w : World) : (fieldOf 53 (.agg (cellsP n a)) 0).run Tryz.prog w = .ok (.int .i64 n) w :=
  (run_field _ w Tryz.underlying53 rfl).trans (part_one _ _ w (agg_int w) (get_cellsP0 n a))

theorem itm_eq (x y : Itm) : x = y ↔ (x.n = y.n ∧ x.b = y.b) ∧ x.s = y.s ∧ x.e = y.e := by
  obtain ⟨n, b, s, e⟩ := x
  obtain ⟨m, c, t, f⟩ := y
  simp only [Itm.mk.injEq]
  exact ⟨fun ⟨h1, h2, h3, h4⟩ => ⟨⟨h1, h2⟩, h3, h4⟩, fun ⟨⟨h1, h2⟩, h3, h4⟩ => ⟨h1, h2, h3, h4⟩⟩
theorem equalIn_item (w : World) (d : Nat) (x y : Itm) : (Op.equalIn (d + 4) 55 (.agg (cellsI x)) (.agg (cellsI y))).run Tryz.prog w = .ok (decide (x = y)) w := by
  rw [run_equalIn_struct w (d + 3) 55 _ _ (by kernel_rfl) (by kernel_rfl)]
  rw [show (Program.fieldsOf Tryz.prog 55) = #[{ name := "Prefix", type := 53, offset := 0, embedded := false, tag := "", pkgPath := "", byteOffset := 0 }, { name := "Sum", type := 27, offset := 33, embedded := false, tag := "", pkgPath := "", byteOffset := 40 }, { name := "At", type := 3, offset := 65, embedded := false, tag := "", pkgPath := "", byteOffset := 72 }] from by kernel_rfl]
  simp only [Op.eqFields, ne_eq, String.reduceEq, not_false_eq_true, if_true, Sem.run_bind, p_I_pre, Result.andThen_ok, equalIn_pre w d]
  have e := itm_eq x y
  by_cases h1 : x.n = y.n ∧ x.b = y.b
  · by_cases h2 : x.s = y.s
    · by_cases h3 : x.e = y.e
      · have h : x = y := e.2 ⟨h1, h2, h3⟩
        subst h
        simp [equalIn_lab w (d + 1), run_equalIn_int w (d + 2) 3 .i64 .i64 _ _ Tryz.underlying3, p_I_sum, p_I_at]
      · have h : ¬ x = y := fun k => h3 (e.1 k).2.2
        simp [h1, h2, h3, h, equalIn_lab w (d + 1), run_equalIn_int w (d + 2) 3 .i64 .i64 _ _ Tryz.underlying3, p_I_sum, p_I_at]
    · have h : ¬ x = y := fun k => h2 (e.1 k).2.1
      simp [h1, h2, h, equalIn_lab w (d + 1), p_I_sum]
  · have h : ¬ x = y := fun k => h1 (e.1 k).1
    simp [h1, h]
@[go_sem high] theorem eql_item (w : World) (x y : Itm) : (binOp .eql 55 (.agg (cellsI x)) (.agg (cellsI y))).run Tryz.prog w = .ok (.bool (decide (x = y))) w := by
  rw [run_eql_struct, equalIn_item w 9996]
  rfl
theorem equalIn_ritem (w : World) (d : Nat) (x y : Itm) : (Op.equalIn (d + 4) 66 (.agg (cellsI x)) (.agg (cellsI y))).run Tryz.prog w = .ok (decide (x = y)) w := by
  rw [run_equalIn_struct w (d + 3) 66 _ _ (by kernel_rfl) (by kernel_rfl)]
  rw [show (Program.fieldsOf Tryz.prog 66) = #[{ name := "Len", type := 3, offset := 0, embedded := false, tag := "", pkgPath := "", byteOffset := 0 }, { name := "Bits", type := 27, offset := 1, embedded := false, tag := "", pkgPath := "", byteOffset := 8 }, { name := "Sum", type := 27, offset := 33, embedded := false, tag := "", pkgPath := "", byteOffset := 40 }, { name := "At", type := 3, offset := 65, embedded := false, tag := "", pkgPath := "", byteOffset := 72 }] from by kernel_rfl]
  have ei := fun a b => run_equalIn_int (P := Tryz.prog) w (d + 2) 3 .i64 .i64 a b Tryz.underlying3
  have el := equalIn_lab w (d + 1)
  simp only [Op.eqFields, ne_eq, String.reduceEq, not_false_eq_true, if_true, Sem.run_bind, p_I_len, Result.andThen_ok, ei]
  have e := itm_eq x y
  by_cases h0 : x.n = y.n
  · by_cases h1 : x.b = y.b
    · by_cases h2 : x.s = y.s
      · by_cases h3 : x.e = y.e
        · have h : x = y := e.2 ⟨⟨h0, h1⟩, h2, h3⟩
          subst h
          simp [el, ei, p_I_bits, p_I_sum, p_I_at]
        · have h : ¬ x = y := fun k => h3 (e.1 k).2.2
          simp [h0, h1, h2, h3, h, el, ei, p_I_bits, p_I_sum, p_I_at]
      · have h : ¬ x = y := fun k => h2 (e.1 k).2.1
        simp [h0, h1, h2, h, el, p_I_bits, p_I_sum]
    · have h : ¬ x = y := fun k => h1 (e.1 k).1.2
      simp [h0, h1, h, el, p_I_bits]
  · have h : ¬ x = y := fun k => h0 (e.1 k).1.1
    have h0' : (x.n == y.n) = false := by rw [beq_eq_false_iff_ne]; exact h0
    simp [h0', h]
@[go_sem high] theorem eql_ritem (w : World) (x y : Itm) : (binOp .eql 66 (.agg (cellsI x)) (.agg (cellsI y))).run Tryz.prog w = .ok (.bool (decide (x = y))) w := by
  rw [run_eql_struct, equalIn_ritem w 9996]
  rfl
theorem lf_eq (x y : Lf) : x = y ↔ x.a = y.a ∧ x.v = y.v ∧ x.e = y.e := by
  obtain ⟨a, v, e⟩ := x
  obtain ⟨b, u, f⟩ := y
  simp only [Lf.mk.injEq]
theorem equalIn_leaf (w : World) (d : Nat) (x y : Lf) : (Op.equalIn (d + 3) 46 (.agg (cellsF x)) (.agg (cellsF y))).run Tryz.prog w = .ok (decide (x = y)) w := by
  rw [run_equalIn_struct w (d + 2) 46 _ _ (by kernel_rfl) (by kernel_rfl)]
  rw [show (Program.fieldsOf Tryz.prog 46) = #[{ name := "Label", type := 27, offset := 0, embedded := false, tag := "", pkgPath := "", byteOffset := 0 }, { name := "Value", type := 27, offset := 32, embedded := false, tag := "", pkgPath := "", byteOffset := 32 }, { name := "At", type := 3, offset := 64, embedded := false, tag := "", pkgPath := "", byteOffset := 64 }] from by kernel_rfl]
  have ei := fun a b => run_equalIn_int (P := Tryz.prog) w (d + 1) 3 .i64 .i64 a b Tryz.underlying3
  have el := equalIn_lab w d
  simp only [Op.eqFields, ne_eq, String.reduceEq, not_false_eq_true, if_true, Sem.run_bind, p_F_lab, Result.andThen_ok, el]
  have e := lf_eq x y
  by_cases h1 : x.a = y.a
  · by_cases h2 : x.v = y.v
    · by_cases h3 : x.e = y.e
      · have h : x = y := e.2 ⟨h1, h2, h3⟩
        subst h
        simp [el, ei, p_F_val, p_F_at]
      · have h : ¬ x = y := fun k => h3 (e.1 k).2.2
        simp [h1, h2, h3, h, el, ei, p_F_val, p_F_at]
    · have h : ¬ x = y := fun k => h2 (e.1 k).2.1
      simp [h1, h2, h, el, p_F_val]
  · have h : ¬ x = y := fun k => h1 (e.1 k).1
    simp [h1, h]
@[go_sem high] theorem eql_leaf (w : World) (x y : Lf) : (binOp .eql 46 (.agg (cellsF x)) (.agg (cellsF y))).run Tryz.prog w = .ok (.bool (decide (x = y))) w := by
  rw [run_eql_struct, equalIn_leaf w 9997]
  rfl
@[go_sem high] theorem neq_leaf (w : World) (x y : Lf) : (binOp .neq 46 (.agg (cellsF x)) (.agg (cellsF y))).run Tryz.prog w = .ok (.bool (!decide (x = y))) w := by
  rw [run_neq_struct, equalIn_leaf w 9997]
  rfl
theorem equalIn_rleaf (w : World) (d : Nat) (x y : Lf) : (Op.equalIn (d + 3) 64 (.agg (cellsF x)) (.agg (cellsF y))).run Tryz.prog w = .ok (decide (x = y)) w := by
  rw [run_equalIn_struct w (d + 2) 64 _ _ (by kernel_rfl) (by kernel_rfl)]
  rw [show (Program.fieldsOf Tryz.prog 64) = #[{ name := "Label", type := 27, offset := 0, embedded := false, tag := "", pkgPath := "", byteOffset := 0 }, { name := "Value", type := 27, offset := 32, embedded := false, tag := "", pkgPath := "", byteOffset := 32 }, { name := "At", type := 3, offset := 64, embedded := false, tag := "", pkgPath := "", byteOffset := 64 }] from by kernel_rfl]
  have ei := fun a b => run_equalIn_int (P := Tryz.prog) w (d + 1) 3 .i64 .i64 a b Tryz.underlying3
  have el := equalIn_lab w d
  simp only [Op.eqFields, ne_eq, String.reduceEq, not_false_eq_true, if_true, Sem.run_bind, p_F_lab, Result.andThen_ok, el]
  have e := lf_eq x y
  by_cases h1 : x.a = y.a
  · by_cases h2 : x.v = y.v
    · by_cases h3 : x.e = y.e
      · have h : x = y := e.2 ⟨h1, h2, h3⟩
        subst h
        simp [el, ei, p_F_val, p_F_at]
      · have h : ¬ x = y := fun k => h3 (e.1 k).2.2
        simp [h1, h2, h3, h, el, ei, p_F_val, p_F_at]
    · have h : ¬ x = y := fun k => h2 (e.1 k).2.1
      simp [h1, h2, h, el, p_F_val]
  · have h : ¬ x = y := fun k => h1 (e.1 k).1
    simp [h1, h]
@[go_sem high] theorem eql_rleaf (w : World) (x y : Lf) : (binOp .eql 64 (.agg (cellsF x)) (.agg (cellsF y))).run Tryz.prog w = .ok (.bool (decide (x = y))) w := by
  rw [run_eql_struct, equalIn_rleaf w 9997]
  rfl
@[go_sem high] theorem neq_rleaf (w : World) (x y : Lf) : (binOp .neq 64 (.agg (cellsF x)) (.agg (cellsF y))).run Tryz.prog w = .ok (.bool (!decide (x = y))) w := by
  rw [run_neq_struct, equalIn_rleaf w 9997]
  rfl
theorem equalIn_inner (w : World) (d : Nat) (x y z u : Itm) : (Op.equalIn (d + 5) 57 (.agg (cellsN x y)) (.agg (cellsN z u))).run Tryz.prog w = .ok (decide (x = z ∧ y = u)) w := by
  rw [run_equalIn_struct w (d + 4) 57 _ _ (by kernel_rfl) (by kernel_rfl)]
  rw [show (Program.fieldsOf Tryz.prog 57) = #[{ name := "Left", type := 55, offset := 0, embedded := false, tag := "", pkgPath := "", byteOffset := 0 }, { name := "Right", type := 55, offset := 66, embedded := false, tag := "", pkgPath := "", byteOffset := 80 }] from by kernel_rfl]
  have ei := equalIn_item w d
  simp only [Op.eqFields, ne_eq, String.reduceEq, not_false_eq_true, if_true, Sem.run_bind, p_N_fst, Result.andThen_ok, ei]
  by_cases h1 : x = z
  · by_cases h2 : y = u
    · simp [h1, h2, ei, p_N_snd]
    · simp [h1, h2, ei, p_N_snd]
  · simp [h1]
@[go_sem high] theorem eql_inner (w : World) (x y z u : Itm) : (binOp .eql 57 (.agg (cellsN x y)) (.agg (cellsN z u))).run Tryz.prog w = .ok (.bool (decide (x = z) && decide (y = u))) w := by
  rw [run_eql_struct, equalIn_inner w 9995, Bool.decide_and]
  rfl
end Go.Proofs.YtppgmphojklaeaaGreatDoor
namespace Go.Proofs.YtppgmphojklaeaaGreatDoor
open Go Go.RowKit

set_option maxRecDepth 100000 in
theorem Told_any (x : Itm) (w : World) : Calls Tryz.prog 47 #[.agg (cellsI x)] w fun e w' => e = .returned (.agg (cellsI x)) ∧ Below w.heap.size w w' := by
  have b0 : Below w.heap.size w ((w.alloc (.cells (cellsI x) 55)).alloc (.cells (cellsI zeroItm) 66)) := ((Below.refl _ _).alloc (Nat.le_refl _) _).alloc (by simp only [World.size_alloc]; omega) _
  have r0 : rowAt ((w.alloc (.cells (cellsI x) 55)).alloc (.cells (cellsI zeroItm) 66)) w.heap.size = some (cellsI x) := (rowAt_alloc_past _ _ _ (by simp only [World.size_alloc]; omega)).trans (rowAt_alloc_at _ _ _ _ rfl)
  have r1 : rowAt ((w.alloc (.cells (cellsI x) 55)).alloc (.cells (cellsI zeroItm) 66)) (w.heap.size + 1) = some (cellsI zeroItm) := rowAt_alloc_at _ _ _ _ (by simp only [World.size_alloc])
  have c0 := (cell_of_rowAt r0 0).trans (get_I0 x)
  have c1 := (cell_of_rowAt r0 65).trans (get_I65 x)
  go_enter Tryz.func47, Tryz.ntmps47
  go_wp2_with fail
  exact row_ret_ritem rfl rfl rfl (rowAt_alloc_at _ _ _ _ (by simp only [World.size_alloc])) ⟨rfl, ((Below.refl _ _).alloc (Nat.le_refl _) _).alloc (by simp only [World.size_alloc]; omega) _⟩
end Go.Proofs.YtppgmphojklaeaaGreatDoor
namespace Go.Proofs.YtppgmphojklaeaaGreatDoor
open Go Go.RowKit

theorem AtF.take {n0 : Nat} {w : World} {ao : Option Addr} {cap c : Nat} {L : List Lf} (h : AtF n0 w (.slice ao L.length cap) L) (hc : c ≤ L.length) : AtF n0 w (.slice ao c cap) (L.take c) := by
  obtain ⟨ao', cap', e, h2⟩ := h
  injection e with e1 e2 e3
  subst e1
  have hl : (L.take c).length = c := by rw [List.length_take]; omega
  refine ⟨ao, cap, by rw [hl], fun i hi => ?_⟩
  rw [hl] at hi
  obtain ⟨g, o, cur, x1, x2, x3, x4, x5⟩ := h2 i (by omega)
  refine ⟨g, o, cur, x1, x2, x3, x4, ?_⟩
  rw [x5, List.getD_eq_getElem?_getD, List.getD_eq_getElem?_getD, List.getElem?_take, if_pos hi]
theorem AtL.take {n0 : Nat} {w : World} {ao : Option Addr} {cap c : Nat} {L : List Lab} (h : AtL n0 w (.slice ao L.length cap) L) (hc : c ≤ L.length) : AtL n0 w (.slice ao c cap) (L.take c) := by
  obtain ⟨ao', cap', e, h2⟩ := h
  injection e with e1 e2 e3
  subst e1
  have hl : (L.take c).length = c := by rw [List.length_take]; omega
  refine ⟨ao, cap, by rw [hl], fun i hi => ?_⟩
  rw [hl] at hi
  obtain ⟨g, o, cur, x1, x2, x3, x4, x5⟩ := h2 i (by omega)
  refine ⟨g, o, cur, x1, x2, x3, x4, ?_⟩
  rw [x5, List.getD_eq_getElem?_getD, List.getD_eq_getElem?_getD, List.getElem?_take, if_pos hi]
theorem take_next {α : Type} (L : List α) (d : α) (i : Nat) (h : i < L.length) : L.take i ++ [L.getD i d] = L.take (i + 1) := by
  rw [List.take_succ_eq_append_getElem h, List.getD_eq_getElem?_getD, List.getElem?_eq_getElem h]
  rfl

set_option maxRecDepth 100000 in
set_option maxHeartbeats 2000000 in
theorem l16Told_any (v : Value) (L : List Itm) (hL : L.length ≤ 1000000) (n : Nat) (hn : n ≤ 1000000) (w : World) (hA : AtI w.heap.size w v L) :
    Calls Tryz.prog 11 #[v, .int .i64 n] w fun e w' => ∃ u, e = .returned u ∧ OwnJ w' w.heap.size u (L.take n) ∧ Below w.heap.size w w' := by
  obtain ⟨ao, cap, rfl, hA2⟩ := hA
  obtain ⟨B, hB⟩ : ∃ B, w.heap.size = B := ⟨_, rfl⟩
  obtain ⟨m, hm⟩ : ∃ m, L.length = m := ⟨_, rfl⟩
  have HM : Hid (L.length = m) := hm
  have HB : Hid (w.heap.size = B) := hB
  have hm1 : (m : Int) ≤ 1000000 := by omega
  have HA := Lib.hid hA2
  have b0 : Below B w (w.alloc (.cells #[] 66)) := by rw [← hB]; exact (Below.refl _ _).alloc (Nat.le_refl _) _
  have o0 : OwnJ (w.alloc (.cells #[] 66)) B (.slice (some ⟨w.heap.size, 0, none⟩) 0 0) [] := by rw [← hB]; exact ownJ_empty w
  have s0 : B ≤ (w.alloc (.cells #[] 66)).heap.size := by rw [World.size_alloc]; omega
  rw [hm, hB] at HA
  rw [hm, hB]
  rw [hB] at o0
  clear hA2 hm hL hB
  go_enter Tryz.func11, Tryz.ntmps11
  go_wp2
  rw [HB.out]
  generalize w.alloc (.cells #[] 66) = W at *
  go_loopw [5, 6] (fun s5 s6 wr => ∃ (i : Nat) (u : Value), u = s5 ∧ s6 = .int .i64 i ∧ i ≤ m ∧ i ≤ n ∧ OwnJ wr B u (L.take i) ∧ Below B w wr ∧ B ≤ wr.heap.size) (fun _ s6 _ => (m - intOf s6).toNat)
  case atStart => exact ⟨0, _, rfl, rfl, Nat.zero_le _, Nat.zero_le _, o0, b0, s0⟩
  case round =>
    clear b0 o0 s0
    obtain ⟨i, u, rfl, rfl, hi, hin, O1, B1, S1⟩ := hrel
    by_cases hlt : i < m
    · have hlt' : (i : Int) < m := by omega
      by_cases hln : i < n
      · have hln' : (i : Int) < n := by omega
        obtain ⟨g, o, cur, rfl, hg, hr0, hsz, hex⟩ := HA.out i hlt
        have hr1 : rowOr (rowAt wr g) (rowF wr g) = some cur := (rowG_below B1 hg).trans hr0
        have hsz1 : o + i * 66 + 66 ≤ cur.size := by omega
        have HX : Hid (L.take i ++ [L.getD i zeroItm] = L.take (i + 1)) := take_next L zeroItm i (by rw [HM.out]; exact hlt)
        generalize L.getD i zeroItm = x at hex HX
        have HC := Lib.hid (Told_any x wr)
        clear hr0 hsz
        go_wp2_with fail
        refine HC.out.mono ?_
        rintro e w2 ⟨rfl, b2⟩
        have O3 := O1.below b2
        have hB2 : B ≤ w2.heap.size := Nat.le_trans S1 b2.size
        have B2 : Below B w w2 := B1.trans (b2.mono S1)
        have O4 : OwnJ (w2.alloc (.cells (cellsI x) 66)) B u (L.take i) := O3.below ((Below.refl _ _).alloc (Nat.le_refl _) _)
        have r4 : rowAt (w2.alloc (.cells (cellsI x) 66)) w2.heap.size = some (cellsI x) := rowAt_of_heap (World.alloc_heap_new _ _)
        have hB4 : B ≤ (w2.alloc (.cells (cellsI x) 66)).heap.size := by rw [World.size_alloc]; omega
        have B4 : Below B w (w2.alloc (.cells (cellsI x) 66)) := B2.alloc hB2 _
        have hlen : (L.take i).length ≤ 1000000 := by rw [List.length_take]; omega
        clear HC O1 B1 hr1 hex hsz1 b2 O3 B2 S1
        go_wp2_with (at_builtin; refine wpList_putJ rfl _ _ rfl B _ _ rfl O4 x w2.heap.size 1 rfl r4 hB4 hlen ?_; intro v' w' u1 u2 _; have B5 := B4.grown u2 hB4 (fun k e => (O4.block e).1); have S5 := Nat.le_trans hB4 u2.size; clear O4 r4 B4 u2 hlen hB4)
        rw [HX.out] at u1
        obtain ⟨ao', cap', rfl⟩ := u1.shape
        have U1 := Lib.hid u1
        clear u1
        go_wp2
        go_roundw
        case rel => exact ⟨i + 1, _, rfl, by go_num, hlt, hln, U1.out, B5, S5⟩
        case measure => simp [intOf]; omega
      · obtain rfl : i = n := by omega
        have hln' : ¬ (i : Int) < i := by omega
        obtain ⟨ao', cap', rfl⟩ := O1.shape
        generalize (L.take i).length = kk at O1 ⊢
        have U1 := Lib.hid O1
        have B5 := Lib.hid B1
        clear O1 B1
        go_wp2
        go_ret
        exact ⟨_, rfl, U1.out, B5.out⟩
    · obtain rfl : i = m := by omega
      have hlt' : ¬ (i : Int) < i := by omega
      have e1 : L.take i = L.take n := by rw [List.take_of_length_le (by rw [HM.out]; exact Nat.le_refl _), List.take_of_length_le (by rw [HM.out]; exact hin)]
      rw [e1] at O1
      obtain ⟨ao', cap', rfl⟩ := O1.shape
      generalize (L.take n).length = kk at O1 ⊢
      have U1 := Lib.hid O1
      have B5 := Lib.hid B1
      clear O1 B1 e1
      go_wp2
      go_ret
      exact ⟨_, rfl, U1.out, B5.out⟩
set_option maxRecDepth 100000 in
set_option maxHeartbeats 2000000 in
theorem l16Leaves_any (v : Value) (L : List Lf) (hL : L.length ≤ 1000000) (w : World) (hA : AtF w.heap.size w v L) :
    Calls Tryz.prog 25 #[v] w fun e w' => ∃ u, e = .returned u ∧ OwnG w' w.heap.size u L ∧ Below w.heap.size w w' := by
  obtain ⟨ao, cap, rfl, hA2⟩ := hA
  obtain ⟨B, hB⟩ : ∃ B, w.heap.size = B := ⟨_, rfl⟩
  obtain ⟨m, hm⟩ : ∃ m, L.length = m := ⟨_, rfl⟩
  have HM : Hid (L.length = m) := hm
  have HB : Hid (w.heap.size = B) := hB
  have hm1 : (m : Int) ≤ 1000000 := by omega
  have HA := Lib.hid hA2
  have b0 : Below B w (w.alloc (.cells #[] 64)) := by rw [← hB]; exact (Below.refl _ _).alloc (Nat.le_refl _) _
  have o0 : OwnG (w.alloc (.cells #[] 64)) B (.slice (some ⟨w.heap.size, 0, none⟩) 0 0) [] := by rw [← hB]; exact ownG_empty w
  have s0 : B ≤ (w.alloc (.cells #[] 64)).heap.size := by rw [World.size_alloc]; omega
  rw [hm, hB] at HA
  rw [hm, hB]
  rw [hB] at o0
  clear hA2 hm hL hB
  go_enter Tryz.func25, Tryz.ntmps25
  go_wp2
  rw [HB.out]
  generalize w.alloc (.cells #[] 64) = W at *
  go_loopw [3, 9] (fun s3 s9 wr => ∃ (i : Nat) (u : Value), u = s3 ∧ s9 = .int .i64 i ∧ i ≤ m ∧ OwnG wr B u (L.take i) ∧ Below B w wr ∧ B ≤ wr.heap.size) (fun _ s9 _ => (m - intOf s9).toNat)
  case atStart => exact ⟨0, _, rfl, rfl, Nat.zero_le _, o0, b0, s0⟩
  case round =>
    clear b0 o0 s0
    obtain ⟨i, u, rfl, rfl, hi, O1, B1, S1⟩ := hrel
    by_cases hlt : i < m
    · have hlt' : (i : Int) < m := by omega
      obtain ⟨g, o, cur, rfl, hg, hr0, hsz, hex⟩ := HA.out i hlt
      have hr1 : rowOr (rowAt wr g) (rowF wr g) = some cur := (rowG_below B1 hg).trans hr0
      have hsz1 : o + i * 65 + 65 ≤ cur.size := by omega
      have HX : Hid (L.take i ++ [L.getD i zeroLf] = L.take (i + 1)) := take_next L zeroLf i (by rw [HM.out]; exact hlt)
      generalize L.getD i zeroLf = x at hex HX
      have b2 : Below wr.heap.size wr (wr.alloc (.cells (cellsF x) 46)) := (Below.refl _ _).alloc (Nat.le_refl _) _
      have s2 : wr.heap.size ≤ (wr.alloc (.cells (cellsF x) 46)).heap.size := b2.size
      have B2 : Below B w (wr.alloc (.cells (cellsF x) 46)) := B1.trans (b2.mono S1)
      have O4 : OwnG ((wr.alloc (.cells (cellsF x) 46)).alloc (.cells (cellsF x) 64)) B u (L.take i) := (O1.below b2).below ((Below.refl _ _).alloc (Nat.le_refl _) _)
      have r4 : rowAt ((wr.alloc (.cells (cellsF x) 46)).alloc (.cells (cellsF x) 64)) (wr.heap.size + 1) = some (cellsF x) := rowAt_alloc_at _ _ _ _ (by simp only [World.size_alloc])
      have hB4 : B ≤ ((wr.alloc (.cells (cellsF x) 46)).alloc (.cells (cellsF x) 64)).heap.size := by rw [World.size_alloc]; omega
      have B4 : Below B w ((wr.alloc (.cells (cellsF x) 46)).alloc (.cells (cellsF x) 64)) := B2.alloc (by omega) _
      have hlen : (L.take i).length ≤ 1000000 := by rw [List.length_take]; omega
      clear hr0 hsz O1 B1 S1 b2 s2 B2
      go_wp2_with (at_builtin; refine wpList_putG rfl _ _ rfl B _ _ rfl O4 x (wr.heap.size + 1) 1 rfl r4 hB4 hlen ?_; intro v' w' u1 u2 _; have B5 := B4.grown u2 hB4 (fun k e => (O4.block e).1); have S5 := Nat.le_trans hB4 u2.size; clear O4 r4 B4 u2 hlen hB4 hr1)
      rw [HX.out] at u1
      obtain ⟨ao', cap', rfl⟩ := u1.shape
      have U1 := Lib.hid u1
      clear u1
      go_wp2
      go_roundw
      case rel => exact ⟨i + 1, _, rfl, by go_num, hlt, U1.out, B5, S5⟩
      case measure => simp [intOf]; omega
    · obtain rfl : i = m := by omega
      have hlt' : ¬ (i : Int) < i := by omega
      have e1 : L.take i = L := by rw [← HM.out, List.take_length]
      rw [e1] at O1
      obtain ⟨ao', cap', rfl⟩ := O1.shape
      have U1 := Lib.hid O1
      have B5 := Lib.hid B1
      clear O1 B1 e1
      go_wp2
      go_ret
      exact ⟨_, rfl, U1.out, B5.out⟩
set_option maxRecDepth 100000 in
set_option maxHeartbeats 2000000 in
theorem l16Few_any (ao : Option Addr) (cap : Nat) (L : List Lf) (hL : L.length ≤ 500000) (hcap : L.length ≤ cap) (n : Nat)(w : World) (hA : AtF w.heap.size w (.slice ao L.length cap) L) :
    Calls Tryz.prog 20 #[.slice ao L.length cap, .int .i64 n] w fun e w' => ∃ u, e = .returned u ∧ OwnF w' w.heap.size u (L.take n) ∧ Below w.heap.size w w' := by
  have HAA := Lib.hid hA
  obtain ⟨m, hm⟩ : ∃ m, L.length = m := ⟨_, rfl⟩
  have HM : Hid (L.length = m) := hm
  have b0 : Below w.heap.size w (w.alloc (.cells #[] 46)) := (Below.refl _ _).alloc (Nat.le_refl _) _
  have o0 := ownF_empty w
  have s0 : w.heap.size ≤ (w.alloc (.cells #[] 46)).heap.size := b0.size
  by_cases h : n < m
  · have hd : (n : Int) < m := by omega
    have hc : (n : Int) ≤ cap := by omega
    obtain ⟨ao', cap', e1, hA2⟩ := hA
    obtain ⟨g, o, cur, e2, _⟩ := hA2 0 (by omega)
    injection e1 with e3 e4 e5
    rw [e2] at e3
    subst e3
    clear e4 e5
    have A1 : AtF w.heap.size (w.alloc (.cells #[] 46)) (.slice (some ⟨g, o, none⟩) n cap) (L.take n) := (HAA.out.take (by omega)).below (Nat.le_refl _) b0
    have hl2 : (L.take n).length ≤ 500000 := by rw [List.length_take]; omega
    rw [hm]
    generalize L.take n = T at A1 hl2 ⊢
    clear hm hA2 HAA hL hcap e2
    go_enter Tryz.func20, Tryz.ntmps20
    go_wp2_with (at_builtin; refine wpList_putsF rfl _ _ rfl w.heap.size _ [] rfl o0 w.heap.size _ T rfl A1 s0 (Nat.zero_le _) hl2 ?_; intro v' w' u1 u2 _; have B5 := Lib.hid (b0.grown u2 s0 (fun k e => (o0.block e).1)); clear A1 o0 b0 hl2 u2 s0; rw [List.nil_append] at u1; obtain ⟨ao', cap', rfl⟩ := u1.shape; have U1 := Lib.hid u1; clear u1)
    go_ret
    exact ⟨_, rfl, U1.out, B5.out⟩
  · have hd : ¬ (n : Int) < m := by omega
    have A1 : AtF w.heap.size (w.alloc (.cells #[] 46)) (.slice ao m cap) L := by rw [← hm]; exact HAA.out.below (Nat.le_refl _) b0
    have he : L.take n = L := List.take_of_length_le (by omega)
    have hl2 := hL
    rw [he, hm]
    clear hm hA HAA hcap he
    go_enter Tryz.func20, Tryz.ntmps20
    go_wp2_with (at_builtin; refine wpList_putsF rfl _ _ rfl w.heap.size _ [] rfl o0 w.heap.size _ L rfl A1 s0 (Nat.zero_le _) hl2 ?_; intro v' w' u1 u2 _; have B5 := Lib.hid (b0.grown u2 s0 (fun k e => (o0.block e).1)); clear A1 o0 b0 hl2 u2 s0 hL; rw [List.nil_append] at u1; obtain ⟨ao', cap', rfl⟩ := u1.shape; have U1 := Lib.hid u1; clear u1)
    go_ret
    exact ⟨_, rfl, U1.out, B5.out⟩
set_option maxRecDepth 100000 in
set_option maxHeartbeats 2000000 in
theorem l16few_any (ao : Option Addr) (cap : Nat) (L : List Lab) (hL : L.length ≤ 500000) (hcap : L.length ≤ cap) (w : World) (hA : AtL w.heap.size w (.slice ao L.length cap) L) :
    Calls Tryz.prog 21 #[.slice ao L.length cap] w fun e w' => ∃ u, e = .returned u ∧ OwnL w' w.heap.size u (L.take 40) ∧ Below w.heap.size w w' := by
  have HAA := Lib.hid hA
  obtain ⟨m, hm⟩ : ∃ m, L.length = m := ⟨_, rfl⟩
  have HM : Hid (L.length = m) := hm
  have b0 : Below w.heap.size w (w.alloc (.cells #[] 27)) := (Below.refl _ _).alloc (Nat.le_refl _) _
  have o0 := ownL_empty w
  have s0 : w.heap.size ≤ (w.alloc (.cells #[] 27)).heap.size := b0.size
  by_cases h : 40 < m
  · have hd : (40 : Int) < m := by omega
    have hc : (40 : Int) ≤ cap := by omega
    obtain ⟨ao', cap', e1, hA2⟩ := hA
    obtain ⟨g, o, cur, e2, _⟩ := hA2 0 (by omega)
    injection e1 with e3 e4 e5
    rw [e2] at e3
    subst e3
    clear e4 e5
    have A1 : AtL w.heap.size (w.alloc (.cells #[] 27)) (.slice (some ⟨g, o, none⟩) 40 cap) (L.take 40) := (HAA.out.take (by omega)).below (Nat.le_refl _) b0
    have hl2 : (L.take 40).length ≤ 500000 := by rw [List.length_take]; omega
    rw [hm]
    generalize L.take 40 = T at A1 hl2 ⊢
    clear hm hA2 HAA hL hcap e2
    go_enter Tryz.func21, Tryz.ntmps21
    go_wp2_with (at_builtin; refine wpList_putsL rfl _ _ rfl w.heap.size _ [] rfl o0 w.heap.size _ T rfl A1 s0 (Nat.zero_le _) hl2 ?_; intro v' w' u1 u2 _; have B5 := Lib.hid (b0.grown u2 s0 (fun k e => (o0.block e).1)); clear A1 o0 b0 hl2 u2 s0; rw [List.nil_append] at u1; obtain ⟨ao', cap', rfl⟩ := u1.shape; have U1 := Lib.hid u1; clear u1)
    go_ret
    exact ⟨_, rfl, U1.out, B5.out⟩
  · have hd : ¬ (40 : Int) < m := by omega
    have A1 : AtL w.heap.size (w.alloc (.cells #[] 27)) (.slice ao m cap) L := by rw [← hm]; exact HAA.out.below (Nat.le_refl _) b0
    have he : L.take 40 = L := List.take_of_length_le (by omega)
    have hl2 := hL
    rw [he, hm]
    clear hm hA HAA hcap he
    go_enter Tryz.func21, Tryz.ntmps21
    go_wp2_with (at_builtin; refine wpList_putsL rfl _ _ rfl w.heap.size _ [] rfl o0 w.heap.size _ L rfl A1 s0 (Nat.zero_le _) hl2 ?_; intro v' w' u1 u2 _; have B5 := Lib.hid (b0.grown u2 s0 (fun k e => (o0.block e).1)); clear A1 o0 b0 hl2 u2 s0 hL; rw [List.nil_append] at u1; obtain ⟨ao', cap', rfl⟩ := u1.shape; have U1 := Lib.hid u1; clear u1)
    go_ret
    exact ⟨_, rfl, U1.out, B5.out⟩
end Go.Proofs.YtppgmphojklaeaaGreatDoor
namespace Go.Proofs.YtppgmphojklaeaaGreatDoor
open Go Go.RowKit

@[go_sem high] theorem neq_ritem (w : World) (x y : Itm) : (binOp .neq 66 (.agg (cellsI x)) (.agg (cellsI y))).run Tryz.prog w = .ok (.bool (!decide (x = y))) w := by
  rw [run_neq_struct, equalIn_ritem w 9996]
  rfl
set_option maxRecDepth 100000 in
set_option maxHeartbeats 2000000 in
theorem l16Same_any (v u : Value) (L : List Itm) (hL : L.length ≤ 1000000) (w : World) (hA : AtI w.heap.size w v L) (hB : AtJ w.heap.size w u L) :
    Calls Tryz.prog 17 #[v, u] w fun e w' => e = .returned (.int .i64 0) ∧ Below w.heap.size w w' := by
  obtain ⟨ao, cap, rfl, hA2⟩ := hA
  obtain ⟨ao2, cap2, rfl, hB2⟩ := hB
  obtain ⟨m, hm⟩ : ∃ m, L.length = m := ⟨_, rfl⟩
  have hm1 : (m : Int) ≤ 1000000 := by omega
  have HA := Lib.hid hA2
  have HB := Lib.hid hB2
  rw [hm] at HA HB
  rw [hm]
  clear hA2 hB2 hm hL
  go_enter Tryz.func17, Tryz.ntmps17
  go_wp2
  go_loopw [13] (fun s13 wr => ∃ (i : Nat), s13 = .int .i64 i ∧ i ≤ m ∧ Below w.heap.size w wr) (fun s13 _ => (m - intOf s13).toNat)
  case atStart => exact ⟨0, rfl, Nat.zero_le _, Below.refl _ _⟩
  case round =>
    obtain ⟨i, rfl, hi, B1⟩ := hrel
    by_cases hlt : i < m
    · have hlt' : (i : Int) < m := by omega
      obtain ⟨g, o, cur, rfl, hg, hr0, hsz, hex⟩ := HA.out i hlt
      obtain ⟨g2, o2, cur2, rfl, hg2, hr2, hsz2, hex2⟩ := HB.out i hlt
      have q1 := (rowG_below B1 hg).trans hr0
      have q2 := (rowAt_below B1 hg2).trans hr2
      have s1 : o + i * 66 + 66 ≤ cur.size := by omega
      have s2 : o2 + i * 66 + 66 ≤ cur2.size := by omega
      have p1 := fun z => Past.rowG q1 z
      have p2 := fun z => Past.row q2 z
      generalize L.getD i zeroItm = x at *
      have HC := Lib.hid (fun w => Told_any x w)
      clear hr0 hr2 hsz hsz2 q1 q2 hg hg2
      go_wp2_with fail
      refine wp_region_past (by kernel_rfl) (by kernel_rfl) ?_
      iterate 4 go_big_quiet_step (fail)
      go_big_quiet_step (exact Past.call (HC.out _))
      iterate 5 go_big_quiet_step (fail)
      refine wpQuiet_nil ?_
      intro wn hw2
      obtain ⟨⟨wx, hn⟩, rfl⟩ := hw2
      try dsimp only
      have B3 := B1.trans (hn.mono B1.size)
      clear p1 p2 hn B1 HC
      go_wp2
      go_roundw
      case rel => exact ⟨i + 1, by go_num, hlt, B3⟩
      case measure => simp [intOf]; omega
    · obtain rfl : i = m := by omega
      have hlt' : ¬ (i : Int) < i := by omega
      have B5 := Lib.hid B1
      clear B1
      go_wp2
      go_ret
      exact ⟨rfl, B5.out⟩
end Go.Proofs.YtppgmphojklaeaaGreatDoor
