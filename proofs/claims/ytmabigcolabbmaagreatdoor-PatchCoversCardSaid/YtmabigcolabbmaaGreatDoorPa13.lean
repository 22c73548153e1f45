/- Texts that the next ones stand on: Ref16b, Ref16c, Ref16e, OverMath, Ref16f, Ref16d, CovKit, ShaTabs. -/
import Derived.Test.YtmabigcolabbmaaGreatDoorPa12
import Derived.LaidMore
import Derived.Stop.Joined
import Derived.ChangeMaps5
namespace Go.Proofs.YtmabigcolabbmaaGreatDoor
open Go Go.RowKit

theorem take_nextR {α : Type} (L : List α) (d : α) (i : Nat) (h : i < L.length) : L.take i ++ [L.getD i d] = L.take (i + 1) := by
  rw [List.take_succ_eq_append_getElem h, List.getD_eq_getElem?_getD, List.getElem?_eq_getElem h]
  rfl
def ltR (x y : Itm) : Bool := decide (order x.b y.b < 0)
theorem order_neg (a b : Lab) : order a b < 0 ↔ order a b = -1 := by
  unfold order
  split
  · omega
  · have := bit_lt a (common a b)
    omega
theorem insL_all {α : Type} {lt : α → α → Bool} (x : α) : ∀ {l : List α}, l.any (lt x) = false → insL lt x l = l ++ [x]
  | [], _ => rfl
  | y :: l, h => by
    rw [List.any_cons, Bool.or_eq_false_iff] at h
    rw [insL, if_neg (by rw [h.1]; decide), insL_all x h.2]
    rfl
theorem insL_putB {α : Type} {lt : α → α → Bool} (x y : α) : ∀ {l : List α}, l.any (lt x) = true → insL lt x (l ++ [y]) = insL lt x l ++ [y]
  | [], h => by cases h
  | z :: l, h => by
    rw [List.cons_append, insL, insL]
    split
    · rfl
    · rename_i hz
      rw [List.any_cons, show lt x z = false by simpa using hz, Bool.false_or] at h
      rw [insL_putB x y h, List.cons_append]
theorem insL_putN {α : Type} {lt : α → α → Bool} (x y : α) (hy : lt x y = true) : ∀ {l : List α}, l.any (lt x) = false → insL lt x (l ++ [y]) = l ++ [x] ++ [y]
  | [], _ => by rw [List.nil_append, insL, if_pos hy]; rfl
  | z :: l, h => by
    rw [List.any_cons, Bool.or_eq_false_iff] at h
    rw [List.cons_append, insL, if_neg (by rw [h.1]; decide), insL_putN x y hy h.2]
    rfl
/-- What stands in the new list once some of the old one were looked at. -/
def nextL (x : Itm) (S : List Itm) (j : Nat) : List Itm := if (S.take j).any (ltR x) = true then insL ltR x (S.take j) else S.take j
theorem nextL_len (x : Itm) (S : List Itm) (j : Nat) : (nextL x S j).length ≤ S.length + 1 := by
  unfold nextL
  split
  · rw [insL_length, List.length_take]; omega
  · rw [List.length_take]; omega
theorem nextL_done {x : Itm} {S : List Itm} {j : Nat} (hj : j < S.length) (hd : (S.take j).any (ltR x) = true) : nextL x S j ++ [S.getD j zeroItm] = nextL x S (j + 1) ∧ (S.take (j + 1)).any (ltR x) = true := by
  have hn := take_nextR S zeroItm j hj
  have h2 : (S.take (j + 1)).any (ltR x) = true := by rw [← hn, List.any_append, hd]; rfl
  refine ⟨?_, h2⟩
  rw [nextL, nextL, if_pos hd, if_pos h2, ← hn, insL_putB _ _ hd]
theorem nextL_put {x : Itm} {S : List Itm} {j : Nat} (hj : j < S.length) (hd : (S.take j).any (ltR x) = false) (hy : ltR x (S.getD j zeroItm) = true) : nextL x S j ++ [x] ++ [S.getD j zeroItm] = nextL x S (j + 1) ∧ (S.take (j + 1)).any (ltR x) = true := by
  have hn := take_nextR S zeroItm j hj
  have h2 : (S.take (j + 1)).any (ltR x) = true := by rw [← hn, List.any_append, List.any_cons, hy]; simp
  refine ⟨?_, h2⟩
  rw [nextL, nextL, if_neg (by rw [hd]; decide), if_pos h2, ← hn, insL_putN _ _ hy hd]
theorem nextL_go {x : Itm} {S : List Itm} {j : Nat} (hj : j < S.length) (hd : (S.take j).any (ltR x) = false) (hy : ltR x (S.getD j zeroItm) = false) : nextL x S j ++ [S.getD j zeroItm] = nextL x S (j + 1) ∧ (S.take (j + 1)).any (ltR x) = false := by
  have hn := take_nextR S zeroItm j hj
  have h2 : (S.take (j + 1)).any (ltR x) = false := by rw [← hn, List.any_append, List.any_cons, hd, hy]; rfl
  refine ⟨?_, h2⟩
  rw [nextL, nextL, if_neg (by rw [hd]; decide), if_neg (by rw [h2]; decide), ← hn]
theorem nextL_end {x : Itm} {S : List Itm} : ((S.take S.length).any (ltR x) = true → nextL x S S.length = insL ltR x S) ∧ ((S.take S.length).any (ltR x) = false → nextL x S S.length ++ [x] = insL ltR x S) := by
  rw [nextL, List.take_length]
  constructor
  · intro h; rw [if_pos h]
  · intro h; rw [if_neg (by rw [h]; decide), insL_all x h]
theorem rowAt_grownJ {w0 w w' : World} {B b : Nat} {v : Value} {L : List Itm} {c : Array Value} (h : OwnJ w0 B v L) (hb : w0.heap.size ≤ b) (hg : w.grownBy w' v.ownBlock) (hr : rowAt w b = some c) : rowAt w' b = some c := by
  obtain ⟨T, hT⟩ := heap_of_rowAt hr
  refine rowAt_of_heap ((hg.block b (Array.getElem?_eq_some_iff.1 hT).1 fun e => ?_).trans hT)
  have := (h.block e.symm).2.1
  omega
set_option maxRecDepth 100000 in
set_option maxHeartbeats 4000000 in
theorem r16Sorted_any (v : Value) (L : List Itm) (hL : L.length ≤ 10000) (w : World) (hA : AtJ w.heap.size w v L) :
    Calls Tryz.prog 17 #[v] w fun e w' => ∃ u, e = .returned u ∧ OwnJ w' w.heap.size u (isortL ltR L) ∧ Below w.heap.size w w' := by
  obtain ⟨ao, cap, rfl, hA2⟩ := hA
  obtain ⟨B, hB⟩ : ∃ B, w.heap.size = B := ⟨_, rfl⟩
  obtain ⟨m, hm⟩ : ∃ m, L.length = m := ⟨_, rfl⟩
  have HM : Hid (L.length = m) := hm
  have HB : Hid (w.heap.size = B) := hB
  have hm1 : (m : Int) ≤ 10000 := by omega
  have HA := Lib.hid hA2
  have b0 : Below B w (w.alloc (.cells #[] 53)) := by rw [← hB]; exact (Below.refl _ _).alloc (Nat.le_refl _) _
  have o0 : OwnJ (w.alloc (.cells #[] 53)) B (.slice (some ⟨w.heap.size, 0, none⟩) 0 0) [] := by rw [← hB]; exact ownJ_empty w
  have s0 : B ≤ (w.alloc (.cells #[] 53)).heap.size := by rw [World.size_alloc]; omega
  rw [hm, hB] at HA
  rw [hm, hB]
  rw [hB] at o0
  clear hA2 hm hL hB
  go_enter Tryz.func17, Tryz.ntmps17
  go_wp2
  rw [HB.out]
  generalize w.alloc (.cells #[] 53) = W at *
  go_loopw [3, 13] (fun s3 s13 wr => ∃ (i : Nat) (u : Value), u = s3 ∧ s13 = .int .i64 i ∧ i ≤ m ∧ OwnJ wr B u (isortL ltR (L.take i)) ∧ Below B w wr ∧ B ≤ wr.heap.size) (fun _ s13 _ => (m - intOf s13).toNat)
  case atStart => exact ⟨0, _, rfl, rfl, Nat.zero_le _, o0, b0, s0⟩
  case round =>
    clear b0 o0 s0
    obtain ⟨i, u, rfl, rfl, hi, O1, B1, S1⟩ := hrel
    by_cases hlt : i < m
    · have hlt' : (i : Int) < m := by omega
      obtain ⟨g, o, cur, rfl, hg, hr0, hsz, hex⟩ := HA.out i hlt
      have hr1 : rowAt wr g = some cur := (rowAt_below B1 hg).trans hr0
      have hsz1 : o + i * 66 + 66 ≤ cur.size := by omega
      have HX : Hid (insL ltR (L.getD i zeroItm) (isortL ltR (L.take i)) = isortL ltR (L.take (i + 1))) := by
        show _ = _
        rw [← isortL_put, take_nextR L zeroItm i (by rw [HM.out]; exact hlt)]
      have hSl : (isortL ltR (L.take i)).length = i := by rw [isortL_length, List.length_take, HM.out]; omega
      generalize L.getD i zeroItm = x at hex HX
      generalize isortL ltR (L.take i) = S at O1 HX hSl
      obtain ⟨ao2, cap2, rfl⟩ := O1.shape
      rw [hSl] at O1 ⊢
      have HSl := Lib.hid hSl
      have bx : Below wr.heap.size wr (wr.alloc (.cells (cellsI x) 53)) := (Below.refl _ _).alloc (Nat.le_refl _) _
      have ax := O1.at.below (Nat.le_refl _) bx
      have rx : rowAt (wr.alloc (.cells (cellsI x) 53)) wr.heap.size = some (cellsI x) := rowAt_of_heap (World.alloc_heap_new _ _)
      have Bx : Below B w (wr.alloc (.cells (cellsI x) 53)) := B1.trans (bx.mono S1)
      have sx : wr.heap.size < (wr.alloc (.cells (cellsI x) 53)).heap.size := by rw [World.size_alloc]; omega
      have HX2 := HX
      clear hr0 hsz hSl HX
      have Ax : Hid (AtJ (wr.heap.size + 1) ((wr.alloc (.cells (cellsI x) 53)).alloc (.cells #[] 53)) (.slice ao2 i cap2) S) := by
        have := ax.below (Nat.le_of_lt sx) ((Below.refl _ _).alloc (Nat.le_refl _) (.cells #[] 53))
        rwa [World.size_alloc] at this
      have oe : OwnJ ((wr.alloc (.cells (cellsI x) 53)).alloc (.cells #[] 53)) (wr.heap.size + 1) (.slice (some ⟨wr.heap.size + 1, 0, none⟩) 0 0) [] := by
        have := ownJ_empty (wr.alloc (.cells (cellsI x) 53))
        rwa [World.size_alloc] at this
      have re : rowAt ((wr.alloc (.cells (cellsI x) 53)).alloc (.cells #[] 53)) wr.heap.size = some (cellsI x) := (rowAt_alloc_past _ _ _ sx).trans rx
      have Be : Below B w ((wr.alloc (.cells (cellsI x) 53)).alloc (.cells #[] 53)) := Bx.alloc (Nat.le_trans S1 (Nat.le_of_lt sx)) _
      have se : wr.heap.size + 1 ≤ ((wr.alloc (.cells (cellsI x) 53)).alloc (.cells #[] 53)).heap.size := by simp only [World.size_alloc]; omega
      have HBC : Hid (B ≤ wr.heap.size) := S1
      clear ax bx Bx sx rx O1 B1 S1
      go_wp2_with fail
      generalize (wr.alloc (.cells (cellsI x) 53)).alloc (.cells #[] 53) = W1 at *
      generalize wr.heap.size = q5 at *
      clear hr1 hex hsz1
      go_loopw [6, 7, 20] (fun s6 s7 s20 w3 => ∃ (j : Nat) (u6 : Value) (D : Bool), u6 = s6 ∧ s7 = .bool D ∧ s20 = .int .i64 j ∧ j ≤ i ∧ Hid ((S.take j).any (ltR x) = D) ∧ OwnJ w3 (q5 + 1) u6 (nextL x S j) ∧ Below (q5 + 1) W1 w3 ∧ q5 + 1 ≤ w3.heap.size) (fun _ _ s20 _ => (i - intOf s20).toNat)
      case atStart => exact ⟨0, _, false, rfl, rfl, rfl, Nat.zero_le _, rfl, oe, Below.refl _ _, se⟩
      case round =>
        clear oe se
        obtain ⟨j, u6, D, rfl, rfl, rfl, hj, HD, O2, B2, S2⟩ := hrel
        have hSi := HSl.out
        have lenN : (nextL x S j).length ≤ 10001 := by have := nextL_len x S j; omega
        by_cases hji : j < i
        · have hji' : (j : Int) < i := by omega
          obtain ⟨ao3, cap3, e1, hA3⟩ := Ax.out
          obtain ⟨g2, o2, c2, e2, hg2, hr2, hs2, hx2⟩ := hA3 j (by omega)
          injection e1 with e3 e4 e5
          rw [e2] at e3
          subst e3
          clear e4 e5 e2 hA3
          have hr3 : rowAt wr g2 = some c2 := (rowAt_below B2 hg2).trans hr2
          have hs3 : o2 + j * 66 + 66 ≤ c2.size := by omega
          have r2 : rowAt wr q5 = some (cellsI x) := (rowAt_below B2 (by omega)).trans re
          have hjS : j < S.length := by omega
          have HS := Lib.hid hSi
          have hjSH := Lib.hid hjS
          have by1 : Below wr.heap.size wr (wr.alloc (.cells (cellsI (S.getD j zeroItm)) 53)) := (Below.refl _ _).alloc (Nat.le_refl _) _
          clear hr2 hs2 hSi hg2 hjS
          cases D
          · have hz3 : q5 < wr.heap.size := by omega
            have HO := Lib.hid (rOrder_any x.b (S.getD j zeroItm).b (wr.alloc (.cells (cellsI (S.getD j zeroItm)) 53)))
            have r4 : rowAt (wr.alloc (.cells (cellsI (S.getD j zeroItm)) 53)) q5 = some (cellsI x) := rowAt_past by1 r2
            have r5 : rowAt (wr.alloc (.cells (cellsI (S.getD j zeroItm)) 53)) wr.heap.size = some (cellsI (S.getD j zeroItm)) := rowAt_of_heap (World.alloc_heap_new _ _)
            by_cases hz : order x.b (S.getD j zeroItm).b = -1
            · have HN := Lib.hid (nextL_put hjSH.out HD.out (decide_eq_true ((order_neg _ _).2 hz)))
              rw [hz] at HO
              generalize S.getD j zeroItm = y at *
              have O3 := O2.below by1
              have B3 := B2.trans (by1.mono S2)
              have S3 := Nat.le_trans S2 by1.size
              have hzy : wr.heap.size < (wr.alloc (.cells (cellsI y) 53)).heap.size := by rw [World.size_alloc]; omega
              clear r2 B2 hz by1
              go_wp2_with fail
              refine HO.out.mono ?_
              rintro e w4 ⟨rfl, b4⟩
              have O4 := O3.below b4
              have B4 := B3.trans (b4.mono S3)
              have S4 := Nat.le_trans S3 b4.size
              have rx4 := rowAt_past b4 r4
              have ry4 := rowAt_past b4 r5
              have z4 : wr.heap.size < w4.heap.size := Nat.lt_of_lt_of_le hzy b4.size
              clear O3 B3 S3 r4 r5 b4 hzy HO
              have Oq : OwnJ (w4.alloc (.cells (cellsI x) 53)) (q5 + 1) _ _ := O4.below ((Below.refl _ _).alloc (Nat.le_refl _) _)
              have rq : rowAt (w4.alloc (.cells (cellsI x) 53)) (w4.heap.size) = some (cellsI x) := rowAt_alloc_at _ _ _ _ (by first | rfl | exact (World.size_alloc _ _).symm)
              have Sq : (q5 + 1) ≤ (w4.alloc (.cells (cellsI x) 53)).heap.size := by simp only [World.size_alloc] at *; omega
              have Bq : Below (q5 + 1) W1 (w4.alloc (.cells (cellsI x) 53)) := B4.alloc S4 _
              have Lq := (show (nextL x S j).length ≤ 1000000 by omega)
              go_upto_region 13 with (at_builtin; refine wpList_putJ rfl _ _ rfl (q5 + 1) _ _ rfl Oq x (w4.heap.size) 1 rfl rq Sq Lq ?_; intro v' w' u1 u2 _; have Bz := Bq.grown u2 Sq (fun k e => (Oq.block e).1); have Sz := Nat.le_trans Sq u2.size; (have u2' := Lib.hid u2; have O5 := Lib.hid u1; clear u1); clear Oq rq Sq Bq Lq u2)
              have ry5 := rowAt_grownJ O2 (Nat.le_refl _) u2'.out ((rowAt_alloc_past _ _ _ z4).trans ry4)
              clear O2 B4 S4 rx4 ry4 z4 O4 u2'
              obtain ⟨ao', cap', rfl⟩ := O5.out.shape
              have u3 := O5.out
              have hl5 : (nextL x S j ++ [x]).length ≤ 1000000 := by rw [List.length_append]; simp; omega
              have HY := Lib.hid HN.out.1
              have HD2 := Lib.hid HN.out.2
              generalize nextL x S j ++ [x] = T5 at *
              generalize T5.length = ll at u3 ⊢
              have Bz2 := Bz
              have Sz2 := Sz
              clear O5 HN Bz Sz
              have Oq : OwnJ (w'.alloc (.cells (cellsI y) 53)) (q5 + 1) _ _ := u3.below ((Below.refl _ _).alloc (Nat.le_refl _) _)
              have rq : rowAt (w'.alloc (.cells (cellsI y) 53)) (w'.heap.size) = some (cellsI y) := rowAt_alloc_at _ _ _ _ (by first | rfl | exact (World.size_alloc _ _).symm)
              have Sq : (q5 + 1) ≤ (w'.alloc (.cells (cellsI y) 53)).heap.size := by simp only [World.size_alloc] at *; omega
              have Bq : Below (q5 + 1) W1 (w'.alloc (.cells (cellsI y) 53)) := Bz2.alloc Sz2 _
              have Lq := hl5
              go_wp2_with (at_builtin; refine wpList_putJ rfl _ _ rfl (q5 + 1) _ _ rfl Oq y (w'.heap.size) 1 rfl rq Sq Lq ?_; intro v' w' u1 u2 _; have Bz := Bq.grown u2 Sq (fun k e => (Oq.block e).1); have Sz := Nat.le_trans Sq u2.size; skip; clear Oq rq Sq Bq Lq u2)
              rw [HY.out] at u1
              obtain ⟨ao6, cap6, rfl⟩ := u1.shape
              have U1 := Lib.hid u1
              clear u1 u3 Bz2 Sz2 hl5 HY ry5
              go_wp2
              go_roundw
              case rel => exact ⟨j + 1, _, true, rfl, rfl, by go_num, by omega, HD2.out, U1.out, Bz, Sz⟩
              case measure => simp [intOf]; omega
            · have hlt2 : ¬ order x.b (S.getD j zeroItm).b < 0 := fun q => hz ((order_neg _ _).1 q)
              have HN := Lib.hid (nextL_go hjSH.out HD.out (decide_eq_false hlt2))
              generalize order x.b (S.getD j zeroItm).b = z at HO hz
              have qz : (z == -1) = false := beq_eq_false_iff_ne.2 hz
              generalize S.getD j zeroItm = y at *
              have O3 := O2.below by1
              have B3 := B2.trans (by1.mono S2)
              have S3 := Nat.le_trans S2 by1.size
              have hzy : wr.heap.size < (wr.alloc (.cells (cellsI y) 53)).heap.size := by rw [World.size_alloc]; omega
              clear r2 B2 hz hlt2 by1 O2
              go_wp2_with fail
              refine HO.out.mono ?_
              rintro e w4 ⟨rfl, b4⟩
              have O4 := O3.below b4
              have B4 := B3.trans (b4.mono S3)
              have S4 := Nat.le_trans S3 b4.size
              have ry4 := rowAt_past b4 r5
              clear O3 B3 S3 r4 r5 b4 hzy HO
              have Oq : OwnJ (w4.alloc (.cells (cellsI y) 53)) (q5 + 1) _ _ := O4.below ((Below.refl _ _).alloc (Nat.le_refl _) _)
              have rq : rowAt (w4.alloc (.cells (cellsI y) 53)) (w4.heap.size) = some (cellsI y) := rowAt_alloc_at _ _ _ _ (by first | rfl | exact (World.size_alloc _ _).symm)
              have Sq : (q5 + 1) ≤ (w4.alloc (.cells (cellsI y) 53)).heap.size := by simp only [World.size_alloc] at *; omega
              have Bq : Below (q5 + 1) W1 (w4.alloc (.cells (cellsI y) 53)) := B4.alloc S4 _
              have Lq := (show (nextL x S j).length ≤ 1000000 by omega)
              go_wp2_with (at_builtin; refine wpList_putJ rfl _ _ rfl (q5 + 1) _ _ rfl Oq y (w4.heap.size) 1 rfl rq Sq Lq ?_; intro v' w' u1 u2 _; have Bz := Bq.grown u2 Sq (fun k e => (Oq.block e).1); have Sz := Nat.le_trans Sq u2.size; skip; clear Oq rq Sq Bq Lq u2)
              rw [HN.out.1] at u1
              obtain ⟨ao', cap', rfl⟩ := u1.shape
              have U1 := Lib.hid u1
              have HD2 := Lib.hid HN.out.2
              clear u1 O4 B4 S4 HN ry4
              go_wp2
              go_roundw
              case rel => exact ⟨j + 1, _, false, rfl, rfl, by go_num, by omega, HD2.out, U1.out, Bz, Sz⟩
              case measure => simp [intOf]; omega
          · have HN := Lib.hid (nextL_done hjSH.out HD.out)
            generalize S.getD j zeroItm = y at *
            have O3 := O2.below by1
            have B3 := B2.trans (by1.mono S2)
            have S3 := Nat.le_trans S2 by1.size
            clear r2 O2 B2
            have Oq : OwnJ ((wr.alloc (.cells (cellsI y) 53)).alloc (.cells (cellsI y) 53)) (q5 + 1) _ _ := O3.below ((Below.refl _ _).alloc (Nat.le_refl _) _)
            have rq : rowAt ((wr.alloc (.cells (cellsI y) 53)).alloc (.cells (cellsI y) 53)) (wr.heap.size + 1) = some (cellsI y) := rowAt_alloc_at _ _ _ _ (by first | rfl | exact (World.size_alloc _ _).symm)
            have Sq : (q5 + 1) ≤ ((wr.alloc (.cells (cellsI y) 53)).alloc (.cells (cellsI y) 53)).heap.size := by simp only [World.size_alloc] at *; omega
            have Bq : Below (q5 + 1) W1 ((wr.alloc (.cells (cellsI y) 53)).alloc (.cells (cellsI y) 53)) := B3.alloc S3 _
            have Lq := (show (nextL x S j).length ≤ 1000000 by omega)
            go_wp2_with (at_builtin; refine wpList_putJ rfl _ _ rfl (q5 + 1) _ _ rfl Oq y (wr.heap.size + 1) 1 rfl rq Sq Lq ?_; intro v' w' u1 u2 _; have Bz := Bq.grown u2 Sq (fun k e => (Oq.block e).1); have Sz := Nat.le_trans Sq u2.size; skip; clear Oq rq Sq Bq Lq u2)
            rw [HN.out.1] at u1
            obtain ⟨ao', cap', rfl⟩ := u1.shape
            have U1 := Lib.hid u1
            have HD2 := Lib.hid HN.out.2
            clear u1 O3 B3 S3 HN
            go_wp2
            go_roundw
            case rel => exact ⟨j + 1, _, true, rfl, rfl, by go_num, by omega, HD2.out, U1.out, Bz, Sz⟩
            case measure => simp [intOf]; omega
        · obtain rfl : j = i := by omega
          have hji' : ¬ (j : Int) < j := by omega
          have hJ : j = S.length := hSi.symm
          have HE := Lib.hid (nextL_end (x := x) (S := S))
          rw [← hJ] at HE
          have r2 : rowAt wr q5 = some (cellsI x) := (rowAt_below B2 (by omega)).trans re
          have Bw : Below B w wr := Be.trans (B2.mono (by have := HBC.out; omega))
          have Sw : B ≤ wr.heap.size := by have := HBC.out; omega
          clear hJ hSi
          cases D
          · have HY : Hid (nextL x S j ++ [x] = isortL ltR (L.take (j + 1))) := Lib.hid ((HE.out.2 HD.out).trans HX2.out)
            have Oq : OwnJ (wr.alloc (.cells (cellsI x) 53)) (q5 + 1) _ _ := O2.below ((Below.refl _ _).alloc (Nat.le_refl _) _)
            have rq : rowAt (wr.alloc (.cells (cellsI x) 53)) (wr.heap.size) = some (cellsI x) := rowAt_alloc_at _ _ _ _ (by first | rfl | exact (World.size_alloc _ _).symm)
            have Sq : (q5 + 1) ≤ (wr.alloc (.cells (cellsI x) 53)).heap.size := by simp only [World.size_alloc] at *; omega
            have Bq : Below (q5 + 1) W1 (wr.alloc (.cells (cellsI x) 53)) := B2.alloc S2 _
            have Lq := (show (nextL x S j).length ≤ 1000000 by omega)
            go_wp2_with (at_builtin; refine wpList_putJ rfl _ _ rfl (q5 + 1) _ _ rfl Oq x (wr.heap.size) 1 rfl rq Sq Lq ?_; intro v' w' u1 u2 _; have Bz := Bq.grown u2 Sq (fun k e => (Oq.block e).1); have Sz := Nat.le_trans Sq u2.size; skip; clear Oq rq Sq Bq Lq u2)
            rw [HY.out] at u1
            obtain ⟨ao', cap', rfl⟩ := u1.shape
            have U1 := Lib.hid (u1.base (B' := B) (by have := HBC.out; omega))
            have B5 := Lib.hid (Be.trans (Bz.mono (by have := HBC.out; omega)))
            have S5 := Lib.hid (Nat.le_trans (by have := HBC.out; omega : B ≤ q5 + 1) Sz)
            clear u1 O2 Bz Sz B2 S2 HY r2 Bw Sw
            go_wp2
            go_roundw
            case rel => exact ⟨j + 1, _, rfl, by go_num, by omega, U1.out, B5.out, S5.out⟩
            case measure => simp [intOf]; omega
          · have HY : Hid (nextL x S j = isortL ltR (L.take (j + 1))) := Lib.hid ((HE.out.1 HD.out).trans HX2.out)
            rw [HY.out] at O2
            obtain ⟨ao', cap', rfl⟩ := O2.shape
            have U1 := Lib.hid (O2.base (B' := B) (by have := HBC.out; omega))
            have B5 := Lib.hid Bw
            have S5 := Lib.hid Sw
            clear O2 B2 S2 HY r2 Bw Sw
            go_wp2
            go_roundw
            case rel => exact ⟨j + 1, _, rfl, by go_num, by omega, U1.out, B5.out, S5.out⟩
            case measure => simp [intOf]; omega
    · obtain rfl : i = m := by omega
      have hlt' : ¬ (i : Int) < i := by omega
      have e1 : L.take i = L := by rw [← HM.out, List.take_length]
      rw [e1] at O1
      obtain ⟨ao', cap', rfl⟩ := O1.shape
      generalize (isortL ltR L).length = kk at O1 ⊢
      have U1 := Lib.hid O1
      have B5 := Lib.hid B1
      clear O1 B1 e1
      go_wp2
      go_ret
      exact ⟨_, rfl, U1.out, B5.out⟩
end Go.Proofs.YtmabigcolabbmaaGreatDoor
namespace Go.Proofs.YtmabigcolabbmaaGreatDoor
open Go Go.RowKit

set_option maxRecDepth 100000 in
set_option maxHeartbeats 2000000 in
theorem r16Of_any (v : Value) (L : List Lf) (hL : L.length ≤ 10000) (w : World) (hA : AtG w.heap.size w v L) :
    Calls Tryz.prog 20 #[v] w fun e w' => ∃ u, e = .returned u ∧ OwnJ w' w.heap.size u (isortL ltR (L.map leafI)) ∧ Below w.heap.size w w' := by
  obtain ⟨ao, cap, rfl, hA2⟩ := hA
  obtain ⟨B, hB⟩ : ∃ B, w.heap.size = B := ⟨_, rfl⟩
  obtain ⟨m, hm⟩ : ∃ m, L.length = m := ⟨_, rfl⟩
  have HM : Hid (L.length = m) := hm
  have HB : Hid (w.heap.size = B) := hB
  have hm1 : (m : Int) ≤ 10000 := by omega
  have HA := Lib.hid hA2
  have b0 : Below B w (w.alloc (.cells #[] 53)) := by rw [← hB]; exact (Below.refl _ _).alloc (Nat.le_refl _) _
  have o0 : OwnJ (w.alloc (.cells #[] 53)) B (.slice (some ⟨w.heap.size, 0, none⟩) 0 0) [] := by rw [← hB]; exact ownJ_empty w
  have s0 : B ≤ (w.alloc (.cells #[] 53)).heap.size := by rw [World.size_alloc]; omega
  rw [hm, hB] at HA
  rw [hm, hB]
  rw [hB] at o0
  clear hA2 hm hL hB
  go_enter Tryz.func20, Tryz.ntmps20
  go_wp2
  rw [HB.out]
  generalize w.alloc (.cells #[] 53) = W at *
  go_loopw [3, 9] (fun s3 s9 wr => ∃ (i : Nat) (u : Value), u = s3 ∧ s9 = .int .i64 i ∧ i ≤ m ∧ OwnJ wr B u ((L.take i).map leafI) ∧ Below B w wr ∧ B ≤ wr.heap.size) (fun _ s9 _ => (m - intOf s9).toNat)
  case atStart => exact ⟨0, _, rfl, rfl, Nat.zero_le _, o0, b0, s0⟩
  case round =>
    clear b0 o0 s0
    obtain ⟨i, u, rfl, rfl, hi, O1, B1, S1⟩ := hrel
    by_cases hlt : i < m
    · have hlt' : (i : Int) < m := by omega
      obtain ⟨g, o, cur, rfl, hg, hr0, hsz, hex⟩ := HA.out i hlt
      have hr1 : rowAt wr g = some cur := (rowAt_below B1 hg).trans hr0
      have hsz1 : o + i * 65 + 65 ≤ cur.size := by omega
      have HX : Hid ((L.take i).map leafI ++ [leafI (L.getD i zeroLf)] = (L.take (i + 1)).map leafI) := by
        show _ = _
        rw [← take_nextR L zeroLf i (by rw [HM.out]; exact hlt), List.map_append]
        rfl
      generalize L.getD i zeroLf = x at hex HX
      have hlen : ((L.take i).map leafI).length ≤ 1000000 := by rw [List.length_map, List.length_take]; omega
      have b2 : Below wr.heap.size wr (wr.alloc (.cells (cellsF x) 55)) := (Below.refl _ _).alloc (Nat.le_refl _) _
      have O2 := O1.below b2
      have B2 : Below B w (wr.alloc (.cells (cellsF x) 55)) := B1.trans (b2.mono S1)
      have S2 := Nat.le_trans S1 b2.size
      have HC := Lib.hid (r16Leaf_any x (wr.alloc (.cells (cellsF x) 55)))
      clear hr0 hsz O1 B1 S1 b2
      go_wp2_with fail
      refine HC.out.mono ?_
      rintro e w4 ⟨rfl, b4⟩
      have O4 := O2.below b4
      have B4 := B2.trans (b4.mono S2)
      have S4 := Nat.le_trans S2 b4.size
      generalize leafI x = y at *
      clear O2 B2 S2 HC b4 hr1 hex hsz1
      have Oq : OwnJ (w4.alloc (.cells (cellsI y) 53)) (B) _ _ := O4.below ((Below.refl _ _).alloc (Nat.le_refl _) _)
      have rq : rowAt (w4.alloc (.cells (cellsI y) 53)) (w4.heap.size) = some (cellsI y) := rowAt_alloc_at _ _ _ _ (by first | rfl | exact (World.size_alloc _ _).symm)
      have Sq : (B) ≤ (w4.alloc (.cells (cellsI y) 53)).heap.size := by simp only [World.size_alloc] at *; omega
      have Bq : Below (B) w (w4.alloc (.cells (cellsI y) 53)) := B4.alloc S4 _
      have Lq := hlen
      go_wp2_with (at_builtin; refine wpList_putJ rfl _ _ rfl (B) _ _ rfl Oq y (w4.heap.size) 1 rfl rq Sq Lq ?_; intro v' w' u1 u2 _; have Bz := Bq.grown u2 Sq (fun k e => (Oq.block e).1); have Sz := Nat.le_trans Sq u2.size; skip; clear Oq rq Sq Bq Lq u2)
      rw [HX.out] at u1
      obtain ⟨ao', cap', rfl⟩ := u1.shape
      generalize ((L.take (i + 1)).map leafI).length = kk at u1 ⊢
      have U1 := Lib.hid u1
      clear u1 O4 B4 S4 hlen
      go_wp2
      go_roundw
      case rel => exact ⟨i + 1, _, rfl, by go_num, hlt, U1.out, Bz, Sz⟩
      case measure => simp [intOf]; omega
    · obtain rfl : i = m := by omega
      have hlt' : ¬ (i : Int) < i := by omega
      have e1 : L.take i = L := by rw [← HM.out, List.take_length]
      rw [e1] at O1
      have HS := Lib.hid (r16Sorted_any u (L.map leafI) (by rw [List.length_map, HM.out]; omega) wr O1.at)
      obtain ⟨ao', cap', rfl⟩ := O1.shape
      generalize (L.map leafI).length = kk at HS ⊢
      have B5 := Lib.hid B1
      have S5 := Lib.hid S1
      clear O1 B1 e1 S1
      go_wp2_with fail
      refine HS.out.mono ?_
      rintro e w2 ⟨z, rfl, z1, z2⟩
      have Z1 := Lib.hid (z1.base (B' := B) S5.out)
      have Z2 := Lib.hid (B5.out.trans (z2.mono S5.out))
      obtain ⟨ao2, cap2, rfl⟩ := z1.shape
      generalize (isortL ltR (L.map leafI)).length = k3 at Z1 ⊢
      clear z1 z2 HS B5 S5
      go_wp2
      go_ret
      exact ⟨_, rfl, Z1.out, Z2.out⟩
def someR (K : List Lab) (x : Itm) : Bool := K.any fun l => decide (cut l x.n.toNat = x.b)
set_option maxRecDepth 100000 in
set_option maxHeartbeats 2000000 in
theorem r16some_any (v : Value) (K : List Lab) (x : Itm) (hK : K.length ≤ 1000000) (w : World) (hA : AtL w.heap.size w v K) :
    Calls Tryz.prog 49 #[v, .agg (cellsI x)] w fun e w' => e = .returned (.bool (someR K x)) ∧ Below w.heap.size w w' := by
  obtain ⟨ao, cap, rfl, hA2⟩ := hA
  obtain ⟨B, hB⟩ : ∃ B, w.heap.size = B := ⟨_, rfl⟩
  obtain ⟨m, hm⟩ : ∃ m, K.length = m := ⟨_, rfl⟩
  have HM : Hid (K.length = m) := hm
  have hm1 : (m : Int) ≤ 1000000 := by omega
  have HA := Lib.hid hA2
  have b0 : Below B w (w.alloc (.cells (cellsI x) 53)) := by rw [← hB]; exact (Below.refl _ _).alloc (Nat.le_refl _) _
  have r0 : rowAt (w.alloc (.cells (cellsI x) 53)) B = some (cellsI x) := by rw [← hB]; exact rowAt_of_heap (World.alloc_heap_new _ _)
  have s0 : B < (w.alloc (.cells (cellsI x) 53)).heap.size := by rw [World.size_alloc]; omega
  obtain ⟨T, hT⟩ : ∃ T, someR K x = T := ⟨_, rfl⟩
  have HT := Lib.hid hT
  have g0 := get_I0 x
  rw [hm, hB] at HA
  rw [hm, hB, hT]
  have HB := Lib.hid hB
  clear hA2 hm hK hT
  go_enter Tryz.func49, Tryz.ntmps49
  go_wp2_with fail
  generalize w.alloc (.cells (cellsI x) 53) = W at *
  clear hB
  go_loopw [9] (fun s9 wr => ∃ (i : Nat), s9 = .int .i64 i ∧ i ≤ m ∧ Hid ((K.take i).any (fun l => decide (cut l x.n.toNat = x.b)) = false) ∧ Below B w wr ∧ B < wr.heap.size ∧ rowAt wr B = some (cellsI x)) (fun s9 _ => (m - intOf s9).toNat)
  case atStart => exact ⟨0, rfl, Nat.zero_le _, rfl, b0, s0, r0⟩
  case round =>
    clear b0 s0 r0
    obtain ⟨i, rfl, hi, HN, B1, S1, R1⟩ := hrel
    by_cases hlt : i < m
    · have hlt' : (i : Int) < m := by omega
      obtain ⟨g, o, cur, rfl, hg, hr0, hsz, hex⟩ := HA.out i hlt
      have hr1 : rowAt wr g = some cur := (rowAt_below B1 hg).trans hr0
      have hsz1 : o + i * 32 + 32 ≤ cur.size := by omega
      have HX : Hid ((K.take (i + 1)).any (fun l => decide (cut l x.n.toNat = x.b)) = decide (cut (K.getD i zeroLab) x.n.toNat = x.b)) := by
        show _ = _
        rw [← take_nextR K zeroLab i (by rw [HM.out]; exact hlt), List.any_append, HN.out, List.any_cons, List.any_nil, Bool.or_false, Bool.false_or]
      have HY : Hid (decide (cut (K.getD i zeroLab) x.n.toNat = x.b) = true → T = true) := by
        show _ → _
        intro h
        rw [← HT.out]
        have hl : i < K.length := by rw [HM.out]; exact hlt
        refine List.any_eq_true.2 ⟨K.getD i zeroLab, ?_, h⟩
        rw [List.getD_eq_getElem?_getD, List.getElem?_eq_getElem hl]
        exact List.getElem_mem hl
      generalize K.getD i zeroLab = y at hex HX HY
      have HC := Lib.hid (fun w => rCut_any y x.n w)
      have b2 : Below wr.heap.size wr (wr.alloc (.cells (cellsL y) 27)) := (Below.refl _ _).alloc (Nat.le_refl _) _
      have B2 : Below B w (wr.alloc (.cells (cellsL y) 27)) := B1.trans (b2.mono (Nat.le_of_lt S1))
      have S2 := Nat.lt_of_lt_of_le S1 b2.size
      have R2 := rowAt_past b2 R1
      have Q2 : rowAt (wr.alloc (.cells (cellsL y) 27)) wr.heap.size = some (cellsL y) := rowAt_of_heap (World.alloc_heap_new _ _)
      have p1 := fun z : Past (wr.alloc (.cells (cellsL y) 27)) => Past.row R2 z
      have p2 := fun z : Past (wr.alloc (.cells (cellsL y) 27)) => Past.row Q2 z
      have k0 : (wr.alloc (.cells (cellsL y) 27)).cell? ⟨B, 0, none⟩ = some (.int .i64 x.n) := (cell_of_rowAt R2 0).trans g0
      have p3 := fun z : Past (wr.alloc (.cells (cellsL y) 27)) => (Past.cell (cellLt k0) z).trans k0
      generalize cut y x.n.toNat = cy at *
      clear hr0 hsz B1 S1 R1 b2 Q2 k0 hg
      cases hq : decide (cy = x.b) with
      | true =>
        obtain rfl : T = true := HY.out hq
        clear HX HY HN
        go_wp2_with fail
        refine wp_region_past (by kernel_rfl) (by kernel_rfl) ?_
        iterate 3 go_big_quiet_step (fail)
        go_big_quiet_step (exact Past.call (HC.out _))
        iterate 3 go_big_quiet_step (fail)
        refine wpQuiet_nil ?_
        intro wn hw2
        obtain ⟨⟨wx, hn⟩, rfl⟩ := hw2
        try dsimp only
        have B3 := Lib.hid (B2.trans (hn.mono (Nat.le_of_lt S2)))
        clear p1 p2 p3 hn B2 S2 R2 HC
        go_wp2
        go_ret
        exact ⟨rfl, B3.out⟩
      | false =>
        have HN2 : Hid ((K.take (i + 1)).any (fun l => decide (cut l x.n.toNat = x.b)) = false) := Lib.hid (HX.out.trans hq)
        clear HX HY HN
        go_wp2_with fail
        refine wp_region_past (by kernel_rfl) (by kernel_rfl) ?_
        iterate 3 go_big_quiet_step (fail)
        go_big_quiet_step (exact Past.call (HC.out _))
        iterate 3 go_big_quiet_step (fail)
        refine wpQuiet_nil ?_
        intro wn hw2
        obtain ⟨⟨wx, hn⟩, rfl⟩ := hw2
        try dsimp only
        have B3 := B2.trans (hn.mono (Nat.le_of_lt S2))
        have S3 := Nat.lt_of_lt_of_le S2 hn.size
        have R3 := rowAt_past hn R2
        clear p1 p2 p3 hn B2 S2 R2 HC
        go_wp2
        go_roundw
        case rel => exact ⟨i + 1, by go_num, hlt, HN2.out, B3, S3, R3⟩
        case measure => simp [intOf]; omega
    · obtain rfl : i = m := by omega
      have hlt' : ¬ (i : Int) < i := by omega
      obtain rfl : T = false := by
        have := HN.out
        rw [← HM.out, List.take_length] at this
        rw [← HT.out]
        exact this
      have B5 := Lib.hid B1
      clear B1 HN S1 R1
      go_wp2
      go_ret
      exact ⟨rfl, B5.out⟩
end Go.Proofs.YtmabigcolabbmaaGreatDoor
namespace Go.Proofs.YtmabigcolabbmaaGreatDoor
open Go Go.RowKit Go.Lib

/-- Two lists of one's own don't share a block. -/
def Sep (v u : Value) : Prop := ∀ g, v.ownBlock = some g → u.ownBlock ≠ some g
theorem Sep.symm {v u : Value} (h : Sep v u) : Sep u v := fun g h1 h2 => h g h2 h1
theorem OwnJ.sep {w w' : World} {B : Nat} {v u : Value} {L : List Itm} (h : OwnJ w B u L) (hs : Sep v u) (hg : w.grownBy w' v.ownBlock) : OwnJ w' B u L := by
  refine World.ownsRow.kept h hg ?_
  cases hq : u.ownBlock with
  | none => exact .inl rfl
  | some g => exact .inr fun e => hs g e.symm hq
theorem Sep.grow {w : World} {B : Nat} {v v' u : Value} {L : List Itm} (hs : Sep v u) (hu : OwnJ w B u L) (hat : v'.ownBlock = v.ownBlock ∨ v'.ownBlock = some w.heap.size) : Sep v' u := fun g h1 h2 => by
  rcases hat with e | e
  · exact hs g (e.symm.trans h1) h2
  · rw [e] at h1
    cases h1
    have := (hu.block h2).2.1
    omega
def minC (L : List Itm) (i : Nat) : Nat := if i = 0 then 256 else common (L.getD 0 zeroItm).b (L.getD (i - 1) zeroItm).b
theorem minC_step {L : List Itm} (h : RiseI L) {i : Nat} (hi : i < L.length) : min (minC L i) (common (L.getD 0 zeroItm).b (L.getD i zeroItm).b) = minC L (i + 1) := by
  unfold minC
  rw [if_neg (Nat.succ_ne_zero i), Nat.add_sub_cancel]
  by_cases h0 : i = 0
  · subst h0
    rw [if_pos rfl]
    have := common_le (L.getD 0 zeroItm).b (L.getD 0 zeroItm).b
    omega
  · rw [if_neg h0]
    have := (between_math (h.le (Nat.zero_le (i - 1)) (by omega)) (h.le (i := i - 1) (j := i) (by omega) hi)).2
    omega
theorem minC_end {L : List Itm} (h0 : 0 < L.length) : minC L L.length = commonL L := by
  unfold minC commonL
  rw [if_neg (by omega)]
theorem fork_bit {L : List Itm} (h : RiseI L) (h2 : 2 ≤ L.length) {i : Nat} (hi : i < L.length) : (i < forkC L → bitI (L.getD i zeroItm).b (commonL L) = 0) ∧ (¬ i < forkC L → bitI (L.getD i zeroItm).b (commonL L) = 1) := by
  have hf := forkC_at h
  have hn := (fork_ends h h2).1
  constructor
  · intro hc
    have := hf.2.1 i hc
    unfold forkP at this
    have h1 : bitI (L.getD i zeroItm).b (commonL L) ≠ 1 := by simpa using this
    rw [bitI_if, if_pos hn] at h1 ⊢
    have := bit_lt (L.getD i zeroItm).b (commonL L)
    omega
  · intro hc
    have := hf.2.2 i (by omega) hi
    unfold forkP at this
    simpa using this
theorem part_low' {L : List Itm} {c i : Nat} (hi : i < L.length) (hc : i < c) : (L.take i).take c ++ [L.getD i zeroItm] = (L.take (i + 1)).take c ∧ (L.take (i + 1)).drop c = (L.take i).drop c := by
  have h1 : (L.take i).take c = L.take i := by rw [List.take_take, Nat.min_eq_right (by omega)]
  have h2 : (L.take (i + 1)).take c = L.take (i + 1) := by rw [List.take_take, Nat.min_eq_right (by omega)]
  refine ⟨?_, ?_⟩
  · rw [h1, h2, take_nextR L zeroItm i hi]
  · rw [List.drop_eq_nil_of_le (by rw [List.length_take]; omega), List.drop_eq_nil_of_le (by rw [List.length_take]; omega)]
theorem part_high' {L : List Itm} {c i : Nat} (hi : i < L.length) (hc : ¬ i < c) : (L.take (i + 1)).take c = (L.take i).take c ∧ (L.take i).drop c ++ [L.getD i zeroItm] = (L.take (i + 1)).drop c := by
  refine ⟨?_, ?_⟩
  · rw [List.take_take, List.take_take, Nat.min_eq_left (by omega), Nat.min_eq_left (by omega)]
  · rw [← take_nextR L zeroItm i hi, List.drop_append_of_le_length (by rw [List.length_take]; omega)]
set_option maxRecDepth 100000 in
set_option maxHeartbeats 4000000 in
theorem r16Join_any : ∀ (f : Nat) (L : List Itm) (v : Value) (w : World), L.length ≤ f → 0 < L.length → RiseI L → L.length ≤ 100000 → AtJ w.heap.size w v L →
    Calls Tryz.prog 38 #[v] w fun e w' => e = .returned (.agg (cellsI (wholeF f L))) ∧ Below w.heap.size w w' := by
  intro f
  induction f with
  | zero => intro L v w h1 h2; omega
  | succ f ih =>
    intro L v w hf h0 hr hL hA
    obtain ⟨ao, cap, rfl, hA2⟩ := hA
    obtain ⟨g, o, cur, rfl, hg, hr0, hs0, hx0⟩ := hA2 0 h0
    obtain ⟨B, hB⟩ : ∃ B, w.heap.size = B := ⟨_, rfl⟩
    obtain ⟨m, hm⟩ : ∃ m, L.length = m := ⟨_, rfl⟩
    have HM : Hid (L.length = m) := hm
    have HB : Hid (w.heap.size = B) := hB
    have hm1 : (m : Int) ≤ 100000 := by omega
    have HA : Hid (∀ i, i < m → rowAt w g = some cur ∧ o + i * 66 + 66 ≤ cur.size ∧ cur.extract (o + i * 66) (o + i * 66 + 66) = cellsI (L.getD i zeroItm)) := by
      show ∀ i, _
      intro i hi
      obtain ⟨g', o', cur', e1, _, x2, x3, x4⟩ := hA2 i (by omega)
      cases e1
      rw [hr0] at x2
      cases x2
      exact ⟨hr0, by omega, x4⟩
    rw [Nat.zero_mul, Nat.add_zero] at hx0
    have sz0 : o + 66 ≤ cur.size := by omega
    have b0 : Below B w (w.alloc (.cells (cellsI zeroItm) 53)) := by rw [← hB]; exact (Below.refl _ _).alloc (Nat.le_refl _) _
    have r0 : rowAt (w.alloc (.cells (cellsI zeroItm) 53)) B = some (cellsI zeroItm) := by rw [← hB]; exact rowAt_of_heap (World.alloc_heap_new _ _)
    have s0 : B < (w.alloc (.cells (cellsI zeroItm) 53)).heap.size := by rw [World.size_alloc]; omega
    have rc : rowAt (w.alloc (.cells (cellsI zeroItm) 53)) g = some cur := (rowAt_below b0 (by omega)).trans hr0
    have hgB : g < B := by omega
    obtain ⟨V, hV⟩ : ∃ V, wholeF (f + 1) L = V := ⟨_, rfl⟩
    rw [hV, hm, hB]
    by_cases h1 : m = 1
    · obtain rfl : V = L.getD 0 zeroItm := by rw [← hV, wholeF, if_pos (by omega)]
      subst h1
      generalize L.getD 0 zeroItm = X at *
      clear hA2 hr0 hs0 hr hf hL hV h0 hm HM ih HA hg
      go_enter Tryz.func38, Tryz.ntmps38
      go_wp2_with fail
      exact row_ret_ritem rfl rfl rfl (by rw [← hB]; exact rowAt_alloc_at _ _ _ _ rfl) ⟨rfl, by rw [← hB]; exact (Below.refl _ _).alloc (Nat.le_refl _) _⟩
    · have h1i : ¬ (m : Int) = 1 := by omega
      have h0i : (0 : Int) < m := by omega
      have h2 : 2 ≤ L.length := by omega
      have HR := Lib.hid hr
      have HIH := Lib.hid ih
      have HV : Hid (innerI (wholeF f (L.take (forkC L))) (wholeF f (L.drop (forkC L))) = V) := by
        show _ = _
        rw [← hV, wholeF, if_neg (by omega)]
      have H2 := Lib.hid h2
      have HF := Lib.hid hf
      have h0b := ext_b hx0
      obtain ⟨X0, hX0⟩ : ∃ X0, L.getD 0 zeroItm = X0 := ⟨_, rfl⟩
      have HX0 := Lib.hid hX0
      rw [hX0] at h0b
      have sz1 : o + 1 + 32 ≤ cur.size := by omega
      clear hA2 hr0 hs0 hr hf hL hV h0 hm ih hx0 hg h2 hX0
      go_enter Tryz.func38, Tryz.ntmps38
      go_wp2_with fail
      generalize w.alloc (.cells (cellsI zeroItm) 53) = W at *
      clear hB
      go_loopw [3, 18] (fun s3 s18 wr => ∃ (i : Nat) (z : Int), s3 = .int .i64 z ∧ s18 = .int .i64 i ∧ i ≤ m ∧ Hid ((minC L i : Int) = z) ∧ Below B w wr ∧ B < wr.heap.size ∧ rowAt wr B = some (cellsI zeroItm) ∧ rowAt wr g = some cur) (fun _ s18 _ => (m - intOf s18).toNat)
      case atStart => exact ⟨0, 256, rfl, rfl, Nat.zero_le _, rfl, b0, s0, r0, rc⟩
      case round =>
        clear b0 s0 r0 rc
        obtain ⟨i, z, rfl, rfl, hi, HZ, B1, S1, R1, G1⟩ := hrel
        by_cases hlt : i < m
        · have hlt' : (i : Int) < m := by omega
          obtain ⟨_, hsz1, hex⟩ := HA.out i hlt
          have HX : Hid (min (minC L i) (common X0.b (L.getD i zeroItm).b) = minC L (i + 1)) := by
            show _ = _
            rw [← HX0.out]
            exact minC_step HR.out (by rw [HM.out]; exact hlt)
          generalize L.getD i zeroItm = x at hex HX
          have b2 : Below wr.heap.size wr (wr.alloc (.cells (cellsI x) 53)) := (Below.refl _ _).alloc (Nat.le_refl _) _
          have B2 : Below B w (wr.alloc (.cells (cellsI x) 53)) := B1.trans (b2.mono (Nat.le_of_lt S1))
          have S2 := Nat.lt_of_lt_of_le S1 b2.size
          have R2 := rowAt_past b2 R1
          have G2 := rowAt_past b2 G1
          have Q2 : rowAt (wr.alloc (.cells (cellsI x) 53)) wr.heap.size = some (cellsI x) := rowAt_of_heap (World.alloc_heap_new _ _)
          have p1 := fun y : Past (wr.alloc (.cells (cellsI x) 53)) => Past.row G2 y
          have p2 := fun y : Past (wr.alloc (.cells (cellsI x) 53)) => Past.row Q2 y
          have HC := Lib.hid (fun w => rCommon_any X0.b x.b w)
          obtain ⟨cm, hcm⟩ : ∃ cm, ((common X0.b x.b : Nat) : Int) = cm := ⟨_, rfl⟩
          have HZ2 : Hid ((minC L (i + 1) : Int) = min z cm) := by
            show _ = _
            have h1 := HX.out
            have h2 := HZ.out
            omega
          rw [hcm] at HC
          clear B1 S1 R1 b2 Q2 HZ HX hcm
          go_wp2_with fail
          refine wp_region_tok [] 10 (fun _ _ _ => True) (by kernel_rfl) (by kernel_rfl) (by intro i hi; cases hi) ?_
          intro τ hτ
          clear hτ
          simp only [List.take_succ_cons, List.take_zero]
          iterate 7 (refine tokL_val (by decide) (by kernel_rfl) rfl ?_; intro K hK; go_big_quiet_op; go_big_quiet_on)
          refine tokL_call (by decide) (by kernel_rfl) (by kernel_rfl) ?_
          apply Exists.intro
          refine And.intro ?_ ?_
          focus
            intro x hg
            unfold Oper.quietAt
            go_simp
            (exact call_yields (HC.out _))
          simp only [Act.put, List.setIfInBounds_toArray, List.set_cons_succ, List.set_cons_zero]
          refine tokL_sure (.int .i64 (min z cm)) (by decide) (by kernel_rfl) (fun x => by go_simp) ?_
          simp only [Act.put, List.setIfInBounds_toArray, List.set_cons_succ, List.set_cons_zero]
          iterate 1 (refine tokL_val (by decide) (by kernel_rfl) rfl ?_; intro K hK; go_big_quiet_op; go_big_quiet_on)
          refine tokL_nil ?_
          simp only [List.drop_succ_cons, List.drop_nil]
          intro y hy
          have B3 := B2.trans (hy.1.mono (Nat.le_of_lt S2))
          have S3 := Nat.lt_of_lt_of_le S2 hy.1.size
          have R3 := rowAt_past hy.1 R2
          have G3 := rowAt_past hy.1 G2
          clear hy B2 S2 R2 G2 G1 p1 p2 HC
          go_wp2
          go_roundw
          case rel => exact ⟨i + 1, _, rfl, by go_num, hlt, HZ2.out, B3, S3, R3, G3⟩
          case measure => simp [intOf]; omega
        · obtain rfl : i = m := by omega
          have hlt' : ¬ (i : Int) < i := by omega
          have HN : Hid (z = (commonL L : Int)) := by
            show _ = _
            rw [← HZ.out, ← HM.out, minC_end (by rw [HM.out]; omega)]
          have hz0 : 0 ≤ z := by rw [HN.out]; omega
          have hz1 : z ≤ 255 := by have := (fork_ends HR.out H2.out).1; rw [HN.out]; omega
          obtain ⟨q, hq⟩ : ∃ q, wr.heap.size = q := ⟨_, rfl⟩
          have HQ := Lib.hid hq
          have oa : OwnJ ((wr.alloc (.cells #[] 53)).alloc (.cells #[] 53)) q (.slice (some ⟨wr.heap.size, 0, none⟩) 0 0) [] := by
            rw [← hq]
            exact (ownJ_empty wr).below ((Below.refl _ _).alloc (Nat.le_refl _) _)
          have ob : OwnJ ((wr.alloc (.cells #[] 53)).alloc (.cells #[] 53)) q (.slice (some ⟨wr.heap.size + 1, 0, none⟩) 0 0) [] := by
            have := ownJ_empty (wr.alloc (.cells #[] 53))
            rw [World.size_alloc] at this
            exact this.base (by omega)
          have sp : Sep (.slice (some ⟨wr.heap.size, 0, none⟩) 0 0) (.slice (some ⟨wr.heap.size + 1, 0, none⟩) 0 0) := fun k h1 h2 => by
            simp only [Value.ownBlock, Option.some.injEq] at h1 h2
            omega
          have Bb : Below q wr ((wr.alloc (.cells #[] 53)).alloc (.cells #[] 53)) := ((Below.refl _ _).alloc (by omega) _).alloc (by simp only [World.size_alloc]; omega) _
          have sb : q ≤ ((wr.alloc (.cells #[] 53)).alloc (.cells #[] 53)).heap.size := by simp only [World.size_alloc]; omega
          have hBq : B < q := by omega
          have hgq : g < q := by omega
          have hi1 : ¬ i = 1 := h1
          rw [hq] at oa ob sp
          clear HZ hlt
          go_wp2_with fail
          generalize (wr.alloc (.cells #[] 53)).alloc (.cells #[] 53) = W2 at *
          clear hq
          have Bw : Below B w W2 := B1.trans (Bb.mono (by omega))
          have RB : rowAt W2 B = some (cellsI zeroItm) := (rowAt_below Bb hBq).trans R1
          have RG : rowAt W2 g = some cur := (rowAt_below Bb hgq).trans G1
          clear B1 S1 R1 G1 Bb
          go_loopw [6, 7, 41] (fun s6 s7 s41 w3 => ∃ (j : Nat) (ua ub : Value), ua = s6 ∧ ub = s7 ∧ s41 = .int .i64 j ∧ j ≤ i ∧ OwnJ w3 q ua ((L.take j).take (forkC L)) ∧ OwnJ w3 q ub ((L.take j).drop (forkC L)) ∧ Sep ua ub ∧ Below q W2 w3 ∧ q ≤ w3.heap.size) (fun _ _ s41 _ => (i - intOf s41).toNat)
          case atStart =>
            refine ⟨0, _, _, rfl, rfl, rfl, Nat.zero_le _, ?_, ?_, sp, Below.refl _ _, sb⟩
            · rw [List.take_zero, List.take_nil]
              exact oa
            · rw [List.take_zero, List.drop_nil]
              exact ob
          case round =>
            clear oa ob sp sb
            rename_i wr
            obtain ⟨j, ua, ub, rfl, rfl, rfl, hj, OA, OB, SP, B2, S2⟩ := hrel
            by_cases hji : j < i
            · have hji' : (j : Int) < i := by omega
              obtain ⟨_, hsz1, hex⟩ := HA.out j hji
              have hjL : j < L.length := by rw [HM.out]; exact hji
              have HBV := Lib.hid (fork_bit HR.out H2.out hjL)
              have HLO := Lib.hid (part_low' (L := L) (c := forkC L) hjL)
              have HHI := Lib.hid (part_high' (L := L) (c := forkC L) hjL)
              have lenA : ((L.take j).take (forkC L)).length ≤ 1000000 := by rw [List.length_take, List.length_take]; omega
              have lenB : ((L.take j).drop (forkC L)).length ≤ 1000000 := by rw [List.length_drop, List.length_take]; omega
              rw [← HN.out] at HBV
              have HJL := Lib.hid hjL
              generalize L.getD j zeroItm = x at *
              have b2 : Below wr.heap.size wr (wr.alloc (.cells (cellsI x) 53)) := (Below.refl _ _).alloc (Nat.le_refl _) _
              have HBT := Lib.hid (rBit_any x.b z (wr.alloc (.cells (cellsI x) 53)))
              have B3 := B2.trans (b2.mono S2)
              have S3 := Nat.le_trans S2 b2.size
              have RG2 : rowAt wr g = some cur := (rowAt_below B2 hgq).trans RG
              have Q2 : rowAt (wr.alloc (.cells (cellsI x) 53)) wr.heap.size = some (cellsI x) := rowAt_of_heap (World.alloc_heap_new _ _)
              have OA2 := OA.below b2
              have OB2 := OB.below b2
              clear OA OB B2 S2 b2 hjL
              by_cases hc : j < forkC L
              · rw [HBV.out.1 hc] at HBT
                obtain ⟨e1, e2⟩ := HLO.out hc
                have E1 := Lib.hid e1
                have E2 := Lib.hid e2
                clear e1 e2 HLO HHI HBV hc
                generalize (L.take j).take (forkC L) = LA at *
                generalize (L.take j).drop (forkC L) = LB at *
                go_wp2_with fail
                refine HBT.out.mono ?_
                rintro e w4 ⟨rfl, b4⟩
                have O4 := OA2.below b4
                have P4 := OB2.below b4
                have B4 := B3.trans (b4.mono S3)
                have S4 := Nat.le_trans S3 b4.size
                have Q4 := rowAt_past b4 Q2
                clear OA2 OB2 B3 S3 b4 Q2 HBT RG2
                have Oq : OwnJ (w4.alloc (.cells (cellsI x) 53)) (q) _ _ := O4.below ((Below.refl _ _).alloc (Nat.le_refl _) _)
                have Or : OwnJ (w4.alloc (.cells (cellsI x) 53)) (q) _ _ := P4.below ((Below.refl _ _).alloc (Nat.le_refl _) _)
                have rq : rowAt (w4.alloc (.cells (cellsI x) 53)) (w4.heap.size) = some (cellsI x) := rowAt_alloc_at _ _ _ _ (by first | rfl | exact (World.size_alloc _ _).symm)
                have Sq : (q) ≤ (w4.alloc (.cells (cellsI x) 53)).heap.size := by simp only [World.size_alloc] at *; omega
                have Bq : Below (q) W2 (w4.alloc (.cells (cellsI x) 53)) := B4.alloc S4 _
                have Lq := lenA
                go_wp2_with (at_builtin; refine wpList_putJ rfl _ _ rfl (q) _ _ rfl Oq x (w4.heap.size) 1 rfl rq Sq Lq ?_; intro v' w' u1 u2 u3; have Bz := Bq.grown u2 Sq (fun k e => (Oq.block e).1); have Sz := Nat.le_trans Sq u2.size; have Oz := Lib.hid (Or.sep SP u2); have Pz := Lib.hid (SP.grow Or u3); clear Oq Or rq Sq Bq Lq u2 u3)
                rw [E1.out] at u1
                rw [← E2.out] at Oz
                clear O4 P4 B4 S4 lenA lenB SP E1 E2 Q4
                obtain ⟨ao', cap', rfl⟩ := u1.shape
                have U1 := Lib.hid u1
                generalize ((L.take (j + 1)).take (forkC L)).length = kk at *
                clear u1
                go_wp2
                go_roundw
                case rel => exact ⟨j + 1, _, _, rfl, rfl, by go_num, hji, U1.out, Oz.out, Pz.out, Bz, Sz⟩
                case measure => simp [intOf]; omega
              · rw [HBV.out.2 hc] at HBT
                obtain ⟨e1, e2⟩ := HHI.out hc
                have E1 := Lib.hid e1
                have E2 := Lib.hid e2
                clear e1 e2 HLO HHI HBV hc
                generalize (L.take j).take (forkC L) = LA at *
                generalize (L.take j).drop (forkC L) = LB at *
                have SQ := SP.symm
                go_wp2_with fail
                refine HBT.out.mono ?_
                rintro e w4 ⟨rfl, b4⟩
                have O4 := OA2.below b4
                have P4 := OB2.below b4
                have B4 := B3.trans (b4.mono S3)
                have S4 := Nat.le_trans S3 b4.size
                have Q4 := rowAt_past b4 Q2
                clear OA2 OB2 B3 S3 b4 Q2 HBT RG2
                have Oq : OwnJ (w4.alloc (.cells (cellsI x) 53)) (q) _ _ := P4.below ((Below.refl _ _).alloc (Nat.le_refl _) _)
                have Or : OwnJ (w4.alloc (.cells (cellsI x) 53)) (q) _ _ := O4.below ((Below.refl _ _).alloc (Nat.le_refl _) _)
                have rq : rowAt (w4.alloc (.cells (cellsI x) 53)) (w4.heap.size) = some (cellsI x) := rowAt_alloc_at _ _ _ _ (by first | rfl | exact (World.size_alloc _ _).symm)
                have Sq : (q) ≤ (w4.alloc (.cells (cellsI x) 53)).heap.size := by simp only [World.size_alloc] at *; omega
                have Bq : Below (q) W2 (w4.alloc (.cells (cellsI x) 53)) := B4.alloc S4 _
                have Lq := lenB
                go_wp2_with (at_builtin; refine wpList_putJ rfl _ _ rfl (q) _ _ rfl Oq x (w4.heap.size) 1 rfl rq Sq Lq ?_; intro v' w' u1 u2 u3; have Bz := Bq.grown u2 Sq (fun k e => (Oq.block e).1); have Sz := Nat.le_trans Sq u2.size; have Oz := Lib.hid (Or.sep SQ u2); have Pz := Lib.hid (SQ.grow Or u3); clear Oq Or rq Sq Bq Lq u2 u3)
                rw [E2.out] at u1
                rw [← E1.out] at Oz
                clear O4 P4 B4 S4 lenA lenB SP SQ E1 E2 Q4
                obtain ⟨ao', cap', rfl⟩ := u1.shape
                have U1 := Lib.hid u1
                generalize ((L.take (j + 1)).drop (forkC L)).length = kk at *
                clear u1
                go_wp2
                go_roundw
                case rel => exact ⟨j + 1, _, _, rfl, rfl, by go_num, hji, Oz.out, U1.out, Pz.out.symm, Bz, Sz⟩
                case measure => simp [intOf]; omega
            · obtain rfl : j = i := by omega
              have hji' : ¬ (j : Int) < j := by omega
              have e1 : L.take j = L := by rw [← HM.out, List.take_length]
              rw [e1] at OA OB
              obtain ⟨hc0, hcl⟩ := (forkC_at HR.out).inside HR.out H2.out
              have H1 := HIH.out (L.take (forkC L)) ua wr (by have := HF.out; rw [List.length_take]; omega) (by rw [List.length_take]; omega) (HR.out.take _) (by rw [List.length_take]; have := HM.out; omega) OA.at
              have HJ1 := Lib.hid H1
              have HJ2 : Hid (∀ w3, Below wr.heap.size wr w3 → Calls Tryz.prog 38 #[ub] w3 fun e w' => e = .returned (.agg (cellsI (wholeF f (L.drop (forkC L))))) ∧ Below w3.heap.size w3 w') := Lib.hid fun w3 h3 => HIH.out (L.drop (forkC L)) ub w3 (by have := HF.out; rw [List.length_drop]; omega) (by rw [List.length_drop]; omega) (HR.out.drop _) (by rw [List.length_drop]; have := HM.out; omega) (OB.below h3).at
              generalize wholeF f (L.take (forkC L)) = X1 at *
              generalize wholeF f (L.drop (forkC L)) = X2 at *
              have B9 := Bw.trans (B2.mono (Nat.le_of_lt hBq))
              have R9 : rowAt wr B = some (cellsI zeroItm) := (rowAt_below B2 hBq).trans RB
              have hBs : B ≤ wr.heap.size := by omega
              clear H1 OA OB SP B2 e1 hc0 hcl
              go_wp2_with fail
              refine HJ1.out.mono ?_
              rintro e w4 ⟨rfl, b4⟩
              have HJ3 := Lib.hid (HJ2.out w4 b4)
              have B10 := B9.trans (b4.mono hBs)
              have R10 := rowAt_past b4 R9
              have hBs2 := Nat.le_trans hBs b4.size
              clear HJ1 HJ2 B9 R9 b4
              go_wp2_with fail
              refine HJ3.out.mono ?_
              rintro e w5 ⟨rfl, b5⟩
              have B11 := B10.trans (b5.mono hBs2)
              have R11 := rowAt_past b5 R10
              have hBs3 := Nat.le_trans hBs2 b5.size
              have HJ4 := Lib.hid (r16Inner_any X1 X2 w5)
              rw [HV.out] at HJ4
              clear HJ3 B10 R10 b5
              go_wp2_with fail
              refine HJ4.out.mono ?_
              rintro e w6 ⟨rfl, b6⟩
              have B12 := B11.trans (b6.mono hBs3)
              have R12 := rowAt_past b6 R11
              clear HJ4 B11 R11 b6
              go_wp2_with fail
              exact row_ret_ritem rfl rfl rfl (rowAt_setRow_same R12 _) ⟨rfl, Below.setRow B12 (Nat.le_refl _) _⟩
end Go.Proofs.YtmabigcolabbmaaGreatDoor
namespace Go.Proofs.YtmabigcolabbmaaGreatDoor
open Go Go.RowKit Go.Sort Go.Lib

theorem cut_less (a : Lab) {n m : Nat} (h : n ≤ m) : cut (cut a m) n = cut a n := lab_ext fun i hi => by
  rw [bit_cut _ _ _ hi, bit_cut _ _ _ hi, bit_cut _ _ _ hi]
  split
  · rw [if_pos (by omega)]
  · rfl
theorem fork_bits {L : List Itm} (h : RiseI L) (h2 : 2 ≤ L.length) {i : Nat} (hi : i < L.length) : (i < forkC L → bit (L.getD i zeroItm).b (commonL L) = 0) ∧ (¬ i < forkC L → bit (L.getD i zeroItm).b (commonL L) = 1) := by
  have hf := forkC_at h
  have hn := (fork_ends h h2).1
  constructor
  · intro hc
    have h1 := hf.2.1 i hc
    have h3 : ¬ forkP L (commonL L) i = true := by rw [h1]; decide
    rw [forkP_nat] at h3
    have := bit_lt (L.getD i zeroItm).b (commonL L)
    have h4 : ¬ bit (L.getD i zeroItm).b (commonL L) = 1 := fun q => h3 ⟨hn, q⟩
    omega
  · intro hc
    exact ((forkP_nat _ _ _).1 (hf.2.2 i (by omega) hi)).2
theorem getD_take {L : List Itm} {c i : Nat} (h : i < c) : (L.take c).getD i zeroItm = L.getD i zeroItm := by
  rw [List.getD_eq_getElem?_getD, List.getD_eq_getElem?_getD, List.getElem?_take, if_pos h]
theorem getD_drop {L : List Itm} {c i : Nat} : (L.drop c).getD i zeroItm = L.getD (c + i) zeroItm := by
  rw [List.getD_eq_getElem?_getD, List.getD_eq_getElem?_getD, List.getElem?_drop]
/-- Of two that share a bit behind what all have in common. -/
theorem more_common {L : List Itm} (h : RiseI L) (h2 : 2 ≤ L.length) {i j : Nat} (hi : i < L.length) (hj : j < L.length) (hb : bit (L.getD i zeroItm).b (commonL L) = bit (L.getD j zeroItm).b (commonL L)) : commonL L < common (L.getD i zeroItm).b (L.getD j zeroItm).b := by
  have h1 := h.bits hi hj
  have hn := (fork_ends h h2).1
  by_cases e : common (L.getD i zeroItm).b (L.getD j zeroItm).b = commonL L
  · have := (common_is (L.getD i zeroItm).b (L.getD j zeroItm).b).other (by omega)
    rw [e] at this
    exact absurd hb this
  · omega
theorem whole_b : ∀ (f : Nat) (L : List Itm), L.length ≤ f → 0 < L.length → RiseI L → (wholeF f L).b = cut (L.getD 0 zeroItm).b (commonL L) ∧ (2 ≤ L.length → (wholeF f L).n = (commonL L : Int)) := by
  intro f
  induction f with
  | zero => intro L h1 h2; omega
  | succ f ih =>
    intro L hf h0 hr
    by_cases h1 : L.length = 1
    · refine ⟨?_, fun h => by omega⟩
      have e : commonL L = 256 := by
        unfold commonL
        rw [h1]
        exact common_256.2 rfl
      rw [wholeF, if_pos h1, e, cut_256 _ _ (Nat.le_refl _)]
    · have h2 : 2 ≤ L.length := by omega
      obtain ⟨hc0, hcl⟩ := (forkC_at hr).inside hr h2
      have hn := (fork_ends hr h2).1
      obtain ⟨c, hc⟩ : ∃ c, forkC L = c := ⟨_, rfl⟩
      have hfb := fun i (hi : i < L.length) => fork_bits hr h2 hi
      rw [hc] at hc0 hcl hfb
      have lT : (L.take c).length = c := by rw [List.length_take]; omega
      have lD : (L.drop c).length = L.length - c := List.length_drop
      have iA := (ih (L.take c) (by omega) (by omega) (hr.take c)).1
      have iD := (ih (L.drop c) (by omega) (by omega) (hr.drop c)).1
      have cA : commonL L < commonL (L.take c) := by
        unfold commonL
        rw [lT, getD_take (by omega), getD_take (by omega)]
        exact more_common hr h2 (by omega) (by omega) (by rw [(hfb 0 (by omega)).1 (by omega), (hfb (c - 1) (by omega)).1 (by omega)])
      have cD : commonL L < commonL (L.drop c) := by
        unfold commonL
        rw [lD, getD_drop, getD_drop]
        exact more_common hr h2 (by omega) (by omega) (by rw [(hfb (c + 0) (by omega)).2 (by omega), (hfb (c + (L.length - c - 1)) (by omega)).2 (by omega)])
      rw [getD_take (by omega)] at iA
      rw [getD_drop, Nat.add_zero] at iD
      have hcom : common (wholeF f (L.take c)).b (wholeF f (L.drop c)).b = commonL L := by
        refine common_of ⟨by omega, fun i hi => ?_, fun _ => ?_⟩
        · rw [iA, iD, bit_cut _ _ _ (by omega), bit_cut _ _ _ (by omega), if_pos (by omega), if_pos (by omega)]
          exact (common_is (L.getD 0 zeroItm).b (L.getD c zeroItm).b).same i (by have := hr.bits (i := 0) (j := c) (by omega) hcl; omega)
        · rw [iA, iD, bit_cut _ _ _ hn, bit_cut _ _ _ hn, if_pos cA, if_pos cD, (hfb 0 (by omega)).1 hc0, (hfb c hcl).2 (Nat.lt_irrefl _)]
          decide
      rw [wholeF, if_neg h1, hc]
      refine ⟨?_, fun _ => ?_⟩
      · show cut (wholeF f (L.take c)).b (common (wholeF f (L.take c)).b (wholeF f (L.drop c)).b) = _
        rw [hcom, iA, cut_less _ (Nat.le_of_lt cA)]
      · show ((common (wholeF f (L.take c)).b (wholeF f (L.drop c)).b : Nat) : Int) = _
        rw [hcom]
/-- A label touches the top of the tree of leaves just if it begins as the top's item. -/
theorem touch_some {P : List Lf} (K : List Lab) (h0 : 0 < P.length) (hr : RiseI (P.map leafI)) : touchL K (overL (P.map leafI)).1 (overL (P.map leafI)).2 = someR K (wholeF P.length (P.map leafI)) := by
  have hl : (P.map leafI).length = P.length := List.length_map _
  have hw := whole_b P.length (P.map leafI) (by omega) (by omega) hr
  have hle : commonL (P.map leafI) ≤ 256 := common_le _ _
  have key : ∀ (n : Int) (b : Lab), good n b = true → (wholeF P.length (P.map leafI)).n = n → (wholeF P.length (P.map leafI)).b = b → touchL K n b = someR K (wholeF P.length (P.map leafI)) := by
    intro n b hg h1 h2
    unfold touchL someR
    rw [h1, h2]
    congr 1
    funext l
    rw [has_cut, hg, Bool.true_and]
  unfold overL
  rw [hl]
  by_cases h1 : P.length = 1
  · rw [if_pos h1]
    have e : wholeF P.length (P.map leafI) = (P.map leafI).getD 0 zeroItm := by rw [h1, wholeF, if_pos (by omega)]
    refine key _ _ ?_ (by rw [e]) (by rw [e])
    match P, h1 with
    | [y], _ =>
      show good (leafI y).n (leafI y).b = true
      exact good_of (Nat.le_refl _) (cut_cut y.a 256 256 (Nat.le_refl _))
  · rw [if_neg h1]
    refine key _ _ ?_ ?_ hw.1
    · rw [show min (max (commonL (P.map leafI) : Int) 0) 256 = (commonL (P.map leafI) : Int) by omega]
      exact good_of hle (cut_cut _ _ _ (Nat.le_refl _))
    · rw [hw.2 (by omega)]
      omega
end Go.Proofs.YtmabigcolabbmaaGreatDoor
namespace Go.Proofs.YtmabigcolabbmaaGreatDoor
open Go Go.RowKit Go.Lib

@[go_sem ↓] theorem field_ritem (v : Value) (k : Nat) : Instr.field 53 v k = fieldOf 53 v k := rfl
set_option maxRecDepth 100000 in
@[go_sem] theorem field_ritem2 (x : Itm) (w : World) : (fieldOf 53 (.agg (cellsI x)) 2).run Tryz.prog w = .ok (.agg (cellsL x.s)) w :=
  (run_field _ w Tryz.underlying53 rfl).trans (p_I_sum x w)
def topR (L : List Itm) : Lab := if L.length = 0 then shaLab [18] else (wholeF L.length L).s
set_option maxRecDepth 100000 in
set_option maxHeartbeats 2000000 in
theorem r16Top_any (v : Value) (L : List Itm) (hL : L.length ≤ 100000) (hr : RiseI L) (w : World) (hA : AtJ w.heap.size w v L) :
    Calls Tryz.prog 14 #[v] w fun e w' => e = .returned (.agg (cellsL (topR L))) ∧ Below w.heap.size w w' := by
  have b0 : Below w.heap.size w (w.alloc (.cells (cellsL zeroLab) 27)) := (Below.refl _ _).alloc (Nat.le_refl _) _
  have r0 : rowAt (w.alloc (.cells (cellsL zeroLab) 27)) w.heap.size = some (cellsL zeroLab) := rowAt_alloc_at _ _ _ _ rfl
  obtain ⟨m, hm⟩ : ∃ m, L.length = m := ⟨_, rfl⟩
  have hm1 : (m : Int) ≤ 100000 := by omega
  have A1 : AtJ (w.alloc (.cells (cellsL zeroLab) 27)).heap.size (w.alloc (.cells (cellsL zeroLab) 27)) v L := (hA.below (Nat.le_refl _) b0).below b0.size (Below.refl _ _)
  obtain ⟨ao, cap, rfl, _⟩ := hA
  unfold topR
  by_cases h0 : L.length = 0
  · rw [if_pos h0, h0]
    have HS := Lib.hid (r3Sum_any ⟨#[18]⟩ (w.alloc (.cells (cellsL zeroLab) 27)) (by decide))
    rw [show (⟨#[18]⟩ : ByteArray).data.toList = [18] from rfl] at HS
    generalize shaLab [18] = Z at *
    clear A1 hm hr hL h0 hm1
    go_enter Tryz.func14, Tryz.ntmps14
    go_wp2_with fail
    generalize w.alloc (.cells (cellsL zeroLab) 27) = W at *
    refine HS.out.mono ?_
    rintro e w2 ⟨rfl, b2⟩
    have b3 := below_past b0 b2 b0.size
    have r2 := rowAt_past b2 r0
    clear b0 b2 r0 HS
    go_wp2_with fail
    exact row_ret_lab rfl rfl rfl (rowAt_setRow_same r2 _) ⟨rfl, Below.setRow b3 (Nat.le_refl _) _⟩
  · rw [if_neg h0]
    have h1 : ¬ (m : Int) = 0 := by omega
    have HJ := Lib.hid (r16Join_any L.length L _ _ (Nat.le_refl _) (by omega) hr hL A1)
    rw [hm] at HJ ⊢
    generalize wholeF m L = X at *
    clear A1 hm hr hL h0
    go_enter Tryz.func14, Tryz.ntmps14
    go_wp2_with fail
    generalize w.alloc (.cells (cellsL zeroLab) 27) = W at *
    refine HJ.out.mono ?_
    rintro e w2 ⟨rfl, b2⟩
    have b3 := below_past b0 b2 b0.size
    have r2 := rowAt_past b2 r0
    clear b0 b2 r0 HJ
    go_wp2_with fail
    exact row_ret_lab rfl rfl rfl (rowAt_setRow_same r2 _) ⟨rfl, Below.setRow b3 (Nat.le_refl _) _⟩

theorem r16Cover_none (ao : Option Addr) (cap : Nat) (kv : Value) (w : World) : Calls Tryz.prog 24 #[.slice ao 0 cap, kv] w fun e w' => e = .returned (.tuple #[.slice none 0 0, .slice none 0 0]) ∧ Below w.heap.size w w' := by
  go_enter Tryz.func24, Tryz.ntmps24
  go_wp2
  go_ret2
  exact ⟨rfl, Below.refl _ _⟩
theorem atJ_nil (n0 : Nat) (w : World) : AtJ n0 w (.slice none 0 0) [] := ⟨none, 0, rfl, fun i hi => absurd hi (Nat.not_lt_zero i)⟩
theorem atJ_one (w : World) (x : Itm) : AtJ (w.alloc (.cells (cellsI x) 53)).heap.size (w.alloc (.cells (cellsI x) 53)) (.slice (some ⟨w.heap.size, 0, none⟩) 1 1) [x] := by
  refine ⟨_, _, rfl, fun i hi => ⟨w.heap.size, 0, cellsI x, rfl, by rw [World.size_alloc]; omega, rowAt_of_heap (World.alloc_heap_new _ _), ?_, ?_⟩⟩
  · have h1 : i = 0 := by simpa using hi
    subst h1
    rw [size_cellsI]
    decide
  · have h1 : i = 0 := by simpa using hi
    subst h1
    exact extract_I x
set_option maxRecDepth 100000 in
set_option maxHeartbeats 4000000 in
theorem r16Cover_any (K : List Lab) (hK : K.length ≤ 1000000) : ∀ (f : Nat) (P : List Lf) (v kv : Value) (w : World), P.length ≤ f → 0 < P.length → RiseI (P.map leafI) → P.length ≤ 100000 → AtJ w.heap.size w v (P.map leafI) → AtL w.heap.size w kv K →
    Calls Tryz.prog 24 #[v, kv] w fun e w' => ∃ u1 u2, e = .returned (.tuple #[u1, u2]) ∧ AtJ w'.heap.size w' u1 (covF f (touchL K) P).1 ∧ AtJ w'.heap.size w' u2 ((covF f (touchL K) P).2.map leafI) ∧ Below w.heap.size w w' := by
  intro f
  induction f with
  | zero => intro P v kv w h1 h2; omega
  | succ f ih =>
    intro P v kv w hf h0 hr hL hA hB
    have hl : (P.map leafI).length = P.length := List.length_map _
    have HJ := Lib.hid (r16Join_any P.length (P.map leafI) v w (by omega) (by omega) hr (by omega) hA)
    have HTS := Lib.hid (touch_some K h0 hr)
    have HWB := Lib.hid (whole_b P.length (P.map leafI) (by omega) (by omega) hr)
    obtain ⟨m, hm⟩ : ∃ m, P.length = m := ⟨_, rfl⟩
    obtain ⟨I, hI⟩ : ∃ I, P.map leafI = I := ⟨_, rfl⟩
    rw [hI] at HJ HTS HWB hA hl hr
    rw [hm] at HJ HTS HWB hl
    have HV : Hid (covF (f + 1) (touchL K) P = if someR K (wholeF m I) = false then ([wholeF m I], []) else if m = 1 then ([], P) else ((covF f (touchL K) (P.take (forkC I))).1 ++ (covF f (touchL K) (P.drop (forkC I))).1, (covF f (touchL K) (P.take (forkC I))).2 ++ (covF f (touchL K) (P.drop (forkC I))).2)) := by
      show _ = _
      rw [covF, hI, hm, HTS.out]
    have HA := Lib.hid hA
    have HBK := Lib.hid hB
    obtain ⟨X, hX⟩ : ∃ X, wholeF m I = X := ⟨_, rfl⟩
    rw [hX] at HJ HV HWB
    have hAA := hA
    have hBB := hB
    obtain ⟨ao, cap, rfl, _⟩ := hA
    obtain ⟨aok, capk, rfl, _⟩ := hB
    have HSM : Hid (∀ w2, Below w.heap.size w w2 → Calls Tryz.prog 49 #[.slice aok K.length capk, .agg (cellsI X)] w2 fun e w' => e = .returned (.bool (someR K X)) ∧ Below w2.heap.size w2 w') := Lib.hid fun w2 h2 => r16some_any _ K X hK w2 ((hBB.below (Nat.le_refl _) h2).below h2.size (Below.refl _ _))
    rw [hl] at HJ HA ⊢
    have HI := Lib.hid hI
    have HM := Lib.hid hm
    have HL := Lib.hid hl
    have HR := Lib.hid hr
    have HIH := Lib.hid ih
    have h0i : ¬ (m : Int) = 0 := by omega
    have hm1 : (m : Int) ≤ 100000 := by omega
    clear HTS hX hAA hBB hI hl hr hm ih
    generalize hs : someR K X = s at HSM HV
    cases s
    · rw [show covF (f + 1) (touchL K) P = ([X], []) from HV.out.trans (if_pos rfl)]
      clear HV HIH HR HM HI HL HWB HA HBK hs h0
      go_enter Tryz.func24, Tryz.ntmps24
      go_wp2_with fail
      refine HJ.out.mono ?_
      rintro e w2 ⟨rfl, b2⟩
      have b3 : Below w.heap.size w (w2.alloc (.cells (cellsI X) 53)) := b2.alloc b2.size _
      have r3 : rowAt (w2.alloc (.cells (cellsI X) 53)) w2.heap.size = some (cellsI X) := rowAt_of_heap (World.alloc_heap_new _ _)
      have HS := Lib.hid (HSM.out _ b3)
      have z3 : w2.heap.size < (w2.alloc (.cells (cellsI X) 53)).heap.size := by rw [World.size_alloc]; omega
      clear HJ HSM b2
      go_wp2_with fail
      refine HS.out.mono ?_
      rintro e w4 ⟨rfl, b4⟩
      have r4 := rowAt_past b4 r3
      have b5 : Below w.heap.size w w4 := b3.trans (b4.mono b3.size)
      clear HS r3 b4 z3 b3
      go_wp2_with fail
      have B6 := Lib.hid (b5.alloc b5.size (.cells (cellsI X) 53))
      have A6 := Lib.hid (atJ_one w4 X)
      go_ret2
      exact ⟨_, _, rfl, A6.out, atJ_nil _ _, B6.out⟩
    · have HV2 : Hid (covF (f + 1) (touchL K) P = if m = 1 then ([], P) else ((covF f (touchL K) (P.take (forkC I))).1 ++ (covF f (touchL K) (P.drop (forkC I))).1, (covF f (touchL K) (P.take (forkC I))).2 ++ (covF f (touchL K) (P.drop (forkC I))).2)) := Lib.hid (HV.out.trans (if_neg (by decide)))
      clear HV hs
      by_cases h1 : m = 1
      · rw [show covF (f + 1) (touchL K) P = ([], P) from HV2.out.trans (if_pos h1)]
        subst h1
        clear HV2 HIH HR HM HL HWB HBK h0
        go_enter Tryz.func24, Tryz.ntmps24
        go_wp2_with fail
        refine HJ.out.mono ?_
        rintro e w2 ⟨rfl, b2⟩
        have b3 : Below w.heap.size w (w2.alloc (.cells (cellsI X) 53)) := b2.alloc b2.size _
        have r3 : rowAt (w2.alloc (.cells (cellsI X) 53)) w2.heap.size = some (cellsI X) := rowAt_of_heap (World.alloc_heap_new _ _)
        have HS := Lib.hid (HSM.out _ b3)
        have z3 : w2.heap.size < (w2.alloc (.cells (cellsI X) 53)).heap.size := by rw [World.size_alloc]; omega
        clear HJ HSM b2
        go_wp2_with fail
        refine HS.out.mono ?_
        rintro e w4 ⟨rfl, b4⟩
        have b5 : Below w.heap.size w w4 := b3.trans (b4.mono b3.size)
        have A6 := Lib.hid ((HA.out.below (Nat.le_refl _) b5).below b5.size (Below.refl _ _))
        have B6 := Lib.hid b5
        clear HS r3 b4 z3 b3 b5
        go_wp2
        go_ret2
        rw [HI.out]
        exact ⟨_, _, rfl, atJ_nil _ _, A6.out, B6.out⟩
      · have h1i : ((m : Int) == 1) = false := beq_eq_false_iff_ne.2 (by omega)
        obtain ⟨K1, hK1⟩ : ∃ K1, covF f (touchL K) (P.take (forkC I)) = K1 := ⟨_, rfl⟩
        obtain ⟨K2, hK2⟩ : ∃ K2, covF f (touchL K) (P.drop (forkC I)) = K2 := ⟨_, rfl⟩
        rw [show covF (f + 1) (touchL K) P = (K1.1 ++ K2.1, K1.2 ++ K2.2) by rw [← hK1, ← hK2]; exact HV2.out.trans (if_neg h1)]
        have HK1 := Lib.hid hK1
        have HK2 := Lib.hid hK2
        have H2 : Hid (2 ≤ I.length) := by have := HL.out; show _ ≤ _; omega
        have HXN : Hid (X.n = (commonL I : Int)) := Lib.hid (HWB.out.2 H2.out)
        have HF := Lib.hid hf
        clear HV2 hK1 hK2 HWB hf
        go_enter Tryz.func24, Tryz.ntmps24
        go_wp2_with fail
        refine HJ.out.mono ?_
        rintro e w2 ⟨rfl, b2⟩
        have b3 : Below w.heap.size w (w2.alloc (.cells (cellsI X) 53)) := b2.alloc b2.size _
        have r3 : rowAt (w2.alloc (.cells (cellsI X) 53)) w2.heap.size = some (cellsI X) := rowAt_of_heap (World.alloc_heap_new _ _)
        have HS := Lib.hid (HSM.out _ b3)
        have z3 : w2.heap.size < (w2.alloc (.cells (cellsI X) 53)).heap.size := by rw [World.size_alloc]; omega
        clear HJ HSM b2
        go_wp2_with fail
        refine HS.out.mono ?_
        rintro e wr ⟨rfl, b4⟩
        have r4 := rowAt_past b4 r3
        have z4 : w2.heap.size < wr.heap.size := Nat.lt_of_lt_of_le z3 b4.size
        have b5 : Below w.heap.size w wr := b3.trans (b4.mono b3.size)
        generalize w2.heap.size = px at *
        clear HS r3 b4 z3 b3
        obtain ⟨q, hq⟩ : ∃ q, wr.heap.size = q := ⟨_, rfl⟩
        have HQ := Lib.hid hq
        have oa : OwnJ ((wr.alloc (.cells #[] 53)).alloc (.cells #[] 53)) q (.slice (some ⟨wr.heap.size, 0, none⟩) 0 0) [] := by
          rw [← hq]
          exact (ownJ_empty wr).below ((Below.refl _ _).alloc (Nat.le_refl _) _)
        have ob : OwnJ ((wr.alloc (.cells #[] 53)).alloc (.cells #[] 53)) q (.slice (some ⟨wr.heap.size + 1, 0, none⟩) 0 0) [] := by
          have := ownJ_empty (wr.alloc (.cells #[] 53))
          rw [World.size_alloc] at this
          exact this.base (by omega)
        have sp : Sep (.slice (some ⟨wr.heap.size, 0, none⟩) 0 0) (.slice (some ⟨wr.heap.size + 1, 0, none⟩) 0 0) := fun k h1 h2 => by
          simp only [Value.ownBlock, Option.some.injEq] at h1 h2
          omega
        have Bb : Below q wr ((wr.alloc (.cells #[] 53)).alloc (.cells #[] 53)) := ((Below.refl _ _).alloc (by omega) _).alloc (by simp only [World.size_alloc]; omega) _
        have sb : q ≤ ((wr.alloc (.cells #[] 53)).alloc (.cells #[] 53)).heap.size := by simp only [World.size_alloc]; omega
        have hpq : px < q := by omega
        have hwq : w.heap.size ≤ q := by have := b5.size; omega
        rw [hq] at oa ob sp
        clear h1
        go_wp2_with fail
        generalize (wr.alloc (.cells #[] 53)).alloc (.cells #[] 53) = W2 at *
        clear hq
        have RX : rowAt W2 px = some (cellsI X) := (rowAt_below Bb hpq).trans r4
        have Bw : Below w.heap.size w W2 := b5.trans (Bb.mono hwq)
        obtain ⟨ao', cap', e1, hA3⟩ := HA.out
        injection e1 with e3 e4 e5
        subst e3
        clear e4 e5
        obtain ⟨g, o, cur, e6, hgq0, hr0, hs0, hx0⟩ := hA3 0 (by have := H2.out; omega)
        subst e6
        have HAT : Hid (∀ i, i < m → o + i * 66 + 66 ≤ cur.size ∧ cur.extract (o + i * 66) (o + i * 66 + 66) = cellsI (I.getD i zeroItm)) := by
          show ∀ i, _
          intro i hi
          obtain ⟨g', o', cur', e1, _, x2, x3, x4⟩ := hA3 i (by rw [HL.out]; exact hi)
          cases e1
          rw [hr0] at x2
          cases x2
          exact ⟨by omega, x4⟩
        have RG : rowAt W2 g = some cur := (rowAt_below Bw hgq0).trans hr0
        have hgq : g < q := by omega
        clear hA3 hs0 hx0 hr0 b5 r4 Bb HA z4
        have g0 := get_I0 X
        obtain ⟨zn, hzn⟩ : ∃ zn, X.n = zn := ⟨_, rfl⟩
        rw [hzn] at g0 HXN
        clear hzn
        go_loopw [7, 8, 34] (fun s7 s8 s34 w3 => ∃ (j : Nat) (ua ub : Value), ua = s7 ∧ ub = s8 ∧ s34 = .int .i64 j ∧ j ≤ m ∧ OwnJ w3 q ua ((I.take j).take (forkC I)) ∧ OwnJ w3 q ub ((I.take j).drop (forkC I)) ∧ Sep ua ub ∧ Below q W2 w3 ∧ q ≤ w3.heap.size) (fun _ _ s34 _ => (m - intOf s34).toNat)
        case atStart =>
          refine ⟨0, _, _, rfl, rfl, rfl, Nat.zero_le _, ?_, ?_, sp, Below.refl _ _, sb⟩
          · rw [List.take_zero, List.take_nil]
            exact oa
          · rw [List.take_zero, List.drop_nil]
            exact ob
        case round =>
          clear oa ob sp sb
          rename_i wr
          obtain ⟨j, ua, ub, rfl, rfl, rfl, hj, OA, OB, SP, B2, S2⟩ := hrel
          by_cases hji : j < m
          · have hji' : (j : Int) < m := by omega
            obtain ⟨hsz1, hex⟩ := HAT.out j hji
            have hjL : j < I.length := by rw [HL.out]; exact hji
            have HBV := Lib.hid (fork_bit HR.out H2.out hjL)
            have HLO := Lib.hid (part_low' (L := I) (c := forkC I) hjL)
            have HHI := Lib.hid (part_high' (L := I) (c := forkC I) hjL)
            have lenA : ((I.take j).take (forkC I)).length ≤ 1000000 := by rw [List.length_take, List.length_take]; omega
            have lenB : ((I.take j).drop (forkC I)).length ≤ 1000000 := by rw [List.length_drop, List.length_take]; omega
            rw [← HXN.out] at HBV
            generalize I.getD j zeroItm = x at *
            have b2 : Below wr.heap.size wr (wr.alloc (.cells (cellsI x) 53)) := (Below.refl _ _).alloc (Nat.le_refl _) _
            have HBT := Lib.hid (rBit_any x.b zn (wr.alloc (.cells (cellsI x) 53)))
            have B3 := B2.trans (b2.mono S2)
            have S3 := Nat.le_trans S2 b2.size
            have RG2 : rowAt wr g = some cur := (rowAt_below B2 hgq).trans RG
            have Q2 : rowAt (wr.alloc (.cells (cellsI x) 53)) wr.heap.size = some (cellsI x) := rowAt_of_heap (World.alloc_heap_new _ _)
            have KX : (wr.alloc (.cells (cellsI x) 53)).cell? ⟨px, 0, none⟩ = some (.int .i64 zn) := (cell_of_rowAt ((rowAt_below B3 hpq).trans RX) 0).trans g0
            have OA2 := OA.below b2
            have OB2 := OB.below b2
            clear OA OB B2 S2 b2 hjL
            by_cases hc : j < forkC I
            · rw [HBV.out.1 hc] at HBT
              obtain ⟨e1, e2⟩ := HLO.out hc
              have E1 := Lib.hid e1
              have E2 := Lib.hid e2
              clear e1 e2 HLO HHI HBV hc
              generalize (I.take j).take (forkC I) = LA at *
              generalize (I.take j).drop (forkC I) = LB at *
              go_wp2_with fail
              refine HBT.out.mono ?_
              rintro e w4 ⟨rfl, b4⟩
              have O4 := OA2.below b4
              have P4 := OB2.below b4
              have B4 := B3.trans (b4.mono S3)
              have S4 := Nat.le_trans S3 b4.size
              have Q4 := rowAt_past b4 Q2
              clear OA2 OB2 B3 S3 b4 Q2 HBT RG2 KX
              have Oq : OwnJ (w4.alloc (.cells (cellsI x) 53)) (q) _ _ := O4.below ((Below.refl _ _).alloc (Nat.le_refl _) _)
              have Or : OwnJ (w4.alloc (.cells (cellsI x) 53)) (q) _ _ := P4.below ((Below.refl _ _).alloc (Nat.le_refl _) _)
              have rq : rowAt (w4.alloc (.cells (cellsI x) 53)) (w4.heap.size) = some (cellsI x) := rowAt_alloc_at _ _ _ _ (by first | rfl | exact (World.size_alloc _ _).symm)
              have Sq : (q) ≤ (w4.alloc (.cells (cellsI x) 53)).heap.size := by simp only [World.size_alloc] at *; omega
              have Bq : Below (q) W2 (w4.alloc (.cells (cellsI x) 53)) := B4.alloc S4 _
              have Lq := lenA
              go_wp2_with (at_builtin; refine wpList_putJ rfl _ _ rfl (q) _ _ rfl Oq x (w4.heap.size) 1 rfl rq Sq Lq ?_; intro v' w' u1 u2 u3; have Bz := Bq.grown u2 Sq (fun k e => (Oq.block e).1); have Sz := Nat.le_trans Sq u2.size; have Oz := Lib.hid (Or.sep SP u2); have Pz := Lib.hid (SP.grow Or u3); clear Oq Or rq Sq Bq Lq u2 u3)
              rw [E1.out] at u1
              rw [← E2.out] at Oz
              clear O4 P4 B4 S4 lenA lenB SP E1 E2 Q4
              obtain ⟨ao', cap', rfl⟩ := u1.shape
              have U1 := Lib.hid u1
              generalize ((I.take (j + 1)).take (forkC I)).length = kk at *
              clear u1
              go_wp2
              go_roundw
              case rel => exact ⟨j + 1, _, _, rfl, rfl, by go_num, hji, U1.out, Oz.out, Pz.out, Bz, Sz⟩
              case measure => simp [intOf]; omega
            · rw [HBV.out.2 hc] at HBT
              obtain ⟨e1, e2⟩ := HHI.out hc
              have E1 := Lib.hid e1
              have E2 := Lib.hid e2
              clear e1 e2 HLO HHI HBV hc
              generalize (I.take j).take (forkC I) = LA at *
              generalize (I.take j).drop (forkC I) = LB at *
              have SQ := SP.symm
              go_wp2_with fail
              refine HBT.out.mono ?_
              rintro e w4 ⟨rfl, b4⟩
              have O4 := OA2.below b4
              have P4 := OB2.below b4
              have B4 := B3.trans (b4.mono S3)
              have S4 := Nat.le_trans S3 b4.size
              have Q4 := rowAt_past b4 Q2
              clear OA2 OB2 B3 S3 b4 Q2 HBT RG2 KX
              have Oq : OwnJ (w4.alloc (.cells (cellsI x) 53)) (q) _ _ := P4.below ((Below.refl _ _).alloc (Nat.le_refl _) _)
              have Or : OwnJ (w4.alloc (.cells (cellsI x) 53)) (q) _ _ := O4.below ((Below.refl _ _).alloc (Nat.le_refl _) _)
              have rq : rowAt (w4.alloc (.cells (cellsI x) 53)) (w4.heap.size) = some (cellsI x) := rowAt_alloc_at _ _ _ _ (by first | rfl | exact (World.size_alloc _ _).symm)
              have Sq : (q) ≤ (w4.alloc (.cells (cellsI x) 53)).heap.size := by simp only [World.size_alloc] at *; omega
              have Bq : Below (q) W2 (w4.alloc (.cells (cellsI x) 53)) := B4.alloc S4 _
              have Lq := lenB
              go_wp2_with (at_builtin; refine wpList_putJ rfl _ _ rfl (q) _ _ rfl Oq x (w4.heap.size) 1 rfl rq Sq Lq ?_; intro v' w' u1 u2 u3; have Bz := Bq.grown u2 Sq (fun k e => (Oq.block e).1); have Sz := Nat.le_trans Sq u2.size; have Oz := Lib.hid (Or.sep SQ u2); have Pz := Lib.hid (SQ.grow Or u3); clear Oq Or rq Sq Bq Lq u2 u3)
              rw [E2.out] at u1
              rw [← E1.out] at Oz
              clear O4 P4 B4 S4 lenA lenB SP SQ E1 E2 Q4
              obtain ⟨ao', cap', rfl⟩ := u1.shape
              have U1 := Lib.hid u1
              generalize ((I.take (j + 1)).drop (forkC I)).length = kk at *
              clear u1
              go_wp2
              go_roundw
              case rel => exact ⟨j + 1, _, _, rfl, rfl, by go_num, hji, Oz.out, U1.out, Pz.out.symm, Bz, Sz⟩
              case measure => simp [intOf]; omega
          · obtain rfl : j = m := by omega
            have hji' : ¬ (j : Int) < j := by omega
            have e1 : I.take j = I := by rw [← HL.out, List.take_length]
            rw [e1] at OA OB
            obtain ⟨hc0, hcl⟩ := (forkC_at HR.out).inside HR.out H2.out
            have eA : I.take (forkC I) = (P.take (forkC I)).map leafI := by rw [List.map_take, HI.out]
            have eB : I.drop (forkC I) = (P.drop (forkC I)).map leafI := by rw [List.map_drop, HI.out]
            have lA : (P.take (forkC I)).length = forkC I := by rw [List.length_take, HM.out]; have := HL.out; omega
            have lB : (P.drop (forkC I)).length = j - forkC I := by rw [List.length_drop, HM.out]
            have rA : RiseI ((P.take (forkC I)).map leafI) := by rw [← eA]; exact HR.out.take _
            have rB : RiseI ((P.drop (forkC I)).map leafI) := by rw [← eB]; exact HR.out.drop _
            have cA := covF_len f (touchL K) (P.take (forkC I)) (by omega) rA
            have cB := covF_len f (touchL K) (P.drop (forkC I)) (by have := HL.out; omega) rB
            rw [HK1.out, lA] at cA
            rw [HK2.out, lB] at cB
            rw [eA] at OA
            rw [eB] at OB
            have bw : Below w.heap.size w wr := Bw.trans (B2.mono hwq)
            have H1 := HIH.out (P.take (forkC I)) ua (.slice aok K.length capk) wr (by have := HF.out; have := HL.out; have := HM.out; omega) (by omega) rA (by have := HL.out; omega) OA.at ((HBK.out.below (Nat.le_refl _) bw).below bw.size (Below.refl _ _))
            rw [HK1.out] at H1
            have HJ1 := Lib.hid H1
            have HJ2 : Hid (∀ w3, Below wr.heap.size wr w3 → Calls Tryz.prog 24 #[ub, .slice aok K.length capk] w3 fun e w' => ∃ u1 u2, e = .returned (.tuple #[u1, u2]) ∧ AtJ w'.heap.size w' u1 K2.1 ∧ AtJ w'.heap.size w' u2 (K2.2.map leafI) ∧ Below w3.heap.size w3 w') := Lib.hid fun w3 h3 => by
              have := HIH.out (P.drop (forkC I)) ub (.slice aok K.length capk) w3 (by have := HF.out; have := HM.out; omega) (by have := HL.out; omega) rB (by omega) (OB.below h3).at (((HBK.out.below (Nat.le_refl _) bw).below bw.size h3).below h3.size (Below.refl _ _))
              rw [HK2.out] at this
              exact this
            have C1 := Lib.hid cA
            have C2 := Lib.hid cB
            have HC := Lib.hid (And.intro hc0 hcl)
            have BW := Lib.hid bw
            clear H1 OA OB SP B2 e1 hc0 hcl eA eB lA lB rA rB cA cB bw
            go_wp2_with fail
            refine HJ1.out.mono ?_
            rintro e w4 ⟨u1, u2, rfl, p1, p2, b4⟩
            have HJ3 := Lib.hid (HJ2.out w4 b4)
            have P1 := Lib.hid p1
            have P2 := Lib.hid p2
            have BW2 := Lib.hid (BW.out.trans (b4.mono BW.out.size))
            obtain ⟨ao1, cap1, rfl, _⟩ := p1
            obtain ⟨ao2, cap2, rfl, _⟩ := p2
            clear HJ1 HJ2 b4 BW
            go_wp2_with fail
            refine HJ3.out.mono ?_
            rintro e w5 ⟨u3, u4, rfl, p3, p4, b5⟩
            have P1' := Lib.hid ((P1.out.below (Nat.le_refl _) b5).below b5.size (Below.refl _ _))
            have P2' := Lib.hid ((P2.out.below (Nat.le_refl _) b5).below b5.size (Below.refl _ _))
            have P3 := Lib.hid p3
            have P4 := Lib.hid p4
            have BW3 := Lib.hid (BW2.out.trans (b5.mono BW2.out.size))
            obtain ⟨ao3, cap3, rfl, _⟩ := p3
            obtain ⟨ao4, cap4, rfl, _⟩ := p4
            clear HJ3 P1 P2 b5 BW2
            have bn : Below w5.heap.size w5 (w5.alloc (.cells #[] 53)) := (Below.refl _ _).alloc (Nat.le_refl _) _
            have O1 := ownJ_empty w5
            rw [List.length_map] at P2' P4
            have A1 := (P1'.out.below (Nat.le_refl _) bn)
            have l1 : K1.1.length ≤ 500000 := by have := C1.out.1; have := HC.out; have := HL.out; omega
            have l2 : (K1.2.map leafI).length ≤ 500000 := by rw [List.length_map]; have := C1.out.2; have := HC.out; have := HL.out; omega
            have l3 : K2.1.length ≤ 500000 := by have := C2.out.1; have := HC.out; have := HL.out; omega
            have l4 : (K2.2.map leafI).length ≤ 500000 := by rw [List.length_map]; have := C2.out.2; have := HC.out; have := HL.out; omega
            have q5 : w5.heap.size ≤ (w5.alloc (.cells #[] 53)).heap.size := bn.size
            clear hji' S2
            go_wp2_with (first | (at_builtin; refine wpList_putsJ rfl _ _ rfl w5.heap.size _ [] rfl O1 w5.heap.size _ K1.1 rfl A1 q5 (Nat.zero_le _) l1 ?_; intro v1 w6 u1 u2 u3; rw [List.nil_append] at u1; have b6 := bn.grown u2 q5 (fun k e => (O1.block e).1); have A3 := P3.out.below (Nat.le_refl _) b6; have q6 := Nat.le_trans q5 u2.size; have l5 : K1.1.length ≤ 1000000 := (by omega); obtain ⟨ao6, cap6, rfl⟩ := u1.shape; have U1 := Lib.hid u1; have BB6 := Lib.hid b6; have AA3 := Lib.hid A3; clear A1 O1 u1 u2 u3 bn q5 b6 A3) | (at_builtin; refine wpList_putsJ rfl _ _ rfl w5.heap.size _ K1.1 rfl U1.out w5.heap.size _ K2.1 rfl AA3.out q6 l5 l3 ?_; intro v2 w7 y1 y2 y3; have b7 := BB6.out.grown y2 q6 (fun k e => (U1.out.block e).1); have q7 := Nat.le_trans q6 y2.size; have c8 : Below w7.heap.size w7 (w7.alloc (.cells #[] 53)) := (Below.refl _ _).alloc (Nat.le_refl _) _; have O8 := ownJ_empty w7; have A8 := P2'.out.below (Nat.le_refl _) (b7.trans (c8.mono q7)); have q8 := c8.size; obtain ⟨ao7, cap7, rfl⟩ := y1.shape; have Y1 := Lib.hid y1.at; have BB7 := Lib.hid b7; have OO8 := Lib.hid O8; have AA8 := Lib.hid A8; have CC8 := Lib.hid c8; clear U1 AA3 y2 y3 BB6 q6 y1 l5 b7 O8 A8 c8) | (at_builtin; refine wpList_putsJ rfl _ _ rfl w7.heap.size _ [] rfl OO8.out w5.heap.size _ (K1.2.map leafI) rfl AA8.out q8 (Nat.zero_le _) l2 ?_; intro v3 w9 x1 x2 x3; rw [List.nil_append] at x1; have b9 := CC8.out.grown x2 q8 (fun k e => (OO8.out.block e).1); have A9 := P4.out.below (Nat.le_refl _) (BB7.out.trans (b9.mono q7)); have q9 := Nat.le_trans q8 x2.size; have l6 : (K1.2.map leafI).length ≤ 1000000 := (by omega); obtain ⟨ao9, cap9, rfl⟩ := x1.shape; rw [List.length_map] at x1; have XX1 := Lib.hid x1; have BB9 := Lib.hid b9; have AA9 := Lib.hid A9; clear AA8 OO8 x1 x2 x3 CC8 q8 b9 A9) | (at_builtin; refine wpList_putsJ rfl _ _ rfl w7.heap.size _ (K1.2.map leafI) rfl XX1.out w5.heap.size _ (K2.2.map leafI) rfl AA9.out q9 l6 l4 ?_; intro v4 w10 z1 z2 z3; have b10 := BB9.out.grown z2 q9 (fun k e => (XX1.out.block e).1); have q10 := Nat.le_trans q9 z2.size; obtain ⟨ao8, cap8, rfl⟩ := z1.shape; have Z1 := Lib.hid z1.at; have BB10 := Lib.hid b10; clear XX1 AA9 z2 z3 BB9 q9 z1 l6 b10))
            have R1 := Lib.hid ((Y1.out.below (Nat.le_refl _) BB10.out).below BB10.out.size (Below.refl _ _))
            have R2 := Lib.hid (BW3.out.trans ((BB7.out.trans (BB10.out.mono q7)).mono BW3.out.size))
            clear Y1 BB7 BB10
            rw [List.length_append] at R1
            rw [List.length_append, List.length_map, List.length_map] at Z1
            rw [List.map_append]
            go_ret2
            exact ⟨_, _, rfl, R1.out, Z1.out, R2.out⟩
end Go.Proofs.YtmabigcolabbmaaGreatDoor
namespace Go.Proofs.YtmabigcolabbmaaGreatDoor
open Go Go.RowKit Go.Lib

theorem chk_over {x y : Itm} (hx : goodI x = true) (hy : goodI y = true) : chkI x y = if (overR x y || overR y x || !decide (order x.b y.b = -1)) = true then 3 else 0 := by
  have hc := common_symm x.b y.b
  unfold chkI overR
  rw [if_pos (by rw [hx, hy]; rfl)]
  rw [← hc]
  by_cases h1 : order x.b y.b = -1
  · by_cases h : x.n ≤ (common x.b y.b : Int) ∨ y.n ≤ (common x.b y.b : Int)
    · rw [if_pos (by rcases h with h | h; exact .inl h; exact .inr (.inl h)), if_pos]
      simp only [h1, Bool.or_eq_true, Bool.and_eq_true, decide_eq_true_eq]
      left
      omega
    · rw [if_neg (by omega), if_neg]
      simp only [h1, Bool.or_eq_true, Bool.and_eq_true, decide_eq_true_eq]
      simp
      omega
  · rw [if_pos (.inr (.inr h1)), if_pos]
    simp [h1]
theorem chk_bad {x y : Itm} (hy : goodI y = false) : chkI x y = 1 := by
  unfold chkI
  rw [if_neg (by rw [hy]; simp)]
/-- What is left to check, once some were looked at. -/
def leftC (L : List Itm) (i : Nat) : Int := if i = 0 then (if L.length = 0 then 0 else if goodI (L.getD 0 zeroItm) = false then 1 else chkR L) else chkR (L.drop (i - 1))
theorem leftC_zero {L : List Itm} (h : ¬ 2000 < L.length) : chkL L = leftC L 0 := by
  cases L with
  | nil => rfl
  | cons x r =>
    rw [chkL_cons x r h]
    simp [leftC]
set_option maxRecDepth 100000 in
set_option maxHeartbeats 4000000 in
theorem r16Check_any (v : Value) (L : List Itm) (hL : L.length ≤ 1000000) (w : World) (hA : AtJ w.heap.size w v L) :
    Calls Tryz.prog 10 #[v] w fun e w' => e = .returned (.int .i64 (chkL L)) ∧ Below w.heap.size w w' := by
  obtain ⟨ao, cap, rfl, hA2⟩ := hA
  obtain ⟨B, hB⟩ : ∃ B, w.heap.size = B := ⟨_, rfl⟩
  obtain ⟨m, hm⟩ : ∃ m, L.length = m := ⟨_, rfl⟩
  have HM : Hid (L.length = m) := hm
  have HB : Hid (w.heap.size = B) := hB
  have hm1 : (m : Int) ≤ 1000000 := by omega
  have HA := Lib.hid hA2
  obtain ⟨E, hE⟩ : ∃ E, chkL L = E := ⟨_, rfl⟩
  rw [hm, hB] at HA
  by_cases hbig : 2000 < L.length
  · have hb2 : (2000 : Int) < m := by omega
    obtain rfl : E = 2 := by rw [← hE]; unfold chkL; rw [if_pos hbig]
    rw [hm, hE]
    clear hA2 hm hL hbig hE
    go_enter Tryz.func10, Tryz.ntmps10
    go_wp2
    go_ret
    exact ⟨rfl, Below.refl _ _⟩
  · have hb2 : ¬ (2000 : Int) < m := by omega
    have HE : Hid (leftC L 0 = E) := (leftC_zero hbig).symm.trans hE
    rw [hm, hE, hB]
    clear hA2 hm hL hbig hE hB
    go_enter Tryz.func10, Tryz.ntmps10
    go_wp2
    go_loopw [10] (fun s10 wr => ∃ (i : Nat), s10 = .int .i64 i ∧ i ≤ m ∧ Hid (leftC L i = E ∧ (0 < i → goodI (L.getD (i - 1) zeroItm) = true)) ∧ Below B w wr ∧ B ≤ wr.heap.size) (fun s10 _ => (m - intOf s10).toNat)
    case atStart => exact ⟨0, rfl, Nat.zero_le _, ⟨HE.out, fun h => absurd h (Nat.lt_irrefl 0)⟩, Below.refl _ _, Nat.le_of_eq HB.out.symm⟩
    case round =>
      obtain ⟨i, rfl, hi, HI, B1, S1⟩ := hrel
      by_cases hlt : i < m
      · have hlt' : (i : Int) < m := by omega
        obtain ⟨g, o, cur, rfl, hg, hr0, hsz, hex⟩ := HA.out i hlt
        have hr1 : rowAt wr g = some cur := (rowAt_below B1 hg).trans hr0
        have hsz1 : o + i * 66 + 66 ≤ cur.size := by omega
        have HL : Hid (i < L.length) := by rw [HM.out]; exact hlt
        obtain ⟨x, hx⟩ : ∃ x, L.getD i zeroItm = x := ⟨_, rfl⟩
        rw [hx] at hex
        have HX := Lib.hid hx
        have b2 : Below wr.heap.size wr (wr.alloc (.cells (cellsI x) 53)) := (Below.refl _ _).alloc (Nat.le_refl _) _
        have HG := Lib.hid (r15Good_any x (wr.alloc (.cells (cellsI x) 53)))
        have r1 : rowAt (wr.alloc (.cells (cellsI x) 53)) wr.heap.size = some (cellsI x) := rowAt_of_heap (World.alloc_heap_new _ _)
        have r2 := rowAt_past b2 hr1
        have B2 : Below B w (wr.alloc (.cells (cellsI x) 53)) := B1.trans (b2.mono S1)
        have S2 := Nat.le_trans S1 b2.size
        obtain ⟨gx, hgx⟩ : ∃ gx, goodI x = gx := ⟨_, rfl⟩
        have HGX := Lib.hid hgx
        rw [hgx] at HG
        have H0 : Hid (0 < i → leftC L i = if chkI (L.getD (i - 1) zeroItm) x = 0 then chkR (L.drop i) else chkI (L.getD (i - 1) zeroItm) x) := by
          show _ → _
          intro h0
          have hs := chkR_step L (i - 1) (by rw [show i - 1 + 1 = i by omega]; exact HL.out)
          rw [show i - 1 + 1 = i by omega, hx] at hs
          rw [leftC, if_neg (by omega)]
          exact hs
        have H1 : Hid (i = 0 → leftC L i = if gx = false then 1 else chkR (L.drop i)) := by
          show _ → _
          intro h0
          subst h0
          have := HL.out
          rw [leftC, if_pos rfl, if_neg (by omega), hx, hgx]
          rfl
        have H2 : Hid (chkR (L.drop i) = leftC L (i + 1)) := by
          show _ = _
          rw [leftC, if_neg (by omega), Nat.add_sub_cancel]
        clear hr0 B1 S1 b2 hx hgx
        cases gx
        · obtain rfl : E = 1 := by
            rw [← HI.out.1]
            by_cases h0 : i = 0
            · rw [H1.out h0]; rfl
            · rw [H0.out (by omega), chk_bad HGX.out]; rfl
          clear H0 H1 H2 HI
          go_wp2_with fail
          refine HG.out.mono ?_
          rintro e w3 ⟨rfl, b3⟩
          have B3 := Lib.hid (B2.trans (b3.mono S2))
          clear b3 B2 S2 HG r1 r2 hr1
          go_wp2
          go_ret
          exact ⟨rfl, B3.out⟩
        · go_wp2_with fail
          refine HG.out.mono ?_
          rintro e w3 ⟨rfl, b3⟩
          have B4 := B2.trans (b3.mono S2)
          have S4 := Nat.le_trans S2 b3.size
          have q1 := rowAt_past b3 r1
          have q2 := rowAt_past b3 r2
          clear b3 B2 S2 HG r1 r2 hr1
          have B2 := B4
          have S2 := S4
          clear B4 S4
          by_cases h0 : i = 0
          · have hi0 : ¬ (0 : Int) < i := by omega
            have HN : Hid (leftC L (i + 1) = E ∧ (0 < i + 1 → goodI (L.getD (i + 1 - 1) zeroItm) = true)) := by
              refine ⟨?_, fun _ => by rw [Nat.add_sub_cancel, HX.out]; exact HGX.out⟩
              rw [← HI.out.1, H1.out h0, if_neg (by decide)]
              exact H2.out.symm
            clear H0 H1 H2 HI q1 q2
            subst h0
            go_wp2_with fail
            refine wp_region_past (by kernel_rfl) (by kernel_rfl) ?_
            iterate 32 go_big_quiet_step (fail)
            refine wpQuiet_nil ?_
            intro wn hw2
            obtain ⟨⟨wx, hn⟩, rfl⟩ := hw2
            try dsimp only
            have B3 := B2.trans (hn.mono S2)
            have S3 := Nat.le_trans S2 hn.size
            clear hn B2 S2
            go_wp2
            go_roundw
            case rel => exact ⟨0 + 1, by go_num, hlt, HN.out, B3, S3⟩
            case measure => simp [intOf]; omega
          · have hi0 : decide (0 < i) = true := decide_eq_true (by omega)
            obtain ⟨k, hk⟩ : ∃ k, i = k + 1 := ⟨i - 1, by omega⟩
            have hkz : IntKind.i64.wrap ((i : Int) - 1) = (k : Int) := by rw [IntWalk.i64_in _ (by omega)]; omega
            have hkm : k < m := by omega
            have hkmi : (k : Int) < m := by omega
            have hki : i - 1 = k := by omega
            rw [hki] at H0 HI
            obtain ⟨ao', o', cur', e1, hg', hr', hsz', hex'⟩ := HA.out k hkm
            cases e1
            obtain rfl : cur' = cur := by
              have h1 := (rowAt_below (B2 : Below B w _) hg').trans hr'
              rw [q2] at h1
              exact (Option.some.inj h1).symm
            have hsz2 : o + k * 66 + 66 ≤ cur'.size := by omega
            have hsz3 : o + k * 66 + 1 + 32 ≤ cur'.size := by omega
            have hexb := ext_b hex'
            have HP := Lib.hid (HI.out.2 (by omega))
            have HEq := Lib.hid ((H0.out (by omega)).symm.trans HI.out.1)
            generalize L.getD k zeroItm = p at *
            rw [chk_over HP.out HGX.out] at HEq
            have HO1 := Lib.hid (fun w => r16over_any p x w)
            have HO2 := Lib.hid (fun w => r16over_any x p w)
            have HO3 := Lib.hid (fun w => rOrder_any p.b x.b w)
            have p1 := fun z : Past w3 => Past.row q1 z
            have p2 := fun z : Past w3 => Past.row q2 z
            have HN0 : Hid (0 < i + 1 → goodI (L.getD (i + 1 - 1) zeroItm) = true) := by
              show _ → _
              intro _
              rw [Nat.add_sub_cancel, HX.out]
              exact HGX.out
            generalize overR p x = o1 at *
            generalize overR x p = o2 at *
            generalize hzz : order p.b x.b = z at HO3 HEq
            clear H0 H1 HI q1 q2 h0 hk hki hg' hr' hsz' hzz
            cases o1
            · cases o2
              · by_cases hz : z = -1
                · subst hz
                  have HN : Hid (leftC L (i + 1) = E ∧ (0 < i + 1 → goodI (L.getD (i + 1 - 1) zeroItm) = true)) := by
                    refine ⟨?_, HN0.out⟩
                    rw [← H2.out]
                    simpa using HEq.out
                  clear H2 HEq HN0
                  go_wp2_with fail
                  refine wp_region_past (by kernel_rfl) (by kernel_rfl) ?_
                  iterate 9 go_big_quiet_step (fail)
                  go_big_quiet_step (exact Past.call (HO1.out _))
                  iterate 7 go_big_quiet_step (fail)
                  go_big_quiet_step (exact Past.call (HO2.out _))
                  iterate 10 go_big_quiet_step (fail)
                  go_big_quiet_step (exact Past.call (HO3.out _))
                  iterate 3 go_big_quiet_step (fail)
                  refine wpQuiet_nil ?_
                  intro wn hw2
                  obtain ⟨⟨wx, hn⟩, rfl⟩ := hw2
                  try dsimp only
                  clear p1 p2 HO1 HO2 HO3
                  have B3 := B2.trans (hn.mono S2)
                  have S3 := Nat.le_trans S2 hn.size
                  clear hn B2 S2
                  go_wp2
                  go_roundw
                  case rel => exact ⟨i + 1, by go_num, hlt, HN.out, B3, S3⟩
                  case measure => simp [intOf]; omega
                · have hz2 : (z != -1) = true := bne_iff_ne.2 hz
                  obtain rfl : E = 3 := by
                    have := HEq.out
                    simp [hz] at this
                    exact this.symm
                  clear H2 HEq HN0 hz
                  go_wp2_with fail
                  refine wp_region_past (by kernel_rfl) (by kernel_rfl) ?_
                  iterate 9 go_big_quiet_step (fail)
                  go_big_quiet_step (exact Past.call (HO1.out _))
                  iterate 7 go_big_quiet_step (fail)
                  go_big_quiet_step (exact Past.call (HO2.out _))
                  iterate 10 go_big_quiet_step (fail)
                  go_big_quiet_step (exact Past.call (HO3.out _))
                  iterate 3 go_big_quiet_step (fail)
                  refine wpQuiet_nil ?_
                  intro wn hw2
                  obtain ⟨⟨wx, hn⟩, rfl⟩ := hw2
                  try dsimp only
                  clear p1 p2 HO1 HO2 HO3
                  have B3 := Lib.hid (B2.trans (hn.mono S2))
                  clear hn B2 S2
                  go_wp2
                  go_ret
                  exact ⟨rfl, B3.out⟩
              · obtain rfl : E = 3 := by
                  have := HEq.out
                  simp at this
                  exact this.symm
                clear H2 HEq HN0
                go_wp2_with fail
                refine wp_region_past (by kernel_rfl) (by kernel_rfl) ?_
                iterate 9 go_big_quiet_step (fail)
                go_big_quiet_step (exact Past.call (HO1.out _))
                iterate 7 go_big_quiet_step (fail)
                go_big_quiet_step (exact Past.call (HO2.out _))
                iterate 14 go_big_quiet_step (fail)
                refine wpQuiet_nil ?_
                intro wn hw2
                obtain ⟨⟨wx, hn⟩, rfl⟩ := hw2
                try dsimp only
                clear p1 p2 HO1 HO2 HO3
                have B3 := Lib.hid (B2.trans (hn.mono S2))
                clear hn B2 S2
                go_wp2
                go_ret
                exact ⟨rfl, B3.out⟩
            · obtain rfl : E = 3 := by
                have := HEq.out
                simp at this
                exact this.symm
              clear H2 HEq HN0
              go_wp2_with fail
              refine wp_region_past (by kernel_rfl) (by kernel_rfl) ?_
              iterate 9 go_big_quiet_step (fail)
              go_big_quiet_step (exact Past.call (HO1.out _))
              iterate 22 go_big_quiet_step (fail)
              refine wpQuiet_nil ?_
              intro wn hw2
              obtain ⟨⟨wx, hn⟩, rfl⟩ := hw2
              try dsimp only
              clear p1 p2 HO1 HO2 HO3
              have B3 := Lib.hid (B2.trans (hn.mono S2))
              clear hn B2 S2
              go_wp2
              go_ret
              exact ⟨rfl, B3.out⟩
      · obtain rfl : i = m := by omega
        have hlt' : ¬ (i : Int) < i := by omega
        obtain rfl : E = 0 := by
          rw [← HI.out.1, leftC]
          split
          · rename_i h
            rw [if_pos (by rw [HM.out]; exact h)]
          · rename_i h
            rw [chkR_last L (i - 1) (by rw [HM.out]; omega)]
        have B3 := Lib.hid B1
        clear B1 HI S1
        go_wp2
        go_ret
        exact ⟨rfl, B3.out⟩
end Go.Proofs.YtmabigcolabbmaaGreatDoor
namespace Go.Proofs.YtmabigcolabbmaaGreatDoor
open Go Go.RowKit Go.Sort Go.Lib

theorem cover_nil {L : List Lf} {K : List Lab} (h : chkL (itemsL L) ≠ 0) : coverL L K = ([], []) := by rw [coverL, if_pos h]
theorem cover_is {L : List Lf} {K : List Lab} (h : chkL (itemsL L) = 0) : coverL L K = covF (risingL L).length (touchL K) (risingL L) := by
  rw [coverL, if_neg (by rw [h]; decide), show (risingL L).length = L.length from isortL_length L]
set_option maxRecDepth 100000 in
/-- The document's Cover of the leaves' items. -/
theorem r16Cover_all (L : List Lf) (K : List Lab) (hL : L.length ≤ 1000) (hK : K.length ≤ 1000000) (h : chkL (itemsL L) = 0) (v kv : Value) (w : World) (hA : AtJ w.heap.size w v (itemsL L)) (hB : AtL w.heap.size w kv K) :
    Calls Tryz.prog 24 #[v, kv] w fun e w' => ∃ u1 u2, e = .returned (.tuple #[u1, u2]) ∧ AtJ w'.heap.size w' u1 (coverL L K).1 ∧ AtJ w'.heap.size w' u2 ((coverL L K).2.map leafI) ∧ Below w.heap.size w w' := by
  have hl : (risingL L).length = L.length := isortL_length L
  rw [cover_is h]
  by_cases h0 : L.length = 0
  · have e1 : risingL L = [] := List.eq_nil_of_length_eq_zero (by omega)
    obtain ⟨ao, cap, rfl, _⟩ := hA
    have e2 : (itemsL L).length = 0 := by rw [items_rising, e1]; rfl
    rw [e2, e1]
    refine (r16Cover_none ao cap kv w).mono ?_
    rintro e w' ⟨rfl, hb⟩
    exact ⟨_, _, rfl, atJ_nil _ _, atJ_nil _ _, hb⟩
  · refine r16Cover_any K hK (risingL L).length (risingL L) v kv w (Nat.le_refl _) (by omega) ?_ (by omega) ?_ hB
    · rw [← items_rising]
      exact chkL_rise h
    · rw [← items_rising]
      exact hA
end Go.Proofs.YtmabigcolabbmaaGreatDoor
namespace Go.Proofs.YtmabigcolabbmaaGreatDoor
open Go Go.ChangeShapes Go.WideShapes Go.ChangeAt Go.ChangeMaps Go.RowKit

theorem words_of {P : Program} {W : World} {enc : TypeId × Value → Unit} {sp : Nat → Bool} {T e n g fuel : Nat} {L : List Nat} {cs : Array Value} {ps : List MemPlace} (hcell : ∀ i, W.cell? ⟨g, i, none⟩ = cs[i]?)
    (hu : P.underlying T = some (.array n e)) (he : P.underlying e = some (.int .u32)) (ce : P.cellsOf e = 1) (hn : L.length = n)
    (hd : DataW.trod enc P W 0 sp false fuel T cs.toList = some (.agg (L.map fun k : Nat => .lit (.int .u32 (k : Int))), ps)) : ∀ i, i < n → W.cell? ⟨g, i, none⟩ = some (.int .u32 (L.getD i 0 : Nat)) := by
  obtain ⟨xs, m, _, hx, _, hl, hel⟩ := DataW.trod_array hu hd
  intro i hi
  have h1 := hel i hi
  rw [ce, List.getElem?_eq_getElem (show i < xs.length by omega)] at h1
  obtain ⟨k, e1, e2, _⟩ := DataW.trod_int he h1
  simp only [Prod.mk.injEq, DataW.agg.injEq] at hx
  have h2 : (L.map fun k : Nat => (DataW.lit (.int .u32 (k : Int)) : DataW Unit))[i]? = (xs.map (·.1))[i]? := by rw [hx.1]
  rw [List.getElem?_map, List.getElem?_map, List.getElem?_eq_getElem (show i < xs.length by omega), List.getElem?_eq_getElem (show i < L.length by omega), e2] at h2
  simp only [Option.map_some, Option.some.injEq, DataW.lit.injEq, Lit.int.injEq, true_and] at h2
  rw [hcell i, List.getD_eq_getElem?_getD, List.getElem?_eq_getElem (show i < L.length by omega)]
  have h3 : (List.take 1 (List.drop (i * 1) cs.toList))[0]? = some (.int .u32 k) := by rw [e1]; rfl
  have h4 : cs[i]? = some (.int .u32 k) := by simpa using h3
  rw [h4, ← h2]
  rfl
theorem gCubes : Tryz.prog.globalNamed "chirograph/sha.cubes" = some 1 := by kernel_rfl
theorem tCubes : (Tryz.prog.globals[1]?).map (·.type) = some 103 := by kernel_rfl
def laidSha {H : Type} : List (String × DataW H) := [("chirograph/sha.cubes", Rows.laid_chirograph_sha_cubes)]
theorem cellsOf_w32 : Tryz.prog.cellsOf 100 = 1 := by kernel_rfl
theorem cubesL_wv : ∀ i, i < 64 → wv (cubeT i) = ((cubesL.getD i 0 : Nat) : Int) := by
  have h : ((List.range 64).all fun i => (cubeT i).toNat == cubesL.getD i 0) = true := by decide +kernel
  intro i hi
  have := List.all_eq_true.1 h i (by simpa using hi)
  rw [beq_iff_eq] at this
  rw [wv, this]
theorem cubes_of_cells {W : World} (h : ∀ i, i < 64 → W.cell? ⟨1, i, none⟩ = some (.int .u32 (cubesL.getD i 0 : Nat))) : Cubes W := fun i hi => by
  rw [cubesL_wv i hi]
  exact h i hi
/-- What the condition gives: the table lies there. -/
theorem cubes_of_laid {W : World} (h : laidMetH Tryz.prog laidSha W) : Cubes W := by
  rw [MakeChecks.laidMetH_plain _ _ _ (by kernel_rfl)] at h
  obtain ⟨ps, ⟨g0, t0, cs0, f0, p0, q0, hg0, ht0, hv0, hd0, _, _⟩, _, _⟩ := h
  obtain rfl := Option.some.inj (gCubes.symm.trans hg0)
  obtain rfl := Option.some.inj (tCubes.symm.trans ht0)
  exact cubes_of_cells (words_of (L := cubesL) (World.var?_cell gCubes hv0) Tryz.underlying103 Tryz.underlying100 cellsOf_w32 rfl hd0)
/-- The door's own heap meets the condition. -/
theorem door_sha (os : Os) (args : Array Value) : laidMetH Tryz.prog laidSha ((World.doorLaid Tryz.prog 2000 os).forCall (fun _ _ => 0) ⟨#[], args, []⟩).memory :=
  laidMetH_of_parts3 (fuel := 8) (laidMet_of_run' 8 (by kernel_rfl) (by kernel_rfl)) (by kernel_rfl) (by kernel_rfl)
end Go.Proofs.YtmabigcolabbmaaGreatDoor
