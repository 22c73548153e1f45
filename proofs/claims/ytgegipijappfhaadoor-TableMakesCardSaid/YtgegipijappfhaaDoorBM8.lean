/- Texts that the next ones stand on: Tab6, Tab7, Tab8, Tab9, Tab10, TabLaw, Ents3, TabR1. -/
import Derived.Test.YtgegipijappfhaaDoorBM7
namespace Go.Proofs.YtgegipijappfhaaDoor
open Go Go.RowKit
attribute [local go_sem] Oper.semAt_some

/-- A group that may stand behind others. -/
def FollowsG (G : List Grp) (x : Grp) : Prop := if G = [] then x.place = 0 else (G.getD (G.length - 1) ⟨0, []⟩).place < x.place ∧ lastG G < x.last
set_option maxRecDepth 100000 in
set_option maxHeartbeats 2000000 in
theorem tfollows_made (v : Value) (G : List Grp) (x : Grp) (w : World) (h : GrpsAt w v G) (hf : FollowsG G x) :
    Calls Tryd.prog 67 #[v, .agg #[.int .i64 x.place, .string (stx x.last)]] w fun e w' => e = .returned (.bool true) ∧ Below w.heap.size w w' := by
  have bx : Below w.heap.size w (w.alloc (.cells #[.int .i64 x.place, .string (stx x.last)] 78)) := (Below.refl _ _).alloc (Nat.le_refl _) _
  have r0 := rowAt_alloc_at w #[.int .i64 x.place, .string (stx x.last)] 78 _ rfl
  have c0 := cell_of_rowAt r0 0
  have c1 := cell_of_rowAt r0 1
  by_cases h0 : G = []
  · subst h0
    unfold FollowsG at hf
    rw [if_pos rfl] at hf
    obtain ⟨A, cap, rfl, _⟩ := h
    have hp : (x.place : Int) = 0 := by omega
    rw [hp] at c0 ⊢
    rw [hp] at bx r0 c1
    clear hf hp
    simp only [List.length_nil]
    go_enter Tryd.func67, Tryd.ntmps67
    go_wp2_with fail
    go_ret
    exact ⟨rfl, bx⟩
  · unfold FollowsG at hf
    rw [if_neg h0] at hf
    obtain ⟨A, cap, rfl, k1, k2, k3⟩ := h
    obtain ⟨q, hq⟩ : ∃ q, G.length = q + 1 := ⟨G.length - 1, by have := List.length_pos_iff.2 h0; omega⟩
    obtain ⟨y, hy⟩ : ∃ y, G[q]? = some y := ⟨_, List.getElem?_eq_getElem (by omega)⟩
    have hlg : lastG G = y.last := by unfold lastG; rw [hq, Nat.add_sub_cancel, List.getD_eq_getElem?_getD, hy]; rfl
    have hlp : (G.getD (G.length - 1) ⟨0, []⟩).place = y.place := by rw [hq, Nat.add_sub_cancel, List.getD_eq_getElem?_getD, hy]; rfl
    obtain ⟨g, o, rfl, hat⟩ := k3 q y hy
    rw [hlg, hlp] at hf
    rw [hq] at k1 ⊢
    unfold maxLen at k2
    have k4 : (q : Int) + 1 ≤ cap := by omega
    have k5 : (cap : Int) ≤ 9223372036854775807 := by omega
    have hp1 : (y.place : Int) < x.place := by omega
    have hp2 : decide ((y.place : Int) < x.place) = true := decide_eq_true hp1
    have l1 : Go.Op.bytesLess x.last y.last = false := by rw [lessE, decide_eq_false (klt_asymm hf.2)]
    have l2 : (x.last == y.last) = false := by rw [beq_eq_false_iff_ne]; exact (klt_ne hf.2).symm
    obtain ⟨d0, d1⟩ := hat.below bx
    have b2 : Below (w.alloc (.cells #[.int .i64 x.place, .string (stx x.last)] 78)).heap.size (w.alloc (.cells #[.int .i64 x.place, .string (stx x.last)] 78)) ((w.alloc (.cells #[.int .i64 x.place, .string (stx x.last)] 78)).alloc (.cells #[.int .i64 y.place, .string (stx y.last)] 78)) := (Below.refl _ _).alloc (Nat.le_refl _) _
    have r1 := rowAt_alloc_at (w.alloc (.cells #[.int .i64 x.place, .string (stx x.last)] 78)) #[.int .i64 y.place, .string (stx y.last)] 78 _ rfl
    have e0 := cell_of_rowAt r1 0
    have e1 := cell_of_rowAt r1 1
    have c2 := cell_of_rowAt (rowAt_past b2 r0) 0
    have c3 := cell_of_rowAt (rowAt_past b2 r0) 1
    have b3 := below_past bx b2 bx.size
    clear k3 hy hlg hlp hat hf b2 r0 r1 bx
    go_enter Tryd.func67, Tryd.ntmps67
    go_wp2_with fail
    go_ret
    exact ⟨rfl, b3⟩
theorem line_read (x : Grp) (r : List UInt8) (h1 : x.place < 9223372036854775808) (h2 : x.last.length ≤ 65536) :
    ∃ s1 : List UInt8, numV (stx (lineT x ++ r)) 0 = x.place ∧ numS (stx (lineT x ++ r)) 0 = stx s1 ∧ numE (stx (lineT x ++ r)) 0 = 0 ∧
      textV (stx s1) 0 = stx x.last ∧ textR (stx s1) 0 = stx r ∧ textE (stx s1) 0 = 0 := by
  obtain ⟨a1, a2, a3⟩ := num_read x.place ((numBytes x.last.length ++ x.last) ++ r) h1
  obtain ⟨b1, b2, b3⟩ := text_read x.last r h2
  have e : lineT x ++ r = numBytes x.place ++ ((numBytes x.last.length ++ x.last) ++ r) := by simp [lineT]
  rw [e]
  exact ⟨_, a1, a2, a3, b1, b2, b3⟩
set_option maxRecDepth 100000 in
set_option maxHeartbeats 4000000 in
theorem treadIndex_made (G : List Grp) (fin : Nat) (w : World) (ht : Tabs w) (hI : (indexT G).length ≤ 65536) (hn : G.length ≤ 2048) (hg : ∀ g ∈ G, g.place < fin ∧ g.last.length ≤ 65536) (hfin : fin ≤ 9000000000000) (hf : ∀ i x, G[i]? = some x → FollowsG (G.take i) x) :
    Calls Tryd.prog 33 #[.string (stx (frame (indexT G))), .int .i64 fin] w fun e w' => ∃ v, e = .returned (.tuple #[v, .int .i64 0]) ∧ OwnGrps w' w.heap.size v G ∧ Below w.heap.size w w' := by
  have HW := Lib.hid (twhole_made (indexT G) w ht hI)
  have HOP := Lib.hid (fun w => Open_any (stx (indexT G)) w)
  rw [if_pos (by rw [stx_size]; exact hI)] at HOP
  obtain ⟨a1, a2, a3⟩ := num_read G.length ((G.drop 0).flatMap lineT) (by omega)
  have ei : numBytes G.length ++ (G.drop 0).flatMap lineT = indexT G := rfl
  rw [ei] at a1 a2 a3
  obtain ⟨e1, e2⟩ := bel_of (s := stx (indexT G)) (e := 0) (m := 2049) (by rw [show stx (indexT G) = txt (indexT G) from rfl, a1]; omega)
  have HBE := Lib.hid (fun B b w h => RBelow_any B b (stx (indexT G)) 0 2049 w h)
  rw [e1, e2, show stx (indexT G) = txt (indexT G) from rfl, a1, a2, a3, show txt (indexT G) = stx (indexT G) from rfl, show txt ((G.drop 0).flatMap lineT) = stx ((G.drop 0).flatMap lineT) from rfl] at HBE
  have HDN := Lib.hid (fun B b s w h => RDone_any B b s 0 w h)
  have HG := Lib.hid hg
  have HF := Lib.hid hf
  obtain ⟨n, hnn⟩ : ∃ n, G.length = n := ⟨_, rfl⟩
  have HN := Lib.hid hnn
  rw [hnn] at HBE hn
  have hni : (n : Int) ≤ 2048 := by omega
  have hfi : (fin : Int) ≤ 9000000000000 := by omega
  generalize stx (frame (indexT G)) = SF at *
  generalize stx (indexT G) = SI at *
  clear a1 a2 a3 e1 e2 ei hI hg hf hnn ht hfin
  go_enter Tryd.func33, Tryd.ntmps33
  go_wp2_with fail
  refine HW.out.mono ?_
  rintro e w1 ⟨rfl, b1⟩
  clear HW
  go_wp2_with fail
  refine (HOP.out _).mono ?_
  rintro e w2 ⟨rfl, k2, b2⟩
  have hb2 : w1.heap.size < w2.heap.size := heap_lt k2.2
  have b3 := below_past b1 b2 b1.size
  have hwb := b1.size
  obtain ⟨b, hb⟩ : ∃ b, w1.heap.size = b := ⟨_, rfl⟩
  rw [hb] at k2 hb2 hwb
  have k2' : ReaderAt (b + 1) b SI 0 w2 := ⟨rfl, k2.2⟩
  clear HOP b1 b2 k2
  go_wp2_with fail
  refine (HBE.out (b + 1) b _ k2').mono ?_
  rintro e w3 ⟨rfl, k3, n3⟩
  have b4 : Below w.heap.size w w3 := b3.trans (n3.below (by omega) hwb)
  have hB3 : b + 1 ≤ w3.heap.size := Nat.le_trans hb2 n3.size
  clear HBE k2' b3 n3 hb hb2
  go_wp2_with fail
  go_loopw [9, 25] (fun u x wr => ∃ (i : Nat), i ≤ n ∧ x = .int .i64 i ∧ OwnGrps wr (b + 1) u (G.take i) ∧ ReaderAt (b + 1) b (stx ((G.drop i).flatMap lineT)) 0 wr ∧ Below w.heap.size w wr ∧ b + 1 ≤ wr.heap.size) (fun _ x _ => (n - intOf x).toNat)
  case atStart => exact ⟨0, Nat.zero_le _, rfl, ownGrps_nil _ _, k3, b4, hB3⟩
  case round =>
    obtain ⟨i, hi, rfl, ow, kr, b5, hBr⟩ := hrel
    clear k3 b4 hB3
    by_cases hlt : i < n
    · have hlt' : (i : Int) < n := by omega
      obtain ⟨x, hx⟩ : ∃ x, G[i]? = some x := ⟨_, List.getElem?_eq_getElem (by rw [HN.out]; exact hlt)⟩
      have hgx := HG.out x (List.mem_of_getElem? hx)
      have HFX := Lib.hid (fun v w h => tfollows_made v (G.take i) x w h (HF.out i x hx))
      have hdr : (G.drop i).flatMap lineT = lineT x ++ (G.drop (i + 1)).flatMap lineT := by
        obtain ⟨hil, he⟩ := List.getElem?_eq_some_iff.1 hx
        rw [List.drop_eq_getElem_cons hil, he]
        rfl
      have HTK : Hid (G.take i ++ [x] = G.take (i + 1)) := Lib.hid (by rw [List.take_add_one, hx]; rfl)
      have hlen : (G.take i).length ≤ 1000000 := by rw [List.length_take]; omega
      rw [hdr] at kr
      obtain ⟨s1, a1, a2, a3, c1, c2, c3⟩ := line_read x ((G.drop (i + 1)).flatMap lineT) (by omega) hgx.2
      have HNU := Lib.hid (RNumber_all (b + 1) b _ 0 wr kr)
      rw [a1, a2, a3] at HNU
      have HTX := Lib.hid (fun w h hb => RText_any (b + 1) b (stx s1) 0 w h hb)
      rw [c1, c2, c3] at HTX
      have hp1 : (x.place : Int) < fin := by omega
      have hp2 : decide ((fin : Int) ≤ x.place) = false := decide_eq_false (by omega)
      have hwbr : w.heap.size ≤ b := hwb
      obtain ⟨RS, hRS⟩ : ∃ RS, (G.drop (i + 1)).flatMap lineT = RS := ⟨_, rfl⟩
      have HRS := Lib.hid hRS
      rw [hRS] at HTX
      clear hRS
      generalize stx s1 = S1 at *
      clear hx hgx hdr kr a1 a2 a3 c1 c2 c3
      go_wp2_with fail
      refine HNU.out.mono ?_
      rintro e w5 ⟨rfl, k5, n5⟩
      have ow5 : OwnGrps w5 (b + 1) u9 (G.take i) := ⟨ow.1, ow.2.imp id fun ⟨g, cap, cur, h1, h2, h3, h4⟩ => ⟨g, cap, cur, h1, h2, near_cells n5 h3 (by decide) (by omega), h4⟩⟩
      have b6 : Below w.heap.size w w5 := b5.trans (n5.below (Nat.le_succ_of_le hwb) hwb)
      have hB5 := Nat.le_trans hBr n5.size
      have HT5 := Lib.hid (HTX.out w5 k5 hB5)
      clear HNU ow b5 n5 hBr k5 HTX
      go_wp2_with fail
      refine HT5.out.mono ?_
      rintro e w6 ⟨rfl, k6, n6⟩
      have ow6 : OwnGrps w6 (b + 1) u9 (G.take i) := ⟨ow5.1, ow5.2.imp id fun ⟨g, cap, cur, h1, h2, h3, h4⟩ => ⟨g, cap, cur, h1, h2, near_cells n6 h3 (by decide) (by omega), h4⟩⟩
      have b7 : Below w.heap.size w w6 := b6.trans (n6.below (Nat.le_succ_of_le hwb) hwb)
      have hB6 := Nat.le_trans hB5 n6.size
      have bq : Below w6.heap.size w6 (w6.alloc (.cells #[.int .i64 x.place, .string (stx x.last)] 78)) := (Below.refl _ _).alloc (Nat.le_refl _) _
      have r7 := rowAt_alloc_at w6 #[.int .i64 x.place, .string (stx x.last)] 78 _ rfl
      have ow7 := ow6.below bq
      have k7 : ReaderAt (b + 1) b (stx RS) 0 (w6.alloc (.cells #[.int .i64 x.place, .string (stx x.last)] 78)) := ⟨rfl, (bq.block b (heap_lt k6.2)).trans k6.2⟩
      have b8 := below_past b7 bq b7.size
      have hB7 := Nat.le_trans hB6 bq.size
      clear HT5 ow5 b6 n6 hB5 ow6 b7 k6 bq hB6
      go_upto_region 9 with fail
      generalize hC : w6.heap.size = C at *
      generalize (w6.alloc (.cells #[.int .i64 x.place, .string (stx x.last)] 78)) = W7 at *
      have HD7 : Hid (Calls Tryd.prog 49 #[.pointer (some ⟨b, 0, none⟩)] W7 fun r w' => (r = .returned (.int .i64 0) ∨ r = .returned (.int .i64 3)) ∧ Below W7.heap.size W7 w') := Lib.hid ((HDN.out (b + 1) b _ W7 k7).mono fun r w' ⟨h1, h2⟩ => ⟨by
        rw [h1]
        split
        · exact .inr rfl
        · exact .inl rfl, h2⟩)
      have HTAIL : Hid True := Lib.hid trivial
      go_wp2_with fail
      refine HD7.out.mono ?_
      rintro e w8 ⟨rfl | rfl, b9⟩
      · have ow8 := ow7.below b9
        have k8 : ReaderAt (b + 1) b (stx RS) 0 w8 := ⟨rfl, (b9.block b (heap_lt k7.2)).trans k7.2⟩
        have b10 := below_past b8 b9 b8.size
        have hB8 := Nat.le_trans hB7 b9.size
        have r8 := rowAt_past b9 r7
        have c0 := cell_of_rowAt r8 0
        have c1 := cell_of_rowAt r8 1
        have HF8 := Lib.hid (HFX.out _ w8 ow8.lie)
        clear HD7 ow7 k7 b8 hB7 r7 b9 HFX
        go_wp2_with fail
        refine HF8.out.mono ?_
        rintro e w9 ⟨rfl, b11⟩
        have ow9 := ow8.below b11
        have k9 : ReaderAt (b + 1) b (stx RS) 0 w9 := ⟨rfl, (b11.block b (heap_lt k8.2)).trans k8.2⟩
        have b12 := below_past b10 b11 b10.size
        have hB9 := Nat.le_trans hB8 b11.size
        have r9 := rowAt_past b11 r8
        have d0 := cell_of_rowAt r9 0
        have d1 := cell_of_rowAt r9 1
        have bq : Below w9.heap.size w9 (w9.alloc (.cells #[.int .i64 x.place, .string (stx x.last)] 78)) := (Below.refl _ _).alloc (Nat.le_refl _) _
        have hc10 := grpAt_new w9 x _ rfl
        have ow10 := ow9.below bq
        have k10 : ReaderAt (b + 1) b (stx RS) 0 (w9.alloc (.cells #[.int .i64 x.place, .string (stx x.last)] 78)) := ⟨rfl, (bq.block b (heap_lt k9.2)).trans k9.2⟩
        have b13 := below_past b12 bq b12.size
        have hB10 := Nat.le_trans hB9 bq.size
        clear HF8 ow8 k8 b10 hB8 r8 c0 c1 b11 ow9 k9 b12 hB9 r9 bq
        go_wp2_with (at_builtin; refine wpList_put_grp rfl _ _ rfl (b + 1) _ (G.take i) rfl ow10 x _ 1 rfl hc10 hB10 hlen ?_)
        intro v11 w11 ow11 hg11 _
        have k11 : ReaderAt (b + 1) b (stx RS) 0 w11 := ⟨rfl, (hg11.block b (heap_lt k10.2) (fun e => by have := (World.ownsRow.lt ow10 b e.symm).1; omega)).trans k10.2⟩
        have b14 := b13.grown hg11 (Nat.le_trans (Nat.le_trans hwb (Nat.le_succ b)) hB10) (fun k hk => Nat.le_trans (Nat.le_trans hwb (Nat.le_succ b)) (World.ownsRow.lt ow10 k hk).1)
        have hB11 := Nat.le_trans hB10 hg11.size
        rw [HTK.out] at ow11
        clear ow10 k10 b13 hB10 hg11 hc10 d0 d1
        go_wp2_with fail
        exact ⟨⟨i + 1, hlt, by go_num, ow11, by rw [HRS.out]; exact k11, b14, hB11⟩, by simp [intOf]; omega⟩
      · have ow8 := ow7.below b9
        have k8 : ReaderAt (b + 1) b (stx RS) 0 w8 := ⟨rfl, (b9.block b (heap_lt k7.2)).trans k7.2⟩
        have b10 := below_past b8 b9 b8.size
        have hB8 := Nat.le_trans hB7 b9.size
        have r8 := rowAt_past b9 r7
        have c0 := cell_of_rowAt r8 0
        have c1 := cell_of_rowAt r8 1
        have HF8 := Lib.hid (HFX.out _ w8 ow8.lie)
        clear HD7 ow7 k7 b8 hB7 r7 b9 HFX
        go_wp2_with fail
        refine HF8.out.mono ?_
        rintro e w9 ⟨rfl, b11⟩
        have ow9 := ow8.below b11
        have k9 : ReaderAt (b + 1) b (stx RS) 0 w9 := ⟨rfl, (b11.block b (heap_lt k8.2)).trans k8.2⟩
        have b12 := below_past b10 b11 b10.size
        have hB9 := Nat.le_trans hB8 b11.size
        have r9 := rowAt_past b11 r8
        have d0 := cell_of_rowAt r9 0
        have d1 := cell_of_rowAt r9 1
        have bq : Below w9.heap.size w9 (w9.alloc (.cells #[.int .i64 x.place, .string (stx x.last)] 78)) := (Below.refl _ _).alloc (Nat.le_refl _) _
        have hc10 := grpAt_new w9 x _ rfl
        have ow10 := ow9.below bq
        have k10 : ReaderAt (b + 1) b (stx RS) 0 (w9.alloc (.cells #[.int .i64 x.place, .string (stx x.last)] 78)) := ⟨rfl, (bq.block b (heap_lt k9.2)).trans k9.2⟩
        have b13 := below_past b12 bq b12.size
        have hB10 := Nat.le_trans hB9 bq.size
        clear HF8 ow8 k8 b10 hB8 r8 c0 c1 b11 ow9 k9 b12 hB9 r9 bq
        go_wp2_with (at_builtin; refine wpList_put_grp rfl _ _ rfl (b + 1) _ (G.take i) rfl ow10 x _ 1 rfl hc10 hB10 hlen ?_)
        intro v11 w11 ow11 hg11 _
        have k11 : ReaderAt (b + 1) b (stx RS) 0 w11 := ⟨rfl, (hg11.block b (heap_lt k10.2) (fun e => by have := (World.ownsRow.lt ow10 b e.symm).1; omega)).trans k10.2⟩
        have b14 := b13.grown hg11 (Nat.le_trans (Nat.le_trans hwb (Nat.le_succ b)) hB10) (fun k hk => Nat.le_trans (Nat.le_trans hwb (Nat.le_succ b)) (World.ownsRow.lt ow10 k hk).1)
        have hB11 := Nat.le_trans hB10 hg11.size
        rw [HTK.out] at ow11
        clear ow10 k10 b13 hB10 hg11 hc10 d0 d1
        go_wp2_with fail
        exact ⟨⟨i + 1, hlt, by go_num, ow11, by rw [HRS.out]; exact k11, b14, hB11⟩, by simp [intOf]; omega⟩
    · obtain rfl : i = n := by omega
      have hnil : (G.drop i).flatMap lineT = [] := by rw [List.drop_of_length_le (by rw [HN.out]; exact Nat.le_refl _)]; rfl
      rw [hnil] at kr
      rw [List.take_of_length_le (by rw [HN.out]; exact Nat.le_refl _)] at ow
      have HD := Lib.hid (HDN.out (b + 1) b _ wr kr)
      clear kr hnil
      go_wp2_with fail
      refine HD.out.mono ?_
      rintro e w5 ⟨rfl, b6⟩
      have ow5 := ow.below b6
      have b7 := below_past b5 b6 (Nat.le_trans hwb (Nat.le_of_succ_le hBr))
      clear HD ow b5 b6
      go_wp2_with fail
      go_ret2
      exact ⟨_, rfl, ow5.low (Nat.le_succ_of_le hwb), b7⟩
/-- The groups of blocks may stand behind one another. -/
theorem grpsOf_follows : ∀ (cs : List (List Ent)) (a : List UInt8) (p : Nat), goodC a cs → ∀ i x, (grpsOf p cs)[i]? = some x → (i = 0 → x.place = p) ∧ (∀ j y, i = j + 1 → (grpsOf p cs)[j]? = some y → y.place < x.place ∧ y.last < x.last)
  | [], _, _, _, i, x, h => by simp [grpsOf] at h
  | c :: cs, a, p, hg, i, x, h => by
    have hl := goodC_lasts hg
    obtain ⟨hl1, _⟩ := List.pairwise_cons.1 hl
    cases i with
    | zero =>
      obtain rfl : ⟨p, lastK c⟩ = x := by simpa [grpsOf] using h
      exact ⟨fun _ => rfl, fun j y e => by omega⟩
    | succ i =>
      rw [grpsOf, List.getElem?_cons_succ] at h
      refine ⟨fun e => by omega, fun j y e hy => ?_⟩
      obtain rfl : i = j := by omega
      obtain ⟨r1, r2⟩ := grpsOf_follows cs (lastK c) _ hg.2.2.2.2 i x h
      cases i with
      | zero =>
        obtain rfl : ⟨p, lastK c⟩ = y := by simpa [grpsOf] using hy
        refine ⟨by rw [r1 rfl, frame_length]; simp only; omega, ?_⟩
        obtain ⟨d, hd⟩ : ∃ d, cs[0]? = some d := by
          cases cs with
          | nil => simp [grpsOf] at h
          | cons d cs => exact ⟨d, rfl⟩
        have := grpsOf_get cs (p + (frame (textB c)).length) 0 d hd
        rw [h] at this
        obtain rfl := Option.some.inj this
        exact hl1 d (List.mem_of_getElem? hd)
      | succ i =>
        rw [grpsOf, List.getElem?_cons_succ] at hy
        exact r2 i y rfl hy
theorem grpsOf_followsG (cs : List (List Ent)) (a : List UInt8) (h : goodC a cs) (i : Nat) (x : Grp) (hx : (grpsOf 0 cs)[i]? = some x) : FollowsG ((grpsOf 0 cs).take i) x := by
  obtain ⟨r1, r2⟩ := grpsOf_follows cs a 0 h i x hx
  have hlt := (List.getElem?_eq_some_iff.1 hx).1
  have hlen : ((grpsOf 0 cs).take i).length = i := by rw [List.length_take]; omega
  unfold FollowsG
  cases i with
  | zero => rw [if_pos (by simp)]; exact r1 rfl
  | succ i =>
    rw [if_neg (by intro e; rw [e] at hlen; simp at hlen), hlen, Nat.add_sub_cancel]
    obtain ⟨y, hy⟩ : ∃ y, (grpsOf 0 cs)[i]? = some y := ⟨_, List.getElem?_eq_getElem (by omega)⟩
    have e : ((grpsOf 0 cs).take (i + 1)).getD i ⟨0, []⟩ = y := by rw [List.getD_eq_getElem?_getD, List.getElem?_take, if_pos (by omega), hy]; rfl
    have e2 : lastG ((grpsOf 0 cs).take (i + 1)) = y.last := by unfold lastG; rw [hlen, Nat.add_sub_cancel, e]
    rw [e, e2]
    exact r2 i y rfl hy
theorem grpsOf_bound : ∀ (cs : List (List Ent)) (a : List UInt8) (p : Nat), goodC a cs → ∀ g ∈ grpsOf p cs, p ≤ g.place ∧ g.place < p + (textOf cs).length ∧ g.last.length ≤ 100
  | [], _, _, _, g, hg => by simp [grpsOf] at hg
  | c :: cs, a, p, h, g, hg => by
    have e : (textOf (c :: cs)).length = (frame (textB c)).length + (textOf cs).length := by simp [textOf]
    rw [e]
    have hf := frame_length (textB c)
    rcases List.mem_cons.1 hg with rfl | hg
    · refine ⟨Nat.le_refl _, by simp only; omega, ?_⟩
      obtain ⟨x, hx, he⟩ := lastK_mem h.1
      simp only
      rw [← he]
      exact ((checkB_len h.2.1).2 x hx).1
    · obtain ⟨i1, i2, i3⟩ := grpsOf_bound cs (lastK c) _ h.2.2.2.2 g hg
      exact ⟨by omega, by omega, i3⟩
end Go.Proofs.YtgegipijappfhaaDoor
namespace Go.Proofs.YtgegipijappfhaaDoor
open Go Go.RowKit
attribute [local go_sem] Oper.semAt_some

/-- A table in memory. -/
def TabAt (w : World) (b : Nat) (S : List UInt8) (ix m p : Nat) (bs fk : List UInt8) (G : List Grp) : Prop :=
  ∃ g cap gv, w.heap[b]? = some (.cells #[.string (stx S), .int .i64 ix, .int .i64 p, .slice (some ⟨g, 0, none⟩) bs.length cap, .int .i64 m, .string (stx fk), gv] 73) ∧ BytesIn w (some ⟨g, 0, none⟩) bs ∧ GrpsAt w gv G
theorem TabAt.below {w w' : World} {b : Nat} {S : List UInt8} {ix m p : Nat} {bs fk : List UInt8} {G : List Grp} (h : TabAt w b S ix m p bs fk G) (k : Below w.heap.size w w') : TabAt w' b S ix m p bs fk G := by
  obtain ⟨g, cap, gv, h1, h2, h3⟩ := h
  exact ⟨g, cap, gv, (k.block _ (heap_lt h1)).trans h1, h2.below k, h3.below k⟩
theorem chunks_le : ∀ {cs : List (List Ent)} {a : List UInt8}, goodC a cs → cs.length ≤ cs.flatten.length
  | [], _, _ => Nat.le_refl _
  | c :: cs, a, h => by
    have := chunks_le h.2.2.2.2
    have h1 := List.length_pos_iff.2 h.1
    rw [List.flatten_cons, List.length_append, List.length_cons]
    omega
set_option maxRecDepth 100000 in
set_option maxHeartbeats 4000000 in
theorem tOpen_made (cs : List (List Ent)) (a0 : List UInt8) (m p : Nat) (bs fk : List UInt8) (w : World) (ht : Tabs w) (hc : goodC a0 cs) (h0 : cs ≠ []) (hm : cs.length ≤ m ∧ m ≤ 2048) (hT : (textOf cs).length ≤ 140000000) (hI : (indexT (grpsOf 0 cs)).length ≤ 65536)
    (hF : (footT (textOf cs).length (encBl p bs) m fk).length ≤ 65536) (hg : goodB p bs.length = true) (hk : fk.length ≤ 65536) :
    Calls Tryd.prog 12 #[.string (stx (textOf cs ++ tailT (textOf cs) (grpsOf 0 cs) (encBl p bs) m fk))] w fun e w' => ∃ b, e = .returned (.tuple #[.pointer (some ⟨b, 0, none⟩), .int .i64 0]) ∧ TabAt w' b (textOf cs ++ tailT (textOf cs) (grpsOf 0 cs) (encBl p bs) m fk) (textOf cs).length m p bs fk (grpsOf 0 cs) ∧ Below w.heap.size w w' := by
  have HBD := Lib.hid (grpsOf_bound cs a0 0 hc)
  have HFO := Lib.hid (grpsOf_followsG cs a0 hc)
  have hGl : (grpsOf 0 cs).length = cs.length := grpsOf_length _ _
  have hcl := List.length_pos_iff.2 h0
  have HRI := Lib.hid (fun w ht => treadIndex_made (grpsOf 0 cs) (textOf cs).length w ht hI (by omega) (fun g hg => by have := HBD.out g hg; exact ⟨by omega, by omega⟩) (by omega) HFO.out)
  have HRF := Lib.hid (fun w ht => treadFoot_made (textOf cs).length m p bs fk w ht (by omega) (by omega) hk hg hF)
  have hffl : (frame (footT (textOf cs).length (encBl p bs) m fk)).length ≤ 65544 := by rw [frame_length]; omega
  have hfil : (frame (indexT (grpsOf 0 cs))).length ≤ 65544 := by rw [frame_length]; omega
  unfold tailT
  generalize footT (textOf cs).length (encBl p bs) m fk = F at *
  generalize grpsOf 0 cs = G at *
  generalize textOf cs = T at *
  obtain ⟨FF, hFF⟩ : ∃ FF, frame F = FF := ⟨_, rfl⟩
  obtain ⟨FI, hFI⟩ : ∃ FI, frame (indexT G) = FI := ⟨_, rfl⟩
  rw [hFF] at HRF hffl ⊢
  rw [hFI] at HRI hfil ⊢
  obtain ⟨t, htl⟩ : ∃ t, T.length = t := ⟨_, rfl⟩
  obtain ⟨fi, hfi⟩ : ∃ fi, FI.length = fi := ⟨_, rfl⟩
  obtain ⟨n, hn⟩ : ∃ n, FF.length = n := ⟨_, rfl⟩
  have HFT := Lib.hid (fun w => tfootFrame_made (T ++ FI) FF w (by rw [List.length_append]; omega) hffl)
  have HAS : T ++ FI ++ FF ++ len3 FF.length = T ++ (FI ++ FF ++ len3 FF.length) := by simp
  rw [HAS] at HFT
  have HEX : Hid ((stx (T ++ (FI ++ FF ++ len3 FF.length))).extract t (t + fi) = stx FI) := Lib.hid (by
    apply ByteArray.ext
    rw [ByteArray.data_extract]
    apply Array.toList_inj.1
    rw [Array.toList_extract]
    show (T ++ (FI ++ FF ++ len3 FF.length)).extract t (t + fi) = FI
    rw [List.extract_eq_take_drop, ← htl, List.drop_left, Nat.add_sub_cancel_left, List.append_assoc, ← hfi, List.take_left])
  have hsz : (stx (T ++ (FI ++ FF ++ len3 FF.length))).size = t + fi + n + 3 := by
    rw [stx_size, List.length_append, List.length_append, List.length_append, htl, hfi, hn]
    show t + (fi + n + 3) = _
    omega
  have hsf : (stx FF).size = n := by rw [stx_size, hn]
  rw [hn] at hffl
  rw [hfi] at hfil
  rw [htl] at HRI HRF hT ⊢
  obtain ⟨SL, hSL⟩ : ∃ SL, T ++ (FI ++ FF ++ len3 FF.length) = SL := ⟨_, rfl⟩
  rw [hSL] at HFT HEX hsz ⊢
  have HCL := Lib.hid (fun w => sClone_any (stx SL) w (by omega))
  have hti : (t : Int) ≤ 140000000 := by omega
  have hfi9 : (fi : Int) ≤ 65544 := by omega
  have hni : (n : Int) ≤ 65544 := by omega
  obtain ⟨gl, hgl⟩ : ∃ gl, G.length = gl := ⟨_, rfl⟩
  have HGL := Lib.hid hgl
  have hgl1 : gl ≤ m := by omega
  have hgl2 : 0 < gl := by omega
  have hmi : (m : Int) ≤ 2048 := by omega
  have hTB := Lib.hid ht
  have q1 : decide ((t + fi : Int) < t) = false := decide_eq_false (by omega)
  have q2 : (gl == 0) = false := by rw [beq_eq_false_iff_ne]; omega
  have q3 : ((gl : Int) == 0) = false := by rw [beq_eq_false_iff_ne]; omega
  have q4 : decide ((m : Int) < gl) = false := decide_eq_false (by omega)
  have q5 : decide ((2048 : Int) < m) = false := decide_eq_false (by omega)
  clear HAS hFF hFI hGl hcl hc h0 hm hT hI hF hg hk ht hffl hfil hfi htl hn hSL HBD HFO hgl
  go_enter Tryd.func12, Tryd.ntmps12
  go_wp2_with fail
  refine (HFT.out _).mono ?_
  rintro e w1 ⟨rfl, b1⟩
  have HF1 := Lib.hid (HRF.out w1 (hTB.out.below b1))
  clear HFT HRF
  go_wp2_with fail
  refine HF1.out.mono ?_
  rintro e w2 ⟨g, cap, rfl, hby, _, b2⟩
  have b3 := below_past b1 b2 b1.size
  have bq : Below w2.heap.size w2 (w2.alloc (.cells #[.int .i64 t, .int .i64 p, .slice (some ⟨g, 0, none⟩) bs.length cap, .int .i64 m, .string (stx fk)] 59)) := (Below.refl _ _).alloc (Nat.le_refl _) _
  have hx3 := heap_alloc_new w2 (.cells #[.int .i64 t, .int .i64 p, .slice (some ⟨g, 0, none⟩) bs.length cap, .int .i64 m, .string (stx fk)] 59)
  have hby3 := hby.below bq
  have b4 := below_past b3 bq b3.size
  clear HF1 b1 b2 b3 hby bq
  go_upto_region 5 with fail
  generalize hC : w2.heap.size = C at *
  generalize (w2.alloc (.cells #[.int .i64 t, .int .i64 p, .slice (some ⟨g, 0, none⟩) bs.length cap, .int .i64 m, .string (stx fk)] 59)) = W3 at *
  have c0 := (Lib.cell_of_heap hx3 0).trans (rfl : _ = some (Value.int .i64 t))
  go_upto_region 10 with fail
  have y0 := fun y : Past W3 => (y.h.cell (p := ⟨C, 0, none⟩) (cellLt c0)).trans c0
  clear c0
  refine wp_region_wildM [7] [0, 1, 2, 3, 4, 5, 6, 7, 8, 9, 10, 11, 12] (by kernel_rfl) (by kernel_rfl) ?_
  simp only [pickO, List.getElem?_cons_zero, List.getElem?_cons_succ]
  iterate 7 (refine wildO_val (by decide) (by kernel_rfl) rfl ?_; intro K hK; go_big_quiet_op; go_big_quiet_on)
  refine wildO_wild (by decide) (by kernel_rfl) ?_
  intro x K hK
  unfold wildAt
  go_simp
  rw [HEX.out]
  refine (HRI.out _ (hTB.out.below (below_past b4 x.h b4.size))).mono ?_
  rintro e w4 ⟨gv, rfl, og, b5⟩
  refine ⟨_, rfl, b5, hK _ _ ?_⟩
  simp only [Act.put, List.setIfInBounds_toArray, List.set_cons_succ, List.set_cons_zero]
  have a1 := Below.step x.h b5
  clear hK
  iterate 5 (refine wildO_val (by decide) (by kernel_rfl) rfl ?_; intro K hK; go_big_quiet_op; go_big_quiet_on)
  refine wildO_nil ?_
  rintro ⟨z, hz⟩
  dsimp only
  have a2 := Below.step a1 hz
  have b6 := below_past b4 a2 b4.size
  have hx4 := (a2.block _ (heap_lt hx3)).trans hx3
  have hby4 := hby3.below a2
  obtain ⟨Ag, cg, rfl⟩ := og.shape
  have hgv := og.lie.below hz
  rw [HGL.out] at hgv ⊢
  have c0 := (Lib.cell_of_heap hx4 0).trans (rfl : _ = some (Value.int .i64 t))
  have c1 := (Lib.cell_of_heap hx4 1).trans (rfl : _ = some (Value.int .i64 p))
  have c2 := (Lib.cell_of_heap hx4 2).trans (rfl : _ = some (Value.slice (some ⟨g, 0, none⟩) bs.length cap))
  have c3 := (Lib.cell_of_heap hx4 3).trans (rfl : _ = some (Value.int .i64 m))
  have c4 := (Lib.cell_of_heap hx4 4).trans (rfl : _ = some (Value.string (stx fk)))
  have HGV := Lib.hid hgv
  clear a1 a2 hx3 hby3 b4 og b5 y0 HRI HEX hgv
  go_upto_region 15 with fail
  have y0 := fun y : Past z => (y.h.cell (p := ⟨C, 0, none⟩) (cellLt c0)).trans c0
  have y1 := fun y : Past z => (y.h.cell (p := ⟨C, 1, none⟩) (cellLt c1)).trans c1
  have y2 := fun y : Past z => (y.h.cell (p := ⟨C, 2, none⟩) (cellLt c2)).trans c2
  have y3 := fun y : Past z => (y.h.cell (p := ⟨C, 3, none⟩) (cellLt c3)).trans c3
  have y4 := fun y : Past z => (y.h.cell (p := ⟨C, 4, none⟩) (cellLt c4)).trans c4
  clear c0 c1 c2 c3 c4
  refine wp_region_wildL [] 5 (by kernel_rfl) (by kernel_rfl) ?_
  simp only [List.take_succ_cons, List.take_zero]
  iterate 1 (refine wildL_val (by decide) (by kernel_rfl) rfl ?_; intro K hK; go_big_quiet_op; go_big_quiet_on)
  refine wildL_call (by decide) (by kernel_rfl) (by kernel_rfl) ?_
  apply Exists.intro
  refine And.intro ?_ ?_
  focus
    intro x K hK
    go_big_quiet_op
    go_big_quiet_call (exact call_back (HCL.out _))
    rfl
  iterate 3 (refine wildL_val (by decide) (by kernel_rfl) rfl ?_; intro K hK; go_big_quiet_op; go_big_quiet_on)
  refine wildL_nil ?_
  simp only [List.drop_succ_cons, List.drop_zero]
  rintro ⟨z2, hz2⟩
  dsimp only
  have b7 := below_past b6 hz2 b6.size
  have hby5 := hby4.below hz2
  have hgv5 := HGV.out.below hz2
  have bq : Below z2.heap.size z2 (z2.alloc (.cells #[.string (stx SL), .int .i64 t, .int .i64 p, .slice (some ⟨g, 0, none⟩) bs.length cap, .int .i64 m, .string (stx fk), .slice Ag gl cg] 73)) := (Below.refl _ _).alloc (Nat.le_refl _) _
  have hx6 := heap_alloc_new z2 (.cells #[.string (stx SL), .int .i64 t, .int .i64 p, .slice (some ⟨g, 0, none⟩) bs.length cap, .int .i64 m, .string (stx fk), .slice Ag gl cg] 73)
  have hat : TabAt (z2.alloc (.cells #[.string (stx SL), .int .i64 t, .int .i64 p, .slice (some ⟨g, 0, none⟩) bs.length cap, .int .i64 m, .string (stx fk), .slice Ag gl cg] 73)) z2.heap.size SL t m p bs fk G := ⟨g, cap, _, hx6, hby5.below bq, hgv5.below bq⟩
  have b8 := below_past b7 bq b7.size
  have HAT := Lib.hid hat
  clear y0 y1 y2 y3 y4 hx4 hby4 b6 hz2 hby5 hgv5 bq hx6 hat b7 HCL HGV
  go_wp2_with fail
  go_ret2
  exact ⟨_, rfl, HAT.out, b8⟩
end Go.Proofs.YtgegipijappfhaaDoor
namespace Go.Proofs.YtgegipijappfhaaDoor
open Go Go.RowKit
attribute [local go_sem] Oper.semAt_some

theorem countP_of {α : Type} {p : α → Bool} {l : List α} {c : Nat} (hc : c ≤ l.length) (h1 : ∀ t x, t < c → l[t]? = some x → p x = true) (h2 : ∀ t x, c ≤ t → l[t]? = some x → p x = false) : l.countP p = c := by
  conv => lhs; rw [← List.take_append_drop c l]
  rw [List.countP_append]
  have e1 : (l.take c).countP p = c := by
    rw [List.countP_eq_length.2 (fun x hx => ?_), List.length_take, Nat.min_eq_left hc]
    obtain ⟨t, ht, he⟩ := List.getElem_of_mem hx
    rw [List.length_take] at ht
    rw [List.getElem_take] at he
    exact h1 t x (by omega) (by rw [List.getElem?_eq_getElem (by omega), he])
  have e2 : (l.drop c).countP p = 0 := by
    rw [List.countP_eq_zero]
    intro x hx
    obtain ⟨t, ht, he⟩ := List.getElem_of_mem hx
    rw [List.length_drop] at ht
    rw [List.getElem_drop] at he
    have := h2 (c + t) x (by omega) (by rw [List.getElem?_eq_getElem (by omega), he])
    rw [this]
    simp
  rw [e1, e2]
  rfl
set_option maxRecDepth 100000 in
set_option maxHeartbeats 2000000 in
theorem search_anyT (n : Nat) (p : Nat → Bool) (A B : Value) (w : World) (hn : n ≤ 1000000)
    (hf : ∀ W, Below w.heap.size w W → ∀ i, i < n → Calls Tryd.prog 70 #[.int .i64 i, A, B] W fun e w' => e = .returned (.bool (p i)) ∧ Below W.heap.size W w')
    (hm : ∀ a b, a ≤ b → b < n → p a = true → p b = true) :
    Calls Tryd.prog 69 #[.int .i64 n, .func (.func 70) #[] #[A, B]] w fun e w' => (∃ c : Nat, e = .returned (.int .i64 c) ∧ c ≤ n ∧ (∀ t, t < c → p t = false) ∧ (∀ t, c ≤ t → t < n → p t = true)) ∧ Below w.heap.size w w' := by
  have HF := Lib.hid hf
  have HM := Lib.hid hm
  have hn1 : (n : Int) ≤ 1000000 := by omega
  clear hf hm
  go_enter Tryd.func69, Tryd.ntmps69
  go_wp2_with fail
  go_loopw [5, 6] (fun x y wr => ∃ i j : Nat, x = .int .i64 i ∧ y = .int .i64 j ∧ i ≤ j ∧ j ≤ n ∧ Hid ((∀ t, t < i → p t = false) ∧ (∀ t, j ≤ t → t < n → p t = true)) ∧ Below w.heap.size w wr) (fun x y _ => (intOf y - intOf x).toNat)
  case atStart => exact ⟨0, n, rfl, rfl, Nat.zero_le _, Nat.le_refl _, Lib.hid ⟨fun t h => absurd h (Nat.not_lt_zero _), fun t h1 h2 => by omega⟩, Below.refl _ _⟩
  case round =>
    obtain ⟨i, j, rfl, rfl, hij, hj, HI, b1⟩ := hrel
    by_cases hlt : i < j
    · have h1 : (i : Int) < j := by omega
      have h2 : (i : Int) + j ≤ 2000000 := by omega
      have h0 : (0 : Int) ≤ (i : Int) + j := by omega
      obtain ⟨m, hm⟩ : ∃ m, (i + j) / 2 = m := ⟨_, rfl⟩
      have hm1 : ((i : Int) + j) / 2 = m := by omega
      have hmi : i ≤ m := by omega
      have hmj : m < j := by omega
      have hm2 : (m : Int) ≤ 1000000 := by omega
      have HFM := Lib.hid (HF.out wr b1 m (by omega))
      clear hm
      go_wp2_with fail
      refine HFM.out.mono ?_
      rintro e w1 ⟨rfl, b2⟩
      have b3 := below_past b1 b2 b1.size
      clear HFM b1 b2
      cases hp : p m with
      | false =>
        have HI2 : Hid ((∀ t, t < m + 1 → p t = false) ∧ (∀ t, j ≤ t → t < n → p t = true)) := Lib.hid ⟨(fun t ht => by
          cases h : p t with
          | false => rfl
          | true =>
            have := HM.out t m (by omega) (by omega) h
            rw [hp] at this
            cases this), HI.out.2⟩
        clear hp
        go_wp2_with fail
        exact ⟨⟨m + 1, j, by go_num, rfl, by omega, hj, HI2, b3⟩, by simp [intOf]; omega⟩
      | true =>
        have HI2 : Hid ((∀ t, t < i → p t = false) ∧ (∀ t, m ≤ t → t < n → p t = true)) := Lib.hid ⟨HI.out.1, fun t h1 h2 => HM.out m t h1 h2 hp⟩
        clear hp
        go_wp2_with fail
        exact ⟨⟨i, m, rfl, rfl, hmi, by omega, HI2, b3⟩, by simp [intOf]; omega⟩
    · obtain rfl : i = j := by omega
      go_wp2_with fail
      go_ret
      exact ⟨⟨i, rfl, hj, HI.out.1, HI.out.2⟩, b1⟩
set_option maxRecDepth 100000 in
set_option maxHeartbeats 1000000 in
theorem tseek1_any (ba bb b i : Nat) (gv : Value) (G : List Grp) (k : List UInt8) (x : Grp) (W : World) (ha : W.cell? ⟨ba, 0, none⟩ = some (.pointer (some ⟨b, 0, none⟩))) (hb : W.cell? ⟨bb, 0, none⟩ = some (.string (stx k))) (hv : W.cell? ⟨b, 6, none⟩ = some gv) (h : GrpsAt W gv G) (hx : G[i]? = some x) :
    Calls Tryd.prog 70 #[.int .i64 i, .pointer (some ⟨ba, 0, none⟩), .pointer (some ⟨bb, 0, none⟩)] W fun e w' => e = .returned (.bool (!decide (x.last < k))) ∧ Below W.heap.size W w' := by
  obtain ⟨ao, cap, rfl, h1, h2, h3⟩ := h
  obtain ⟨g, o, rfl, hat⟩ := h3 i x hx
  obtain ⟨n, hn⟩ : ∃ n, G.length = n := ⟨_, rfl⟩
  have hi : i < n := by rw [← hn]; exact (List.getElem?_eq_some_iff.1 hx).1
  rw [hn] at hv h1
  unfold maxLen at h2
  have i1 : (i : Int) < n := by omega
  have i2 : (n : Int) ≤ 9223372036854775807 := by omega
  have hless := lessE (stx x.last).toList (stx k).toList
  have hdd : decide ((stx x.last).toList < (stx k).toList) = decide (x.last < k) := by rw [stx_toList, stx_toList]
  rw [hdd] at hless
  generalize decide (x.last < k) = d at *
  have y0 := fun y : Past W => (y.h.cell (p := ⟨ba, 0, none⟩) (cellLt ha)).trans ha
  have y1 := fun y : Past W => (y.h.cell (p := ⟨bb, 0, none⟩) (cellLt hb)).trans hb
  have y2 := fun y : Past W => (y.h.cell (p := ⟨g, o + i * 2 + 1, none⟩) (cellLt hat.2)).trans hat.2
  have y3 := fun y : Past W => (y.h.cell (p := ⟨b, 6, none⟩) (cellLt hv)).trans hv
  clear ha hb h3 hx hat hn hi hdd hv
  generalize stx x.last = sx at *
  generalize stx k = sk at *
  go_enter Tryd.func70, Tryd.ntmps70
  go_upto_region 1 with fail
  refine wp_region_past (by kernel_rfl) (by kernel_rfl) ?_
  repeat (go_big_quiet_step (fail))
  refine wpQuiet_nil ?_
  intro w2 hw2
  obtain ⟨⟨wn, hn⟩, rfl⟩ := hw2
  try dsimp only
  clear y0 y1 y2 y3
  go_wp2_with fail
  go_ret
  exact ⟨rfl, hn⟩
set_option maxRecDepth 100000 in
set_option maxHeartbeats 1000000 in
theorem tseek_any (b : Nat) (S : List UInt8) (ix m p : Nat) (bs fk : List UInt8) (G : List Grp) (k : List UInt8) (w : World) (h : TabAt w b S ix m p bs fk G) (hr : G.Pairwise fun c d => c.last < d.last) (hl : G.length ≤ 2048) :
    Calls Tryd.prog 35 #[.pointer (some ⟨b, 0, none⟩), .string (stx k)] w fun e w' => e = .returned (.int .i64 (seekG G k)) ∧ Below w.heap.size w w' := by
  obtain ⟨g, cap, gv, hx, _, hg⟩ := h
  obtain ⟨n, hn⟩ : ∃ n, G.length = n := ⟨_, rfl⟩
  have b1 : Below w.heap.size w ((w.alloc (.cells #[.pointer (some ⟨b, 0, none⟩)] 32)).alloc (.cells #[.string (stx k)] 9)) := ((Below.refl _ _).alloc (Nat.le_refl _) _).alloc (by simp only [World.size_alloc]; omega) _
  have c0 : ((w.alloc (.cells #[.pointer (some ⟨b, 0, none⟩)] 32)).alloc (.cells #[.string (stx k)] 9)).cell? ⟨w.heap.size, 0, none⟩ = some (.pointer (some ⟨b, 0, none⟩)) := cell_of_rowAt ((rowAt_alloc_past _ _ _ (by simp only [World.size_alloc]; omega)).trans (rowAt_alloc_at _ _ _ _ rfl)) 0
  have c1 : ((w.alloc (.cells #[.pointer (some ⟨b, 0, none⟩)] 32)).alloc (.cells #[.string (stx k)] 9)).cell? ⟨w.heap.size + 1, 0, none⟩ = some (.string (stx k)) := cell_of_rowAt (rowAt_alloc_at _ _ _ _ (by simp only [World.size_alloc])) 0
  have hx1 := (b1.block _ (heap_lt hx)).trans hx
  have c2 := (Lib.cell_of_heap hx1 6).trans (rfl : _ = some gv)
  have hg1 := hg.below b1
  have HS := Lib.hid (search_anyT n (fun i => !decide ((G.getD i ⟨0, []⟩).last < k)) (.pointer (some ⟨w.heap.size, 0, none⟩)) (.pointer (some ⟨w.heap.size + 1, 0, none⟩)) _ (by omega) (fun W hW i hi => by
    have hxi : G[i]? = some (G.getD i ⟨0, []⟩) := by
      rw [List.getD_eq_getElem?_getD, List.getElem?_eq_getElem (by omega)]
      rfl
    exact tseek1_any _ _ b i gv G k _ W ((hW.cell (p := ⟨w.heap.size, 0, none⟩) (cellLt c0)).trans c0) ((hW.cell (p := ⟨w.heap.size + 1, 0, none⟩) (cellLt c1)).trans c1) ((hW.cell (p := ⟨b, 6, none⟩) (cellLt c2)).trans c2) (hg1.below hW) hxi) (fun a b hab hb hp => by
    simp only [Bool.not_eq_true', decide_eq_false_iff_not] at hp ⊢
    intro hq
    by_cases e : a = b
    · subst e; exact hp hq
    · have hga : (G.getD a ⟨0, []⟩).last < (G.getD b ⟨0, []⟩).last := by
        rw [List.getD_eq_getElem?_getD, List.getD_eq_getElem?_getD, List.getElem?_eq_getElem (by omega), List.getElem?_eq_getElem (by omega)]
        exact List.pairwise_iff_getElem.1 hr a b (by omega) (by omega) (by omega)
      exact hp (klt_trans hga hq)))
  have HC : Hid (∀ c : Nat, c ≤ n → (∀ t, t < c → (!decide ((G.getD t ⟨0, []⟩).last < k)) = false) → (∀ t, c ≤ t → t < n → (!decide ((G.getD t ⟨0, []⟩).last < k)) = true) → seekG G k = c) := Lib.hid fun c q1 q2 q3 => countP_of (by omega) (fun t x q4 q5 => by
    have := q2 t q4
    rw [List.getD_eq_getElem?_getD, q5] at this
    simpa using this) (fun t x q4 q5 => by
    have := q3 t q4 (by rw [← hn]; exact (List.getElem?_eq_some_iff.1 q5).1)
    rw [List.getD_eq_getElem?_getD, q5] at this
    simpa using this)
  obtain ⟨ao, cap2, rfl, _⟩ := hg
  rw [hn] at c2 hl
  have hn1 : (n : Int) ≤ 2048 := by omega
  clear hx hx1 hg1 hr hn
  go_enter Tryd.func35, Tryd.ntmps35
  go_wp2_with fail
  refine HS.out.mono ?_
  rintro e w1 ⟨⟨c, rfl, q1, q2, q3⟩, b2⟩
  have HE := Lib.hid (HC.out c q1 q2 q3)
  have b3 := below_past b1 b2 b1.size
  clear HS HC q1 q2 q3 b1 b2 c0 c1
  go_wp2_with fail
  go_ret
  exact ⟨by rw [HE.out]; rfl, b3⟩
theorem textOf_split (cs : List (List Ent)) (i : Nat) (c : List Ent) (h : cs[i]? = some c) : textOf cs = textOf (cs.take i) ++ (frame (textB c) ++ textOf (cs.drop (i + 1))) := by
  obtain ⟨hi, he⟩ := List.getElem?_eq_some_iff.1 h
  conv => lhs; rw [← List.take_append_drop i cs, List.drop_eq_getElem_cons hi, he]
  simp [textOf]
theorem goodC_mem : ∀ {cs : List (List Ent)} {a : List UInt8}, goodC a cs → ∀ c ∈ cs, c ≠ [] ∧ checkB c = 0 ∧ (textB c).length ≤ 65536
  | [], _, _, c, h => by cases h
  | d :: cs, a, h, c, hc => by
    rcases List.mem_cons.1 hc with rfl | hc
    · exact ⟨h.1, h.2.1, h.2.2.1⟩
    · exact goodC_mem h.2.2.2.2 c hc
set_option maxRecDepth 100000 in
set_option maxHeartbeats 4000000 in
theorem tread_made (b : Nat) (cs : List (List Ent)) (a0 R : List UInt8) (ix m p : Nat) (bs fk : List UInt8) (G : List Grp) (i : Nat) (c : List Ent) (w : World) (h : TabAt w b (textOf cs ++ R) ix m p bs fk G) (ht : Tabs w) (hc : goodC a0 cs) (hi : cs[i]? = some c) (hS : (textOf cs ++ R).length ≤ 150000000) :
    Calls Tryd.prog 37 #[.pointer (some ⟨b, 0, none⟩), .agg #[.int .i64 (textOf (cs.take i)).length, .string (stx (lastK c))]] w fun e w' => ∃ v, e = .returned (.tuple #[v, .int .i64 0]) ∧ OwnEnts w' w.heap.size v c ∧ Below w.heap.size w w' := by
  obtain ⟨m1, m2, m3⟩ := goodC_mem hc c (List.mem_of_getElem? hi)
  have hsp := textOf_split cs i c hi
  obtain ⟨e1, e2, e3⟩ := read_made m2 m3 (textOf (cs.drop (i + 1)) ++ R)
  obtain ⟨pl, hpl⟩ : ∃ pl, (textOf (cs.take i)).length = pl := ⟨_, rfl⟩
  obtain ⟨n, hn⟩ : ∃ n, (textOf cs ++ R).length = n := ⟨_, rfl⟩
  have hpn : pl ≤ n := by rw [← hpl, ← hn, hsp]; simp
  have HEX : Hid ((stx (textOf cs ++ R)).extract pl n = stx (frame (textB c) ++ (textOf (cs.drop (i + 1)) ++ R))) := Lib.hid (by
    apply ByteArray.ext
    rw [ByteArray.data_extract]
    apply Array.toList_inj.1
    rw [Array.toList_extract]
    show (textOf cs ++ R).extract pl n = frame (textB c) ++ (textOf (cs.drop (i + 1)) ++ R)
    rw [List.extract_eq_take_drop, List.take_of_length_le (by rw [List.length_drop, hn]; exact Nat.le_refl _), hsp, List.append_assoc, ← hpl, List.drop_left, List.append_assoc])
  have HKR := Lib.hid (fun w ht => kRead_any (stx (frame (textB c) ++ (textOf (cs.drop (i + 1)) ++ R))) w (by
    have : (textOf cs ++ R).length = pl + (frame (textB c) ++ (textOf (cs.drop (i + 1)) ++ R)).length := by rw [hsp, ← hpl]; simp
    rw [stx_size]; omega) ht)
  unfold ReadR at HKR
  rw [show (stx (frame (textB c) ++ (textOf (cs.drop (i + 1)) ++ R))).data.toList = frame (textB c) ++ (textOf (cs.drop (i + 1)) ++ R) from rfl, e1, e2, e3] at HKR
  obtain ⟨g, cap, gv, hx, _, _⟩ := h
  have hsz : (stx (textOf cs ++ R)).size = n := by rw [stx_size, hn]
  obtain ⟨q, hq⟩ : ∃ q, c.length = q + 1 := ⟨c.length - 1, by have := List.length_pos_iff.2 m1; omega⟩
  obtain ⟨y, hy⟩ : ∃ y, c[q]? = some y := ⟨_, List.getElem?_eq_getElem (by omega)⟩
  have hlk : lastK c = y.key := by unfold lastK; rw [hq, Nat.add_sub_cancel, List.getD_eq_getElem?_getD, hy]; rfl
  have HY := Lib.hid hy
  have HQ := Lib.hid hq
  rw [hlk, hpl]
  rw [hn] at hS
  obtain ⟨nf, hnf⟩ : ∃ nf, (frame (textB c)).length = nf := ⟨_, rfl⟩
  rw [hnf] at HKR
  generalize stx (textOf cs ++ R) = SS at *
  generalize stx (frame (textB c) ++ (textOf (cs.drop (i + 1)) ++ R)) = SX at *
  have hpi : (pl : Int) ≤ n := by omega
  have hni : (n : Int) ≤ 150000000 := by omega
  have hql : c.length ≤ 256 := (checkB_len m2).1
  have hqi : (q : Int) ≤ 256 := by omega
  have bx : Below w.heap.size w (w.alloc (.cells #[.int .i64 pl, .string (stx y.key)] 78)) := (Below.refl _ _).alloc (Nat.le_refl _) _
  have r0 := rowAt_alloc_at w #[.int .i64 pl, .string (stx y.key)] 78 _ rfl
  have hx1 := (bx.block _ (heap_lt hx)).trans hx
  have c0 := cell_of_rowAt r0 0
  have d0 := (Lib.cell_of_heap hx1 0).trans (rfl : _ = some (Value.string SS))
  have hTB := Lib.hid (ht.below bx)
  clear hx hx1 m1 m2 m3 hsp e1 e2 e3 hpl hn hnf hlk hq hy hc hi ht hpn hS hql
  go_enter Tryd.func37, Tryd.ntmps37
  go_upto_region 1 with fail
  generalize hC : w.heap.size = C at *
  generalize (w.alloc (.cells #[.int .i64 pl, .string (stx y.key)] 78)) = W0 at *
  have hbs : C ≤ W0.heap.size := by rw [← hC]; exact bx.size
  have y0 := fun z : Past W0 => (z.h.cell (p := ⟨C, 0, none⟩) (cellLt c0)).trans c0
  have y1 := fun z : Past W0 => (z.h.cell (p := ⟨b, 0, none⟩) (cellLt d0)).trans d0
  clear c0 d0
  refine wp_region_wildM [7] [0, 1, 2, 3, 4, 5, 6, 7, 8, 9, 10, 11, 12, 13, 14] (by kernel_rfl) (by kernel_rfl) ?_
  simp only [pickO, List.getElem?_cons_zero, List.getElem?_cons_succ]
  iterate 7 (refine wildO_val (by decide) (by kernel_rfl) rfl ?_; intro K hK; go_big_quiet_op; go_big_quiet_on)
  refine wildO_wild (by decide) (by kernel_rfl) ?_
  intro x K hK
  unfold wildAt
  go_simp
  rw [HEX.out]
  refine (HKR.out _ (hTB.out.below x.h)).mono ?_
  rintro e w2 ⟨v, rfl, ow, b2⟩
  refine ⟨_, rfl, b2, hK _ _ ?_⟩
  simp only [Act.put, List.setIfInBounds_toArray, List.set_cons_succ, List.set_cons_zero]
  have a1 := Below.step x.h b2
  clear hK
  have ow2 : OwnEnts w2 C v c := ow.low (Nat.le_trans hbs x.h.size)
  iterate 7 (refine wildO_val (by decide) (by kernel_rfl) rfl ?_; intro K hK; go_big_quiet_op; go_big_quiet_on)
  refine wildO_nil ?_
  rintro ⟨z, hz⟩
  dsimp only
  have b3 := below_past bx (Below.step a1 hz) hbs
  have hbz : C ≤ z.heap.size := Nat.le_trans hbs (Below.step a1 hz).size
  have ow3 := ow2.below hz
  have r3 := rowAt_past (Below.step a1 hz) r0
  clear a1 hz ow ow2 b2 y0 y1 HKR HEX hTB r0 bx
  obtain ⟨A, cap2, rfl, h1, h2, h3⟩ := ow3.lie
  obtain ⟨ga, oa, rfl, hat⟩ := h3 q y HY.out
  have hat := hat.1
  rw [HQ.out] at h1 ow3 ⊢
  unfold maxLen at h2
  have h4 : (q : Int) + 1 ≤ cap2 := by omega
  have h6 : ((q : Int) + 1 == 0) = false := by rw [beq_eq_false_iff_ne]; omega
  have h5 : (cap2 : Int) ≤ 9223372036854775807 := by omega
  have c1 := cell_of_rowAt r3 1
  have l2 : (y.key == y.key) = true := beq_self_eq_true _
  have y0 := fun u : Past z => (u.h.cell (p := ⟨C, 1, none⟩) (cellLt c1)).trans c1
  have y1 := fun u : Past z => (u.h.cell (p := ⟨ga, oa + q * 3, none⟩) (cellLt hat)).trans hat
  clear h3 c1 r3 hat
  go_upto_region 4 with fail
  refine wp_region_past (by kernel_rfl) (by kernel_rfl) ?_
  repeat (go_big_quiet_step (fail))
  refine wpQuiet_nil ?_
  intro w2 hw2
  obtain ⟨⟨wn, hn⟩, rfl⟩ := hw2
  try dsimp only
  have ow4 := ow3.below hn
  have b4 := below_past b3 hn hbz
  have HC := Lib.hid hC
  clear y0 y1 ow3 b3 hn hC
  go_wp2_with fail
  go_ret2
  exact ⟨_, rfl, by rw [HC.out]; exact ow4, by rw [HC.out]; exact b4⟩
set_option maxRecDepth 100000 in
theorem tFirst_any (b : Nat) (S : List UInt8) (ix m p : Nat) (bs fk : List UInt8) (G : List Grp) (w : World) (h : TabAt w b S ix m p bs fk G) (hk : fk.length ≤ 65536) :
    Calls Tryd.prog 17 #[.pointer (some ⟨b, 0, none⟩)] w fun e w' => e = .returned (.string (stx fk)) ∧ Below w.heap.size w w' := by
  obtain ⟨g, cap, gv, hx, _, _⟩ := h
  have c0 := (Lib.cell_of_heap hx 5).trans (rfl : _ = some (Value.string (stx fk)))
  have HC := Lib.hid (fun w => sClone_any (stx fk) w (by rw [stx_size]; omega))
  clear hx hk
  go_enter Tryd.func17, Tryd.ntmps17
  go_wp2_with fail
  refine (HC.out _).mono ?_
  rintro e w1 ⟨rfl, b1⟩
  clear HC
  go_wp2_with fail
  go_ret
  exact ⟨rfl, b1⟩
set_option maxRecDepth 100000 in
theorem tCount_any (b : Nat) (S : List UInt8) (ix m p : Nat) (bs fk : List UInt8) (G : List Grp) (w : World) (h : TabAt w b S ix m p bs fk G) :
    Calls Tryd.prog 16 #[.pointer (some ⟨b, 0, none⟩)] w fun e w' => e = .returned (.int .i64 m) ∧ Below w.heap.size w w' := by
  obtain ⟨g, cap, gv, hx, _, _⟩ := h
  have c0 := (Lib.cell_of_heap hx 4).trans (rfl : _ = some (Value.int .i64 m))
  clear hx
  go_enter Tryd.func16, Tryd.ntmps16
  go_wp2_with fail
  go_ret
  exact ⟨rfl, Below.refl _ _⟩
set_option maxRecDepth 100000 in
set_option maxHeartbeats 1000000 in
theorem tLast_any (b : Nat) (S : List UInt8) (ix m p : Nat) (bs fk : List UInt8) (G : List Grp) (w : World) (h : TabAt w b S ix m p bs fk G) (hG : G ≠ []) (hk : ∀ g ∈ G, g.last.length ≤ 65536) :
    Calls Tryd.prog 18 #[.pointer (some ⟨b, 0, none⟩)] w fun e w' => e = .returned (.string (stx (lastG G))) ∧ Below w.heap.size w w' := by
  obtain ⟨g, cap, gv, hx, _, hg⟩ := h
  obtain ⟨A, cg, rfl, k1, k2, k3⟩ := hg
  obtain ⟨q, hq⟩ : ∃ q, G.length = q + 1 := ⟨G.length - 1, by have := List.length_pos_iff.2 hG; omega⟩
  obtain ⟨x, hxG⟩ : ∃ x, G[q]? = some x := ⟨_, List.getElem?_eq_getElem (by omega)⟩
  have hlg : lastG G = x.last := by unfold lastG; rw [hq, Nat.add_sub_cancel, List.getD_eq_getElem?_getD, hxG]; rfl
  obtain ⟨gg, og, rfl, hat⟩ := k3 q x hxG
  have c0 := (Lib.cell_of_heap hx 6).trans (rfl : _ = some (Value.slice (some ⟨gg, og, none⟩) G.length cg))
  have HC := Lib.hid (fun w => sClone_any (stx x.last) w (by rw [stx_size]; have := hk x (List.mem_of_getElem? hxG); omega))
  rw [hq] at k1 c0
  rw [hlg]
  unfold maxLen at k2
  have k4 : (q : Int) + 1 ≤ cg := by omega
  have k5 : (cg : Int) ≤ 9223372036854775807 := by omega
  have y0 := fun y : Past w => (y.h.cell (p := ⟨b, 6, none⟩) (cellLt c0)).trans c0
  have y1 := fun y : Past w => (y.h.cell (p := ⟨gg, og + q * 2 + 1, none⟩) (cellLt hat.2)).trans hat.2
  clear hx k3 hxG hlg hat c0 hk
  go_enter Tryd.func18, Tryd.ntmps18
  go_upto_region 1 with fail
  refine wp_region_wildM [13] [0, 1, 2, 3, 4, 5, 6, 7, 8, 9, 10, 11, 12, 13, 14] (by kernel_rfl) (by kernel_rfl) ?_
  simp only [pickO, List.getElem?_cons_zero, List.getElem?_cons_succ]
  iterate 8 (refine wildO_val (by decide) (by kernel_rfl) rfl ?_; intro K hK; go_big_quiet_op; go_big_quiet_on)
  refine wildO_call (by decide) (by kernel_rfl) (by kernel_rfl) ?_
  apply Exists.intro
  refine And.intro ?_ ?_
  focus
    intro x K hK
    go_big_quiet_op
    go_big_quiet_on
    rfl
  iterate 4 (refine wildO_val (by decide) (by kernel_rfl) rfl ?_; intro K hK; go_big_quiet_op; go_big_quiet_on)
  refine wildO_wild (by decide) (by kernel_rfl) ?_
  intro x K hK
  unfold wildAt
  go_simp
  refine (HC.out _).mono ?_
  rintro e w2 ⟨rfl, b2⟩
  refine ⟨_, rfl, b2, hK _ _ ?_⟩
  simp only [Act.put, List.setIfInBounds_toArray, List.set_cons_succ, List.set_cons_zero]
  have a1 := Below.step x.h b2
  clear hK
  iterate 1 (refine wildO_val (by decide) (by kernel_rfl) rfl ?_; intro K hK; go_big_quiet_op; go_big_quiet_on)
  refine wildO_nil ?_
  rintro ⟨z, hz⟩
  dsimp only
  have b3 := Below.step a1 hz
  clear a1 hz b2 y0 y1
  go_wp2_with fail
  go_ret
  exact ⟨rfl, b3⟩
end Go.Proofs.YtgegipijappfhaaDoor
namespace Go.Proofs.YtgegipijappfhaaDoor
open Go Go.RowKit
attribute [local go_sem] Oper.semAt_some

/-- What Get answers. -/
def GetR (o : Option Ent) : Value := match o with
  | some x => .tuple #[entA x, .bool true, .int .i64 0]
  | none => .tuple #[.agg #[.string ⟨#[]⟩, .string ⟨#[]⟩, .bool false], .bool false, .int .i64 0]
theorem grps_lasts : ∀ {cs : List (List Ent)} {a : List UInt8} (p : Nat), goodC a cs → (grpsOf p cs).Pairwise fun c d => c.last < d.last
  | [], _, _, _ => List.Pairwise.nil
  | c :: cs, a, p, h => by
    obtain ⟨h1, _⟩ := List.pairwise_cons.1 (goodC_lasts h)
    refine List.pairwise_cons.2 ⟨fun g hg => ?_, grps_lasts _ h.2.2.2.2⟩
    obtain ⟨i, hi⟩ := List.getElem?_of_mem hg
    obtain ⟨d, hd⟩ : ∃ d, cs[i]? = some d := by
      have := (List.getElem?_eq_some_iff.1 hi).1
      rw [grpsOf_length] at this
      exact ⟨_, List.getElem?_eq_getElem this⟩
    have := grpsOf_get cs (p + (frame (textB c)).length) i d hd
    rw [hi] at this
    obtain rfl := Option.some.inj this
    exact h1 d (List.mem_of_getElem? hd)
theorem goodC_small {cs : List (List Ent)} {a : List UInt8} (h : goodC a cs) : ∀ c ∈ cs, smallB c ∧ c.length ≤ 256 := fun c hc => by
  obtain ⟨_, m2, _⟩ := goodC_mem h c hc
  obtain ⟨h1, h2⟩ := checkB_len m2
  exact ⟨fun x hx => by have := h2 x hx; omega, h1⟩
set_option maxRecDepth 100000 in
set_option maxHeartbeats 4000000 in
theorem tGet_made (b : Nat) (cs : List (List Ent)) (a0 R : List UInt8) (ix m p : Nat) (bs fk : List UInt8) (k : List UInt8) (w : World) (h : TabAt w b (textOf cs ++ R) ix m p bs fk (grpsOf 0 cs)) (ht : Tabs w) (hc : goodC a0 cs) (hS : (textOf cs ++ R).length ≤ 150000000) (hl : cs.length ≤ 2048) (hk : k.length ≤ 1000000) (hmay : ∀ x ∈ cs.flatten, mayF p bs (hashL x.key) = true) :
    Calls Tryd.prog 13 #[.pointer (some ⟨b, 0, none⟩), .string (stx k)] w fun e w' => e = .returned (GetR (look cs.flatten k)) ∧ Below w.heap.size w w' := by
  have b0 : Below w.heap.size w (w.alloc (.cells #[.string ⟨#[]⟩, .string ⟨#[]⟩, .bool false] 36)) := (Below.refl _ _).alloc (Nat.le_refl _) _
  have hz0 : (w.alloc (.cells #[.string ⟨#[]⟩, .string ⟨#[]⟩, .bool false] 36)).heap[w.heap.size]? = some (.cells #[.string ⟨#[]⟩, .string ⟨#[]⟩, .bool false] 36) := heap_alloc_new w _
  have h0 := h.below b0
  have HSK := Lib.hid (tseek_any b _ ix m p bs fk _ k _ h0 (grps_lasts 0 hc) (by rw [grpsOf_length]; exact hl))
  rw [seekG_of] at HSK
  have HLK := Lib.hid (look_block hc k)
  have hcl := seekC_le cs k
  have HRD := Lib.hid (fun i c w h ht hi => tread_made b cs a0 R ix m p bs fk (grpsOf 0 cs) i c w h ht hc hi hS)
  have HSM := Lib.hid (goodC_small hc)
  have HGC := Lib.hid (goodC_mem hc)
  obtain ⟨s, hs⟩ : ∃ s, seekC cs k = s := ⟨_, rfl⟩
  rw [hs] at HSK HLK hcl
  have HMA := Lib.hid (fun ao cap w hB => may_any p ao cap bs (stx k) w (by rw [stx_size]; omega) hB)
  rw [show (stx k).data.toList = k from rfl] at HMA
  have HMY : Hid (mayF p bs (hashL k) = false → look cs.flatten k = none) := Lib.hid fun e => look_none.2 fun x hx he => by
    have := hmay x hx
    rw [he, e] at this
    cases this
  obtain ⟨g, cap, gv, hx, hby, hg⟩ := id h0
  obtain ⟨A, cg, rfl, k1, k2, k3⟩ := hg
  have K3 := Lib.hid k3
  have H0 := Lib.hid h0
  have HB := Lib.hid hby
  have hTB := Lib.hid (ht.below b0)
  obtain ⟨n, hn⟩ : ∃ n, cs.length = n := ⟨_, rfl⟩
  have hgn : (grpsOf 0 cs).length = n := by rw [grpsOf_length, hn]
  have HN := Lib.hid hn
  rw [hgn] at k1 hx
  rw [hn] at hcl hl
  have hni : (n : Int) ≤ 2048 := by omega
  have hsi : (s : Int) ≤ n := by omega
  obtain ⟨my, hmy⟩ : ∃ my, mayF p bs (hashL k) = my := ⟨_, rfl⟩
  rw [hmy] at HMA HMY
  obtain ⟨bn, hbn⟩ : ∃ bn, bs.length = bn := ⟨_, rfl⟩
  rw [hbn] at HMA hx
  unfold maxLen at k2
  have k4 : (n : Int) ≤ cg := by omega
  have k5 : (cg : Int) ≤ 9223372036854775807 := by omega
  clear h h0 hby ht hc hS hmay k3 hs hn hgn hmy hbn hk
  go_enter Tryd.func13, Tryd.ntmps13
  go_wp2_with fail
  generalize (w.alloc (.cells #[.string ⟨#[]⟩, .string ⟨#[]⟩, .bool false] 36)) = W0 at *
  refine HSK.out.mono ?_
  rintro e w1 ⟨rfl, b1⟩
  have hz1 := (b1.block _ (heap_lt hz0)).trans hz0
  have hx1 := (b1.block _ (heap_lt hx)).trans hx
  have b2 := below_past b0 b1 b0.size
  have H1 := Lib.hid (H0.out.below b1)
  have HB1 := Lib.hid (HB.out.below b1)
  have K1 := Lib.hid (fun i x hi => by obtain ⟨g, o, e, hat⟩ := K3.out i x hi; exact (⟨g, o, e, hat.below b1⟩ : ∃ g o, A = some ⟨g, o, none⟩ ∧ GrpAt w1 g (o + i * 2) x))
  have hT1 := Lib.hid (hTB.out.below b1)
  have c2 := (Lib.cell_of_heap hx1 2).trans (rfl : _ = some (Value.int .i64 p))
  have c3 := (Lib.cell_of_heap hx1 3).trans (rfl : _ = some (Value.slice (some ⟨g, 0, none⟩) bn cap))
  have c6 := (Lib.cell_of_heap hx1 6).trans (rfl : _ = some (Value.slice A n cg))
  clear HSK b0 hz0 hx b1 H0 HB K3 hTB
  go_wp2_with fail
  refine (HMA.out _ _ _ HB1.out).mono ?_
  rintro e w2 ⟨rfl, b1⟩
  have hz2 := (b1.block _ (heap_lt hz1)).trans hz1
  have hx2 := (b1.block _ (heap_lt hx1)).trans hx1
  have b3 := below_past b2 b1 b2.size
  have H2 := Lib.hid (H1.out.below b1)
  have K2 := Lib.hid (fun i x hi => by obtain ⟨g, o, e, hat⟩ := K1.out i x hi; exact (⟨g, o, e, hat.below b1⟩ : ∃ g o, A = some ⟨g, o, none⟩ ∧ GrpAt w2 g (o + i * 2) x))
  have hT2 := Lib.hid (hT1.out.below b1)
  clear HMA hz1 hx1 b1 H1 HB1 K1 hT1 c2 c3 c6 b2
  have c6 := (Lib.cell_of_heap hx2 6).trans (rfl : _ = some (Value.slice A n cg))
  cases my with
  | false =>
    have HLN := Lib.hid (HMY.out rfl)
    clear HMY HLK HRD K2 hx2
    have a0 := (Lib.cell_of_heap hz2 0).trans (rfl : _ = some (Value.string ⟨#[]⟩))
    have a1 := (Lib.cell_of_heap hz2 1).trans (rfl : _ = some (Value.string ⟨#[]⟩))
    have a2 := (Lib.cell_of_heap hz2 2).trans (rfl : _ = some (Value.bool false))
    have f0 := Lib.frozen_of_heap hz2 0
    have f1 := Lib.frozen_of_heap hz2 1
    have f2 := Lib.frozen_of_heap hz2 2
    have hz9 := heap_putF (j := 2) (heap_putF (j := 1) (heap_putF (j := 0) hz2 (.string ⟨#[]⟩)) (.string ⟨#[]⟩)) (.bool false)
    have b9 := ((b3.setCell (p := ⟨w.heap.size, 0, none⟩) (Nat.le_refl _) (.string ⟨#[]⟩)).setCell (p := ⟨w.heap.size, 1, none⟩) (Nat.le_refl _) (.string ⟨#[]⟩)).setCell (p := ⟨w.heap.size, 2, none⟩) (Nat.le_refl _) (.bool false)
    have HZ9 := Lib.hid hz9
    have HB9 := Lib.hid b9
    clear hz2 b3 hz9 b9
    go_wp2_with fail
    have r0 := (Lib.cell_of_heap HZ9.out 0).trans (rfl : _ = some (Value.string ⟨#[]⟩))
    have r1 := (Lib.cell_of_heap HZ9.out 1).trans (rfl : _ = some (Value.string ⟨#[]⟩))
    have r2 := (Lib.cell_of_heap HZ9.out 2).trans (rfl : _ = some (Value.bool false))
    refine bodyPost_ret (v := .tuple #[.agg #[.string ⟨#[]⟩, .string ⟨#[]⟩, .bool false], .bool false, .int .i64 0]) (by simp [results, Tryd.f13, go_sem, r0, r1, r2]) rfl ?_
    exact ⟨by rw [HLN.out]; rfl, HB9.out⟩
  | true =>
    clear HMY
    by_cases hsn : s = n
    · have HLN : Hid (look cs.flatten k = none) := Lib.hid (by
        rw [HLK.out, List.getD_eq_getElem?_getD, List.getElem?_eq_none (by rw [HN.out]; omega)]
        rfl)
      have p1 : (s == n) = true := by rw [beq_iff_eq]; exact hsn
      have p2 : ((s : Int) == n) = true := by rw [beq_iff_eq]; omega
      clear HLK HRD K2 hx2
      have a0 := (Lib.cell_of_heap hz2 0).trans (rfl : _ = some (Value.string ⟨#[]⟩))
      have a1 := (Lib.cell_of_heap hz2 1).trans (rfl : _ = some (Value.string ⟨#[]⟩))
      have a2 := (Lib.cell_of_heap hz2 2).trans (rfl : _ = some (Value.bool false))
      have f0 := Lib.frozen_of_heap hz2 0
      have f1 := Lib.frozen_of_heap hz2 1
      have f2 := Lib.frozen_of_heap hz2 2
      have hz9 := heap_putF (j := 2) (heap_putF (j := 1) (heap_putF (j := 0) hz2 (.string ⟨#[]⟩)) (.string ⟨#[]⟩)) (.bool false)
      have b9 := ((b3.setCell (p := ⟨w.heap.size, 0, none⟩) (Nat.le_refl _) (.string ⟨#[]⟩)).setCell (p := ⟨w.heap.size, 1, none⟩) (Nat.le_refl _) (.string ⟨#[]⟩)).setCell (p := ⟨w.heap.size, 2, none⟩) (Nat.le_refl _) (.bool false)
      have HZ9 := Lib.hid hz9
      have HB9 := Lib.hid b9
      clear hz2 b3 hz9 b9
      go_wp2_with fail
      have r0 := (Lib.cell_of_heap HZ9.out 0).trans (rfl : _ = some (Value.string ⟨#[]⟩))
      have r1 := (Lib.cell_of_heap HZ9.out 1).trans (rfl : _ = some (Value.string ⟨#[]⟩))
      have r2 := (Lib.cell_of_heap HZ9.out 2).trans (rfl : _ = some (Value.bool false))
      refine bodyPost_ret (v := .tuple #[.agg #[.string ⟨#[]⟩, .string ⟨#[]⟩, .bool false], .bool false, .int .i64 0]) (by simp [results, Tryd.f13, go_sem, r0, r1, r2]) rfl ?_
      exact ⟨by rw [HLN.out]; rfl, HB9.out⟩
    · have p1 : (s == n) = false := by rw [beq_eq_false_iff_ne]; exact hsn
      have p2 : ((s : Int) == n) = false := by rw [beq_eq_false_iff_ne]; omega
      have p3 : (s : Int) < n := by omega
      obtain ⟨c, hcs⟩ : ∃ c, cs[s]? = some c := ⟨_, List.getElem?_eq_getElem (by rw [HN.out]; omega)⟩
      have hgs := grpsOf_get cs 0 s c hcs
      rw [Nat.zero_add] at hgs
      obtain ⟨gg, og, rfl, hat⟩ := K2.out s _ hgs
      obtain ⟨d0, d1⟩ := hat
      have HR2 := Lib.hid (HRD.out s c w2 H2.out hT2.out hcs)
      have HLC : Hid (look cs.flatten k = look c k) := Lib.hid (by rw [HLK.out, List.getD_eq_getElem?_getD, hcs]; rfl)
      obtain ⟨s1, s2⟩ := HSM.out c (List.mem_of_getElem? hcs)
      have HFN := Lib.hid (fun v w h => kFind_any v c k w h (rising_of_check (HGC.out c (List.mem_of_getElem? hcs)).2.1) (by omega) s1)
      clear hcs hgs HLK HRD K2 s1 s2 H2 hT2 HSM HGC
      go_wp2_with fail
      refine HR2.out.mono ?_
      rintro e w3 ⟨v, rfl, ow, b1⟩
      have hz3 := (b1.block _ (heap_lt hz2)).trans hz2
      have b4 := below_past b3 b1 b3.size
      have HF3 := Lib.hid (HFN.out v w3 ow.lie)
      obtain ⟨O, hO⟩ : ∃ O, look c k = O := ⟨_, rfl⟩
      rw [hO] at HF3 HLC
      clear HR2 hz2 hx2 b1 b3 HFN ow d0 d1 c6 hO
      go_wp2_with fail
      refine HF3.out.mono ?_
      cases O with
      | none =>
        rintro e w4 ⟨rfl, b1⟩
        unfold FindR
        simp only
        have hz4 := (b1.block _ (heap_lt hz3)).trans hz3
        have b5 := below_past b4 b1 b4.size
        have bq : Below w4.heap.size w4 (w4.alloc (.cells #[.string (⟨#[]⟩), .string (⟨#[]⟩), .bool false] 36)) := (Below.refl _ _).alloc (Nat.le_refl _) _
        have r5 := rowAt_alloc_at w4 #[.string (⟨#[]⟩), .string (⟨#[]⟩), .bool false] 36 _ rfl
        have hz5 := (bq.block _ (heap_lt hz4)).trans hz4
        have b6 := below_past b5 bq b5.size
        have e0 := cell_of_rowAt r5 0
        have e1 := cell_of_rowAt r5 1
        have e2 := cell_of_rowAt r5 2
        clear HF3 hz3 b4 b1 hz4 b5 bq r5
        go_upto_region 8 with fail
        generalize hC : w4.heap.size = C at *
        generalize (w4.alloc (.cells #[.string (⟨#[]⟩), .string (⟨#[]⟩), .bool false] 36)) = W5 at *
        have a0 := (Lib.cell_of_heap hz5 0).trans (rfl : _ = some (Value.string ⟨#[]⟩))
        have a1 := (Lib.cell_of_heap hz5 1).trans (rfl : _ = some (Value.string ⟨#[]⟩))
        have a2 := (Lib.cell_of_heap hz5 2).trans (rfl : _ = some (Value.bool false))
        have f0 := Lib.frozen_of_heap hz5 0
        have f1 := Lib.frozen_of_heap hz5 1
        have f2 := Lib.frozen_of_heap hz5 2
        have hz9 := heap_putF (j := 2) (heap_putF (j := 1) (heap_putF (j := 0) hz5 (.string (⟨#[]⟩))) (.string (⟨#[]⟩))) (.bool false)
        have b9 := ((b6.setCell (p := ⟨w.heap.size, 0, none⟩) (Nat.le_refl _) (.string (⟨#[]⟩))).setCell (p := ⟨w.heap.size, 1, none⟩) (Nat.le_refl _) (.string (⟨#[]⟩))).setCell (p := ⟨w.heap.size, 2, none⟩) (Nat.le_refl _) (.bool false)
        have HZ9 := Lib.hid hz9
        have HB9 := Lib.hid b9
        clear hz5 b6 hz9 b9
        go_wp2_with fail
        have r0 := (Lib.cell_of_heap HZ9.out 0).trans (rfl : _ = some (Value.string (⟨#[]⟩)))
        have r1 := (Lib.cell_of_heap HZ9.out 1).trans (rfl : _ = some (Value.string (⟨#[]⟩)))
        have r2 := (Lib.cell_of_heap HZ9.out 2).trans (rfl : _ = some (Value.bool false))
        refine bodyPost_ret (v := .tuple #[.agg #[.string (⟨#[]⟩), .string (⟨#[]⟩), .bool false], .bool false, .int .i64 0]) (by simp [results, Tryd.f13, go_sem, r0, r1, r2]) rfl ?_
        exact ⟨by rw [HLC.out]; rfl, HB9.out⟩
      | some x =>
        rintro e w4 ⟨rfl, b1⟩
        unfold FindR entA
        simp only
        have hz4 := (b1.block _ (heap_lt hz3)).trans hz3
        have b5 := below_past b4 b1 b4.size
        have bq : Below w4.heap.size w4 (w4.alloc (.cells #[.string (stx x.key), .string (stx x.val), .bool x.gone] 36)) := (Below.refl _ _).alloc (Nat.le_refl _) _
        have r5 := rowAt_alloc_at w4 #[.string (stx x.key), .string (stx x.val), .bool x.gone] 36 _ rfl
        have hz5 := (bq.block _ (heap_lt hz4)).trans hz4
        have b6 := below_past b5 bq b5.size
        have e0 := cell_of_rowAt r5 0
        have e1 := cell_of_rowAt r5 1
        have e2 := cell_of_rowAt r5 2
        clear HF3 hz3 b4 b1 hz4 b5 bq r5
        go_upto_region 8 with fail
        generalize hC : w4.heap.size = C at *
        generalize (w4.alloc (.cells #[.string (stx x.key), .string (stx x.val), .bool x.gone] 36)) = W5 at *
        have a0 := (Lib.cell_of_heap hz5 0).trans (rfl : _ = some (Value.string ⟨#[]⟩))
        have a1 := (Lib.cell_of_heap hz5 1).trans (rfl : _ = some (Value.string ⟨#[]⟩))
        have a2 := (Lib.cell_of_heap hz5 2).trans (rfl : _ = some (Value.bool false))
        have f0 := Lib.frozen_of_heap hz5 0
        have f1 := Lib.frozen_of_heap hz5 1
        have f2 := Lib.frozen_of_heap hz5 2
        have hz9 := heap_putF (j := 2) (heap_putF (j := 1) (heap_putF (j := 0) hz5 (.string (stx x.key))) (.string (stx x.val))) (.bool x.gone)
        have b9 := ((b6.setCell (p := ⟨w.heap.size, 0, none⟩) (Nat.le_refl _) (.string (stx x.key))).setCell (p := ⟨w.heap.size, 1, none⟩) (Nat.le_refl _) (.string (stx x.val))).setCell (p := ⟨w.heap.size, 2, none⟩) (Nat.le_refl _) (.bool x.gone)
        have HZ9 := Lib.hid hz9
        have HB9 := Lib.hid b9
        clear hz5 b6 hz9 b9
        go_wp2_with fail
        have r0 := (Lib.cell_of_heap HZ9.out 0).trans (rfl : _ = some (Value.string (stx x.key)))
        have r1 := (Lib.cell_of_heap HZ9.out 1).trans (rfl : _ = some (Value.string (stx x.val)))
        have r2 := (Lib.cell_of_heap HZ9.out 2).trans (rfl : _ = some (Value.bool x.gone))
        refine bodyPost_ret (v := .tuple #[.agg #[.string (stx x.key), .string (stx x.val), .bool x.gone], .bool true, .int .i64 0]) (by simp [results, Tryd.f13, go_sem, r0, r1, r2]) rfl ?_
        exact ⟨by rw [HLC.out]; rfl, HB9.out⟩
end Go.Proofs.YtgegipijappfhaaDoor
namespace Go.Proofs.YtgegipijappfhaaDoor
open Go Go.RowKit
attribute [local go_sem] Oper.semAt_some

theorem partC_len (c : List Ent) (a b : List UInt8) : (partC c a b).length = if b = [] then c.length - seekE c a else min (seekE (c.drop (seekE c a)) b) (c.length - seekE c a) := by
  unfold partC
  rw [List.length_take, List.length_drop]
  split
  · rw [Nat.min_self]
  · rfl
set_option maxRecDepth 100000 in
set_option maxHeartbeats 4000000 in
theorem tRange_made (b : Nat) (cs : List (List Ent)) (a0 R : List UInt8) (ix m p : Nat) (bs fk : List UInt8) (fr tk : List UInt8) (w : World) (h : TabAt w b (textOf cs ++ R) ix m p bs fk (grpsOf 0 cs)) (ht : Tabs w) (hc : goodC a0 cs) (hS : (textOf cs ++ R).length ≤ 150000000) (hl : cs.length ≤ 2048) (h0 : cs ≠ []) :
    Calls Tryd.prog 14 #[.pointer (some ⟨b, 0, none⟩), .string (stx fr), .string (stx tk)] w fun e w' => ∃ v, e = .returned (.tuple #[v, .int .i64 0]) ∧ OwnEnts w' w.heap.size v (rngC fr tk (cs.drop (seekC cs fr))) ∧ Below w.heap.size w w' := by
  have HSK := Lib.hid (fun w h => tseek_any b (textOf cs ++ R) ix m p bs fk (grpsOf 0 cs) fr w h (grps_lasts 0 hc) (by rw [grpsOf_length]; exact hl))
  rw [seekG_of] at HSK
  have hcl := seekC_le cs fr
  have HRD := Lib.hid (fun i c w h ht hi => tread_made b cs a0 R ix m p bs fk (grpsOf 0 cs) i c w h ht hc hi hS)
  have HSM := Lib.hid (goodC_small hc)
  have HGC := Lib.hid (goodC_mem hc)
  obtain ⟨s, hs⟩ : ∃ s, seekC cs fr = s := ⟨_, rfl⟩
  rw [hs] at HSK hcl
  rw [hs]
  obtain ⟨g, cap, gv, hx, hby, hg⟩ := id h
  obtain ⟨A, cg, rfl, k1, k2, k3⟩ := hg
  have hgl : 0 < (grpsOf 0 cs).length := by rw [grpsOf_length]; exact List.length_pos_iff.2 h0
  obtain ⟨x0, hx0⟩ : ∃ x0, (grpsOf 0 cs)[0]? = some x0 := ⟨_, List.getElem?_eq_getElem hgl⟩
  obtain ⟨gg, og, rfl, _⟩ := k3 0 x0 hx0
  obtain ⟨n, hn⟩ : ∃ n, cs.length = n := ⟨_, rfl⟩
  have hgn : (grpsOf 0 cs).length = n := by rw [grpsOf_length, hn]
  have HN := Lib.hid hn
  rw [hgn] at k1 hx
  rw [hn] at hcl hl
  unfold maxLen at k2
  obtain ⟨o3, ho3⟩ : ∃ o3, (if cg = s then (some ⟨gg, og, none⟩ : Option Addr) else some ⟨gg, og + s * 2, none⟩) = some ⟨gg, o3, none⟩ := by
    split
    · exact ⟨_, rfl⟩
    · exact ⟨_, rfl⟩
  have K3 : Hid (∀ j x, (grpsOf 0 cs)[s + j]? = some x → GrpAt w gg (o3 + j * 2) x) := Lib.hid fun j x hjx => by
    obtain ⟨g', o', e, hat⟩ := k3 (s + j) x hjx
    obtain ⟨rfl, rfl⟩ : gg = g' ∧ og = o' := by simpa using e
    have hj := (List.getElem?_eq_some_iff.1 hjx).1
    rw [hgn] at hj
    rw [if_neg (by omega)] at ho3
    obtain rfl : og + s * 2 = o3 := by simpa using ho3
    rwa [show og + s * 2 + j * 2 = og + (s + j) * 2 by omega]
  have HH := Lib.hid h
  have hTB := Lib.hid ht
  have hni : (n : Int) ≤ 2048 := by omega
  have hsi : (s : Int) ≤ n := by omega
  have k4 : (n : Int) ≤ cg := by omega
  have k5 : (cg : Int) ≤ 9223372036854775807 := by omega
  have k6 : (s : Int) ≤ cg := by omega
  have c6 := (Lib.cell_of_heap hx 6).trans (rfl : _ = some (Value.slice (some ⟨gg, og, none⟩) n cg))
  have y0 := fun y : Past w => (y.h.cell (p := ⟨b, 6, none⟩) (cellLt c6)).trans c6
  obtain ⟨q, hq⟩ : ∃ q, n - s = q := ⟨_, rfl⟩
  have hqi : (n : Int) - s = q := by omega
  obtain ⟨RR, hRR⟩ : ∃ RR, rngC fr tk (cs.drop s) = RR := ⟨_, rfl⟩
  have HRR : Hid ([] ++ rngC fr tk (cs.drop (s + 0)) = RR) := Lib.hid hRR
  rw [hRR]
  clear h hx hby ht hc hS k3 hs hgn hn hx0 hgl h0 c6 hRR
  go_enter Tryd.func14, Tryd.ntmps14
  go_upto_region 2 with fail
  refine wp_region_wildM [6] [0, 1, 2, 3, 4, 5, 9, 6, 7, 8] (by kernel_rfl) (by kernel_rfl) ?_
  simp only [pickO, List.getElem?_cons_zero, List.getElem?_cons_succ]
  iterate 7 (refine wildO_val (by decide) (by kernel_rfl) rfl ?_; intro K hK; go_big_quiet_op; go_big_quiet_on)
  refine wildO_wild (by decide) (by kernel_rfl) ?_
  intro x K hK
  unfold wildAt
  go_simp
  refine (HSK.out _ (HH.out.below x.h)).mono ?_
  rintro e w2 ⟨rfl, b2⟩
  refine ⟨_, rfl, b2, hK _ _ ?_⟩
  simp only [Act.put, List.setIfInBounds_toArray, List.set_cons_succ, List.set_cons_zero]
  have a1 := Below.step x.h b2
  clear hK
  iterate 1 (refine wildO_val (by decide) (by kernel_rfl) rfl ?_; intro K hK; go_big_quiet_op; go_big_quiet_on)
  refine wildO_call (by decide) (by kernel_rfl) (by kernel_rfl) ?_
  apply Exists.intro
  refine And.intro ?_ ?_
  focus
    intro x K hK
    go_big_quiet_op
    go_big_quiet_on
    rfl
  refine wildO_nil ?_
  rintro ⟨z, hz⟩
  dsimp only
  have b3 := Below.step a1 hz
  clear a1 hz b2 y0 HSK
  generalize hB : w.heap.size = B at *
  have HB := Lib.hid hB
  clear hB
  go_wp2_with fail
  go_loopw [8, 23] (fun u x wr => ∃ (j : Nat) (L : List Ent), j ≤ q ∧ x = .int .i64 j ∧ OwnEnts wr B u L ∧ Hid (L ++ rngC fr tk (cs.drop (s + j)) = RR) ∧ L.length ≤ j * 256 ∧ Below B w wr ∧ B ≤ wr.heap.size) (fun _ x _ => (q - intOf x).toNat)
  case atStart => exact ⟨0, [], Nat.zero_le _, rfl, ownEnts_nil _ _, HRR, Nat.zero_le _, b3, by have := b3.size; rw [HB.out] at this; exact this⟩
  case round =>
    obtain ⟨j, L, hj, rfl, ow, HL, hLj, b4, hBr⟩ := hrel
    clear b3 HRR
    by_cases hlt : j < q
    · have hlt' : (j : Int) < q := by omega
      obtain ⟨c, hcj⟩ : ∃ c, cs[s + j]? = some c := ⟨_, List.getElem?_eq_getElem (by rw [HN.out]; omega)⟩
      have hgs := grpsOf_get cs 0 (s + j) c hcj
      rw [Nat.zero_add] at hgs
      have b4w : Below w.heap.size w wr := by rw [HB.out]; exact b4
      obtain ⟨d0, d1⟩ := (K3.out j _ hgs).below b4w
      simp only at d0 d1
      have HRC := Lib.hid (fun w h ht => HRD.out (s + j) c w h ht hcj)
      obtain ⟨s1, s2⟩ := HSM.out c (List.mem_of_getElem? hcj)
      obtain ⟨g1, g2, _⟩ := HGC.out c (List.mem_of_getElem? hcj)
      have hrs := rising_of_check g2
      have HST : Hid ((L ++ partC c fr tk) ++ (if (partC c fr tk).length < (c.drop (seekE c fr)).length then [] else rngC fr tk (cs.drop (s + (j + 1)))) = RR) := Lib.hid (by
        obtain ⟨hil, he⟩ := List.getElem?_eq_some_iff.1 hcj
        rw [← HL.out, List.drop_eq_getElem_cons hil, he, rngC, List.append_assoc, Nat.add_assoc])
      obtain ⟨pl, hpl⟩ : ∃ pl, (textOf (cs.take (s + j))).length = pl := ⟨_, rfl⟩
      obtain ⟨lk, hlk⟩ : ∃ lk, lastK c = lk := ⟨_, rfl⟩
      rw [hpl, hlk] at HRC
      rw [hpl] at d0
      rw [hlk] at d1
      have bq : Below wr.heap.size wr (wr.alloc (.cells #[.int .i64 pl, .string (stx lk)] 78)) := (Below.refl _ _).alloc (Nat.le_refl _) _
      have r1 := rowAt_alloc_at wr #[.int .i64 pl, .string (stx lk)] 78 _ rfl
      have b5 := below_past b4 bq hBr
      have b5w : Below w.heap.size w (wr.alloc (.cells #[.int .i64 pl, .string (stx lk)] 78)) := by rw [HB.out]; exact b5
      have HR1 := Lib.hid (HRC.out _ (HH.out.below b5w) (hTB.out.below b5w))
      have ow1 := ow.below bq
      have hB1 := Nat.le_trans hBr bq.size
      have e0 := cell_of_rowAt r1 0
      have e1 := cell_of_rowAt r1 1
      have HC0 := Lib.hid g1
      clear hgs hcj g2 HL hpl hlk bq r1 b5w b4w b4 hBr ow HRC g1
      go_upto_region 5 with fail
      generalize (wr.alloc (.cells #[.int .i64 pl, .string (stx lk)] 78)) = W1 at *
      clear d0 d1
      go_wp2_with fail
      refine HR1.out.mono ?_
      rintro e w2 ⟨v, rfl, oc, b2⟩
      have ow2 := ow1.below b2
      have b6 := below_past b5 b2 hB1
      have hB2 := Nat.le_trans hB1 b2.size
      have hle := oc.lie
      clear HR1 b2 ow1 hB1 b5 e0 e1 oc
      obtain ⟨Ac, cc, rfl, h1, h2, h3⟩ := id hle
      obtain ⟨gc, oc, rfl⟩ : ∃ gc oc, Ac = some ⟨gc, oc, none⟩ := by
        obtain ⟨y, hy⟩ : ∃ y, c[0]? = some y := ⟨_, List.getElem?_eq_getElem (List.length_pos_iff.2 HC0.out)⟩
        obtain ⟨g', o', e, _⟩ := h3 0 y hy
        exact ⟨g', o', e⟩
      have HS2 := Lib.hid (kSeek_any _ c fr w2 hle hrs (by omega))
      have hsl := seekE_le c fr
      have hld := cutV_dropT (k := seekE c fr) hle hsl
      have hd1 : (c.drop (seekE c fr)).length = c.length - seekE c fr := List.length_drop ..
      have HPL := Lib.hid (partC_len c fr tk)
      have HPC : Hid (partC c fr tk = (c.drop (seekE c fr)).take (if tk = [] then (c.drop (seekE c fr)).length else seekE (c.drop (seekE c fr)) tk)) := Lib.hid rfl
      have hrd := rising_drop hrs (seekE c fr)
      rw [hd1] at HST HPC
      have hkl := seekE_le (c.drop (seekE c fr)) tk
      rw [hd1] at hkl
      generalize partC c fr tk = PC at *
      generalize seekE c fr = sk at *
      generalize c.drop sk = L1 at *
      obtain ⟨nc, hnc⟩ : ∃ nc, c.length = nc := ⟨_, rfl⟩
      rw [hnc] at HS2 hsl hld hd1 HPL HST HPC hkl h1 s2
      rw [hnc]
      obtain ⟨A4, hA4⟩ : ∃ A4, (if cc = sk then (some ⟨gc, oc, none⟩ : Option Addr) else some ⟨gc, oc + sk * 3, none⟩) = A4 := ⟨_, rfl⟩
      rw [hA4] at hld
      unfold maxLen at h2
      have hski : (sk : Int) ≤ nc := by omega
      have hskc : (sk : Int) ≤ cc := by omega
      have hnci : (nc : Int) ≤ cc := by omega
      have hcci : (cc : Int) ≤ 9223372036854775807 := by omega
      obtain ⟨nd, hnd⟩ : ∃ nd, nc - sk = nd := ⟨_, rfl⟩
      have hndi : (nc : Int) - sk = nd := by omega
      obtain ⟨cd, hcd⟩ : ∃ cd, cc - sk = cd := ⟨_, rfl⟩
      rw [hnd] at hld hd1 HPL HST HPC hkl
      rw [hcd] at hld
      have hndc : (nd : Int) ≤ cd := by omega
      have hcdi : (cd : Int) ≤ 9223372036854775807 := by omega
      have hnd9 : nd ≤ 256 := by omega
      have HNC := Lib.hid hnc
      have HD1 := Lib.hid hd1
      clear h3 hle hnc hd1 hrs s1
      go_wp2_with fail
      refine HS2.out.mono ?_
      rintro e w3 ⟨rfl, b2⟩
      have ow3 := ow2.below b2
      have b7 := below_past b6 b2 hB2
      have hB3 := Nat.le_trans hB2 b2.size
      have hld3 := hld.below b2
      clear HS2 ow2 b6 hB2 hld b2
      by_cases htk : tk = []
      · have hts : (tk == ([] : List UInt8)) = true := by rw [htk]; rfl
        rw [if_pos htk] at HPC HPL
        have HST2 : Hid ((L ++ L1.take nd) ++ rngC fr tk (cs.drop (s + (j + 1))) = RR) := Lib.hid (by
          have := HST.out
          rw [if_neg (by rw [HPL.out]; omega), HPC.out] at this
          exact this)
        have p1 : decide ((nd : Int) < nd) = false := decide_eq_false (by omega)
        have hlen : (L ++ L1.take nd).length ≤ (j + 1) * 256 := by rw [List.length_append, List.length_take]; omega
        have HLEN := Lib.hid hlen
        clear HST HPC HPL hlen htk
        have HTK := Lib.hid ((EntsAt.take (k := nd) hld3 (by have := HD1.out; omega)).below (Below.refl _ _))
        have hpl : (L1.take nd).length ≤ 1000000 := by rw [List.length_take]; omega
        have hLl : L.length ≤ 1000000 := by omega
        go_wp2_with (at_builtin; refine wpList_put_ents rfl _ _ rfl B _ L rfl ow3 _ (L1.take nd) rfl HTK.out hB3 hLl hpl ?_)
        intro v5 w5 ow5 hg5 _
        have b9 := ow3.grown hg5 b7 hB3
        have hB5 := Nat.le_trans hB3 hg5.size
        clear hg5 ow3 b7 hB3 hld3
        go_wp2_with fail
        exact ⟨⟨j + 1, L ++ L1.take nd, hlt, by go_num, ow5, HST2, HLEN.out, b9, hB5⟩, by simp [intOf]; omega⟩
      · have hts : (tk == ([] : List UInt8)) = false := by rw [beq_eq_false_iff_ne]; exact htk
        rw [if_neg htk] at HPC HPL
        have HS3 := Lib.hid (kSeek_any _ L1 tk w3 hld3 hrd (by have := HD1.out; omega))
        obtain ⟨ek, hek⟩ : ∃ ek, seekE L1 tk = ek := ⟨_, rfl⟩
        rw [hek] at HS3 HPC HPL hkl
        have hlen : (L ++ L1.take ek).length ≤ (j + 1) * 256 := by rw [List.length_append, List.length_take]; omega
        have HLEN := Lib.hid hlen
        have heki : (ek : Int) ≤ cd := by omega
        have heki0 : (ek : Int) ≤ nd := by omega
        clear htk hek hlen hrd
        go_wp2_with fail
        refine HS3.out.mono ?_
        rintro e w4 ⟨rfl, b2⟩
        have ow4 := ow3.below b2
        have b8 := below_past b7 b2 hB3
        have hB4 := Nat.le_trans hB3 b2.size
        have hld4 := hld3.below b2
        clear HS3 ow3 b7 hB3 hld3 b2
        have HTK := Lib.hid ((EntsAt.take (k := ek) hld4 (by have := HD1.out; omega)).below (Below.refl _ _))
        have hpl : (L1.take ek).length ≤ 1000000 := by rw [List.length_take]; omega
        have hLl : L.length ≤ 1000000 := by omega
        go_wp2_with (at_builtin; refine wpList_put_ents rfl _ _ rfl B _ L rfl ow4 _ (L1.take ek) rfl HTK.out hB4 hLl hpl ?_)
        intro v5 w5 ow5 hg5 _
        have b9 := ow4.grown hg5 b8 hB4
        have hB5 := Nat.le_trans hB4 hg5.size
        clear hg5 ow4 b8 hB4 hld4
        by_cases hlt2 : ek < nd
        · have HF : Hid (L ++ L1.take ek = RR) := Lib.hid (by
            have := HST.out
            rw [if_pos (by rw [HPL.out]; omega), HPC.out, List.append_nil] at this
            exact this)
          have p1 : (ek : Int) < nd := by omega
          clear HST HPC HPL HLEN
          go_wp2_with fail
          go_ret2
          exact ⟨_, rfl, by rw [← HF.out, HB.out]; exact ow5, by rw [HB.out]; exact b9⟩
        · have HST2 : Hid ((L ++ L1.take ek) ++ rngC fr tk (cs.drop (s + (j + 1))) = RR) := Lib.hid (by
            have := HST.out
            rw [if_neg (by rw [HPL.out]; omega), HPC.out] at this
            exact this)
          have p1 : ¬ (ek : Int) < nd := by omega
          clear HST HPC HPL
          go_wp2_with fail
          exact ⟨⟨j + 1, L ++ L1.take ek, hlt, by go_num, ow5, HST2, HLEN.out, b9, hB5⟩, by simp [intOf]; omega⟩
    · obtain rfl : j = q := by omega
      have HF : Hid (L = RR) := Lib.hid (by
        rw [← HL.out, List.drop_of_length_le (by rw [HN.out]; omega)]
        simp [rngC])
      clear HL
      go_wp2_with fail
      go_ret2
      exact ⟨_, rfl, by rw [← HF.out, HB.out]; exact ow, by rw [HB.out]; exact b4⟩
end Go.Proofs.YtgegipijappfhaaDoor
namespace Go.Proofs.YtgegipijappfhaaDoor
open Go Go.RowKit
attribute [local go_sem] Oper.semAt_some

/-- An operation whose guard holds is as one without a guard. -/
theorem wpList_guarded {P : Program} {ops : Array Oper} {Q : Exit → Act → World → Prop} {o : Oper} {rest : List Oper} {a : Act} {w : World} (hw : Region.wanted o (yielded ops a.tmps) = true) (h : wpList P ops Q ({ o with guard := none } :: rest) a w) : wpList P ops Q (o :: rest) a w := by
  unfold wpList at h ⊢
  rw [if_pos (by simp [Region.wanted])] at h
  rw [if_pos hw]
  exact h
/-- Chunks of entries that were made a table. -/
structure Chunks (l : List Ent) (S : List UInt8) (cs : List (List Ent)) : Prop where
  all : l = cs.flatten
  good : goodC [] cs
  some : cs ≠ []
  few : cs.length ≤ l.length
  text : S = textOf cs ++ tailT (textOf cs) (grpsOf 0 cs) (encBl 7 (bloomT l)) l.length (headK l)
  short : (textOf cs).length ≤ 140000000
  index : (indexT (grpsOf 0 cs)).length ≤ 65536
  foot : (footT (textOf cs).length (encBl 7 (bloomT l)) l.length (headK l)).length ≤ 65536
theorem textOf_len : ∀ {cs : List (List Ent)} {a : List UInt8}, goodC a cs → (textOf cs).length ≤ cs.length * 65544
  | [], _, _ => Nat.zero_le _
  | c :: cs, a, h => by
    have := textOf_len h.2.2.2.2
    have h3 := h.2.2.1
    have e : (textOf (c :: cs)).length = (frame (textB c)).length + (textOf cs).length := by simp [textOf]
    rw [e, frame_length, List.length_cons]
    omega
theorem made_chunks {l : List Ent} {size : Int} (h : (makeT l size).2 = 0) (hl : l.length ≤ 2048) : ∃ cs, Chunks l (makeT l size).1 cs := by
  unfold makeT at h ⊢
  by_cases h1 : size < 1 ∨ 16384 < size
  · rw [if_pos h1] at h
    cases h
  · rw [if_neg h1] at h ⊢
    by_cases h2 : l = []
    · rw [if_pos h2] at h
      cases h
    · rw [if_neg h2] at h ⊢
      by_cases h3 : 2048 < l.length
      · omega
      · rw [if_neg h3] at h ⊢
        simp only at h ⊢
        by_cases h4 : (layF size.toNat l.length l [] []).fail = 0
        · rw [if_neg (by rw [h4]; simp)] at h ⊢
          by_cases h5 : 65536 < (indexT (layF size.toNat l.length l [] []).grps).length
          · rw [if_pos h5] at h
            cases h
          · rw [if_neg h5] at h ⊢
            split at h
            · cases h
            · rename_i h6
              rw [if_neg h6]
              obtain ⟨cs, e1, e2, e3, e4⟩ := lay_ok size.toNat l.length l [] [] (Nat.le_refl _) h4
              rw [if_pos rfl] at e4
              rw [List.nil_append] at e2 e3
              rw [List.length_nil] at e3
              rw [e2] at h6 ⊢
              rw [e3] at h5 ⊢
              have hne : cs ≠ [] := by
                rintro rfl
                exact h2 e1
              have hc := chunks_le e4
              rw [← e1] at hc
              have ht := textOf_len e4
              exact ⟨cs, e1, e4, hne, hc, rfl, by omega, by omega, by omega⟩
        · rw [if_pos h4] at h
          exact absurd h h4
/-- An open table of entries. -/
def OpenT (w : World) (b : Nat) (l : List Ent) : Prop := ∃ cs S, Chunks l S cs ∧ l.length ≤ 2048 ∧ TabAt w b S (textOf cs).length l.length 7 (bloomT l) (headK l) (grpsOf 0 cs)
theorem OpenT.below {w w' : World} {b : Nat} {l : List Ent} (h : OpenT w b l) (k : Below w.heap.size w w') : OpenT w' b l := by
  obtain ⟨cs, S, h1, h2, h3⟩ := h
  exact ⟨cs, S, h1, h2, h3.below k⟩
theorem Chunks.head {l : List Ent} {S : List UInt8} {cs : List (List Ent)} (h : Chunks l S cs) : (headK l).length ≤ 100 ∧ l ≠ [] ∧ rising l := by
  have hr := goodC_rising h.good
  rw [← h.all] at hr
  have hl : 0 < l.length := Nat.lt_of_lt_of_le (List.length_pos_iff.2 h.some) h.few
  have hne : l ≠ [] := List.length_pos_iff.1 hl
  refine ⟨?_, hne, hr⟩
  have e : headK l = l[0].key := by
    unfold headK
    rw [List.getD_eq_getElem?_getD, List.getElem?_eq_getElem hl]
    rfl
  have hm : l[0] ∈ cs.flatten := by rw [← h.all]; exact List.getElem_mem _
  obtain ⟨d, hd, hxd⟩ := List.mem_flatten.1 hm
  rw [e]
  exact ((checkB_len (goodC_mem h.good d hd).2.1).2 _ hxd).1
theorem Chunks.size {l : List Ent} {S : List UInt8} {cs : List (List Ent)} (h : Chunks l S cs) : S.length ≤ 150000000 := by
  rw [h.text]
  unfold tailT
  have h1 := h.short
  have h2 := h.index
  have h3 := h.foot
  rw [List.length_append, List.length_append, List.length_append, frame_length, frame_length]
  show _ + (_ + _ + 3) ≤ _
  omega
theorem mOpen_any (l : List Ent) (S : List UInt8) (cs : List (List Ent)) (w : World) (h : Chunks l S cs) (ht : Tabs w) (hl : l.length ≤ 2048) :
    Calls Tryd.prog 12 #[.string (stx S)] w fun e w' => ∃ b, e = .returned (.tuple #[.pointer (some ⟨b, 0, none⟩), .int .i64 0]) ∧ OpenT w' b l ∧ Below w.heap.size w w' := by
  have hh := h.head.1
  have := tOpen_made cs [] l.length 7 (bloomT l) (headK l) w ht h.good h.some ⟨h.few, hl⟩ h.short h.index h.foot (bloomT_good l hl) (by omega)
  rw [← h.text] at this
  refine this.mono ?_
  rintro e w' ⟨b, he, h1, h2⟩
  exact ⟨b, he, ⟨cs, S, h, hl, h1⟩, h2⟩
theorem mGet_any (b : Nat) (l : List Ent) (k : List UInt8) (w : World) (h : OpenT w b l) (ht : Tabs w) (hk : k.length ≤ 1000000) :
    Calls Tryd.prog 13 #[.pointer (some ⟨b, 0, none⟩), .string (stx k)] w fun e w' => e = .returned (GetR (look l k)) ∧ Below w.heap.size w w' := by
  obtain ⟨cs, S, h1, hl, h3⟩ := h
  have hs := h1.size
  rw [h1.text] at h3 hs
  have := tGet_made b cs [] _ _ _ 7 _ _ k w h3 ht h1.good hs (Nat.le_trans h1.few hl) hk (fun x hx => by
    rw [← h1.all] at hx
    exact mayF_has 7 _ _ _ (List.mem_map.2 ⟨x, hx, rfl⟩) (sizeK_pos _ _) (Nat.le_trans (sizeK_le l.length 10 hl (by decide)) (by decide)))
  rw [← h1.all] at this
  exact this
theorem mRange_any (b : Nat) (l : List Ent) (fr tk : List UInt8) (w : World) (h : OpenT w b l) (ht : Tabs w) :
    Calls Tryd.prog 14 #[.pointer (some ⟨b, 0, none⟩), .string (stx fr), .string (stx tk)] w fun e w' => ∃ v, e = .returned (.tuple #[v, .int .i64 0]) ∧ OwnEnts w' w.heap.size v (l.filter (within fr tk)) ∧ Below w.heap.size w w' := by
  obtain ⟨cs, S, h1, hl, h3⟩ := h
  have hs := h1.size
  rw [h1.text] at h3 hs
  have := tRange_made b cs [] _ _ _ 7 _ _ fr tk w h3 ht h1.good hs (Nat.le_trans h1.few hl) h1.some
  rw [range_all h1.good, ← h1.all] at this
  exact this
theorem mFirst_any (b : Nat) (l : List Ent) (w : World) (h : OpenT w b l) :
    Calls Tryd.prog 17 #[.pointer (some ⟨b, 0, none⟩)] w fun e w' => e = .returned (.string (stx (headK l))) ∧ Below w.heap.size w w' := by
  obtain ⟨cs, S, h1, hl, h3⟩ := h
  exact tFirst_any b S _ _ _ _ _ _ w h3 (by have := h1.head.1; omega)
theorem mCount_any (b : Nat) (l : List Ent) (w : World) (h : OpenT w b l) :
    Calls Tryd.prog 16 #[.pointer (some ⟨b, 0, none⟩)] w fun e w' => e = .returned (.int .i64 l.length) ∧ Below w.heap.size w w' := by
  obtain ⟨cs, S, h1, hl, h3⟩ := h
  exact tCount_any b S _ _ _ _ _ _ w h3
theorem last_grps : ∀ {cs : List (List Ent)} {a : List UInt8} (p : Nat), goodC a cs → cs ≠ [] → lastG (grpsOf p cs) = lastK cs.flatten
  | [], _, _, _, h => absurd rfl h
  | [c], a, p, h, _ => by
    simp [grpsOf, lastG]
  | c :: d :: cs, a, p, h, _ => by
    have ih := last_grps (p + (frame (textB c)).length) h.2.2.2.2 (by simp)
    have e1 : lastG (grpsOf p (c :: d :: cs)) = lastG (grpsOf (p + (frame (textB c)).length) (d :: cs)) := by
      rw [grpsOf]
      unfold lastG
      rw [List.length_cons, Nat.add_sub_cancel]
      have hl : 0 < (grpsOf (p + (frame (textB c)).length) (d :: cs)).length := by rw [grpsOf_length]; simp
      obtain ⟨q, hq⟩ : ∃ q, (grpsOf (p + (frame (textB c)).length) (d :: cs)).length = q + 1 := Nat.exists_eq_succ_of_ne_zero (by omega)
      rw [hq, List.getD_eq_getElem?_getD, List.getElem?_cons_succ, Nat.add_sub_cancel, List.getD_eq_getElem?_getD]
    have e2 : lastK (c :: d :: cs).flatten = lastK (d :: cs).flatten := by
      rw [List.flatten_cons]
      have hl : 0 < (d :: cs).flatten.length := by
        have := List.length_pos_iff.2 h.2.2.2.2.1
        rw [List.flatten_cons, List.length_append]
        omega
      unfold lastK
      rw [List.length_append, List.getD_eq_getElem?_getD, List.getElem?_append_right (by omega), List.getD_eq_getElem?_getD]
      congr 3
      omega
    rw [e1, e2, ih]
theorem mLast_any (b : Nat) (l : List Ent) (w : World) (h : OpenT w b l) :
    Calls Tryd.prog 18 #[.pointer (some ⟨b, 0, none⟩)] w fun e w' => e = .returned (.string (stx (lastK l))) ∧ Below w.heap.size w w' := by
  obtain ⟨cs, S, h1, hl, h3⟩ := h
  have := tLast_any b S _ _ _ _ _ _ w h3 (by
    intro e
    have := congrArg List.length e
    rw [grpsOf_length] at this
    exact h1.some (List.eq_nil_of_length_eq_zero this)) (fun g hg => by have := (grpsOf_bound cs [] 0 h1.good g hg).2.2; omega)
  rw [last_grps 0 h1.good h1.some, ← h1.all] at this
  exact this
theorem tabs_any (l : List Ent) : ∀ (size : Int), (makeT l size).2 ≠ 0 → (makeT l size).1 = [] := by
  intro size h
  unfold makeT at h ⊢
  by_cases h1 : size < 1 ∨ 16384 < size
  · rw [if_pos h1]
  · rw [if_neg h1] at h ⊢
    by_cases h2 : l = []
    · rw [if_pos h2]
    · rw [if_neg h2] at h ⊢
      by_cases h3 : 2048 < l.length
      · rw [if_pos h3]
      · rw [if_neg h3] at h ⊢
        simp only at h ⊢
        split at h
        · rename_i q
          rw [if_pos q]
        · rename_i q
          rw [if_neg q]
          split at h
          · rename_i q2
            rw [if_pos q2]
          · rename_i q2
            rw [if_neg q2]
            split at h
            · rename_i q3
              rw [if_pos q3]
            · cases h rfl
/-- The table of awake. -/
def a10 : Ent := ⟨[97], [49], false⟩
theorem a10_make : (makeT [a10] 100).2 = 0 := by decide +kernel
set_option maxRecDepth 100000 in
set_option maxHeartbeats 4000000 in
theorem awake10 (w : World) (ht : Tabs w) : Calls Tryd.prog 10 #[] w fun e w' => e = .returned (.bool true) ∧ Below w.heap.size w w' := by
  have b0 : Below w.heap.size w (w.alloc (.cells #[.string ⟨#[97]⟩, .string ⟨#[49]⟩, .bool false] 36)) := (Below.refl _ _).alloc (Nat.le_refl _) _
  have he : EntsAt (w.alloc (.cells #[.string ⟨#[97]⟩, .string ⟨#[49]⟩, .bool false] 36)) (.slice (some ⟨w.heap.size, 0, none⟩) 1 1) [a10] := by
    refine ⟨_, _, rfl, Nat.le_refl _, by decide, fun i x hx => ⟨_, _, rfl, ?_⟩⟩
    match i, hx with
    | 0, hx =>
      obtain rfl : a10 = x := by simpa using hx
      exact entAt_new w a10 _ rfl
  obtain ⟨cs, hcs⟩ := made_chunks a10_make (by decide)
  have HM := Lib.hid (tMake_any _ [a10] 100 _ he (ht.below b0) (fun x hx => by obtain rfl := List.mem_singleton.1 hx; decide) (fun x hx => by obtain rfl := List.mem_singleton.1 hx; decide) (by decide))
  unfold MakeTR at HM
  rw [a10_make] at HM
  generalize (makeT [a10] 100).1 = S at *
  have HO := Lib.hid (fun w ht => mOpen_any [a10] S cs w hcs ht (by decide))
  have HG := Lib.hid (fun b w h ht => mGet_any b [a10] [97] w h ht (by decide))
  rw [show look [a10] [97] = some a10 from rfl] at HG
  have HF := Lib.hid (fun b w h => mFirst_any b [a10] w h)
  have HL := Lib.hid (fun b w h => mLast_any b [a10] w h)
  have HC := Lib.hid (fun b w h => mCount_any b [a10] w h)
  rw [show stx (headK [a10]) = ⟨#[97]⟩ from rfl] at HF
  rw [show stx (lastK [a10]) = ⟨#[97]⟩ from rfl] at HL
  rw [show (([a10].length : Nat) : Int) = 1 from rfl] at HC
  rw [show stx [97] = ⟨#[97]⟩ from rfl, show GetR (some a10) = .tuple #[.agg #[.string ⟨#[97]⟩, .string ⟨#[49]⟩, .bool false], .bool true, .int .i64 0] from rfl] at HG
  have hTB := Lib.hid (ht.below b0)
  clear ht he hcs
  generalize stx S = SS at *
  go_enter Tryd.func10, Tryd.ntmps10
  go_wp2_with fail
  generalize (w.alloc (.cells #[.string ⟨#[97]⟩, .string ⟨#[49]⟩, .bool false] 36)) = W0 at *
  refine HM.out.mono ?_
  rintro e w1 ⟨rfl, b1⟩
  have b2 := below_past b0 b1 b0.size
  have T1 := Lib.hid (hTB.out.below b1)
  have HO1 := Lib.hid (HO.out w1 T1.out)
  clear HM b0 b1 hTB HO
  go_wp2_with fail
  refine HO1.out.mono ?_
  rintro e w2 ⟨b, rfl, o2, b1⟩
  have b3 := below_past b2 b1 b2.size
  have T2 := Lib.hid (T1.out.below b1)
  have O2 := Lib.hid o2
  have HG2 := Lib.hid (HG.out b w2 o2 T2.out)
  clear HO1 b2 b1 T1 HG o2
  go_wp2_with fail
  refine HG2.out.mono ?_
  rintro e w3 ⟨rfl, b1⟩
  have b4 := below_past b3 b1 b3.size
  have bq : Below w3.heap.size w3 (w3.alloc (.cells #[.string ⟨#[97]⟩, .string ⟨#[49]⟩, .bool false] 36)) := (Below.refl _ _).alloc (Nat.le_refl _) _
  have r3 := rowAt_alloc_at w3 #[.string ⟨#[97]⟩, .string ⟨#[49]⟩, .bool false] 36 _ rfl
  have b5 := below_past b4 bq b4.size
  have O3 := Lib.hid ((O2.out.below b1).below bq)
  have c1 := cell_of_rowAt r3 1
  clear HG2 b3 b1 b4 T2 O2 bq r3
  have HF3 := Lib.hid (HF.out b _ O3.out)
  clear HF
  go_wp2_with fail
  generalize (w3.alloc (.cells #[.string ⟨#[97]⟩, .string ⟨#[49]⟩, .bool false] 36)) = W3 at *
  refine HF3.out.mono ?_
  rintro e w4 ⟨rfl, b1⟩
  have b6 := below_past b5 b1 b5.size
  have O4 := Lib.hid (O3.out.below b1)
  have HL4 := Lib.hid (HL.out b _ O4.out)
  clear HF3 b5 b1 O3 HL c1
  go_wp2_with fail
  refine HL4.out.mono ?_
  rintro e w5 ⟨rfl, b1⟩
  have b7 := below_past b6 b1 b6.size
  have O5 := Lib.hid (O4.out.below b1)
  have HC5 := Lib.hid (HC.out b _ O5.out)
  clear HL4 b6 b1 O4 HC
  go_wp2_with fail
  refine HC5.out.mono ?_
  rintro e w6 ⟨rfl, b1⟩
  have b8 := below_past b7 b1 b7.size
  clear HC5 b7 b1 O5
  go_wp2_with fail
  go_ret
  exact ⟨rfl, b8⟩
end Go.Proofs.YtgegipijappfhaaDoor
namespace Go.Proofs.YtgegipijappfhaaDoor
open Go Go.RowKit

/-- Lists of entries that lie in memory. -/
def EntssAt (w : World) (v : Value) (ls : List (List Ent)) : Prop :=
  ∃ A cap, v = .slice A ls.length cap ∧ ls.length ≤ cap ∧ cap ≤ maxLen ∧ ∀ i l, ls[i]? = some l → ∃ g o u, A = some ⟨g, o, none⟩ ∧ w.cell? ⟨g, o + i, none⟩ = some u ∧ EntsAt w u l
theorem EntssAt.below {w w' : World} {v : Value} {ls : List (List Ent)} (h : EntssAt w v ls) (k : Below w.heap.size w w') : EntssAt w' v ls := by
  obtain ⟨A, cap, h1, h2, h3, h4⟩ := h
  refine ⟨A, cap, h1, h2, h3, fun i x hi => ?_⟩
  obtain ⟨g, o, u, h5, h6, h7⟩ := h4 i x hi
  exact ⟨g, o, u, h5, (k.cell (p := ⟨g, o + i, none⟩) (cellLt h6)).trans h6, h7.below k⟩
theorem EntssAt.take {w : World} {A : Option Addr} {n cap k : Nat} {ls : List (List Ent)} (h : EntssAt w (.slice A n cap) ls) (hk : k ≤ ls.length) : EntssAt w (.slice A k cap) (ls.take k) := by
  obtain ⟨A', cap', h1, h2, h3, h4⟩ := h
  obtain ⟨rfl, rfl, rfl⟩ : A = A' ∧ n = ls.length ∧ cap = cap' := by simpa using h1
  refine ⟨_, _, by rw [List.length_take, Nat.min_eq_left hk], by rw [List.length_take]; omega, by omega, fun i x hi => ?_⟩
  rw [List.getElem?_take] at hi
  split at hi
  · exact h4 i x hi
  · cases hi
theorem EntssAt.drop {w : World} {g o n cap k : Nat} {ls : List (List Ent)} (h : EntssAt w (.slice (some ⟨g, o, none⟩) n cap) ls) (hk : k ≤ ls.length) : EntssAt w (.slice (if cap = k then some ⟨g, o, none⟩ else some ⟨g, o + k, none⟩) (n - k) (cap - k)) (ls.drop k) := by
  obtain ⟨A', cap', h1, h2, h3, h4⟩ := h
  obtain ⟨rfl, rfl, rfl⟩ : some ⟨g, o, none⟩ = A' ∧ n = ls.length ∧ cap = cap' := by simpa using h1
  refine ⟨_, _, by rw [List.length_drop], by rw [List.length_drop]; omega, by omega, fun i x hi => ?_⟩
  rw [List.getElem?_drop] at hi
  obtain ⟨g', o', u, e, h6, h7⟩ := h4 _ x hi
  obtain ⟨rfl, rfl⟩ : g = g' ∧ o = o' := by simpa using e
  have hl := (List.getElem?_eq_some_iff.1 hi).1
  rw [if_neg (by omega)]
  exact ⟨g, o + k, u, rfl, by rwa [show o + k + i = o + (k + i) by omega], h7⟩
/-- Lists of entries of the call's own, each in a block of its own. -/
def OwnLists (w : World) (B : Nat) (v : Value) (ls : List (List Ent)) : Prop :=
  ∃ us : List Value, us.length = ls.length ∧ w.ownsRow B 22 1 v ls.length us ∧ ∀ (i : Nat) (u : Value) (l : List Ent), us[i]? = some u → ls[i]? = some l → OwnEnts w B u l
theorem OwnLists.lie {w : World} {B : Nat} {v : Value} {ls : List (List Ent)} (h : OwnLists w B v ls) : EntssAt w v ls := by
  obtain ⟨us, hl, ho, hu⟩ := h
  have ho' := ho
  rcases ho.2 with ⟨rfl, h0⟩ | ⟨g, cap, cur, rfl, hb, hg, h1, h2, h3, h4⟩
  · exact ⟨none, 0, by rw [h0], by omega, Nat.zero_le _, fun i f hi => by rw [List.eq_nil_of_length_eq_zero h0] at hi; simp at hi⟩
  · refine ⟨_, cap, rfl, h1, h2, fun i l hi => ?_⟩
    have hil := (List.getElem?_eq_some_iff.1 hi).1
    obtain ⟨u, hui⟩ : ∃ u, us[i]? = some u := ⟨_, List.getElem?_eq_getElem (by omega)⟩
    refine ⟨g, 0, u, rfl, ?_, (hu i u l hui hi).lie⟩
    have := World.ownsRow.cells ho' (g := g) rfl i u hui
    rwa [add_lit] at this
theorem OwnLists.below {w w' : World} {B : Nat} {v : Value} {ls : List (List Ent)} (h : OwnLists w B v ls) (k : Below w.heap.size w w') : OwnLists w' B v ls := by
  obtain ⟨us, hl, ho, hu⟩ := h
  exact ⟨us, hl, World.ownsRow.kept ho (row := none) ⟨k.os, k.tape, k.output, k.size, fun j hj _ => k.block j hj⟩ (by cases hv : v.ownBlock <;> simp), fun i u l h1 h2 => (hu i u l h1 h2).below k⟩
theorem OwnLists.shape {w : World} {B : Nat} {v : Value} {ls : List (List Ent)} (h : OwnLists w B v ls) : ∃ ao cap, v = .slice ao ls.length cap := by
  obtain ⟨us, hl, ho, hu⟩ := h
  rcases ho.2 with ⟨h1, h2⟩ | ⟨g, cap, cur, h1, _⟩
  · exact ⟨none, 0, by rw [h1, h2]⟩
  · exact ⟨_, _, h1⟩
theorem ownLists_nil (w : World) (B : Nat) : OwnLists w B (.slice none 0 0) [] := ⟨[], rfl, World.ownsRow_nil w B _ 1, fun i u l h => by simp at h⟩
theorem ownLists_new (w : World) (B n : Nat) (hn : n = w.heap.size) (hB : B ≤ n) : OwnLists (w.alloc (.cells #[] 22)) B (.slice (some ⟨n, 0, none⟩) 0 0) [] := by
  subst hn
  exact ⟨[], rfl, ⟨rfl, .inr ⟨w.heap.size, 0, #[], rfl, hB, heap_alloc_new w _, Nat.le_refl _, Nat.zero_le _, rfl, rfl⟩⟩, fun i u l h => by simp at h⟩
theorem info_ents : ∃ i : TypeInfo, Tryd.prog.info? 22 = some i ∧ i.zero = some (.slice none 0 0) ∧ i.size = 1 ∧ i.bytes = 24 := by
  have h : (Tryd.prog.info? 22).map (fun i => (i.zero, i.size, i.bytes)) = some (some (.slice none 0 0), 1, 24) := by kernel_rfl
  cases hq : Tryd.prog.info? 22 with
  | none => rw [hq] at h; cases h
  | some i =>
    rw [hq] at h
    simp only [Option.map_some, Option.some.injEq, Prod.mk.injEq] at h
    exact ⟨i, rfl, h.1, h.2.1, h.2.2⟩
theorem ents_ne_ent : 36 ≠ 22 := by decide
/-- One list is put behind lists of the call's own. -/
theorem wpList_put_list {ops : Array Oper} {rest : List Oper} {o : Oper} {a : Act} {w : World} {Q : Exit → Act → World → Prop} (hgd : o.guard = none) (s x : Operand)
    (ho : o.op = .call { callee := .builtin .append, args := #[s, x], argTypes := #[61, 61] }) (B : Nat) (v : Value) (ls : List (List Ent)) (hs : a.eval s = v) (hown : OwnLists w B v ls)
    (u : Value) (l : List Ent) (hul : OwnEnts w B u l) (g c : Nat) (hx : a.eval x = .slice (some ⟨g, 0, none⟩) 1 c) (hcell : w.cell? ⟨g, 0, none⟩ = some u) (hB : B ≤ w.heap.size) (hl : ls.length ≤ 1000000)
    (h : ∀ v' w', OwnLists w' B v' (ls ++ [l]) → w.grownBy w' v.ownBlock → wpList Tryd.prog ops Q rest (a.put o.dst v') w') : wpList Tryd.prog ops Q (o :: rest) a w := by
  obtain ⟨i0, hi, hz0, hz1, hz2⟩ := info_ents
  obtain ⟨us, hus, hrow, hu⟩ := hown
  have hone : u.oneCell' = true := by
    obtain ⟨A, cap, rfl⟩ := hul.shape
    rfl
  refine wpList_append_own_at (P := Tryd.prog) w hgd s x 61 ho B 22 i0 _ 1 24 Tryd.underlying61 hi hz0 hz1 hz2 rfl (by decide) v ls.length us hs hrow ⟨g, 0, none⟩ 1 c [u] hx rfl ?_ ?_ (by unfold maxLen; omega) (by omega) hB ?_
  · intro j y hy
    have hj : j = 0 := by
      have := (List.getElem?_eq_some_iff.1 hy).1
      simpa using this
    subst hj
    rw [add_lit]
    obtain rfl : u = y := by simpa using hy
    exact hcell
  · intro y hy
    rw [List.mem_singleton.1 hy]
    exact hone
  · intro v' w' h1 h2 _ _
    refine h v' w' ⟨us ++ [u], by simp [hus], by rw [List.length_append]; exact h1, fun i y m hy hm => ?_⟩ h2
    have hkeep : ∀ y m, OwnEnts w B y m → OwnEnts w' B y m := fun y m hym => own_other hym hrow ents_ne_ent h2
    by_cases hil : i < ls.length
    · rw [List.getElem?_append_left (by omega)] at hy
      rw [List.getElem?_append_left hil] at hm
      exact hkeep y m (hu i y m hy hm)
    · rw [List.getElem?_append_right (by omega)] at hy
      rw [List.getElem?_append_right (by omega)] at hm
      have hi1 := (List.getElem?_eq_some_iff.1 hm).1
      have hi0 : i - ls.length = 0 := by simpa using hi1
      rw [hus, hi0] at hy
      rw [hi0] at hm
      obtain rfl : u = y := by simpa using hy
      obtain rfl : l = m := by simpa using hm
      exact hkeep _ _ hul
theorem OwnLists.some {w : World} {B : Nat} {v : Value} {ls : List (List Ent)} {l : List Ent} (h : OwnLists w B v (ls ++ [l])) : ∃ g k, v = .slice (some ⟨g, 0, none⟩) (ls ++ [l]).length k := by
  obtain ⟨us, hus, hrow, hu⟩ := h
  rcases hrow.2 with ⟨_, h0⟩ | ⟨g, cap, cur, rfl, _⟩
  · simp at h0
  · exact ⟨g, cap, rfl⟩
theorem OwnLists.grown {w w' : World} {B : Nat} {v : Value} {ls : List (List Ent)} {a : World} (h : OwnLists w B v ls) (hg : w.grownBy w' v.ownBlock) (b : Below B a w) (hB : B ≤ w.heap.size) : Below B a w' := by
  obtain ⟨us, hus, hrow, hu⟩ := h
  exact b.grown hg hB (fun k hk => (World.ownsRow.lt hrow k hk).1)
end Go.Proofs.YtgegipijappfhaaDoor
namespace Go.Proofs.YtgegipijappfhaaDoor
open Go Go.RowKit

/-- Entries in chunks. -/
def splitT (size : Nat) : Nat → List Ent → List (List Ent)
  | 0, _ => []
  | f + 1, l => if l = [] then [] else l.take (cutT size l) :: splitT size f (l.drop (cutT size l))
theorem splitT_nil (size f : Nat) : splitT size f [] = [] := by cases f <;> rfl
/-- Lists of entries, the call's own, all in blocks below C. -/
def LowLists (w : World) (B C : Nat) (v : Value) (ls : List (List Ent)) : Prop :=
  ∃ us : List Value, us.length = ls.length ∧ w.ownsRow B 22 1 v ls.length us ∧ ∀ (i : Nat) (u : Value) (l : List Ent), us[i]? = some u → ls[i]? = some l → OwnEnts w B u l ∧ ∀ k, u.ownBlock = some k → k < C
theorem LowLists.own {w : World} {B C : Nat} {v : Value} {ls : List (List Ent)} (h : LowLists w B C v ls) : OwnLists w B v ls := by
  obtain ⟨us, h1, h2, h3⟩ := h
  exact ⟨us, h1, h2, fun i u l q1 q2 => (h3 i u l q1 q2).1⟩
theorem OwnLists.lowl {w : World} {B : Nat} {v : Value} {ls : List (List Ent)} (h : OwnLists w B v ls) : LowLists w B w.heap.size v ls := by
  obtain ⟨us, h1, h2, h3⟩ := h
  exact ⟨us, h1, h2, fun i u l q1 q2 => ⟨h3 i u l q1 q2, fun k hk => (World.ownsRow.lt (h3 i u l q1 q2) k hk).2⟩⟩
theorem LowLists.below {w w' : World} {B C : Nat} {v : Value} {ls : List (List Ent)} (h : LowLists w B C v ls) (k : Below w.heap.size w w') : LowLists w' B C v ls := by
  obtain ⟨us, hl, ho, hu⟩ := h
  exact ⟨us, hl, World.ownsRow.kept ho (row := none) ⟨k.os, k.tape, k.output, k.size, fun j hj _ => k.block j hj⟩ (by cases hv : v.ownBlock <;> simp), fun i u l h1 h2 => ⟨(hu i u l h1 h2).1.below k, (hu i u l h1 h2).2⟩⟩
theorem LowLists.grow {w w' : World} {B C : Nat} {v g : Value} {ls : List (List Ent)} {es : List Ent} (h : LowLists w B C v ls) (ho : OwnEnts w C g es) (hg : w.grownBy w' g.ownBlock) (hB : B ≤ C) : LowLists w' B C v ls := by
  obtain ⟨us, h1, h2, h3⟩ := h
  refine ⟨us, h1, own_other h2 (ho.low hB) ents_ne_ent.symm hg, fun i u l q1 q2 => ⟨?_, (h3 i u l q1 q2).2⟩⟩
  refine World.ownsRow.kept (h3 i u l q1 q2).1 (row := g.ownBlock) hg ?_
  cases hub : u.ownBlock with
  | none => exact .inl rfl
  | some k =>
    refine .inr fun e => ?_
    have a1 := (h3 i u l q1 q2).2 k hub
    have a2 := (World.ownsRow.lt ho k e.symm).1
    omega
theorem split_close {size f : Nat} {g rest : List Ent} {x : Ent} {RR out : List (List Ent)} (h : RR = out ++ splitT size (f + 1) (g ++ x :: rest)) (hc : cutT size (g ++ x :: rest) = g.length + 1) : RR = (out ++ [g ++ [x]]) ++ splitT size f ([] ++ rest) := by
  rw [h, splitT, if_neg (by simp), hc]
  have e1 : (g ++ x :: rest).take (g.length + 1) = g ++ [x] := by
    rw [show g ++ x :: rest = (g ++ [x]) ++ rest by simp, List.take_left' (by simp)]
  have e2 : (g ++ x :: rest).drop (g.length + 1) = rest := by
    rw [show g ++ x :: rest = (g ++ [x]) ++ rest by simp, List.drop_left' (by simp)]
  rw [e1, e2, List.nil_append]
  simp
set_option maxRecDepth 100000 in
set_option maxHeartbeats 4000000 in
theorem r10Groups_any (v : Value) (l : List Ent) (size : Nat) (w : World) (h : EntsAt w v l) (hs : smallB l) (hl : l.length ≤ 2048) (hz : size ≤ 16384) :
    Calls Tryd.prog 25 #[v, .int .i64 size] w fun e w' => ∃ u, e = .returned u ∧ OwnLists w' w.heap.size u (splitT size l.length l) ∧ Below w.heap.size w w' := by
  obtain ⟨ao, cap, rfl, hc1, hc2, h3⟩ := h
  have H3 := Lib.hid h3
  have HS := Lib.hid hs
  obtain ⟨n, hn⟩ : ∃ n, l.length = n := ⟨_, rfl⟩
  have HN := Lib.hid hn
  rw [hn] at hl
  obtain ⟨RR, hRR⟩ : ∃ RR, splitT size l.length l = RR := ⟨_, rfl⟩
  have H0 : Hid (RR = [] ++ splitT size n ([] ++ l.drop 0) ∧ cutT size ([] ++ l.drop 0) = cutF size (l.drop 0) 0 0) := Lib.hid ⟨by rw [← hRR, hn]; rfl, rfl⟩
  rw [hRR, hn]
  have hni : (n : Int) ≤ 2048 := by omega
  have hzi : (size : Int) ≤ 16384 := by omega
  have b0 : Below w.heap.size w (w.alloc (.cells #[] 22)) := (Below.refl _ _).alloc (Nat.le_refl _) _
  have o0 := (ownLists_new w w.heap.size w.heap.size rfl (Nat.le_refl _)).lowl
  have bq : Below (w.alloc (.cells #[] 22)).heap.size (w.alloc (.cells #[] 22)) ((w.alloc (.cells #[] 22)).alloc (.cells #[] 36)) := (Below.refl _ _).alloc (Nat.le_refl _) _
  have o1 := o0.below bq
  have g1 := ownEnts_new (w.alloc (.cells #[] 22)) (w.alloc (.cells #[] 22)).heap.size _ rfl (Nat.le_refl _)
  have b1 := below_past b0 bq b0.size
  have hz1 : w.heap.size ≤ (w.alloc (.cells #[] 22)).heap.size := b0.size
  rw [World.size_alloc] at o1 g1 hz1
  clear h3 hs hn hRR hc1 hc2 b0 o0 bq
  go_enter Tryd.func25, Tryd.ntmps25
  go_wp2_with fail
  generalize ((w.alloc (.cells #[] 22)).alloc (.cells #[] 36)) = W1 at *
  generalize hB : w.heap.size = B at *
  have HB := Lib.hid hB
  clear hB
  go_loopw [5, 6, 7, 14] (fun ou gu su x wr => ∃ (i s C f : Nat) (out : List (List Ent)) (g : List Ent), i ≤ n ∧ x = .int .i64 i ∧ su = .int .i64 s ∧ s ≤ i * 3000000 ∧ Hid (RR = out ++ splitT size f (g ++ l.drop i) ∧ cutT size (g ++ l.drop i) = cutF size (l.drop i) s g.length) ∧ Hid ((g ++ l.drop i).length ≤ f) ∧ (i = n → g = []) ∧ g.length ≤ i ∧ g.length < 256 ∧ out.length ≤ i ∧ B ≤ C ∧ C ≤ wr.heap.size ∧ LowLists wr B C ou out ∧ OwnEnts wr C gu g ∧ Below B w wr) (fun _ _ _ x _ => (n - intOf x).toNat)
  case atStart => exact ⟨0, 0, B + 1, n, [], [], Nat.zero_le _, rfl, rfl, Nat.zero_le _, H0, Lib.hid (by rw [List.nil_append, List.drop_zero, HN.out]; exact Nat.le_refl _), fun _ => rfl, Nat.zero_le _, by decide, Nat.zero_le _, Nat.le_succ B, by have := (World.ownsRow.lt g1 (B + 1) rfl).2; omega, o1, g1, b1⟩
  case round =>
    obtain ⟨i, s, C, f, out, g, hi, rfl, rfl, hsi, HI, HF, hg0, hgi, hg2, hoi, hBC, hCw, ol, og, b2⟩ := hrel
    clear H0 o1 g1 b1 hz1
    by_cases hlt : i < n
    · have hlt' : (i : Int) < n := by omega
      obtain ⟨x, hx⟩ : ∃ x, l[i]? = some x := ⟨_, List.getElem?_eq_getElem (by rw [HN.out]; exact hlt)⟩
      obtain ⟨ga, oa, rfl, hat⟩ := H3.out i x hx
      obtain ⟨c0, c1, c2⟩ := hat.below (by rw [HB.out]; exact b2)
      have hsx := HS.out x (List.mem_of_getElem? hx)
      have hdr : l.drop i = x :: l.drop (i + 1) := by
        obtain ⟨hil, he⟩ := List.getElem?_eq_some_iff.1 hx
        rw [List.drop_eq_getElem_cons hil, he]
      have hdl : (l.drop (i + 1)).length = n - (i + 1) := by rw [List.length_drop, HN.out]
      rw [hdr] at HI HF
      obtain ⟨f, rfl⟩ : ∃ f', f = f' + 1 := ⟨f - 1, by have := HF.out; rw [List.length_append, List.length_cons] at this; omega⟩
      have HI2 := HI
      have HF2 := HF
      have HCF : Hid (cutF size (x :: l.drop (i + 1)) s g.length = if size ≤ s + costT x ∨ g.length + 1 = 256 then g.length + 1 else cutF size (l.drop (i + 1)) (s + costT x) (g.length + 1)) := Lib.hid rfl
      have HDL := Lib.hid hdl
      have bq : Below wr.heap.size wr (wr.alloc (.cells #[.string (stx x.key), .string (stx x.val), .bool x.gone] 36)) := (Below.refl _ _).alloc (Nat.le_refl _) _
      have r3 := rowAt_alloc_at wr #[.string (stx x.key), .string (stx x.val), .bool x.gone] 36 _ rfl
      have ol3 := ol.below bq
      have og3 := og.below bq
      have hDg : ∀ k, u6.ownBlock = some k → k < wr.heap.size := fun k hk => (World.ownsRow.lt og k hk).2
      have hBr : B ≤ wr.heap.size := Nat.le_trans hBC hCw
      have b3 := below_past b2 bq hBr
      have hC3 := Nat.le_trans hCw bq.size
      have d0 := cell_of_rowAt r3 0
      have d1 := cell_of_rowAt r3 1
      have d2 := cell_of_rowAt r3 2
      obtain ⟨gl, hgl⟩ : ∃ gl, g.length = gl := ⟨_, rfl⟩
      have hlen : g.length ≤ 1000000 := by omega
      clear hat hdr HI HF ol og b2 hBr hCw hx hdl bq
      go_upto_region 7 with fail
      generalize hD : wr.heap.size = D at *
      generalize (wr.alloc (.cells #[.string (stx x.key), .string (stx x.val), .bool x.gone] 36)) = W3 at *
      clear c0 c1 c2
      have bq : Below W3.heap.size W3 (W3.alloc (.cells #[.string (stx x.key), .string (stx x.val), .bool x.gone] 36)) := (Below.refl _ _).alloc (Nat.le_refl _) _
      have hc4 := entAt_new W3 x _ rfl
      have ol4 := ol3.below bq
      have og4 := og3.below bq
      have b4 := below_past b3 bq (Nat.le_trans hBC hC3)
      have hC4 := Nat.le_trans hC3 bq.size
      have r4 := rowAt_past bq r3
      clear ol3 og3 b3 hC3 r3 bq
      go_wp2_with (at_builtin; refine wpList_put_ent rfl _ _ rfl C _ g rfl og4 x _ 1 rfl hc4 hC4 hlen ?_)
      intro gv w5 og5 hg5 _
      have ol5 := ol4.grow og4 hg5 hBC
      have b5 := b4.grown hg5 (Nat.le_trans hBC hC4) (fun k hk => Nat.le_trans hBC (World.ownsRow.lt og4 k hk).1)
      have hC5 := Nat.le_trans hC4 hg5.size
      have hB5 := Nat.le_trans hBC hC5
      obtain ⟨t4, ht4⟩ := heap_of_rowAt r4
      have h5 := (hg5.block D (heap_lt ht4) (fun e => Nat.lt_irrefl _ (hDg D e.symm))).trans ht4
      have r5 := rowAt_of_heap h5
      have d0 := cell_of_rowAt r5 0
      have d1 := cell_of_rowAt r5 1
      obtain ⟨gA, gC, hgv⟩ := og5.shape
      have hgl1 : (g ++ [x]).length = gl + 1 := by rw [List.length_append, hgl]; rfl
      rw [hgl1] at hgv
      have HGV := Lib.hid hgv
      obtain ⟨ka, hka⟩ : ∃ ka, x.key.length = ka := ⟨_, rfl⟩
      obtain ⟨va, hva⟩ : ∃ va, x.val.length = va := ⟨_, rfl⟩
      have hks : (stx x.key).size = ka := by rw [stx_size, hka]
      have hvs : (stx x.val).size = va := by rw [stx_size, hva]
      unfold costT at HCF
      rw [hka, hva, hgl] at HCF
      obtain ⟨hk1, hv1⟩ := hsx
      rw [hka] at hk1
      rw [hva] at hv1
      have hk9 : (ka : Int) ≤ 1000000 := by omega
      have hv9 : (va : Int) ≤ 1000000 := by omega
      have hs9 : s ≤ 300000000000 := Nat.le_trans hsi (by omega)
      have hs10 : (s : Int) ≤ 300000000000 := by omega
      obtain ⟨q, hq⟩ : ∃ q : Nat, s + (ka + va + 8) = q := ⟨_, rfl⟩
      have hqi : (s : Int) + ((ka : Int) + va + 8) = q := by omega
      have hqs : q ≤ (i + 1) * 3000000 := by omega
      rw [hq] at HCF
      have hq9 : (q : Int) ≤ 302000002000 := by omega
      subst hgv
      clear og4 ol4 hg5 b4 hC4 r4 ht4 h5 r5 hka hva hk1 hv1 hq hsi hc4 hDg hD
      have HGL := Lib.hid hgl
      have hg29 : gl < 256 := by omega
      have hgli : gl ≤ i := by omega
      clear hgl
      by_cases hA : size ≤ q
      · have p1 : decide ((size : Int) ≤ q) = true := decide_eq_true (by omega)
        have p2 : (size : Int) ≤ q := by omega
        have HCUT : Hid (cutT size (g ++ x :: l.drop (i + 1)) = g.length + 1) := Lib.hid (by rw [HI2.out.2, HGL.out, HCF.out, if_pos (.inl hA)])
        clear HCF
        have HI3 : Hid (RR = (out ++ [g ++ [x]]) ++ splitT size f ([] ++ l.drop (i + 1)) ∧ cutT size ([] ++ l.drop (i + 1)) = cutF size (l.drop (i + 1)) 0 ([] : List Ent).length) := Lib.hid ⟨split_close HI2.out.1 HCUT.out, rfl⟩
        have HF3 : Hid (([] ++ l.drop (i + 1)).length ≤ f) := Lib.hid (by have := HF2.out; rw [List.length_append, List.length_cons] at this; rw [List.nil_append]; omega)
        have bq : Below w5.heap.size w5 (w5.alloc (.cells #[.slice gA (gl + 1) gC] 22)) := (Below.refl _ _).alloc (Nat.le_refl _) _
        have r6 := rowAt_alloc_at w5 #[.slice gA (gl + 1) gC] 22 _ rfl
        have ol6 := ol5.own.below bq
        have og6 := (og5.low hBC).below bq
        have b6 := below_past b5 bq hB5
        have hB6 := Nat.le_trans hB5 bq.size
        have hol : out.length ≤ 1000000 := by omega
        clear HI2 HF2 ol5 og5 b5 hB5
        go_wp2_with (at_builtin; refine wpList_put_list rfl _ _ rfl B _ out rfl ol6 (.slice gA (gl + 1) gC) (g ++ [x]) og6 w5.heap.size 1 rfl (cell_of_rowAt r6 0) hB6 hol ?_)
        intro ov7 w7 ol7 hg7
        have b7 := ol6.grown hg7 b6 hB6
        have hB7 := Nat.le_trans hB6 hg7.size
        have ol8 := ol7.lowl
        have bq8 : Below w7.heap.size w7 (w7.alloc (.cells #[] 36)) := (Below.refl _ _).alloc (Nat.le_refl _) _
        have ol9 := ol8.below bq8
        have og9 := ownEnts_new w7 w7.heap.size w7.heap.size rfl (Nat.le_refl _)
        have b9 := below_past b7 bq8 hB7
        have hC9 := bq8.size
        clear ol6 og6 hg7 r6 bq b6 ol7 ol8 bq8 b7
        go_wp2_with fail
        exact ⟨⟨i + 1, 0, w7.heap.size, f, out ++ [g ++ [x]], [], hlt, by go_num, rfl, Nat.zero_le _, HI3, HF3, fun _ => rfl, Nat.zero_le _, by decide, by rw [List.length_append, List.length_singleton]; omega, hB7, hC9, ol9, og9, b9⟩, by simp [intOf]; omega⟩
      · have p1 : decide ((size : Int) ≤ q) = false := decide_eq_false (by omega)
        have p2 : ¬ (size : Int) ≤ q := by omega
        by_cases h256 : gl + 1 = 256
        · have p3 : ((gl : Int) + 1 == 256) = true := by rw [beq_iff_eq]; omega
          have p4 : (gl == 255) = true := by rw [beq_iff_eq]; omega
          have HCUT : Hid (cutT size (g ++ x :: l.drop (i + 1)) = g.length + 1) := Lib.hid (by rw [HI2.out.2, HGL.out, HCF.out, if_pos (.inr h256)])
          clear HCF h256
          have HI3 : Hid (RR = (out ++ [g ++ [x]]) ++ splitT size f ([] ++ l.drop (i + 1)) ∧ cutT size ([] ++ l.drop (i + 1)) = cutF size (l.drop (i + 1)) 0 ([] : List Ent).length) := Lib.hid ⟨split_close HI2.out.1 HCUT.out, rfl⟩
          have HF3 : Hid (([] ++ l.drop (i + 1)).length ≤ f) := Lib.hid (by have := HF2.out; rw [List.length_append, List.length_cons] at this; rw [List.nil_append]; omega)
          have bq : Below w5.heap.size w5 (w5.alloc (.cells #[.slice gA (gl + 1) gC] 22)) := (Below.refl _ _).alloc (Nat.le_refl _) _
          have r6 := rowAt_alloc_at w5 #[.slice gA (gl + 1) gC] 22 _ rfl
          have ol6 := ol5.own.below bq
          have og6 := (og5.low hBC).below bq
          have b6 := below_past b5 bq hB5
          have hB6 := Nat.le_trans hB5 bq.size
          have hol : out.length ≤ 1000000 := by omega
          clear HI2 HF2 ol5 og5 b5 hB5
          go_wp2_with (at_builtin; refine wpList_put_list rfl _ _ rfl B _ out rfl ol6 (.slice gA (gl + 1) gC) (g ++ [x]) og6 w5.heap.size 1 rfl (cell_of_rowAt r6 0) hB6 hol ?_)
          intro ov7 w7 ol7 hg7
          have b7 := ol6.grown hg7 b6 hB6
          have hB7 := Nat.le_trans hB6 hg7.size
          have ol8 := ol7.lowl
          have bq8 : Below w7.heap.size w7 (w7.alloc (.cells #[] 36)) := (Below.refl _ _).alloc (Nat.le_refl _) _
          have ol9 := ol8.below bq8
          have og9 := ownEnts_new w7 w7.heap.size w7.heap.size rfl (Nat.le_refl _)
          have b9 := below_past b7 bq8 hB7
          have hC9 := bq8.size
          clear ol6 og6 hg7 r6 bq b6 ol7 ol8 bq8 b7
          go_wp2_with fail
          exact ⟨⟨i + 1, 0, w7.heap.size, f, out ++ [g ++ [x]], [], hlt, by go_num, rfl, Nat.zero_le _, HI3, HF3, fun _ => rfl, Nat.zero_le _, by decide, by rw [List.length_append, List.length_singleton]; omega, hB7, hC9, ol9, og9, b9⟩, by simp [intOf]; omega⟩
        · have p3 : ((gl : Int) + 1 == 256) = false := by rw [beq_eq_false_iff_ne]; omega
          have p4 : (gl == 255) = false := by rw [beq_eq_false_iff_ne]; omega
          by_cases hlast : i + 1 = n
          · have p5 : ((i : Int) + 1 == n) = true := by rw [beq_iff_eq]; omega
            have p6 : (i + 1 == n) = true := by rw [beq_iff_eq]; omega
            have HCUT : Hid (cutT size (g ++ x :: l.drop (i + 1)) = g.length + 1) := Lib.hid (by
              rw [HI2.out.2, HGL.out, HCF.out, if_neg (fun e => e.elim hA h256), List.eq_nil_of_length_eq_zero (l := l.drop (i + 1)) (by rw [HDL.out]; omega)]
              rfl)
            clear HCF h256 hlast
            have HI3 : Hid (RR = (out ++ [g ++ [x]]) ++ splitT size f ([] ++ l.drop (i + 1)) ∧ cutT size ([] ++ l.drop (i + 1)) = cutF size (l.drop (i + 1)) 0 ([] : List Ent).length) := Lib.hid ⟨split_close HI2.out.1 HCUT.out, rfl⟩
            have HF3 : Hid (([] ++ l.drop (i + 1)).length ≤ f) := Lib.hid (by have := HF2.out; rw [List.length_append, List.length_cons] at this; rw [List.nil_append]; omega)
            have bq : Below w5.heap.size w5 (w5.alloc (.cells #[.slice gA (gl + 1) gC] 22)) := (Below.refl _ _).alloc (Nat.le_refl _) _
            have r6 := rowAt_alloc_at w5 #[.slice gA (gl + 1) gC] 22 _ rfl
            have ol6 := ol5.own.below bq
            have og6 := (og5.low hBC).below bq
            have b6 := below_past b5 bq hB5
            have hB6 := Nat.le_trans hB5 bq.size
            have hol : out.length ≤ 1000000 := by omega
            clear HI2 HF2 ol5 og5 b5 hB5
            go_wp2_with (at_builtin; refine wpList_put_list rfl _ _ rfl B _ out rfl ol6 (.slice gA (gl + 1) gC) (g ++ [x]) og6 w5.heap.size 1 rfl (cell_of_rowAt r6 0) hB6 hol ?_)
            intro ov7 w7 ol7 hg7
            have b7 := ol6.grown hg7 b6 hB6
            have hB7 := Nat.le_trans hB6 hg7.size
            have ol8 := ol7.lowl
            have bq8 : Below w7.heap.size w7 (w7.alloc (.cells #[] 36)) := (Below.refl _ _).alloc (Nat.le_refl _) _
            have ol9 := ol8.below bq8
            have og9 := ownEnts_new w7 w7.heap.size w7.heap.size rfl (Nat.le_refl _)
            have b9 := below_past b7 bq8 hB7
            have hC9 := bq8.size
            clear ol6 og6 hg7 r6 bq b6 ol7 ol8 bq8 b7
            go_wp2_with fail
            exact ⟨⟨i + 1, 0, w7.heap.size, f, out ++ [g ++ [x]], [], hlt, by go_num, rfl, Nat.zero_le _, HI3, HF3, fun _ => rfl, Nat.zero_le _, by decide, by rw [List.length_append, List.length_singleton]; omega, hB7, hC9, ol9, og9, b9⟩, by simp [intOf]; omega⟩
          · have p5 : ((i : Int) + 1 == n) = false := by rw [beq_eq_false_iff_ne]; omega
            have p6 : (i + 1 == n) = false := by rw [beq_eq_false_iff_ne]; omega
            have HI3 : Hid (RR = out ++ splitT size (f + 1) ((g ++ [x]) ++ l.drop (i + 1)) ∧ cutT size ((g ++ [x]) ++ l.drop (i + 1)) = cutF size (l.drop (i + 1)) q (g ++ [x]).length) := Lib.hid (by
              rw [show (g ++ [x]) ++ l.drop (i + 1) = g ++ x :: l.drop (i + 1) by simp]
              refine ⟨HI2.out.1, ?_⟩
              rw [HI2.out.2, HGL.out, HCF.out, if_neg (fun e => e.elim hA h256), hgl1])
            have HF3 : Hid (((g ++ [x]) ++ l.drop (i + 1)).length ≤ f + 1) := Lib.hid (by rw [show (g ++ [x]) ++ l.drop (i + 1) = g ++ x :: l.drop (i + 1) by simp]; exact HF2.out)
            have hgg : (g ++ [x]).length ≤ i + 1 := by omega
            have hgh : (g ++ [x]).length < 256 := by omega
            clear HI2 HF2 HCF
            go_wp2_with fail
            exact ⟨⟨i + 1, q, C, f + 1, out, g ++ [x], hlt, by go_num, rfl, hqs, HI3, HF3, fun e => absurd e hlast, hgg, hgh, by omega, hBC, hC5, ol5, og5, b5⟩, by simp [intOf]; omega⟩
    · obtain rfl : i = n := by omega
      have hg := hg0 rfl
      subst hg
      have HR : Hid (RR = out) := Lib.hid (by
        rw [HI.out.1, List.drop_of_length_le (by rw [HN.out]; exact Nat.le_refl _), List.nil_append, splitT_nil, List.append_nil])
      clear HI HF og
      go_wp2_with fail
      go_ret
      exact ⟨_, rfl, by rw [HR.out, HB.out]; exact ol.own, by rw [HB.out]; exact b2⟩
end Go.Proofs.YtgegipijappfhaaDoor
