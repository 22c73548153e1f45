/- For every two lists of texts, every place and every byte the law JournalSpoilt returns true. Conditions: the listed variables are as the program lays them. -/
import Derived.Test.YtlhdnkfnhdkbkaaGreatDoorJSpoilM
import Derived.Test.YtlhdnkfnhdkbkaaGreatDoorSealLaw
import Derived.Test.YtlhdnkfnhdkbkaaGreatDoorTabsJ
import Derived.Test.YtlhdnkfnhdkbkaaGreatDoorTie
import Derived.Test.YtlhdnkfnhdkbkaaGreatDoorCards
import Derived.SevenTiedAt
namespace Go.Proofs.YtlhdnkfnhdkbkaaGreatDoor.jspoilt
open Go Go.ChangeShapes Go.WideShapes Go.ChangeAt Go.ChangeMaps Go.RowKit Go.Proofs.YtlhdnkfnhdkbkaaGreatDoor
attribute [local go_sem] Oper.semAt_some

theorem maxM : max (1048576 : Int) 0 = 1048576 := by decide
theorem allF_len (l : List UInt8) : ∀ f n, (allF f l n).1.length ≤ f
  | 0, _ => Nat.le_refl _
  | f + 1, n => by
    rw [allF]
    split
    · have := allF_len l f (n + opN (l.drop n))
      simp
      exact this
    · exact Nat.zero_le _
theorem ends_step (F : List (List UInt8)) (p : Nat) (h : p < F.length) : endAt F (p + 1) = endAt F p + (8 + (F.getD p []).length) := by
  unfold endAt
  rw [List.take_add_one, List.getElem?_eq_getElem h, List.getD_eq_getElem?_getD, List.getElem?_eq_getElem h, cat_append, List.length_append]
  show _ + (frame _ ++ []).length = _
  rw [List.append_nil, frame_length]
  rfl
theorem ends_small (F : List (List UInt8)) (h : ∀ t ∈ F, t.length ≤ 100) (hl : F.length ≤ 10) (p : Nat) : endAt F p ≤ 1080 := by
  have h2 : ∀ (l : List (List UInt8)), (∀ t ∈ l, t.length ≤ 100) → (cat l).length ≤ 108 * l.length := by
    intro l
    induction l with
    | nil => intro _; exact Nat.le_refl _
    | cons t l ih =>
      intro hl
      have := ih (fun u hu => hl u (by simp [hu]))
      have := hl t (by simp)
      rw [cat, List.length_append, frame_length]
      simp
      omega
  have h3 := h2 (F.take p) (fun t ht => h t (List.mem_of_mem_take ht))
  have h4 : (F.take p).length ≤ 10 := Nat.le_trans (List.length_take_le' _ _) hl
  unfold endAt
  omega
set_option maxRecDepth 100000 in
set_option maxHeartbeats 4000000 in
theorem walk (v0 v1 : Value) (l0 l1 : Nat) (S S1 : Nat → ByteArray) (at' : Int) (x : UInt8) (w : World) (h0 : InStrs w v0 l0 S) (h1 : InStrs w v1 l1 S1) (hat : -9223372036854775808 ≤ at' ∧ at' ≤ 9223372036854775807) (ht : Tabs w) :
    Calls Tryz.prog 6 #[v0, v1, .int .i64 at', .int .u8 (x.toNat : Int)] w fun e w' => e = .returned (.bool true) ∧ Below w.heap.size w w' := by
  have H0 := Lib.hid (dNew_any 1048576 w ⟨by decide, by decide⟩)
  rw [maxM] at H0
  have HT := Lib.hid ht
  have HS0 := Lib.hid h0
  have HS1 := Lib.hid h1
  obtain ⟨ao0, cap0, rfl, _⟩ := h0
  obtain ⟨ao1, cap1, rfl, _⟩ := h1
  obtain ⟨B, hB⟩ : ∃ B, w.heap.size = B := ⟨_, rfl⟩
  have HB := Lib.hid hB
  rw [hB] at H0
  clear ht hB
  go_enter Tryz.func6, Tryz.ntmps6
  go_wp2_with fail
  refine H0.out.mono ?_
  rintro e w1 ⟨q, rfl, hq, d0, b0⟩
  have H1 := Lib.hid (jw_first 1048576 (by decide) (by decide) d0 b0 HT.out HB.out)
  clear H0 d0 b0 hq
  go_wp2_with fail
  refine H1.out.mono ?_
  rintro e w2 ⟨j, v, rfl, -, j0⟩
  have a2 : Below w2.heap.size w2 (w2.alloc (.cells #[] 9)) := (Below.refl _ _).alloc (Nat.le_refl _) _
  have a3 : Below (w2.alloc (.cells #[] 9)).heap.size (w2.alloc (.cells #[] 9)) ((w2.alloc (.cells #[] 9)).alloc (.cells #[] 9)) := (Below.refl _ _).alloc (Nat.le_refl _) _
  have o2 : OwnStrs _ _ _ [] := (ownStrs_new w2 B _ rfl j0.low).below a3
  have o3 : OwnStrs _ _ _ [] := ownStrs_new (w2.alloc (.cells #[] 9)) B (w2.heap.size + 1) (by rw [World.size_alloc]) (Nat.le_succ_of_le j0.low)
  have j2 := (j0.kept a2).kept a3
  have hap0 : Apart (.slice (some ⟨w2.heap.size, 0, none⟩) 0 0) (.slice (some ⟨w2.heap.size + 1, 0, none⟩) 0 0) := by
    intro g e1 e2
    simp [Value.ownBlock] at e1 e2
    omega
  clear H1 j0 a2 a3
  go_wp2_with fail
  generalize ((w2.alloc (.cells #[] 9)).alloc (.cells #[] 9)) = W2 at *
  go_loopw [13, 15] (fun x1 y wr => ∃ (i : Nat) (F1 : List (List UInt8)) (d : DDisk), i ≤ l0 ∧ i ≤ 10 ∧ y = .int .i64 i ∧ JW B q j 1048576 [] 0 F1 F1 d w wr ∧ OwnStrs wr B x1 F1 ∧ OwnStrs wr B (.slice (some ⟨w2.heap.size + 1, 0, none⟩) 0 0) [] ∧ Apart x1 (.slice (some ⟨w2.heap.size + 1, 0, none⟩) 0 0) ∧ F1.length ≤ i ∧ dUsed d.files ≤ 108 * i ∧ (∀ t ∈ F1, t.length ≤ 100)) (fun _ y _ => (10 - intOf y).toNat)
  case atStart => exact ⟨0, [], _, Nat.zero_le _, Nat.zero_le _, rfl, j2, o2, o3, hap0, Nat.le_refl _, Nat.zero_le _, fun t ht => (by cases ht)⟩
  case round =>
    obtain ⟨i, F1, d, hi1, hi2, rfl, JWr, OW1, OW2, hap, hl1, hus, hsh1⟩ := hrel
    clear j2 o2 o3 hap0
    by_cases hgo : i < l0 ∧ i < 10
    · as_aux_lemma =>
      obtain ⟨hlt1, hlt2⟩ := hgo
      have g0 : decide (i < l0) = true := decide_eq_true hlt1
      have g0i : (i : Int) < l0 := by omega
      have g2 : decide ((i : Int) < 10) = true := decide_eq_true (by omega)
      have g2i : (i : Int) < 10 := by omega
      obtain ⟨mao, mcap, hv, hS⟩ := HS0.out
      obtain ⟨ma, hmao, hc⟩ := hS i hlt1
      obtain ⟨rfl, rfl⟩ : ao0 = mao ∧ cap0 = mcap := by simpa using hv
      subst hmao
      obtain ⟨L, hL⟩ : ∃ L, (S i).data.toList.take 100 = L := ⟨_, rfl⟩
      have hlL : L.length ≤ 100 := by rw [← hL]; exact List.length_take_le _ _
      have HK : Hid (Calls Tryz.prog 12 #[.string (S i), .int .i64 100] wr fun e w' => e = .returned (.string (stx L)) ∧ w' = wr) := Lib.hid (by
        have := l3Cut_any (S i) 100 wr (by decide)
        rwa [hL] at this)
      have c0 := (JWr.bel.cell (p := ma.add i) (by rw [← HB.out]; exact cellLt hc)).trans hc
      have HAD := Lib.hid (jw_add JWr L (by omega) (by omega))
      have OS1 := Lib.hid OW1
      have OS2 := Lib.hid OW2
      have HAP := Lib.hid hap
      have HWL : Hid ((F1 ++ [L]).length ≤ i + 1) := Lib.hid (by rw [List.length_append]; simp; omega)
      have HSH : Hid (∀ t ∈ F1 ++ [L], t.length ≤ 100) := Lib.hid (by
        intro t ht
        rcases List.mem_append.1 ht with ht | ht
        · exact hsh1 t ht
        · rw [List.mem_singleton.1 ht]; exact hlL)
      have hw6 : F1.length ≤ 1000000 := by omega
      clear hv hS hc hL JWr OW1 OW2 hap hsh1
      go_wp2_with fail
      refine HK.out.mono ?_
      rintro e w3 ⟨rfl, rfl⟩
      clear HK
      go_wp2_with fail
      refine HAD.out.mono ?_
      rintro e w4 ⟨rfl, j4, u4, s4⟩
      have o14 := s4.strs OS1.out
      have o24 := s4.strs OS2.out
      have HUS : Hid (dUsed (addD d (nm 0) L).files ≤ 108 * (i + 1)) := Lib.hid (by rw [u4]; omega)
      generalize addD d _ L = d' at *
      have a4 : Below w4.heap.size w4 (w4.alloc (.cells #[.string (stx L)] 9)) := (Below.refl _ _).alloc (Nat.le_refl _) _
      have o15 : OwnStrs (w4.alloc (.cells #[.string (stx L)] 9)) B u13 F1 := o14.below a4
      have o25 := o24.below a4
      have J5 := Lib.hid (j4.kept a4)
      have hc1 : (w4.alloc (.cells #[.string (stx L)] 9)).cell? ⟨w4.heap.size, 0, none⟩ = some (.string (stx L)) := cell_of_rowAt (rowAt_alloc_at w4 #[.string (stx L)] 9 _ rfl) 0
      have HC1 := Lib.hid hc1
      have O25 := Lib.hid o25
      clear HAD OS1 OS2 s4 o14 o24 j4 u4 a4 hc1 o25
      go_wp2_with (at_builtin; refine wpList_put_text rfl _ _ rfl B u13 F1 rfl o15 L ⟨w4.heap.size, 0, none⟩ 1 rfl HC1.out J5.out.low hw6 ?_)
      intro v' w6 o6 g6 hat6
      have J6 := Lib.hid (J5.out.aside o15 g6)
      have O6 := Lib.hid o6
      have O26 := Lib.hid (O25.out.apart HAP.out g6)
      have HAP6 := Lib.hid (HAP.out.grow O25.out hat6 (Nat.le_of_eq (World.size_alloc ..)))
      clear J5 HC1 o15 o6 g6 O25 HAP hat6
      go_wp2_with fail
      exact ⟨⟨i + 1, _, _, hlt1, by omega, by go_num, J6.out, O6.out, O26.out, HAP6.out, HWL.out, HUS.out, HSH.out⟩, by simp [intOf]; omega⟩
    · by_cases e0 : i < l0
      · have g0 : decide (i < l0) = true := decide_eq_true e0
        have g0i : (i : Int) < l0 := by omega
        have g2 : decide ((i : Int) < 10) = false := decide_eq_false (by omega)
        have HTU := Lib.hid (jw_turn JWr (by decide))
        have O1' := Lib.hid OW1
        have O2' := Lib.hid OW2
        clear JWr OW1 OW2
        go_wp2_with fail
        refine HTU.out.mono ?_
        rintro e w2 ⟨rfl, j2, hs2⟩
        have o12 := hs2 _ _ _ O1'.out
        have o22 := hs2 _ _ _ O2'.out
        rw [List.nil_append] at j2
        clear HTU O1' O2' hs2
        go_wp2_with fail
        go_loopw [14, 17] (fun x2 y wr => ∃ (i : Nat) (F2 : List (List UInt8)) (d : DDisk), i ≤ l1 ∧ i ≤ 10 ∧ y = .int .i64 i ∧ JW B q j 1048576 (curS 0 F1) 1 F2 (F1 ++ F2) d w wr ∧ OwnStrs wr B u13 F1 ∧ OwnStrs wr B x2 F2 ∧ Apart x2 u13 ∧ F2.length ≤ i ∧ dUsed d.files ≤ 108 * 10 + 108 * i ∧ (∀ t ∈ F2, t.length ≤ 100)) (fun _ y _ => (10 - intOf y).toNat)
        case atStart => exact ⟨0, [], _, Nat.zero_le _, Nat.zero_le _, rfl, by rw [List.append_nil]; exact j2, o12, o22, hap.symm, Nat.le_refl _, by omega, fun t ht => (by cases ht)⟩
        case round =>
          obtain ⟨i, F2, d, hi1, hi2, rfl, JWr, OW1, OW2, hap2, hl2, hus2, hsh2⟩ := hrel
          clear j2 o12 o22
          by_cases hgo : i < l1 ∧ i < 10
          · as_aux_lemma =>
            obtain ⟨hlt1, hlt2⟩ := hgo
            have g0 : decide (i < l1) = true := decide_eq_true hlt1
            have g0i : (i : Int) < l1 := by omega
            have g2 : decide ((i : Int) < 10) = true := decide_eq_true (by omega)
            have g2i : (i : Int) < 10 := by omega
            obtain ⟨mao, mcap, hv, hS⟩ := HS1.out
            obtain ⟨ma, hmao, hc⟩ := hS i hlt1
            obtain ⟨rfl, rfl⟩ : ao1 = mao ∧ cap1 = mcap := by simpa using hv
            subst hmao
            obtain ⟨L, hL⟩ : ∃ L, (S1 i).data.toList.take 100 = L := ⟨_, rfl⟩
            have hlL : L.length ≤ 100 := by rw [← hL]; exact List.length_take_le _ _
            have HK : Hid (Calls Tryz.prog 12 #[.string (S1 i), .int .i64 100] wr fun e w' => e = .returned (.string (stx L)) ∧ w' = wr) := Lib.hid (by
              have := l3Cut_any (S1 i) 100 wr (by decide)
              rwa [hL] at this)
            have c0 := (JWr.bel.cell (p := ma.add i) (by rw [← HB.out]; exact cellLt hc)).trans hc
            have HAD := Lib.hid (jw_add JWr L (by omega) (by omega))
            have OS1 := Lib.hid OW2
            have OS2 := Lib.hid OW1
            have HAP := Lib.hid hap2
            have HWL : Hid ((F2 ++ [L]).length ≤ i + 1) := Lib.hid (by rw [List.length_append]; simp; omega)
            have HSH : Hid (∀ t ∈ F2 ++ [L], t.length ≤ 100) := Lib.hid (by
              intro t ht
              rcases List.mem_append.1 ht with ht | ht
              · exact hsh2 t ht
              · rw [List.mem_singleton.1 ht]; exact hlL)
            have hw6 : F2.length ≤ 1000000 := by omega
            clear hv hS hc hL JWr OW2 OW1 hap2 hsh2
            go_wp2_with fail
            refine HK.out.mono ?_
            rintro e w3 ⟨rfl, rfl⟩
            clear HK
            go_wp2_with fail
            refine HAD.out.mono ?_
            rintro e w4 ⟨rfl, j4, u4, s4⟩
            have o14 := s4.strs OS1.out
            have o24 := s4.strs OS2.out
            have HUS : Hid (dUsed (addD d (nm 1) L).files ≤ 108 * 10 + 108 * (i + 1)) := Lib.hid (by rw [u4]; omega)
            generalize addD d _ L = d' at *
            have a4 : Below w4.heap.size w4 (w4.alloc (.cells #[.string (stx L)] 9)) := (Below.refl _ _).alloc (Nat.le_refl _) _
            have o15 : OwnStrs (w4.alloc (.cells #[.string (stx L)] 9)) B u14 F2 := o14.below a4
            have o25 := o24.below a4
            have J5 := Lib.hid (j4.kept a4)
            have hc1 : (w4.alloc (.cells #[.string (stx L)] 9)).cell? ⟨w4.heap.size, 0, none⟩ = some (.string (stx L)) := cell_of_rowAt (rowAt_alloc_at w4 #[.string (stx L)] 9 _ rfl) 0
            have HC1 := Lib.hid hc1
            have O25 := Lib.hid o25
            clear HAD OS1 OS2 s4 o14 o24 j4 u4 a4 hc1 o25
            go_wp2_with (at_builtin; refine wpList_put_text rfl _ _ rfl B u14 F2 rfl o15 L ⟨w4.heap.size, 0, none⟩ 1 rfl HC1.out J5.out.low hw6 ?_)
            intro v' w6 o6 g6 hat6
            have J6 := Lib.hid (J5.out.aside o15 g6)
            have O6 := Lib.hid o6
            have O26 := Lib.hid (O25.out.apart HAP.out g6)
            have HAP6 := Lib.hid (HAP.out.grow O25.out hat6 (Nat.le_of_eq (World.size_alloc ..)))
            clear J5 HC1 o15 o6 g6 O25 HAP hat6
            go_wp2_with fail
            exact ⟨⟨i + 1, _, _, hlt1, by omega, by go_num, by rw [← List.append_assoc]; exact J6.out, O26.out, O6.out, HAP6.out, HWL.out, HUS.out, HSH.out⟩, by simp [intOf]; omega⟩
          · by_cases e0 : i < l1
            · have g0 : decide (i < l1) = true := decide_eq_true e0
              have g0i : (i : Int) < l1 := by omega
              have g2 : decide ((i : Int) < 10) = false := decide_eq_false (by omega)
              as_aux_lemma =>
              have HE : ∃ E, spE d (nm 0) at' = E := ⟨_, rfl⟩
              obtain ⟨E, hE⟩ := HE
              have HSI : Hid (E = 0 → _) := Lib.hid fun h0 => spoil_is (x := x) JWr.js (fun t ht => Nat.le_trans (hsh1 t ht) (by decide)) (hE.trans h0)
              have HNm := Lib.hid (jName_any 0 wr (by decide))
              have HSP : Hid (∀ w', DiskAt B q d w' → Calls Tryz.prog 24 #[.pointer (some ⟨q, 0, none⟩), .string (stx (nm 0)), .int .i64 at', .int .u8 (x.toNat : Int)] w' fun e w'' => e = .returned (.int .i64 E) ∧ DiskAt B q (spD d (nm 0) at' x) w'' ∧ Stir B w' w'') := Lib.hid fun w' h => by
                have := dSpoil_any B q d (stx (nm 0)) at' x w' h (by rw [stx_size, nm_length]; decide)
                rwa [show (stx (nm 0)).data.toList = nm 0 from rfl, hE] at this
              have O1 := Lib.hid OW1
              have O2 := Lib.hid OW2
              have J := Lib.hid JWr
              clear JWr OW1 OW2 hE
              go_wp2_with fail
              refine HNm.out.mono ?_
              rintro e w3 ⟨rfl, b3⟩
              have HSP3 := Lib.hid (HSP.out _ (J.out.kept b3).da)
              have O13 := Lib.hid (O1.out.below b3)
              have O23 := Lib.hid (O2.out.below b3)
              have B3 := Lib.hid (J.out.kept b3).bel
              clear HNm HSP O1 O2 J b3
              go_wp2_with fail
              refine HSP3.out.mono ?_
              rintro e w4 ⟨rfl, d4, s4⟩
              have B4 := Lib.hid (B3.out.trans s4.below)
              have O14 := Lib.hid (s4.strs O13.out)
              have O24 := Lib.hid (s4.strs O23.out)
              have Z4 : Hid (B ≤ w4.heap.size) := Lib.hid (by have := d4.low; omega)
              have T4 := Lib.hid (HT.out.below (w' := w4) (by rw [HB.out]; exact B4.out))
              have HA4 := Lib.hid (awake7 w4 T4.out)
              have D4 := Lib.hid d4
              clear HSP3 O13 O23 B3 s4 d4
              by_cases hE0 : E = 0
              · have q1 : (E != 0) = false := by simpa using hE0
                obtain ⟨bb, kk, e1, hr, e3, hat0, hbl, hM⟩ := HSI.out hE0
                clear HSI hE0
                by_cases hx : x = 0
                · subst hx
                  clear e1 hr e3 hat0 hbl hM
                  have hx1 : ((0 : UInt8).toNat : Int) = 0 := rfl
                  rw [hx1]
                  go_wp2_with fail
                  refine HA4.out.mono ?_
                  rintro e w5 ⟨rfl, b5⟩
                  have b6 := below_past B4.out b5 Z4.out
                  clear HA4 b5
                  go_wp2_with fail
                  go_ret
                  exact ⟨rfl, by rw [HB.out]; exact b6⟩
                · have hxn : x.toNat ≠ 0 := fun e => hx (UInt8.toNat_inj.1 (by rw [e]; rfl))
                  have q2 : ((x.toNat : Int) == 0) = false := by simpa using hxn
                  have q3 : (x.toNat == 0) = false := by simpa using hxn
                  obtain ⟨s1, s2, s3, s4, s5, s6⟩ := seg_opens e1 hr
                  rw [segT_append, segT_cur 1 F2 (fun t ht => Nat.le_trans (hsh2 t ht) (by decide))] at s6
                  have hT1 : segT [⟨0, bb, kk⟩] = (allR bb).1 := by show (allR bb).1 ++ [] = _; rw [List.append_nil]
                  rw [hT1] at s6
                  have hTl : (allR bb).1.length ≤ 5001 := Nat.le_trans (allF_len bb _ 0) (by omega)
                  generalize (allR bb).1 = T1 at *
                  have HO := Lib.hid (jOpen_any B q _ _ w4 D4.out s1 s2 s3 s4 (fun n hn => Nat.le_trans (s5 n hn) (by rw [e3]; omega)) (by rw [s6, List.length_append]; omega) T4.out)
                  rw [s6] at HO
                  have HM := Lib.hid hM
                  clear e1 hr e3 hbl hM s1 s2 s3 s4 s5 s6 hT1 HA4 D4 hx hxn
                  go_wp2_with fail
                  refine HO.out.mono ?_
                  rintro e w5 ⟨k5, v5, rfl, -, o5, b5⟩
                  have O15 := Lib.hid (O14.out.below b5)
                  have O25 := Lib.hid (O24.out.below b5)
                  have B5 := Lib.hid (below_past B4.out b5 Z4.out)
                  have Z5 := Lib.hid (Nat.le_trans Z4.out b5.size)
                  have T5 := Lib.hid (T4.out.below b5)
                  clear HO O14 O24 B4 Z4 T4 b5
                  obtain ⟨ao5, cap5, hv5⟩ := own_shape o5
                  obtain ⟨ao13, cap13, hv13⟩ := own_shape O15.out
                  obtain ⟨ao14, cap14, hv14⟩ := own_shape O25.out
                  subst hv5 hv13 hv14
                  have K5 := Lib.hid o5.lie
                  have K13 := Lib.hid O15.out.lie
                  have K14 := Lib.hid O25.out.lie
                  have hcap : Hid ((T1 ++ F2).length ≤ cap5) := Lib.hid (own_cap o5).1
                  have hcap13 : Hid (F1.length ≤ cap13) := Lib.hid (own_cap O15.out).1
                  obtain ⟨m, hm⟩ : ∃ m, F2.length = m := ⟨_, rfl⟩
                  obtain ⟨f, hf⟩ : ∃ f, F1.length = f := ⟨_, rfl⟩
                  obtain ⟨t1, ht1⟩ : ∃ t1, T1.length = t1 := ⟨_, rfl⟩
                  obtain ⟨n, hn⟩ : ∃ n, (T1 ++ F2).length = n := ⟨_, rfl⟩
                  have hnt : n = t1 + m := by rw [← hn, List.length_append, ht1, hm]
                  have hlt : decide (n < m) = false := decide_eq_false (by omega)
                  have hsub : (n : Int) - m = t1 := by omega
                  have hni : (n : Int) ≤ 6000 := by omega
                  have hmi : (m : Int) ≤ 10 := by omega
                  have hti : (t1 : Int) ≤ n := by omega
                  rw [hn] at K5 hcap ⊢
                  rw [hf] at K13 hcap13 ⊢
                  rw [hm] at K14 ⊢
                  have HHM := Lib.hid hm
                  have HHF := Lib.hid hf
                  have HHT := Lib.hid ht1
                  have HHN := Lib.hid hn
                  have hdr : Hid (∀ c, StrsFrom w5 (.slice (ao5.map (fun x => x.add t1)) m c) F2) := Lib.hid fun c => by
                    have := K5.out.drop (k := t1) (m := m) (c := c) (by rw [hn, hnt])
                    rwa [show (T1 ++ F2).drop t1 = F2 by rw [← ht1, List.drop_left]] at this
                  clear o5 O15 O25 hap2 hl2 hus2 hsh2 hgo hm hf ht1 hn
                  by_cases hct : cap5 = t1
                  · have hm0 : m = 0 := by have := hcap.out; omega
                    have hF0 : F2 = [] := List.eq_nil_of_length_eq_zero (by rw [HHM.out, hm0])
                    subst hm0
                    obtain rfl : t1 = cap5 := hct.symm
                    have HS := Lib.hid (sameF_any (.slice ao5 0 0) (.slice ao14 0 cap14) [] w5 strsFrom_nil strsFrom_nil (by decide))
                    go_wp2_with fail
                    refine HS.out.mono ?_
                    rintro e w6 ⟨rfl, b6⟩
                    have T6 := Lib.hid (T5.out.below b6)
                    clear HS
                    go_wp2_with fail
                    go_loop [22, 23] (fun a c => ∃ p : Nat, p ≤ f ∧ a = .int .i64 (endAt F1 p : Nat) ∧ c = .int .i64 p ∧ (endAt F1 p : Int) ≤ at' ∧ endAt F1 p ≤ 1080) (fun _ c => (f - intOf c).toNat)
                    case atStart => exact ⟨0, Nat.zero_le _, rfl, rfl, hat0, Nat.zero_le _⟩
                    case round =>
                      obtain ⟨p, hpF, rfl, rfl, hpa, hpb⟩ := hrel
                      have hpi : (p : Int) ≤ 10 := by have := HHF.out; omega
                      by_cases hlt3 : p < f
                      · have c3 : decide (p < f) = true := decide_eq_true hlt3
                        have c3i : (p : Int) < f := by omega
                        obtain ⟨a13, c13, ee, kk13⟩ := K13.out.below b6
                        obtain ⟨rfl, -, rfl⟩ : ao13 = a13 ∧ _ ∧ cap13 = c13 := by simpa using ee
                        obtain ⟨g13, rfl, cc⟩ := kk13 p (by rw [HHF.out]; exact hlt3)
                        have hes := ends_step F1 p (by rw [HHF.out]; exact hlt3)
                        have hsz : (stx (F1.getD p [])).size = (F1.getD p []).length := stx_size _
                        have hle : (F1.getD p []).length ≤ 100 := by
                          rw [List.getD_eq_getElem?_getD, List.getElem?_eq_getElem (by rw [HHF.out]; exact hlt3)]
                          exact hsh1 _ (List.getElem_mem _)
                        have HES := Lib.hid hes
                        have HESB : Hid (endAt F1 (p + 1) ≤ 1080) := Lib.hid (ends_small F1 hsh1 (by omega) (p + 1))
                        generalize F1.getD p [] = Lp at *
                        generalize hlp : Lp.length = lp at *
                        clear kk13 ee hlp hes
                        by_cases hfit : (endAt F1 p : Int) + 8 + lp ≤ at'
                        · have c4 : decide (((endAt F1 p : Nat) : Int) + 8 + lp ≤ at') = true := decide_eq_true hfit
                          have hE1 : endAt F1 (p + 1) ≤ 1080 := by
                            have := HESB.out
                            omega
                          have HE1 := Lib.hid hE1
                          have HEA : Hid (((endAt F1 (p + 1) : Nat) : Int) ≤ at') := Lib.hid (by rw [HES.out]; omega)
                          generalize hep : endAt F1 p = ep at *
                          have hepi : (ep : Int) ≤ 1080 := by omega
                          have hlpi : (lp : Int) ≤ 100 := by omega
                          clear hE1 hep
                          go_wp2_with fail
                          exact ⟨⟨p + 1, hlt3, by rw [HES.out]; go_num, by go_num, HEA.out, HE1.out⟩, by simp [intOf]; omega⟩
                        · have c4 : decide (((endAt F1 p : Nat) : Int) + 8 + lp ≤ at') = false := decide_eq_false hfit
                          generalize hep : endAt F1 p = ep at *
                          have hepi : (ep : Int) ≤ 1080 := by omega
                          have hlpi : (lp : Int) ≤ 100 := by omega
                          clear hfit
                          go_wp2_with fail
                          subst hep
                          have hpt : p ≤ t1 := by
                            obtain ⟨M, hM⟩ := HM.out p (by omega)
                            have := congrArg List.length hM
                            rw [List.length_append, List.length_take, HHF.out, HHT.out] at this
                            omega
                          have hTT : (T1 ++ F2).take p = F1.take p := by
                            obtain ⟨M, hM⟩ := HM.out p (by omega)
                            rw [List.take_append_of_le_length (by rw [HHT.out]; exact hpt), hM, List.take_append_of_le_length (by rw [List.length_take, HHF.out]; omega), List.take_take, Nat.min_self]
                          have hpti : decide ((p : Int) ≤ t1) = true := decide_eq_true (by omega)
                          have hptn : decide (p ≤ t1) = true := decide_eq_true hpt
                          have hpc : p ≤ t1 := by have := hcap.out; omega
                          have hpf : p ≤ cap13 := by have := hcap13.out; omega
                          have hpci : (p : Int) ≤ t1 := by omega
                          have hpfi : (p : Int) ≤ cap13 := by omega
                          have HSM : Hid (∀ y : Past w6, Calls Tryz.prog 22 #[.slice ao5 p t1, .slice (some (⟨g13, 0, none⟩ : Addr)) p cap13] y.w fun e w'' => e = .returned (.bool true) ∧ Below y.w.heap.size y.w w'') := Lib.hid fun y => by
                            obtain ⟨a1, c1, e1, k1⟩ := (K5.out.below (below_past b6 y.h b6.size)).take p (by rw [HHN.out]; omega)
                            obtain ⟨a2, c2, e2, k2⟩ := (K13.out.below (below_past b6 y.h b6.size)).take p (by rw [HHF.out]; exact hpF)
                            rw [hTT] at k1
                            obtain ⟨rfl, -, rfl⟩ : ao5 = a1 ∧ _ ∧ t1 = c1 := by simpa using e1
                            obtain ⟨rfl, -, rfl⟩ : (some (⟨g13, 0, none⟩ : Addr)) = a2 ∧ _ ∧ cap13 = c2 := by simpa using e2
                            exact same_any _ _ _ y.w k1 k2 (by rw [List.length_take]; omega)
                          have HAP : Hid (∀ y : Past w6, Calls Tryz.prog 8 #[] y.w fun e w'' => e = .returned (.bool true) ∧ Below y.w.heap.size y.w w'') := Lib.hid fun y => awake7 _ (T6.out.below y.h)
                          have B6 := Lib.hid b6
                          clear hTT hpt b6 hat0
                          refine wp_region_past (by kernel_rfl) (by kernel_rfl) ?_
                          repeat (go_big_quiet_step (first | (go_at_call 8; exact Past.call (HAP.out _)) | (go_at_call 22; exact Past.call (HSM.out _))))
                          refine wpQuiet_nil ?_
                          intro w2 hw2
                          obtain ⟨⟨wn, hn⟩, rfl⟩ := hw2
                          try dsimp only
                          go_wp2_with fail
                          go_ret
                          exact ⟨rfl, by rw [HB.out]; exact below_past (below_past B5.out B6.out Z5.out) hn (Nat.le_trans Z5.out B6.out.size)⟩
                      · obtain rfl : p = f := by omega
                        have c3 : decide (p < p) = false := decide_eq_false hlt3
                        go_wp2_with fail
                        have hpt : p ≤ t1 := by
                          obtain ⟨M, hM⟩ := HM.out p (by omega)
                          have := congrArg List.length hM
                          rw [List.length_append, List.length_take, HHF.out, HHT.out] at this
                          omega
                        have hTT : (T1 ++ F2).take p = F1.take p := by
                          obtain ⟨M, hM⟩ := HM.out p (by omega)
                          rw [List.take_append_of_le_length (by rw [HHT.out]; exact hpt), hM, List.take_append_of_le_length (by rw [List.length_take, HHF.out]; omega), List.take_take, Nat.min_self]
                        have hpti : decide ((p : Int) ≤ t1) = true := decide_eq_true (by omega)
                        have hptn : decide (p ≤ t1) = true := decide_eq_true hpt
                        have hpc : p ≤ t1 := by have := hcap.out; omega
                        have hpf : p ≤ cap13 := by have := hcap13.out; omega
                        have hpci : (p : Int) ≤ t1 := by omega
                        have hpfi : (p : Int) ≤ cap13 := by omega
                        have HSM : Hid (∀ y : Past w6, Calls Tryz.prog 22 #[.slice ao5 p t1, .slice ao13 p cap13] y.w fun e w'' => e = .returned (.bool true) ∧ Below y.w.heap.size y.w w'') := Lib.hid fun y => by
                          obtain ⟨a1, c1, e1, k1⟩ := (K5.out.below (below_past b6 y.h b6.size)).take p (by rw [HHN.out]; omega)
                          obtain ⟨a2, c2, e2, k2⟩ := (K13.out.below (below_past b6 y.h b6.size)).take p (by rw [HHF.out]; exact hpF)
                          rw [hTT] at k1
                          obtain ⟨rfl, -, rfl⟩ : ao5 = a1 ∧ _ ∧ t1 = c1 := by simpa using e1
                          obtain ⟨rfl, -, rfl⟩ : ao13 = a2 ∧ _ ∧ cap13 = c2 := by simpa using e2
                          exact same_any _ _ _ y.w k1 k2 (by rw [List.length_take]; omega)
                        have HAP : Hid (∀ y : Past w6, Calls Tryz.prog 8 #[] y.w fun e w'' => e = .returned (.bool true) ∧ Below y.w.heap.size y.w w'') := Lib.hid fun y => awake7 _ (T6.out.below y.h)
                        have B6 := Lib.hid b6
                        clear hTT hpt b6 hat0
                        refine wp_region_past (by kernel_rfl) (by kernel_rfl) ?_
                        repeat (go_big_quiet_step (first | (go_at_call 8; exact Past.call (HAP.out _)) | (go_at_call 22; exact Past.call (HSM.out _))))
                        refine wpQuiet_nil ?_
                        intro w2 hw2
                        obtain ⟨⟨wn, hn⟩, rfl⟩ := hw2
                        try dsimp only
                        go_wp2_with fail
                        go_ret
                        exact ⟨rfl, by rw [HB.out]; exact below_past (below_past B5.out B6.out Z5.out) hn (Nat.le_trans Z5.out B6.out.size)⟩
                  · have HS := Lib.hid (sameF_any _ (.slice ao14 m cap14) F2 w5 (hdr.out (cap5 - t1)) K14.out.from (by rw [HHM.out]; omega))
                    go_wp2_with fail
                    refine HS.out.mono ?_
                    rintro e w6 ⟨rfl, b6⟩
                    have T6 := Lib.hid (T5.out.below b6)
                    clear HS
                    go_wp2_with fail
                    go_loop [22, 23] (fun a c => ∃ p : Nat, p ≤ f ∧ a = .int .i64 (endAt F1 p : Nat) ∧ c = .int .i64 p ∧ (endAt F1 p : Int) ≤ at' ∧ endAt F1 p ≤ 1080) (fun _ c => (f - intOf c).toNat)
                    case atStart => exact ⟨0, Nat.zero_le _, rfl, rfl, hat0, Nat.zero_le _⟩
                    case round =>
                      obtain ⟨p, hpF, rfl, rfl, hpa, hpb⟩ := hrel
                      have hpi : (p : Int) ≤ 10 := by have := HHF.out; omega
                      by_cases hlt3 : p < f
                      · have c3 : decide (p < f) = true := decide_eq_true hlt3
                        have c3i : (p : Int) < f := by omega
                        obtain ⟨a13, c13, ee, kk13⟩ := K13.out.below b6
                        obtain ⟨rfl, -, rfl⟩ : ao13 = a13 ∧ _ ∧ cap13 = c13 := by simpa using ee
                        obtain ⟨g13, rfl, cc⟩ := kk13 p (by rw [HHF.out]; exact hlt3)
                        have hes := ends_step F1 p (by rw [HHF.out]; exact hlt3)
                        have hsz : (stx (F1.getD p [])).size = (F1.getD p []).length := stx_size _
                        have hle : (F1.getD p []).length ≤ 100 := by
                          rw [List.getD_eq_getElem?_getD, List.getElem?_eq_getElem (by rw [HHF.out]; exact hlt3)]
                          exact hsh1 _ (List.getElem_mem _)
                        have HES := Lib.hid hes
                        have HESB : Hid (endAt F1 (p + 1) ≤ 1080) := Lib.hid (ends_small F1 hsh1 (by omega) (p + 1))
                        generalize F1.getD p [] = Lp at *
                        generalize hlp : Lp.length = lp at *
                        clear kk13 ee hlp hes
                        by_cases hfit : (endAt F1 p : Int) + 8 + lp ≤ at'
                        · have c4 : decide (((endAt F1 p : Nat) : Int) + 8 + lp ≤ at') = true := decide_eq_true hfit
                          have hE1 : endAt F1 (p + 1) ≤ 1080 := by
                            have := HESB.out
                            omega
                          have HE1 := Lib.hid hE1
                          have HEA : Hid (((endAt F1 (p + 1) : Nat) : Int) ≤ at') := Lib.hid (by rw [HES.out]; omega)
                          generalize hep : endAt F1 p = ep at *
                          have hepi : (ep : Int) ≤ 1080 := by omega
                          have hlpi : (lp : Int) ≤ 100 := by omega
                          clear hE1 hep
                          go_wp2_with fail
                          exact ⟨⟨p + 1, hlt3, by rw [HES.out]; go_num, by go_num, HEA.out, HE1.out⟩, by simp [intOf]; omega⟩
                        · have c4 : decide (((endAt F1 p : Nat) : Int) + 8 + lp ≤ at') = false := decide_eq_false hfit
                          generalize hep : endAt F1 p = ep at *
                          have hepi : (ep : Int) ≤ 1080 := by omega
                          have hlpi : (lp : Int) ≤ 100 := by omega
                          clear hfit
                          go_wp2_with fail
                          subst hep
                          have hpt : p ≤ t1 := by
                            obtain ⟨M, hM⟩ := HM.out p (by omega)
                            have := congrArg List.length hM
                            rw [List.length_append, List.length_take, HHF.out, HHT.out] at this
                            omega
                          have hTT : (T1 ++ F2).take p = F1.take p := by
                            obtain ⟨M, hM⟩ := HM.out p (by omega)
                            rw [List.take_append_of_le_length (by rw [HHT.out]; exact hpt), hM, List.take_append_of_le_length (by rw [List.length_take, HHF.out]; omega), List.take_take, Nat.min_self]
                          have hpti : decide ((p : Int) ≤ t1) = true := decide_eq_true (by omega)
                          have hptn : decide (p ≤ t1) = true := decide_eq_true hpt
                          have hpc : p ≤ cap5 := by have := hcap.out; omega
                          have hpf : p ≤ cap13 := by have := hcap13.out; omega
                          have hpci : (p : Int) ≤ cap5 := by omega
                          have hpfi : (p : Int) ≤ cap13 := by omega
                          have HSM : Hid (∀ y : Past w6, Calls Tryz.prog 22 #[.slice ao5 p cap5, .slice (some (⟨g13, 0, none⟩ : Addr)) p cap13] y.w fun e w'' => e = .returned (.bool true) ∧ Below y.w.heap.size y.w w'') := Lib.hid fun y => by
                            obtain ⟨a1, c1, e1, k1⟩ := (K5.out.below (below_past b6 y.h b6.size)).take p (by rw [HHN.out]; omega)
                            obtain ⟨a2, c2, e2, k2⟩ := (K13.out.below (below_past b6 y.h b6.size)).take p (by rw [HHF.out]; exact hpF)
                            rw [hTT] at k1
                            obtain ⟨rfl, -, rfl⟩ : ao5 = a1 ∧ _ ∧ cap5 = c1 := by simpa using e1
                            obtain ⟨rfl, -, rfl⟩ : (some (⟨g13, 0, none⟩ : Addr)) = a2 ∧ _ ∧ cap13 = c2 := by simpa using e2
                            exact same_any _ _ _ y.w k1 k2 (by rw [List.length_take]; omega)
                          have HAP : Hid (∀ y : Past w6, Calls Tryz.prog 8 #[] y.w fun e w'' => e = .returned (.bool true) ∧ Below y.w.heap.size y.w w'') := Lib.hid fun y => awake7 _ (T6.out.below y.h)
                          have B6 := Lib.hid b6
                          clear hTT hpt b6 hat0
                          refine wp_region_past (by kernel_rfl) (by kernel_rfl) ?_
                          repeat (go_big_quiet_step (first | (go_at_call 8; exact Past.call (HAP.out _)) | (go_at_call 22; exact Past.call (HSM.out _))))
                          refine wpQuiet_nil ?_
                          intro w2 hw2
                          obtain ⟨⟨wn, hn⟩, rfl⟩ := hw2
                          try dsimp only
                          go_wp2_with fail
                          go_ret
                          exact ⟨rfl, by rw [HB.out]; exact below_past (below_past B5.out B6.out Z5.out) hn (Nat.le_trans Z5.out B6.out.size)⟩
                      · obtain rfl : p = f := by omega
                        have c3 : decide (p < p) = false := decide_eq_false hlt3
                        go_wp2_with fail
                        have hpt : p ≤ t1 := by
                          obtain ⟨M, hM⟩ := HM.out p (by omega)
                          have := congrArg List.length hM
                          rw [List.length_append, List.length_take, HHF.out, HHT.out] at this
                          omega
                        have hTT : (T1 ++ F2).take p = F1.take p := by
                          obtain ⟨M, hM⟩ := HM.out p (by omega)
                          rw [List.take_append_of_le_length (by rw [HHT.out]; exact hpt), hM, List.take_append_of_le_length (by rw [List.length_take, HHF.out]; omega), List.take_take, Nat.min_self]
                        have hpti : decide ((p : Int) ≤ t1) = true := decide_eq_true (by omega)
                        have hptn : decide (p ≤ t1) = true := decide_eq_true hpt
                        have hpc : p ≤ cap5 := by have := hcap.out; omega
                        have hpf : p ≤ cap13 := by have := hcap13.out; omega
                        have hpci : (p : Int) ≤ cap5 := by omega
                        have hpfi : (p : Int) ≤ cap13 := by omega
                        have HSM : Hid (∀ y : Past w6, Calls Tryz.prog 22 #[.slice ao5 p cap5, .slice ao13 p cap13] y.w fun e w'' => e = .returned (.bool true) ∧ Below y.w.heap.size y.w w'') := Lib.hid fun y => by
                          obtain ⟨a1, c1, e1, k1⟩ := (K5.out.below (below_past b6 y.h b6.size)).take p (by rw [HHN.out]; omega)
                          obtain ⟨a2, c2, e2, k2⟩ := (K13.out.below (below_past b6 y.h b6.size)).take p (by rw [HHF.out]; exact hpF)
                          rw [hTT] at k1
                          obtain ⟨rfl, -, rfl⟩ : ao5 = a1 ∧ _ ∧ cap5 = c1 := by simpa using e1
                          obtain ⟨rfl, -, rfl⟩ : ao13 = a2 ∧ _ ∧ cap13 = c2 := by simpa using e2
                          exact same_any _ _ _ y.w k1 k2 (by rw [List.length_take]; omega)
                        have HAP : Hid (∀ y : Past w6, Calls Tryz.prog 8 #[] y.w fun e w'' => e = .returned (.bool true) ∧ Below y.w.heap.size y.w w'') := Lib.hid fun y => awake7 _ (T6.out.below y.h)
                        have B6 := Lib.hid b6
                        clear hTT hpt b6 hat0
                        refine wp_region_past (by kernel_rfl) (by kernel_rfl) ?_
                        repeat (go_big_quiet_step (first | (go_at_call 8; exact Past.call (HAP.out _)) | (go_at_call 22; exact Past.call (HSM.out _))))
                        refine wpQuiet_nil ?_
                        intro w2 hw2
                        obtain ⟨⟨wn, hn⟩, rfl⟩ := hw2
                        try dsimp only
                        go_wp2_with fail
                        go_ret
                        exact ⟨rfl, by rw [HB.out]; exact below_past (below_past B5.out B6.out Z5.out) hn (Nat.le_trans Z5.out B6.out.size)⟩
              · have q1 : (E != 0) = true := by simpa using hE0
                clear HSI hE0
                go_wp2_with fail
                refine HA4.out.mono ?_
                rintro e w5 ⟨rfl, b5⟩
                have b6 := below_past B4.out b5 Z4.out
                clear HA4 b5
                go_wp2_with fail
                go_ret
                exact ⟨rfl, by rw [HB.out]; exact b6⟩
            · have g0 : decide (i < l1) = false := decide_eq_false e0
              as_aux_lemma =>
              have HE : ∃ E, spE d (nm 0) at' = E := ⟨_, rfl⟩
              obtain ⟨E, hE⟩ := HE
              have HSI : Hid (E = 0 → _) := Lib.hid fun h0 => spoil_is (x := x) JWr.js (fun t ht => Nat.le_trans (hsh1 t ht) (by decide)) (hE.trans h0)
              have HNm := Lib.hid (jName_any 0 wr (by decide))
              have HSP : Hid (∀ w', DiskAt B q d w' → Calls Tryz.prog 24 #[.pointer (some ⟨q, 0, none⟩), .string (stx (nm 0)), .int .i64 at', .int .u8 (x.toNat : Int)] w' fun e w'' => e = .returned (.int .i64 E) ∧ DiskAt B q (spD d (nm 0) at' x) w'' ∧ Stir B w' w'') := Lib.hid fun w' h => by
                have := dSpoil_any B q d (stx (nm 0)) at' x w' h (by rw [stx_size, nm_length]; decide)
                rwa [show (stx (nm 0)).data.toList = nm 0 from rfl, hE] at this
              have O1 := Lib.hid OW1
              have O2 := Lib.hid OW2
              have J := Lib.hid JWr
              clear JWr OW1 OW2 hE
              go_wp2_with fail
              refine HNm.out.mono ?_
              rintro e w3 ⟨rfl, b3⟩
              have HSP3 := Lib.hid (HSP.out _ (J.out.kept b3).da)
              have O13 := Lib.hid (O1.out.below b3)
              have O23 := Lib.hid (O2.out.below b3)
              have B3 := Lib.hid (J.out.kept b3).bel
              clear HNm HSP O1 O2 J b3
              go_wp2_with fail
              refine HSP3.out.mono ?_
              rintro e w4 ⟨rfl, d4, s4⟩
              have B4 := Lib.hid (B3.out.trans s4.below)
              have O14 := Lib.hid (s4.strs O13.out)
              have O24 := Lib.hid (s4.strs O23.out)
              have Z4 : Hid (B ≤ w4.heap.size) := Lib.hid (by have := d4.low; omega)
              have T4 := Lib.hid (HT.out.below (w' := w4) (by rw [HB.out]; exact B4.out))
              have HA4 := Lib.hid (awake7 w4 T4.out)
              have D4 := Lib.hid d4
              clear HSP3 O13 O23 B3 s4 d4
              by_cases hE0 : E = 0
              · have q1 : (E != 0) = false := by simpa using hE0
                obtain ⟨bb, kk, e1, hr, e3, hat0, hbl, hM⟩ := HSI.out hE0
                clear HSI hE0
                by_cases hx : x = 0
                · subst hx
                  clear e1 hr e3 hat0 hbl hM
                  have hx1 : ((0 : UInt8).toNat : Int) = 0 := rfl
                  rw [hx1]
                  go_wp2_with fail
                  refine HA4.out.mono ?_
                  rintro e w5 ⟨rfl, b5⟩
                  have b6 := below_past B4.out b5 Z4.out
                  clear HA4 b5
                  go_wp2_with fail
                  go_ret
                  exact ⟨rfl, by rw [HB.out]; exact b6⟩
                · have hxn : x.toNat ≠ 0 := fun e => hx (UInt8.toNat_inj.1 (by rw [e]; rfl))
                  have q2 : ((x.toNat : Int) == 0) = false := by simpa using hxn
                  have q3 : (x.toNat == 0) = false := by simpa using hxn
                  obtain ⟨s1, s2, s3, s4, s5, s6⟩ := seg_opens e1 hr
                  rw [segT_append, segT_cur 1 F2 (fun t ht => Nat.le_trans (hsh2 t ht) (by decide))] at s6
                  have hT1 : segT [⟨0, bb, kk⟩] = (allR bb).1 := by show (allR bb).1 ++ [] = _; rw [List.append_nil]
                  rw [hT1] at s6
                  have hTl : (allR bb).1.length ≤ 5001 := Nat.le_trans (allF_len bb _ 0) (by omega)
                  generalize (allR bb).1 = T1 at *
                  have HO := Lib.hid (jOpen_any B q _ _ w4 D4.out s1 s2 s3 s4 (fun n hn => Nat.le_trans (s5 n hn) (by rw [e3]; omega)) (by rw [s6, List.length_append]; omega) T4.out)
                  rw [s6] at HO
                  have HM := Lib.hid hM
                  clear e1 hr e3 hbl hM s1 s2 s3 s4 s5 s6 hT1 HA4 D4 hx hxn
                  go_wp2_with fail
                  refine HO.out.mono ?_
                  rintro e w5 ⟨k5, v5, rfl, -, o5, b5⟩
                  have O15 := Lib.hid (O14.out.below b5)
                  have O25 := Lib.hid (O24.out.below b5)
                  have B5 := Lib.hid (below_past B4.out b5 Z4.out)
                  have Z5 := Lib.hid (Nat.le_trans Z4.out b5.size)
                  have T5 := Lib.hid (T4.out.below b5)
                  clear HO O14 O24 B4 Z4 T4 b5
                  obtain ⟨ao5, cap5, hv5⟩ := own_shape o5
                  obtain ⟨ao13, cap13, hv13⟩ := own_shape O15.out
                  obtain ⟨ao14, cap14, hv14⟩ := own_shape O25.out
                  subst hv5 hv13 hv14
                  have K5 := Lib.hid o5.lie
                  have K13 := Lib.hid O15.out.lie
                  have K14 := Lib.hid O25.out.lie
                  have hcap : Hid ((T1 ++ F2).length ≤ cap5) := Lib.hid (own_cap o5).1
                  have hcap13 : Hid (F1.length ≤ cap13) := Lib.hid (own_cap O15.out).1
                  obtain ⟨m, hm⟩ : ∃ m, F2.length = m := ⟨_, rfl⟩
                  obtain ⟨f, hf⟩ : ∃ f, F1.length = f := ⟨_, rfl⟩
                  obtain ⟨t1, ht1⟩ : ∃ t1, T1.length = t1 := ⟨_, rfl⟩
                  obtain ⟨n, hn⟩ : ∃ n, (T1 ++ F2).length = n := ⟨_, rfl⟩
                  have hnt : n = t1 + m := by rw [← hn, List.length_append, ht1, hm]
                  have hlt : decide (n < m) = false := decide_eq_false (by omega)
                  have hsub : (n : Int) - m = t1 := by omega
                  have hni : (n : Int) ≤ 6000 := by omega
                  have hmi : (m : Int) ≤ 10 := by omega
                  have hti : (t1 : Int) ≤ n := by omega
                  rw [hn] at K5 hcap ⊢
                  rw [hf] at K13 hcap13 ⊢
                  rw [hm] at K14 ⊢
                  have HHM := Lib.hid hm
                  have HHF := Lib.hid hf
                  have HHT := Lib.hid ht1
                  have HHN := Lib.hid hn
                  have hdr : Hid (∀ c, StrsFrom w5 (.slice (ao5.map (fun x => x.add t1)) m c) F2) := Lib.hid fun c => by
                    have := K5.out.drop (k := t1) (m := m) (c := c) (by rw [hn, hnt])
                    rwa [show (T1 ++ F2).drop t1 = F2 by rw [← ht1, List.drop_left]] at this
                  clear o5 O15 O25 hap2 hl2 hus2 hsh2 hgo hm hf ht1 hn
                  by_cases hct : cap5 = t1
                  · have hm0 : m = 0 := by have := hcap.out; omega
                    have hF0 : F2 = [] := List.eq_nil_of_length_eq_zero (by rw [HHM.out, hm0])
                    subst hm0
                    obtain rfl : t1 = cap5 := hct.symm
                    have HS := Lib.hid (sameF_any (.slice ao5 0 0) (.slice ao14 0 cap14) [] w5 strsFrom_nil strsFrom_nil (by decide))
                    go_wp2_with fail
                    refine HS.out.mono ?_
                    rintro e w6 ⟨rfl, b6⟩
                    have T6 := Lib.hid (T5.out.below b6)
                    clear HS
                    go_wp2_with fail
                    go_loop [22, 23] (fun a c => ∃ p : Nat, p ≤ f ∧ a = .int .i64 (endAt F1 p : Nat) ∧ c = .int .i64 p ∧ (endAt F1 p : Int) ≤ at' ∧ endAt F1 p ≤ 1080) (fun _ c => (f - intOf c).toNat)
                    case atStart => exact ⟨0, Nat.zero_le _, rfl, rfl, hat0, Nat.zero_le _⟩
                    case round =>
                      obtain ⟨p, hpF, rfl, rfl, hpa, hpb⟩ := hrel
                      have hpi : (p : Int) ≤ 10 := by have := HHF.out; omega
                      by_cases hlt3 : p < f
                      · have c3 : decide (p < f) = true := decide_eq_true hlt3
                        have c3i : (p : Int) < f := by omega
                        obtain ⟨a13, c13, ee, kk13⟩ := K13.out.below b6
                        obtain ⟨rfl, -, rfl⟩ : ao13 = a13 ∧ _ ∧ cap13 = c13 := by simpa using ee
                        obtain ⟨g13, rfl, cc⟩ := kk13 p (by rw [HHF.out]; exact hlt3)
                        have hes := ends_step F1 p (by rw [HHF.out]; exact hlt3)
                        have hsz : (stx (F1.getD p [])).size = (F1.getD p []).length := stx_size _
                        have hle : (F1.getD p []).length ≤ 100 := by
                          rw [List.getD_eq_getElem?_getD, List.getElem?_eq_getElem (by rw [HHF.out]; exact hlt3)]
                          exact hsh1 _ (List.getElem_mem _)
                        have HES := Lib.hid hes
                        have HESB : Hid (endAt F1 (p + 1) ≤ 1080) := Lib.hid (ends_small F1 hsh1 (by omega) (p + 1))
                        generalize F1.getD p [] = Lp at *
                        generalize hlp : Lp.length = lp at *
                        clear kk13 ee hlp hes
                        by_cases hfit : (endAt F1 p : Int) + 8 + lp ≤ at'
                        · have c4 : decide (((endAt F1 p : Nat) : Int) + 8 + lp ≤ at') = true := decide_eq_true hfit
                          have hE1 : endAt F1 (p + 1) ≤ 1080 := by
                            have := HESB.out
                            omega
                          have HE1 := Lib.hid hE1
                          have HEA : Hid (((endAt F1 (p + 1) : Nat) : Int) ≤ at') := Lib.hid (by rw [HES.out]; omega)
                          generalize hep : endAt F1 p = ep at *
                          have hepi : (ep : Int) ≤ 1080 := by omega
                          have hlpi : (lp : Int) ≤ 100 := by omega
                          clear hE1 hep
                          go_wp2_with fail
                          exact ⟨⟨p + 1, hlt3, by rw [HES.out]; go_num, by go_num, HEA.out, HE1.out⟩, by simp [intOf]; omega⟩
                        · have c4 : decide (((endAt F1 p : Nat) : Int) + 8 + lp ≤ at') = false := decide_eq_false hfit
                          generalize hep : endAt F1 p = ep at *
                          have hepi : (ep : Int) ≤ 1080 := by omega
                          have hlpi : (lp : Int) ≤ 100 := by omega
                          clear hfit
                          go_wp2_with fail
                          subst hep
                          have hpt : p ≤ t1 := by
                            obtain ⟨M, hM⟩ := HM.out p (by omega)
                            have := congrArg List.length hM
                            rw [List.length_append, List.length_take, HHF.out, HHT.out] at this
                            omega
                          have hTT : (T1 ++ F2).take p = F1.take p := by
                            obtain ⟨M, hM⟩ := HM.out p (by omega)
                            rw [List.take_append_of_le_length (by rw [HHT.out]; exact hpt), hM, List.take_append_of_le_length (by rw [List.length_take, HHF.out]; omega), List.take_take, Nat.min_self]
                          have hpti : decide ((p : Int) ≤ t1) = true := decide_eq_true (by omega)
                          have hptn : decide (p ≤ t1) = true := decide_eq_true hpt
                          have hpc : p ≤ t1 := by have := hcap.out; omega
                          have hpf : p ≤ cap13 := by have := hcap13.out; omega
                          have hpci : (p : Int) ≤ t1 := by omega
                          have hpfi : (p : Int) ≤ cap13 := by omega
                          have HSM : Hid (∀ y : Past w6, Calls Tryz.prog 22 #[.slice ao5 p t1, .slice (some (⟨g13, 0, none⟩ : Addr)) p cap13] y.w fun e w'' => e = .returned (.bool true) ∧ Below y.w.heap.size y.w w'') := Lib.hid fun y => by
                            obtain ⟨a1, c1, e1, k1⟩ := (K5.out.below (below_past b6 y.h b6.size)).take p (by rw [HHN.out]; omega)
                            obtain ⟨a2, c2, e2, k2⟩ := (K13.out.below (below_past b6 y.h b6.size)).take p (by rw [HHF.out]; exact hpF)
                            rw [hTT] at k1
                            obtain ⟨rfl, -, rfl⟩ : ao5 = a1 ∧ _ ∧ t1 = c1 := by simpa using e1
                            obtain ⟨rfl, -, rfl⟩ : (some (⟨g13, 0, none⟩ : Addr)) = a2 ∧ _ ∧ cap13 = c2 := by simpa using e2
                            exact same_any _ _ _ y.w k1 k2 (by rw [List.length_take]; omega)
                          have HAP : Hid (∀ y : Past w6, Calls Tryz.prog 8 #[] y.w fun e w'' => e = .returned (.bool true) ∧ Below y.w.heap.size y.w w'') := Lib.hid fun y => awake7 _ (T6.out.below y.h)
                          have B6 := Lib.hid b6
                          clear hTT hpt b6 hat0
                          refine wp_region_past (by kernel_rfl) (by kernel_rfl) ?_
                          repeat (go_big_quiet_step (first | (go_at_call 8; exact Past.call (HAP.out _)) | (go_at_call 22; exact Past.call (HSM.out _))))
                          refine wpQuiet_nil ?_
                          intro w2 hw2
                          obtain ⟨⟨wn, hn⟩, rfl⟩ := hw2
                          try dsimp only
                          go_wp2_with fail
                          go_ret
                          exact ⟨rfl, by rw [HB.out]; exact below_past (below_past B5.out B6.out Z5.out) hn (Nat.le_trans Z5.out B6.out.size)⟩
                      · obtain rfl : p = f := by omega
                        have c3 : decide (p < p) = false := decide_eq_false hlt3
                        go_wp2_with fail
                        have hpt : p ≤ t1 := by
                          obtain ⟨M, hM⟩ := HM.out p (by omega)
                          have := congrArg List.length hM
                          rw [List.length_append, List.length_take, HHF.out, HHT.out] at this
                          omega
                        have hTT : (T1 ++ F2).take p = F1.take p := by
                          obtain ⟨M, hM⟩ := HM.out p (by omega)
                          rw [List.take_append_of_le_length (by rw [HHT.out]; exact hpt), hM, List.take_append_of_le_length (by rw [List.length_take, HHF.out]; omega), List.take_take, Nat.min_self]
                        have hpti : decide ((p : Int) ≤ t1) = true := decide_eq_true (by omega)
                        have hptn : decide (p ≤ t1) = true := decide_eq_true hpt
                        have hpc : p ≤ t1 := by have := hcap.out; omega
                        have hpf : p ≤ cap13 := by have := hcap13.out; omega
                        have hpci : (p : Int) ≤ t1 := by omega
                        have hpfi : (p : Int) ≤ cap13 := by omega
                        have HSM : Hid (∀ y : Past w6, Calls Tryz.prog 22 #[.slice ao5 p t1, .slice ao13 p cap13] y.w fun e w'' => e = .returned (.bool true) ∧ Below y.w.heap.size y.w w'') := Lib.hid fun y => by
                          obtain ⟨a1, c1, e1, k1⟩ := (K5.out.below (below_past b6 y.h b6.size)).take p (by rw [HHN.out]; omega)
                          obtain ⟨a2, c2, e2, k2⟩ := (K13.out.below (below_past b6 y.h b6.size)).take p (by rw [HHF.out]; exact hpF)
                          rw [hTT] at k1
                          obtain ⟨rfl, -, rfl⟩ : ao5 = a1 ∧ _ ∧ t1 = c1 := by simpa using e1
                          obtain ⟨rfl, -, rfl⟩ : ao13 = a2 ∧ _ ∧ cap13 = c2 := by simpa using e2
                          exact same_any _ _ _ y.w k1 k2 (by rw [List.length_take]; omega)
                        have HAP : Hid (∀ y : Past w6, Calls Tryz.prog 8 #[] y.w fun e w'' => e = .returned (.bool true) ∧ Below y.w.heap.size y.w w'') := Lib.hid fun y => awake7 _ (T6.out.below y.h)
                        have B6 := Lib.hid b6
                        clear hTT hpt b6 hat0
                        refine wp_region_past (by kernel_rfl) (by kernel_rfl) ?_
                        repeat (go_big_quiet_step (first | (go_at_call 8; exact Past.call (HAP.out _)) | (go_at_call 22; exact Past.call (HSM.out _))))
                        refine wpQuiet_nil ?_
                        intro w2 hw2
                        obtain ⟨⟨wn, hn⟩, rfl⟩ := hw2
                        try dsimp only
                        go_wp2_with fail
                        go_ret
                        exact ⟨rfl, by rw [HB.out]; exact below_past (below_past B5.out B6.out Z5.out) hn (Nat.le_trans Z5.out B6.out.size)⟩
                  · have HS := Lib.hid (sameF_any _ (.slice ao14 m cap14) F2 w5 (hdr.out (cap5 - t1)) K14.out.from (by rw [HHM.out]; omega))
                    go_wp2_with fail
                    refine HS.out.mono ?_
                    rintro e w6 ⟨rfl, b6⟩
                    have T6 := Lib.hid (T5.out.below b6)
                    clear HS
                    go_wp2_with fail
                    go_loop [22, 23] (fun a c => ∃ p : Nat, p ≤ f ∧ a = .int .i64 (endAt F1 p : Nat) ∧ c = .int .i64 p ∧ (endAt F1 p : Int) ≤ at' ∧ endAt F1 p ≤ 1080) (fun _ c => (f - intOf c).toNat)
                    case atStart => exact ⟨0, Nat.zero_le _, rfl, rfl, hat0, Nat.zero_le _⟩
                    case round =>
                      obtain ⟨p, hpF, rfl, rfl, hpa, hpb⟩ := hrel
                      have hpi : (p : Int) ≤ 10 := by have := HHF.out; omega
                      by_cases hlt3 : p < f
                      · have c3 : decide (p < f) = true := decide_eq_true hlt3
                        have c3i : (p : Int) < f := by omega
                        obtain ⟨a13, c13, ee, kk13⟩ := K13.out.below b6
                        obtain ⟨rfl, -, rfl⟩ : ao13 = a13 ∧ _ ∧ cap13 = c13 := by simpa using ee
                        obtain ⟨g13, rfl, cc⟩ := kk13 p (by rw [HHF.out]; exact hlt3)
                        have hes := ends_step F1 p (by rw [HHF.out]; exact hlt3)
                        have hsz : (stx (F1.getD p [])).size = (F1.getD p []).length := stx_size _
                        have hle : (F1.getD p []).length ≤ 100 := by
                          rw [List.getD_eq_getElem?_getD, List.getElem?_eq_getElem (by rw [HHF.out]; exact hlt3)]
                          exact hsh1 _ (List.getElem_mem _)
                        have HES := Lib.hid hes
                        have HESB : Hid (endAt F1 (p + 1) ≤ 1080) := Lib.hid (ends_small F1 hsh1 (by omega) (p + 1))
                        generalize F1.getD p [] = Lp at *
                        generalize hlp : Lp.length = lp at *
                        clear kk13 ee hlp hes
                        by_cases hfit : (endAt F1 p : Int) + 8 + lp ≤ at'
                        · have c4 : decide (((endAt F1 p : Nat) : Int) + 8 + lp ≤ at') = true := decide_eq_true hfit
                          have hE1 : endAt F1 (p + 1) ≤ 1080 := by
                            have := HESB.out
                            omega
                          have HE1 := Lib.hid hE1
                          have HEA : Hid (((endAt F1 (p + 1) : Nat) : Int) ≤ at') := Lib.hid (by rw [HES.out]; omega)
                          generalize hep : endAt F1 p = ep at *
                          have hepi : (ep : Int) ≤ 1080 := by omega
                          have hlpi : (lp : Int) ≤ 100 := by omega
                          clear hE1 hep
                          go_wp2_with fail
                          exact ⟨⟨p + 1, hlt3, by rw [HES.out]; go_num, by go_num, HEA.out, HE1.out⟩, by simp [intOf]; omega⟩
                        · have c4 : decide (((endAt F1 p : Nat) : Int) + 8 + lp ≤ at') = false := decide_eq_false hfit
                          generalize hep : endAt F1 p = ep at *
                          have hepi : (ep : Int) ≤ 1080 := by omega
                          have hlpi : (lp : Int) ≤ 100 := by omega
                          clear hfit
                          go_wp2_with fail
                          subst hep
                          have hpt : p ≤ t1 := by
                            obtain ⟨M, hM⟩ := HM.out p (by omega)
                            have := congrArg List.length hM
                            rw [List.length_append, List.length_take, HHF.out, HHT.out] at this
                            omega
                          have hTT : (T1 ++ F2).take p = F1.take p := by
                            obtain ⟨M, hM⟩ := HM.out p (by omega)
                            rw [List.take_append_of_le_length (by rw [HHT.out]; exact hpt), hM, List.take_append_of_le_length (by rw [List.length_take, HHF.out]; omega), List.take_take, Nat.min_self]
                          have hpti : decide ((p : Int) ≤ t1) = true := decide_eq_true (by omega)
                          have hptn : decide (p ≤ t1) = true := decide_eq_true hpt
                          have hpc : p ≤ cap5 := by have := hcap.out; omega
                          have hpf : p ≤ cap13 := by have := hcap13.out; omega
                          have hpci : (p : Int) ≤ cap5 := by omega
                          have hpfi : (p : Int) ≤ cap13 := by omega
                          have HSM : Hid (∀ y : Past w6, Calls Tryz.prog 22 #[.slice ao5 p cap5, .slice (some (⟨g13, 0, none⟩ : Addr)) p cap13] y.w fun e w'' => e = .returned (.bool true) ∧ Below y.w.heap.size y.w w'') := Lib.hid fun y => by
                            obtain ⟨a1, c1, e1, k1⟩ := (K5.out.below (below_past b6 y.h b6.size)).take p (by rw [HHN.out]; omega)
                            obtain ⟨a2, c2, e2, k2⟩ := (K13.out.below (below_past b6 y.h b6.size)).take p (by rw [HHF.out]; exact hpF)
                            rw [hTT] at k1
                            obtain ⟨rfl, -, rfl⟩ : ao5 = a1 ∧ _ ∧ cap5 = c1 := by simpa using e1
                            obtain ⟨rfl, -, rfl⟩ : (some (⟨g13, 0, none⟩ : Addr)) = a2 ∧ _ ∧ cap13 = c2 := by simpa using e2
                            exact same_any _ _ _ y.w k1 k2 (by rw [List.length_take]; omega)
                          have HAP : Hid (∀ y : Past w6, Calls Tryz.prog 8 #[] y.w fun e w'' => e = .returned (.bool true) ∧ Below y.w.heap.size y.w w'') := Lib.hid fun y => awake7 _ (T6.out.below y.h)
                          have B6 := Lib.hid b6
                          clear hTT hpt b6 hat0
                          refine wp_region_past (by kernel_rfl) (by kernel_rfl) ?_
                          repeat (go_big_quiet_step (first | (go_at_call 8; exact Past.call (HAP.out _)) | (go_at_call 22; exact Past.call (HSM.out _))))
                          refine wpQuiet_nil ?_
                          intro w2 hw2
                          obtain ⟨⟨wn, hn⟩, rfl⟩ := hw2
                          try dsimp only
                          go_wp2_with fail
                          go_ret
                          exact ⟨rfl, by rw [HB.out]; exact below_past (below_past B5.out B6.out Z5.out) hn (Nat.le_trans Z5.out B6.out.size)⟩
                      · obtain rfl : p = f := by omega
                        have c3 : decide (p < p) = false := decide_eq_false hlt3
                        go_wp2_with fail
                        have hpt : p ≤ t1 := by
                          obtain ⟨M, hM⟩ := HM.out p (by omega)
                          have := congrArg List.length hM
                          rw [List.length_append, List.length_take, HHF.out, HHT.out] at this
                          omega
                        have hTT : (T1 ++ F2).take p = F1.take p := by
                          obtain ⟨M, hM⟩ := HM.out p (by omega)
                          rw [List.take_append_of_le_length (by rw [HHT.out]; exact hpt), hM, List.take_append_of_le_length (by rw [List.length_take, HHF.out]; omega), List.take_take, Nat.min_self]
                        have hpti : decide ((p : Int) ≤ t1) = true := decide_eq_true (by omega)
                        have hptn : decide (p ≤ t1) = true := decide_eq_true hpt
                        have hpc : p ≤ cap5 := by have := hcap.out; omega
                        have hpf : p ≤ cap13 := by have := hcap13.out; omega
                        have hpci : (p : Int) ≤ cap5 := by omega
                        have hpfi : (p : Int) ≤ cap13 := by omega
                        have HSM : Hid (∀ y : Past w6, Calls Tryz.prog 22 #[.slice ao5 p cap5, .slice ao13 p cap13] y.w fun e w'' => e = .returned (.bool true) ∧ Below y.w.heap.size y.w w'') := Lib.hid fun y => by
                          obtain ⟨a1, c1, e1, k1⟩ := (K5.out.below (below_past b6 y.h b6.size)).take p (by rw [HHN.out]; omega)
                          obtain ⟨a2, c2, e2, k2⟩ := (K13.out.below (below_past b6 y.h b6.size)).take p (by rw [HHF.out]; exact hpF)
                          rw [hTT] at k1
                          obtain ⟨rfl, -, rfl⟩ : ao5 = a1 ∧ _ ∧ cap5 = c1 := by simpa using e1
                          obtain ⟨rfl, -, rfl⟩ : ao13 = a2 ∧ _ ∧ cap13 = c2 := by simpa using e2
                          exact same_any _ _ _ y.w k1 k2 (by rw [List.length_take]; omega)
                        have HAP : Hid (∀ y : Past w6, Calls Tryz.prog 8 #[] y.w fun e w'' => e = .returned (.bool true) ∧ Below y.w.heap.size y.w w'') := Lib.hid fun y => awake7 _ (T6.out.below y.h)
                        have B6 := Lib.hid b6
                        clear hTT hpt b6 hat0
                        refine wp_region_past (by kernel_rfl) (by kernel_rfl) ?_
                        repeat (go_big_quiet_step (first | (go_at_call 8; exact Past.call (HAP.out _)) | (go_at_call 22; exact Past.call (HSM.out _))))
                        refine wpQuiet_nil ?_
                        intro w2 hw2
                        obtain ⟨⟨wn, hn⟩, rfl⟩ := hw2
                        try dsimp only
                        go_wp2_with fail
                        go_ret
                        exact ⟨rfl, by rw [HB.out]; exact below_past (below_past B5.out B6.out Z5.out) hn (Nat.le_trans Z5.out B6.out.size)⟩
              · have q1 : (E != 0) = true := by simpa using hE0
                clear HSI hE0
                go_wp2_with fail
                refine HA4.out.mono ?_
                rintro e w5 ⟨rfl, b5⟩
                have b6 := below_past B4.out b5 Z4.out
                clear HA4 b5
                go_wp2_with fail
                go_ret
                exact ⟨rfl, by rw [HB.out]; exact b6⟩
      · have g0 : decide (i < l0) = false := decide_eq_false e0
        have HTU := Lib.hid (jw_turn JWr (by decide))
        have O1' := Lib.hid OW1
        have O2' := Lib.hid OW2
        clear JWr OW1 OW2
        go_wp2_with fail
        refine HTU.out.mono ?_
        rintro e w2 ⟨rfl, j2, hs2⟩
        have o12 := hs2 _ _ _ O1'.out
        have o22 := hs2 _ _ _ O2'.out
        rw [List.nil_append] at j2
        clear HTU O1' O2' hs2
        go_wp2_with fail
        go_loopw [14, 17] (fun x2 y wr => ∃ (i : Nat) (F2 : List (List UInt8)) (d : DDisk), i ≤ l1 ∧ i ≤ 10 ∧ y = .int .i64 i ∧ JW B q j 1048576 (curS 0 F1) 1 F2 (F1 ++ F2) d w wr ∧ OwnStrs wr B u13 F1 ∧ OwnStrs wr B x2 F2 ∧ Apart x2 u13 ∧ F2.length ≤ i ∧ dUsed d.files ≤ 108 * 10 + 108 * i ∧ (∀ t ∈ F2, t.length ≤ 100)) (fun _ y _ => (10 - intOf y).toNat)
        case atStart => exact ⟨0, [], _, Nat.zero_le _, Nat.zero_le _, rfl, by rw [List.append_nil]; exact j2, o12, o22, hap.symm, Nat.le_refl _, by omega, fun t ht => (by cases ht)⟩
        case round =>
          obtain ⟨i, F2, d, hi1, hi2, rfl, JWr, OW1, OW2, hap2, hl2, hus2, hsh2⟩ := hrel
          clear j2 o12 o22
          by_cases hgo : i < l1 ∧ i < 10
          · as_aux_lemma =>
            obtain ⟨hlt1, hlt2⟩ := hgo
            have g0 : decide (i < l1) = true := decide_eq_true hlt1
            have g0i : (i : Int) < l1 := by omega
            have g2 : decide ((i : Int) < 10) = true := decide_eq_true (by omega)
            have g2i : (i : Int) < 10 := by omega
            obtain ⟨mao, mcap, hv, hS⟩ := HS1.out
            obtain ⟨ma, hmao, hc⟩ := hS i hlt1
            obtain ⟨rfl, rfl⟩ : ao1 = mao ∧ cap1 = mcap := by simpa using hv
            subst hmao
            obtain ⟨L, hL⟩ : ∃ L, (S1 i).data.toList.take 100 = L := ⟨_, rfl⟩
            have hlL : L.length ≤ 100 := by rw [← hL]; exact List.length_take_le _ _
            have HK : Hid (Calls Tryz.prog 12 #[.string (S1 i), .int .i64 100] wr fun e w' => e = .returned (.string (stx L)) ∧ w' = wr) := Lib.hid (by
              have := l3Cut_any (S1 i) 100 wr (by decide)
              rwa [hL] at this)
            have c0 := (JWr.bel.cell (p := ma.add i) (by rw [← HB.out]; exact cellLt hc)).trans hc
            have HAD := Lib.hid (jw_add JWr L (by omega) (by omega))
            have OS1 := Lib.hid OW2
            have OS2 := Lib.hid OW1
            have HAP := Lib.hid hap2
            have HWL : Hid ((F2 ++ [L]).length ≤ i + 1) := Lib.hid (by rw [List.length_append]; simp; omega)
            have HSH : Hid (∀ t ∈ F2 ++ [L], t.length ≤ 100) := Lib.hid (by
              intro t ht
              rcases List.mem_append.1 ht with ht | ht
              · exact hsh2 t ht
              · rw [List.mem_singleton.1 ht]; exact hlL)
            have hw6 : F2.length ≤ 1000000 := by omega
            clear hv hS hc hL JWr OW2 OW1 hap2 hsh2
            go_wp2_with fail
            refine HK.out.mono ?_
            rintro e w3 ⟨rfl, rfl⟩
            clear HK
            go_wp2_with fail
            refine HAD.out.mono ?_
            rintro e w4 ⟨rfl, j4, u4, s4⟩
            have o14 := s4.strs OS1.out
            have o24 := s4.strs OS2.out
            have HUS : Hid (dUsed (addD d (nm 1) L).files ≤ 108 * 10 + 108 * (i + 1)) := Lib.hid (by rw [u4]; omega)
            generalize addD d _ L = d' at *
            have a4 : Below w4.heap.size w4 (w4.alloc (.cells #[.string (stx L)] 9)) := (Below.refl _ _).alloc (Nat.le_refl _) _
            have o15 : OwnStrs (w4.alloc (.cells #[.string (stx L)] 9)) B u14 F2 := o14.below a4
            have o25 := o24.below a4
            have J5 := Lib.hid (j4.kept a4)
            have hc1 : (w4.alloc (.cells #[.string (stx L)] 9)).cell? ⟨w4.heap.size, 0, none⟩ = some (.string (stx L)) := cell_of_rowAt (rowAt_alloc_at w4 #[.string (stx L)] 9 _ rfl) 0
            have HC1 := Lib.hid hc1
            have O25 := Lib.hid o25
            clear HAD OS1 OS2 s4 o14 o24 j4 u4 a4 hc1 o25
            go_wp2_with (at_builtin; refine wpList_put_text rfl _ _ rfl B u14 F2 rfl o15 L ⟨w4.heap.size, 0, none⟩ 1 rfl HC1.out J5.out.low hw6 ?_)
            intro v' w6 o6 g6 hat6
            have J6 := Lib.hid (J5.out.aside o15 g6)
            have O6 := Lib.hid o6
            have O26 := Lib.hid (O25.out.apart HAP.out g6)
            have HAP6 := Lib.hid (HAP.out.grow O25.out hat6 (Nat.le_of_eq (World.size_alloc ..)))
            clear J5 HC1 o15 o6 g6 O25 HAP hat6
            go_wp2_with fail
            exact ⟨⟨i + 1, _, _, hlt1, by omega, by go_num, by rw [← List.append_assoc]; exact J6.out, O26.out, O6.out, HAP6.out, HWL.out, HUS.out, HSH.out⟩, by simp [intOf]; omega⟩
          · by_cases e0 : i < l1
            · have g0 : decide (i < l1) = true := decide_eq_true e0
              have g0i : (i : Int) < l1 := by omega
              have g2 : decide ((i : Int) < 10) = false := decide_eq_false (by omega)
              as_aux_lemma =>
              have HE : ∃ E, spE d (nm 0) at' = E := ⟨_, rfl⟩
              obtain ⟨E, hE⟩ := HE
              have HSI : Hid (E = 0 → _) := Lib.hid fun h0 => spoil_is (x := x) JWr.js (fun t ht => Nat.le_trans (hsh1 t ht) (by decide)) (hE.trans h0)
              have HNm := Lib.hid (jName_any 0 wr (by decide))
              have HSP : Hid (∀ w', DiskAt B q d w' → Calls Tryz.prog 24 #[.pointer (some ⟨q, 0, none⟩), .string (stx (nm 0)), .int .i64 at', .int .u8 (x.toNat : Int)] w' fun e w'' => e = .returned (.int .i64 E) ∧ DiskAt B q (spD d (nm 0) at' x) w'' ∧ Stir B w' w'') := Lib.hid fun w' h => by
                have := dSpoil_any B q d (stx (nm 0)) at' x w' h (by rw [stx_size, nm_length]; decide)
                rwa [show (stx (nm 0)).data.toList = nm 0 from rfl, hE] at this
              have O1 := Lib.hid OW1
              have O2 := Lib.hid OW2
              have J := Lib.hid JWr
              clear JWr OW1 OW2 hE
              go_wp2_with fail
              refine HNm.out.mono ?_
              rintro e w3 ⟨rfl, b3⟩
              have HSP3 := Lib.hid (HSP.out _ (J.out.kept b3).da)
              have O13 := Lib.hid (O1.out.below b3)
              have O23 := Lib.hid (O2.out.below b3)
              have B3 := Lib.hid (J.out.kept b3).bel
              clear HNm HSP O1 O2 J b3
              go_wp2_with fail
              refine HSP3.out.mono ?_
              rintro e w4 ⟨rfl, d4, s4⟩
              have B4 := Lib.hid (B3.out.trans s4.below)
              have O14 := Lib.hid (s4.strs O13.out)
              have O24 := Lib.hid (s4.strs O23.out)
              have Z4 : Hid (B ≤ w4.heap.size) := Lib.hid (by have := d4.low; omega)
              have T4 := Lib.hid (HT.out.below (w' := w4) (by rw [HB.out]; exact B4.out))
              have HA4 := Lib.hid (awake7 w4 T4.out)
              have D4 := Lib.hid d4
              clear HSP3 O13 O23 B3 s4 d4
              by_cases hE0 : E = 0
              · have q1 : (E != 0) = false := by simpa using hE0
                obtain ⟨bb, kk, e1, hr, e3, hat0, hbl, hM⟩ := HSI.out hE0
                clear HSI hE0
                by_cases hx : x = 0
                · subst hx
                  clear e1 hr e3 hat0 hbl hM
                  have hx1 : ((0 : UInt8).toNat : Int) = 0 := rfl
                  rw [hx1]
                  go_wp2_with fail
                  refine HA4.out.mono ?_
                  rintro e w5 ⟨rfl, b5⟩
                  have b6 := below_past B4.out b5 Z4.out
                  clear HA4 b5
                  go_wp2_with fail
                  go_ret
                  exact ⟨rfl, by rw [HB.out]; exact b6⟩
                · have hxn : x.toNat ≠ 0 := fun e => hx (UInt8.toNat_inj.1 (by rw [e]; rfl))
                  have q2 : ((x.toNat : Int) == 0) = false := by simpa using hxn
                  have q3 : (x.toNat == 0) = false := by simpa using hxn
                  obtain ⟨s1, s2, s3, s4, s5, s6⟩ := seg_opens e1 hr
                  rw [segT_append, segT_cur 1 F2 (fun t ht => Nat.le_trans (hsh2 t ht) (by decide))] at s6
                  have hT1 : segT [⟨0, bb, kk⟩] = (allR bb).1 := by show (allR bb).1 ++ [] = _; rw [List.append_nil]
                  rw [hT1] at s6
                  have hTl : (allR bb).1.length ≤ 5001 := Nat.le_trans (allF_len bb _ 0) (by omega)
                  generalize (allR bb).1 = T1 at *
                  have HO := Lib.hid (jOpen_any B q _ _ w4 D4.out s1 s2 s3 s4 (fun n hn => Nat.le_trans (s5 n hn) (by rw [e3]; omega)) (by rw [s6, List.length_append]; omega) T4.out)
                  rw [s6] at HO
                  have HM := Lib.hid hM
                  clear e1 hr e3 hbl hM s1 s2 s3 s4 s5 s6 hT1 HA4 D4 hx hxn
                  go_wp2_with fail
                  refine HO.out.mono ?_
                  rintro e w5 ⟨k5, v5, rfl, -, o5, b5⟩
                  have O15 := Lib.hid (O14.out.below b5)
                  have O25 := Lib.hid (O24.out.below b5)
                  have B5 := Lib.hid (below_past B4.out b5 Z4.out)
                  have Z5 := Lib.hid (Nat.le_trans Z4.out b5.size)
                  have T5 := Lib.hid (T4.out.below b5)
                  clear HO O14 O24 B4 Z4 T4 b5
                  obtain ⟨ao5, cap5, hv5⟩ := own_shape o5
                  obtain ⟨ao13, cap13, hv13⟩ := own_shape O15.out
                  obtain ⟨ao14, cap14, hv14⟩ := own_shape O25.out
                  subst hv5 hv13 hv14
                  have K5 := Lib.hid o5.lie
                  have K13 := Lib.hid O15.out.lie
                  have K14 := Lib.hid O25.out.lie
                  have hcap : Hid ((T1 ++ F2).length ≤ cap5) := Lib.hid (own_cap o5).1
                  have hcap13 : Hid (F1.length ≤ cap13) := Lib.hid (own_cap O15.out).1
                  obtain ⟨m, hm⟩ : ∃ m, F2.length = m := ⟨_, rfl⟩
                  obtain ⟨f, hf⟩ : ∃ f, F1.length = f := ⟨_, rfl⟩
                  obtain ⟨t1, ht1⟩ : ∃ t1, T1.length = t1 := ⟨_, rfl⟩
                  obtain ⟨n, hn⟩ : ∃ n, (T1 ++ F2).length = n := ⟨_, rfl⟩
                  have hnt : n = t1 + m := by rw [← hn, List.length_append, ht1, hm]
                  have hlt : decide (n < m) = false := decide_eq_false (by omega)
                  have hsub : (n : Int) - m = t1 := by omega
                  have hni : (n : Int) ≤ 6000 := by omega
                  have hmi : (m : Int) ≤ 10 := by omega
                  have hti : (t1 : Int) ≤ n := by omega
                  rw [hn] at K5 hcap ⊢
                  rw [hf] at K13 hcap13 ⊢
                  rw [hm] at K14 ⊢
                  have HHM := Lib.hid hm
                  have HHF := Lib.hid hf
                  have HHT := Lib.hid ht1
                  have HHN := Lib.hid hn
                  have hdr : Hid (∀ c, StrsFrom w5 (.slice (ao5.map (fun x => x.add t1)) m c) F2) := Lib.hid fun c => by
                    have := K5.out.drop (k := t1) (m := m) (c := c) (by rw [hn, hnt])
                    rwa [show (T1 ++ F2).drop t1 = F2 by rw [← ht1, List.drop_left]] at this
                  clear o5 O15 O25 hap2 hl2 hus2 hsh2 hgo hm hf ht1 hn
                  by_cases hct : cap5 = t1
                  · have hm0 : m = 0 := by have := hcap.out; omega
                    have hF0 : F2 = [] := List.eq_nil_of_length_eq_zero (by rw [HHM.out, hm0])
                    subst hm0
                    obtain rfl : t1 = cap5 := hct.symm
                    have HS := Lib.hid (sameF_any (.slice ao5 0 0) (.slice ao14 0 cap14) [] w5 strsFrom_nil strsFrom_nil (by decide))
                    go_wp2_with fail
                    refine HS.out.mono ?_
                    rintro e w6 ⟨rfl, b6⟩
                    have T6 := Lib.hid (T5.out.below b6)
                    clear HS
                    go_wp2_with fail
                    go_loop [22, 23] (fun a c => ∃ p : Nat, p ≤ f ∧ a = .int .i64 (endAt F1 p : Nat) ∧ c = .int .i64 p ∧ (endAt F1 p : Int) ≤ at' ∧ endAt F1 p ≤ 1080) (fun _ c => (f - intOf c).toNat)
                    case atStart => exact ⟨0, Nat.zero_le _, rfl, rfl, hat0, Nat.zero_le _⟩
                    case round =>
                      obtain ⟨p, hpF, rfl, rfl, hpa, hpb⟩ := hrel
                      have hpi : (p : Int) ≤ 10 := by have := HHF.out; omega
                      by_cases hlt3 : p < f
                      · have c3 : decide (p < f) = true := decide_eq_true hlt3
                        have c3i : (p : Int) < f := by omega
                        obtain ⟨a13, c13, ee, kk13⟩ := K13.out.below b6
                        obtain ⟨rfl, -, rfl⟩ : ao13 = a13 ∧ _ ∧ cap13 = c13 := by simpa using ee
                        obtain ⟨g13, rfl, cc⟩ := kk13 p (by rw [HHF.out]; exact hlt3)
                        have hes := ends_step F1 p (by rw [HHF.out]; exact hlt3)
                        have hsz : (stx (F1.getD p [])).size = (F1.getD p []).length := stx_size _
                        have hle : (F1.getD p []).length ≤ 100 := by
                          rw [List.getD_eq_getElem?_getD, List.getElem?_eq_getElem (by rw [HHF.out]; exact hlt3)]
                          exact hsh1 _ (List.getElem_mem _)
                        have HES := Lib.hid hes
                        have HESB : Hid (endAt F1 (p + 1) ≤ 1080) := Lib.hid (ends_small F1 hsh1 (by omega) (p + 1))
                        generalize F1.getD p [] = Lp at *
                        generalize hlp : Lp.length = lp at *
                        clear kk13 ee hlp hes
                        by_cases hfit : (endAt F1 p : Int) + 8 + lp ≤ at'
                        · have c4 : decide (((endAt F1 p : Nat) : Int) + 8 + lp ≤ at') = true := decide_eq_true hfit
                          have hE1 : endAt F1 (p + 1) ≤ 1080 := by
                            have := HESB.out
                            omega
                          have HE1 := Lib.hid hE1
                          have HEA : Hid (((endAt F1 (p + 1) : Nat) : Int) ≤ at') := Lib.hid (by rw [HES.out]; omega)
                          generalize hep : endAt F1 p = ep at *
                          have hepi : (ep : Int) ≤ 1080 := by omega
                          have hlpi : (lp : Int) ≤ 100 := by omega
                          clear hE1 hep
                          go_wp2_with fail
                          exact ⟨⟨p + 1, hlt3, by rw [HES.out]; go_num, by go_num, HEA.out, HE1.out⟩, by simp [intOf]; omega⟩
                        · have c4 : decide (((endAt F1 p : Nat) : Int) + 8 + lp ≤ at') = false := decide_eq_false hfit
                          generalize hep : endAt F1 p = ep at *
                          have hepi : (ep : Int) ≤ 1080 := by omega
                          have hlpi : (lp : Int) ≤ 100 := by omega
                          clear hfit
                          go_wp2_with fail
                          subst hep
                          have hpt : p ≤ t1 := by
                            obtain ⟨M, hM⟩ := HM.out p (by omega)
                            have := congrArg List.length hM
                            rw [List.length_append, List.length_take, HHF.out, HHT.out] at this
                            omega
                          have hTT : (T1 ++ F2).take p = F1.take p := by
                            obtain ⟨M, hM⟩ := HM.out p (by omega)
                            rw [List.take_append_of_le_length (by rw [HHT.out]; exact hpt), hM, List.take_append_of_le_length (by rw [List.length_take, HHF.out]; omega), List.take_take, Nat.min_self]
                          have hpti : decide ((p : Int) ≤ t1) = true := decide_eq_true (by omega)
                          have hptn : decide (p ≤ t1) = true := decide_eq_true hpt
                          have hpc : p ≤ t1 := by have := hcap.out; omega
                          have hpf : p ≤ cap13 := by have := hcap13.out; omega
                          have hpci : (p : Int) ≤ t1 := by omega
                          have hpfi : (p : Int) ≤ cap13 := by omega
                          have HSM : Hid (∀ y : Past w6, Calls Tryz.prog 22 #[.slice ao5 p t1, .slice (some (⟨g13, 0, none⟩ : Addr)) p cap13] y.w fun e w'' => e = .returned (.bool true) ∧ Below y.w.heap.size y.w w'') := Lib.hid fun y => by
                            obtain ⟨a1, c1, e1, k1⟩ := (K5.out.below (below_past b6 y.h b6.size)).take p (by rw [HHN.out]; omega)
                            obtain ⟨a2, c2, e2, k2⟩ := (K13.out.below (below_past b6 y.h b6.size)).take p (by rw [HHF.out]; exact hpF)
                            rw [hTT] at k1
                            obtain ⟨rfl, -, rfl⟩ : ao5 = a1 ∧ _ ∧ t1 = c1 := by simpa using e1
                            obtain ⟨rfl, -, rfl⟩ : (some (⟨g13, 0, none⟩ : Addr)) = a2 ∧ _ ∧ cap13 = c2 := by simpa using e2
                            exact same_any _ _ _ y.w k1 k2 (by rw [List.length_take]; omega)
                          have HAP : Hid (∀ y : Past w6, Calls Tryz.prog 8 #[] y.w fun e w'' => e = .returned (.bool true) ∧ Below y.w.heap.size y.w w'') := Lib.hid fun y => awake7 _ (T6.out.below y.h)
                          have B6 := Lib.hid b6
                          clear hTT hpt b6 hat0
                          refine wp_region_past (by kernel_rfl) (by kernel_rfl) ?_
                          repeat (go_big_quiet_step (first | (go_at_call 8; exact Past.call (HAP.out _)) | (go_at_call 22; exact Past.call (HSM.out _))))
                          refine wpQuiet_nil ?_
                          intro w2 hw2
                          obtain ⟨⟨wn, hn⟩, rfl⟩ := hw2
                          try dsimp only
                          go_wp2_with fail
                          go_ret
                          exact ⟨rfl, by rw [HB.out]; exact below_past (below_past B5.out B6.out Z5.out) hn (Nat.le_trans Z5.out B6.out.size)⟩
                      · obtain rfl : p = f := by omega
                        have c3 : decide (p < p) = false := decide_eq_false hlt3
                        go_wp2_with fail
                        have hpt : p ≤ t1 := by
                          obtain ⟨M, hM⟩ := HM.out p (by omega)
                          have := congrArg List.length hM
                          rw [List.length_append, List.length_take, HHF.out, HHT.out] at this
                          omega
                        have hTT : (T1 ++ F2).take p = F1.take p := by
                          obtain ⟨M, hM⟩ := HM.out p (by omega)
                          rw [List.take_append_of_le_length (by rw [HHT.out]; exact hpt), hM, List.take_append_of_le_length (by rw [List.length_take, HHF.out]; omega), List.take_take, Nat.min_self]
                        have hpti : decide ((p : Int) ≤ t1) = true := decide_eq_true (by omega)
                        have hptn : decide (p ≤ t1) = true := decide_eq_true hpt
                        have hpc : p ≤ t1 := by have := hcap.out; omega
                        have hpf : p ≤ cap13 := by have := hcap13.out; omega
                        have hpci : (p : Int) ≤ t1 := by omega
                        have hpfi : (p : Int) ≤ cap13 := by omega
                        have HSM : Hid (∀ y : Past w6, Calls Tryz.prog 22 #[.slice ao5 p t1, .slice ao13 p cap13] y.w fun e w'' => e = .returned (.bool true) ∧ Below y.w.heap.size y.w w'') := Lib.hid fun y => by
                          obtain ⟨a1, c1, e1, k1⟩ := (K5.out.below (below_past b6 y.h b6.size)).take p (by rw [HHN.out]; omega)
                          obtain ⟨a2, c2, e2, k2⟩ := (K13.out.below (below_past b6 y.h b6.size)).take p (by rw [HHF.out]; exact hpF)
                          rw [hTT] at k1
                          obtain ⟨rfl, -, rfl⟩ : ao5 = a1 ∧ _ ∧ t1 = c1 := by simpa using e1
                          obtain ⟨rfl, -, rfl⟩ : ao13 = a2 ∧ _ ∧ cap13 = c2 := by simpa using e2
                          exact same_any _ _ _ y.w k1 k2 (by rw [List.length_take]; omega)
                        have HAP : Hid (∀ y : Past w6, Calls Tryz.prog 8 #[] y.w fun e w'' => e = .returned (.bool true) ∧ Below y.w.heap.size y.w w'') := Lib.hid fun y => awake7 _ (T6.out.below y.h)
                        have B6 := Lib.hid b6
                        clear hTT hpt b6 hat0
                        refine wp_region_past (by kernel_rfl) (by kernel_rfl) ?_
                        repeat (go_big_quiet_step (first | (go_at_call 8; exact Past.call (HAP.out _)) | (go_at_call 22; exact Past.call (HSM.out _))))
                        refine wpQuiet_nil ?_
                        intro w2 hw2
                        obtain ⟨⟨wn, hn⟩, rfl⟩ := hw2
                        try dsimp only
                        go_wp2_with fail
                        go_ret
                        exact ⟨rfl, by rw [HB.out]; exact below_past (below_past B5.out B6.out Z5.out) hn (Nat.le_trans Z5.out B6.out.size)⟩
                  · have HS := Lib.hid (sameF_any _ (.slice ao14 m cap14) F2 w5 (hdr.out (cap5 - t1)) K14.out.from (by rw [HHM.out]; omega))
                    go_wp2_with fail
                    refine HS.out.mono ?_
                    rintro e w6 ⟨rfl, b6⟩
                    have T6 := Lib.hid (T5.out.below b6)
                    clear HS
                    go_wp2_with fail
                    go_loop [22, 23] (fun a c => ∃ p : Nat, p ≤ f ∧ a = .int .i64 (endAt F1 p : Nat) ∧ c = .int .i64 p ∧ (endAt F1 p : Int) ≤ at' ∧ endAt F1 p ≤ 1080) (fun _ c => (f - intOf c).toNat)
                    case atStart => exact ⟨0, Nat.zero_le _, rfl, rfl, hat0, Nat.zero_le _⟩
                    case round =>
                      obtain ⟨p, hpF, rfl, rfl, hpa, hpb⟩ := hrel
                      have hpi : (p : Int) ≤ 10 := by have := HHF.out; omega
                      by_cases hlt3 : p < f
                      · have c3 : decide (p < f) = true := decide_eq_true hlt3
                        have c3i : (p : Int) < f := by omega
                        obtain ⟨a13, c13, ee, kk13⟩ := K13.out.below b6
                        obtain ⟨rfl, -, rfl⟩ : ao13 = a13 ∧ _ ∧ cap13 = c13 := by simpa using ee
                        obtain ⟨g13, rfl, cc⟩ := kk13 p (by rw [HHF.out]; exact hlt3)
                        have hes := ends_step F1 p (by rw [HHF.out]; exact hlt3)
                        have hsz : (stx (F1.getD p [])).size = (F1.getD p []).length := stx_size _
                        have hle : (F1.getD p []).length ≤ 100 := by
                          rw [List.getD_eq_getElem?_getD, List.getElem?_eq_getElem (by rw [HHF.out]; exact hlt3)]
                          exact hsh1 _ (List.getElem_mem _)
                        have HES := Lib.hid hes
                        have HESB : Hid (endAt F1 (p + 1) ≤ 1080) := Lib.hid (ends_small F1 hsh1 (by omega) (p + 1))
                        generalize F1.getD p [] = Lp at *
                        generalize hlp : Lp.length = lp at *
                        clear kk13 ee hlp hes
                        by_cases hfit : (endAt F1 p : Int) + 8 + lp ≤ at'
                        · have c4 : decide (((endAt F1 p : Nat) : Int) + 8 + lp ≤ at') = true := decide_eq_true hfit
                          have hE1 : endAt F1 (p + 1) ≤ 1080 := by
                            have := HESB.out
                            omega
                          have HE1 := Lib.hid hE1
                          have HEA : Hid (((endAt F1 (p + 1) : Nat) : Int) ≤ at') := Lib.hid (by rw [HES.out]; omega)
                          generalize hep : endAt F1 p = ep at *
                          have hepi : (ep : Int) ≤ 1080 := by omega
                          have hlpi : (lp : Int) ≤ 100 := by omega
                          clear hE1 hep
                          go_wp2_with fail
                          exact ⟨⟨p + 1, hlt3, by rw [HES.out]; go_num, by go_num, HEA.out, HE1.out⟩, by simp [intOf]; omega⟩
                        · have c4 : decide (((endAt F1 p : Nat) : Int) + 8 + lp ≤ at') = false := decide_eq_false hfit
                          generalize hep : endAt F1 p = ep at *
                          have hepi : (ep : Int) ≤ 1080 := by omega
                          have hlpi : (lp : Int) ≤ 100 := by omega
                          clear hfit
                          go_wp2_with fail
                          subst hep
                          have hpt : p ≤ t1 := by
                            obtain ⟨M, hM⟩ := HM.out p (by omega)
                            have := congrArg List.length hM
                            rw [List.length_append, List.length_take, HHF.out, HHT.out] at this
                            omega
                          have hTT : (T1 ++ F2).take p = F1.take p := by
                            obtain ⟨M, hM⟩ := HM.out p (by omega)
                            rw [List.take_append_of_le_length (by rw [HHT.out]; exact hpt), hM, List.take_append_of_le_length (by rw [List.length_take, HHF.out]; omega), List.take_take, Nat.min_self]
                          have hpti : decide ((p : Int) ≤ t1) = true := decide_eq_true (by omega)
                          have hptn : decide (p ≤ t1) = true := decide_eq_true hpt
                          have hpc : p ≤ cap5 := by have := hcap.out; omega
                          have hpf : p ≤ cap13 := by have := hcap13.out; omega
                          have hpci : (p : Int) ≤ cap5 := by omega
                          have hpfi : (p : Int) ≤ cap13 := by omega
                          have HSM : Hid (∀ y : Past w6, Calls Tryz.prog 22 #[.slice ao5 p cap5, .slice (some (⟨g13, 0, none⟩ : Addr)) p cap13] y.w fun e w'' => e = .returned (.bool true) ∧ Below y.w.heap.size y.w w'') := Lib.hid fun y => by
                            obtain ⟨a1, c1, e1, k1⟩ := (K5.out.below (below_past b6 y.h b6.size)).take p (by rw [HHN.out]; omega)
                            obtain ⟨a2, c2, e2, k2⟩ := (K13.out.below (below_past b6 y.h b6.size)).take p (by rw [HHF.out]; exact hpF)
                            rw [hTT] at k1
                            obtain ⟨rfl, -, rfl⟩ : ao5 = a1 ∧ _ ∧ cap5 = c1 := by simpa using e1
                            obtain ⟨rfl, -, rfl⟩ : (some (⟨g13, 0, none⟩ : Addr)) = a2 ∧ _ ∧ cap13 = c2 := by simpa using e2
                            exact same_any _ _ _ y.w k1 k2 (by rw [List.length_take]; omega)
                          have HAP : Hid (∀ y : Past w6, Calls Tryz.prog 8 #[] y.w fun e w'' => e = .returned (.bool true) ∧ Below y.w.heap.size y.w w'') := Lib.hid fun y => awake7 _ (T6.out.below y.h)
                          have B6 := Lib.hid b6
                          clear hTT hpt b6 hat0
                          refine wp_region_past (by kernel_rfl) (by kernel_rfl) ?_
                          repeat (go_big_quiet_step (first | (go_at_call 8; exact Past.call (HAP.out _)) | (go_at_call 22; exact Past.call (HSM.out _))))
                          refine wpQuiet_nil ?_
                          intro w2 hw2
                          obtain ⟨⟨wn, hn⟩, rfl⟩ := hw2
                          try dsimp only
                          go_wp2_with fail
                          go_ret
                          exact ⟨rfl, by rw [HB.out]; exact below_past (below_past B5.out B6.out Z5.out) hn (Nat.le_trans Z5.out B6.out.size)⟩
                      · obtain rfl : p = f := by omega
                        have c3 : decide (p < p) = false := decide_eq_false hlt3
                        go_wp2_with fail
                        have hpt : p ≤ t1 := by
                          obtain ⟨M, hM⟩ := HM.out p (by omega)
                          have := congrArg List.length hM
                          rw [List.length_append, List.length_take, HHF.out, HHT.out] at this
                          omega
                        have hTT : (T1 ++ F2).take p = F1.take p := by
                          obtain ⟨M, hM⟩ := HM.out p (by omega)
                          rw [List.take_append_of_le_length (by rw [HHT.out]; exact hpt), hM, List.take_append_of_le_length (by rw [List.length_take, HHF.out]; omega), List.take_take, Nat.min_self]
                        have hpti : decide ((p : Int) ≤ t1) = true := decide_eq_true (by omega)
                        have hptn : decide (p ≤ t1) = true := decide_eq_true hpt
                        have hpc : p ≤ cap5 := by have := hcap.out; omega
                        have hpf : p ≤ cap13 := by have := hcap13.out; omega
                        have hpci : (p : Int) ≤ cap5 := by omega
                        have hpfi : (p : Int) ≤ cap13 := by omega
                        have HSM : Hid (∀ y : Past w6, Calls Tryz.prog 22 #[.slice ao5 p cap5, .slice ao13 p cap13] y.w fun e w'' => e = .returned (.bool true) ∧ Below y.w.heap.size y.w w'') := Lib.hid fun y => by
                          obtain ⟨a1, c1, e1, k1⟩ := (K5.out.below (below_past b6 y.h b6.size)).take p (by rw [HHN.out]; omega)
                          obtain ⟨a2, c2, e2, k2⟩ := (K13.out.below (below_past b6 y.h b6.size)).take p (by rw [HHF.out]; exact hpF)
                          rw [hTT] at k1
                          obtain ⟨rfl, -, rfl⟩ : ao5 = a1 ∧ _ ∧ cap5 = c1 := by simpa using e1
                          obtain ⟨rfl, -, rfl⟩ : ao13 = a2 ∧ _ ∧ cap13 = c2 := by simpa using e2
                          exact same_any _ _ _ y.w k1 k2 (by rw [List.length_take]; omega)
                        have HAP : Hid (∀ y : Past w6, Calls Tryz.prog 8 #[] y.w fun e w'' => e = .returned (.bool true) ∧ Below y.w.heap.size y.w w'') := Lib.hid fun y => awake7 _ (T6.out.below y.h)
                        have B6 := Lib.hid b6
                        clear hTT hpt b6 hat0
                        refine wp_region_past (by kernel_rfl) (by kernel_rfl) ?_
                        repeat (go_big_quiet_step (first | (go_at_call 8; exact Past.call (HAP.out _)) | (go_at_call 22; exact Past.call (HSM.out _))))
                        refine wpQuiet_nil ?_
                        intro w2 hw2
                        obtain ⟨⟨wn, hn⟩, rfl⟩ := hw2
                        try dsimp only
                        go_wp2_with fail
                        go_ret
                        exact ⟨rfl, by rw [HB.out]; exact below_past (below_past B5.out B6.out Z5.out) hn (Nat.le_trans Z5.out B6.out.size)⟩
              · have q1 : (E != 0) = true := by simpa using hE0
                clear HSI hE0
                go_wp2_with fail
                refine HA4.out.mono ?_
                rintro e w5 ⟨rfl, b5⟩
                have b6 := below_past B4.out b5 Z4.out
                clear HA4 b5
                go_wp2_with fail
                go_ret
                exact ⟨rfl, by rw [HB.out]; exact b6⟩
            · have g0 : decide (i < l1) = false := decide_eq_false e0
              as_aux_lemma =>
              have HE : ∃ E, spE d (nm 0) at' = E := ⟨_, rfl⟩
              obtain ⟨E, hE⟩ := HE
              have HSI : Hid (E = 0 → _) := Lib.hid fun h0 => spoil_is (x := x) JWr.js (fun t ht => Nat.le_trans (hsh1 t ht) (by decide)) (hE.trans h0)
              have HNm := Lib.hid (jName_any 0 wr (by decide))
              have HSP : Hid (∀ w', DiskAt B q d w' → Calls Tryz.prog 24 #[.pointer (some ⟨q, 0, none⟩), .string (stx (nm 0)), .int .i64 at', .int .u8 (x.toNat : Int)] w' fun e w'' => e = .returned (.int .i64 E) ∧ DiskAt B q (spD d (nm 0) at' x) w'' ∧ Stir B w' w'') := Lib.hid fun w' h => by
                have := dSpoil_any B q d (stx (nm 0)) at' x w' h (by rw [stx_size, nm_length]; decide)
                rwa [show (stx (nm 0)).data.toList = nm 0 from rfl, hE] at this
              have O1 := Lib.hid OW1
              have O2 := Lib.hid OW2
              have J := Lib.hid JWr
              clear JWr OW1 OW2 hE
              go_wp2_with fail
              refine HNm.out.mono ?_
              rintro e w3 ⟨rfl, b3⟩
              have HSP3 := Lib.hid (HSP.out _ (J.out.kept b3).da)
              have O13 := Lib.hid (O1.out.below b3)
              have O23 := Lib.hid (O2.out.below b3)
              have B3 := Lib.hid (J.out.kept b3).bel
              clear HNm HSP O1 O2 J b3
              go_wp2_with fail
              refine HSP3.out.mono ?_
              rintro e w4 ⟨rfl, d4, s4⟩
              have B4 := Lib.hid (B3.out.trans s4.below)
              have O14 := Lib.hid (s4.strs O13.out)
              have O24 := Lib.hid (s4.strs O23.out)
              have Z4 : Hid (B ≤ w4.heap.size) := Lib.hid (by have := d4.low; omega)
              have T4 := Lib.hid (HT.out.below (w' := w4) (by rw [HB.out]; exact B4.out))
              have HA4 := Lib.hid (awake7 w4 T4.out)
              have D4 := Lib.hid d4
              clear HSP3 O13 O23 B3 s4 d4
              by_cases hE0 : E = 0
              · have q1 : (E != 0) = false := by simpa using hE0
                obtain ⟨bb, kk, e1, hr, e3, hat0, hbl, hM⟩ := HSI.out hE0
                clear HSI hE0
                by_cases hx : x = 0
                · subst hx
                  clear e1 hr e3 hat0 hbl hM
                  have hx1 : ((0 : UInt8).toNat : Int) = 0 := rfl
                  rw [hx1]
                  go_wp2_with fail
                  refine HA4.out.mono ?_
                  rintro e w5 ⟨rfl, b5⟩
                  have b6 := below_past B4.out b5 Z4.out
                  clear HA4 b5
                  go_wp2_with fail
                  go_ret
                  exact ⟨rfl, by rw [HB.out]; exact b6⟩
                · have hxn : x.toNat ≠ 0 := fun e => hx (UInt8.toNat_inj.1 (by rw [e]; rfl))
                  have q2 : ((x.toNat : Int) == 0) = false := by simpa using hxn
                  have q3 : (x.toNat == 0) = false := by simpa using hxn
                  obtain ⟨s1, s2, s3, s4, s5, s6⟩ := seg_opens e1 hr
                  rw [segT_append, segT_cur 1 F2 (fun t ht => Nat.le_trans (hsh2 t ht) (by decide))] at s6
                  have hT1 : segT [⟨0, bb, kk⟩] = (allR bb).1 := by show (allR bb).1 ++ [] = _; rw [List.append_nil]
                  rw [hT1] at s6
                  have hTl : (allR bb).1.length ≤ 5001 := Nat.le_trans (allF_len bb _ 0) (by omega)
                  generalize (allR bb).1 = T1 at *
                  have HO := Lib.hid (jOpen_any B q _ _ w4 D4.out s1 s2 s3 s4 (fun n hn => Nat.le_trans (s5 n hn) (by rw [e3]; omega)) (by rw [s6, List.length_append]; omega) T4.out)
                  rw [s6] at HO
                  have HM := Lib.hid hM
                  clear e1 hr e3 hbl hM s1 s2 s3 s4 s5 s6 hT1 HA4 D4 hx hxn
                  go_wp2_with fail
                  refine HO.out.mono ?_
                  rintro e w5 ⟨k5, v5, rfl, -, o5, b5⟩
                  have O15 := Lib.hid (O14.out.below b5)
                  have O25 := Lib.hid (O24.out.below b5)
                  have B5 := Lib.hid (below_past B4.out b5 Z4.out)
                  have Z5 := Lib.hid (Nat.le_trans Z4.out b5.size)
                  have T5 := Lib.hid (T4.out.below b5)
                  clear HO O14 O24 B4 Z4 T4 b5
                  obtain ⟨ao5, cap5, hv5⟩ := own_shape o5
                  obtain ⟨ao13, cap13, hv13⟩ := own_shape O15.out
                  obtain ⟨ao14, cap14, hv14⟩ := own_shape O25.out
                  subst hv5 hv13 hv14
                  have K5 := Lib.hid o5.lie
                  have K13 := Lib.hid O15.out.lie
                  have K14 := Lib.hid O25.out.lie
                  have hcap : Hid ((T1 ++ F2).length ≤ cap5) := Lib.hid (own_cap o5).1
                  have hcap13 : Hid (F1.length ≤ cap13) := Lib.hid (own_cap O15.out).1
                  obtain ⟨m, hm⟩ : ∃ m, F2.length = m := ⟨_, rfl⟩
                  obtain ⟨f, hf⟩ : ∃ f, F1.length = f := ⟨_, rfl⟩
                  obtain ⟨t1, ht1⟩ : ∃ t1, T1.length = t1 := ⟨_, rfl⟩
                  obtain ⟨n, hn⟩ : ∃ n, (T1 ++ F2).length = n := ⟨_, rfl⟩
                  have hnt : n = t1 + m := by rw [← hn, List.length_append, ht1, hm]
                  have hlt : decide (n < m) = false := decide_eq_false (by omega)
                  have hsub : (n : Int) - m = t1 := by omega
                  have hni : (n : Int) ≤ 6000 := by omega
                  have hmi : (m : Int) ≤ 10 := by omega
                  have hti : (t1 : Int) ≤ n := by omega
                  rw [hn] at K5 hcap ⊢
                  rw [hf] at K13 hcap13 ⊢
                  rw [hm] at K14 ⊢
                  have HHM := Lib.hid hm
                  have HHF := Lib.hid hf
                  have HHT := Lib.hid ht1
                  have HHN := Lib.hid hn
                  have hdr : Hid (∀ c, StrsFrom w5 (.slice (ao5.map (fun x => x.add t1)) m c) F2) := Lib.hid fun c => by
                    have := K5.out.drop (k := t1) (m := m) (c := c) (by rw [hn, hnt])
                    rwa [show (T1 ++ F2).drop t1 = F2 by rw [← ht1, List.drop_left]] at this
                  clear o5 O15 O25 hap2 hl2 hus2 hsh2 hgo hm hf ht1 hn
                  by_cases hct : cap5 = t1
                  · have hm0 : m = 0 := by have := hcap.out; omega
                    have hF0 : F2 = [] := List.eq_nil_of_length_eq_zero (by rw [HHM.out, hm0])
                    subst hm0
                    obtain rfl : t1 = cap5 := hct.symm
                    have HS := Lib.hid (sameF_any (.slice ao5 0 0) (.slice ao14 0 cap14) [] w5 strsFrom_nil strsFrom_nil (by decide))
                    go_wp2_with fail
                    refine HS.out.mono ?_
                    rintro e w6 ⟨rfl, b6⟩
                    have T6 := Lib.hid (T5.out.below b6)
                    clear HS
                    go_wp2_with fail
                    go_loop [22, 23] (fun a c => ∃ p : Nat, p ≤ f ∧ a = .int .i64 (endAt F1 p : Nat) ∧ c = .int .i64 p ∧ (endAt F1 p : Int) ≤ at' ∧ endAt F1 p ≤ 1080) (fun _ c => (f - intOf c).toNat)
                    case atStart => exact ⟨0, Nat.zero_le _, rfl, rfl, hat0, Nat.zero_le _⟩
                    case round =>
                      obtain ⟨p, hpF, rfl, rfl, hpa, hpb⟩ := hrel
                      have hpi : (p : Int) ≤ 10 := by have := HHF.out; omega
                      by_cases hlt3 : p < f
                      · have c3 : decide (p < f) = true := decide_eq_true hlt3
                        have c3i : (p : Int) < f := by omega
                        obtain ⟨a13, c13, ee, kk13⟩ := K13.out.below b6
                        obtain ⟨rfl, -, rfl⟩ : ao13 = a13 ∧ _ ∧ cap13 = c13 := by simpa using ee
                        obtain ⟨g13, rfl, cc⟩ := kk13 p (by rw [HHF.out]; exact hlt3)
                        have hes := ends_step F1 p (by rw [HHF.out]; exact hlt3)
                        have hsz : (stx (F1.getD p [])).size = (F1.getD p []).length := stx_size _
                        have hle : (F1.getD p []).length ≤ 100 := by
                          rw [List.getD_eq_getElem?_getD, List.getElem?_eq_getElem (by rw [HHF.out]; exact hlt3)]
                          exact hsh1 _ (List.getElem_mem _)
                        have HES := Lib.hid hes
                        have HESB : Hid (endAt F1 (p + 1) ≤ 1080) := Lib.hid (ends_small F1 hsh1 (by omega) (p + 1))
                        generalize F1.getD p [] = Lp at *
                        generalize hlp : Lp.length = lp at *
                        clear kk13 ee hlp hes
                        by_cases hfit : (endAt F1 p : Int) + 8 + lp ≤ at'
                        · have c4 : decide (((endAt F1 p : Nat) : Int) + 8 + lp ≤ at') = true := decide_eq_true hfit
                          have hE1 : endAt F1 (p + 1) ≤ 1080 := by
                            have := HESB.out
                            omega
                          have HE1 := Lib.hid hE1
                          have HEA : Hid (((endAt F1 (p + 1) : Nat) : Int) ≤ at') := Lib.hid (by rw [HES.out]; omega)
                          generalize hep : endAt F1 p = ep at *
                          have hepi : (ep : Int) ≤ 1080 := by omega
                          have hlpi : (lp : Int) ≤ 100 := by omega
                          clear hE1 hep
                          go_wp2_with fail
                          exact ⟨⟨p + 1, hlt3, by rw [HES.out]; go_num, by go_num, HEA.out, HE1.out⟩, by simp [intOf]; omega⟩
                        · have c4 : decide (((endAt F1 p : Nat) : Int) + 8 + lp ≤ at') = false := decide_eq_false hfit
                          generalize hep : endAt F1 p = ep at *
                          have hepi : (ep : Int) ≤ 1080 := by omega
                          have hlpi : (lp : Int) ≤ 100 := by omega
                          clear hfit
                          go_wp2_with fail
                          subst hep
                          have hpt : p ≤ t1 := by
                            obtain ⟨M, hM⟩ := HM.out p (by omega)
                            have := congrArg List.length hM
                            rw [List.length_append, List.length_take, HHF.out, HHT.out] at this
                            omega
                          have hTT : (T1 ++ F2).take p = F1.take p := by
                            obtain ⟨M, hM⟩ := HM.out p (by omega)
                            rw [List.take_append_of_le_length (by rw [HHT.out]; exact hpt), hM, List.take_append_of_le_length (by rw [List.length_take, HHF.out]; omega), List.take_take, Nat.min_self]
                          have hpti : decide ((p : Int) ≤ t1) = true := decide_eq_true (by omega)
                          have hptn : decide (p ≤ t1) = true := decide_eq_true hpt
                          have hpc : p ≤ t1 := by have := hcap.out; omega
                          have hpf : p ≤ cap13 := by have := hcap13.out; omega
                          have hpci : (p : Int) ≤ t1 := by omega
                          have hpfi : (p : Int) ≤ cap13 := by omega
                          have HSM : Hid (∀ y : Past w6, Calls Tryz.prog 22 #[.slice ao5 p t1, .slice (some (⟨g13, 0, none⟩ : Addr)) p cap13] y.w fun e w'' => e = .returned (.bool true) ∧ Below y.w.heap.size y.w w'') := Lib.hid fun y => by
                            obtain ⟨a1, c1, e1, k1⟩ := (K5.out.below (below_past b6 y.h b6.size)).take p (by rw [HHN.out]; omega)
                            obtain ⟨a2, c2, e2, k2⟩ := (K13.out.below (below_past b6 y.h b6.size)).take p (by rw [HHF.out]; exact hpF)
                            rw [hTT] at k1
                            obtain ⟨rfl, -, rfl⟩ : ao5 = a1 ∧ _ ∧ t1 = c1 := by simpa using e1
                            obtain ⟨rfl, -, rfl⟩ : (some (⟨g13, 0, none⟩ : Addr)) = a2 ∧ _ ∧ cap13 = c2 := by simpa using e2
                            exact same_any _ _ _ y.w k1 k2 (by rw [List.length_take]; omega)
                          have HAP : Hid (∀ y : Past w6, Calls Tryz.prog 8 #[] y.w fun e w'' => e = .returned (.bool true) ∧ Below y.w.heap.size y.w w'') := Lib.hid fun y => awake7 _ (T6.out.below y.h)
                          have B6 := Lib.hid b6
                          clear hTT hpt b6 hat0
                          refine wp_region_past (by kernel_rfl) (by kernel_rfl) ?_
                          repeat (go_big_quiet_step (first | (go_at_call 8; exact Past.call (HAP.out _)) | (go_at_call 22; exact Past.call (HSM.out _))))
                          refine wpQuiet_nil ?_
                          intro w2 hw2
                          obtain ⟨⟨wn, hn⟩, rfl⟩ := hw2
                          try dsimp only
                          go_wp2_with fail
                          go_ret
                          exact ⟨rfl, by rw [HB.out]; exact below_past (below_past B5.out B6.out Z5.out) hn (Nat.le_trans Z5.out B6.out.size)⟩
                      · obtain rfl : p = f := by omega
                        have c3 : decide (p < p) = false := decide_eq_false hlt3
                        go_wp2_with fail
                        have hpt : p ≤ t1 := by
                          obtain ⟨M, hM⟩ := HM.out p (by omega)
                          have := congrArg List.length hM
                          rw [List.length_append, List.length_take, HHF.out, HHT.out] at this
                          omega
                        have hTT : (T1 ++ F2).take p = F1.take p := by
                          obtain ⟨M, hM⟩ := HM.out p (by omega)
                          rw [List.take_append_of_le_length (by rw [HHT.out]; exact hpt), hM, List.take_append_of_le_length (by rw [List.length_take, HHF.out]; omega), List.take_take, Nat.min_self]
                        have hpti : decide ((p : Int) ≤ t1) = true := decide_eq_true (by omega)
                        have hptn : decide (p ≤ t1) = true := decide_eq_true hpt
                        have hpc : p ≤ t1 := by have := hcap.out; omega
                        have hpf : p ≤ cap13 := by have := hcap13.out; omega
                        have hpci : (p : Int) ≤ t1 := by omega
                        have hpfi : (p : Int) ≤ cap13 := by omega
                        have HSM : Hid (∀ y : Past w6, Calls Tryz.prog 22 #[.slice ao5 p t1, .slice ao13 p cap13] y.w fun e w'' => e = .returned (.bool true) ∧ Below y.w.heap.size y.w w'') := Lib.hid fun y => by
                          obtain ⟨a1, c1, e1, k1⟩ := (K5.out.below (below_past b6 y.h b6.size)).take p (by rw [HHN.out]; omega)
                          obtain ⟨a2, c2, e2, k2⟩ := (K13.out.below (below_past b6 y.h b6.size)).take p (by rw [HHF.out]; exact hpF)
                          rw [hTT] at k1
                          obtain ⟨rfl, -, rfl⟩ : ao5 = a1 ∧ _ ∧ t1 = c1 := by simpa using e1
                          obtain ⟨rfl, -, rfl⟩ : ao13 = a2 ∧ _ ∧ cap13 = c2 := by simpa using e2
                          exact same_any _ _ _ y.w k1 k2 (by rw [List.length_take]; omega)
                        have HAP : Hid (∀ y : Past w6, Calls Tryz.prog 8 #[] y.w fun e w'' => e = .returned (.bool true) ∧ Below y.w.heap.size y.w w'') := Lib.hid fun y => awake7 _ (T6.out.below y.h)
                        have B6 := Lib.hid b6
                        clear hTT hpt b6 hat0
                        refine wp_region_past (by kernel_rfl) (by kernel_rfl) ?_
                        repeat (go_big_quiet_step (first | (go_at_call 8; exact Past.call (HAP.out _)) | (go_at_call 22; exact Past.call (HSM.out _))))
                        refine wpQuiet_nil ?_
                        intro w2 hw2
                        obtain ⟨⟨wn, hn⟩, rfl⟩ := hw2
                        try dsimp only
                        go_wp2_with fail
                        go_ret
                        exact ⟨rfl, by rw [HB.out]; exact below_past (below_past B5.out B6.out Z5.out) hn (Nat.le_trans Z5.out B6.out.size)⟩
                  · have HS := Lib.hid (sameF_any _ (.slice ao14 m cap14) F2 w5 (hdr.out (cap5 - t1)) K14.out.from (by rw [HHM.out]; omega))
                    go_wp2_with fail
                    refine HS.out.mono ?_
                    rintro e w6 ⟨rfl, b6⟩
                    have T6 := Lib.hid (T5.out.below b6)
                    clear HS
                    go_wp2_with fail
                    go_loop [22, 23] (fun a c => ∃ p : Nat, p ≤ f ∧ a = .int .i64 (endAt F1 p : Nat) ∧ c = .int .i64 p ∧ (endAt F1 p : Int) ≤ at' ∧ endAt F1 p ≤ 1080) (fun _ c => (f - intOf c).toNat)
                    case atStart => exact ⟨0, Nat.zero_le _, rfl, rfl, hat0, Nat.zero_le _⟩
                    case round =>
                      obtain ⟨p, hpF, rfl, rfl, hpa, hpb⟩ := hrel
                      have hpi : (p : Int) ≤ 10 := by have := HHF.out; omega
                      by_cases hlt3 : p < f
                      · have c3 : decide (p < f) = true := decide_eq_true hlt3
                        have c3i : (p : Int) < f := by omega
                        obtain ⟨a13, c13, ee, kk13⟩ := K13.out.below b6
                        obtain ⟨rfl, -, rfl⟩ : ao13 = a13 ∧ _ ∧ cap13 = c13 := by simpa using ee
                        obtain ⟨g13, rfl, cc⟩ := kk13 p (by rw [HHF.out]; exact hlt3)
                        have hes := ends_step F1 p (by rw [HHF.out]; exact hlt3)
                        have hsz : (stx (F1.getD p [])).size = (F1.getD p []).length := stx_size _
                        have hle : (F1.getD p []).length ≤ 100 := by
                          rw [List.getD_eq_getElem?_getD, List.getElem?_eq_getElem (by rw [HHF.out]; exact hlt3)]
                          exact hsh1 _ (List.getElem_mem _)
                        have HES := Lib.hid hes
                        have HESB : Hid (endAt F1 (p + 1) ≤ 1080) := Lib.hid (ends_small F1 hsh1 (by omega) (p + 1))
                        generalize F1.getD p [] = Lp at *
                        generalize hlp : Lp.length = lp at *
                        clear kk13 ee hlp hes
                        by_cases hfit : (endAt F1 p : Int) + 8 + lp ≤ at'
                        · have c4 : decide (((endAt F1 p : Nat) : Int) + 8 + lp ≤ at') = true := decide_eq_true hfit
                          have hE1 : endAt F1 (p + 1) ≤ 1080 := by
                            have := HESB.out
                            omega
                          have HE1 := Lib.hid hE1
                          have HEA : Hid (((endAt F1 (p + 1) : Nat) : Int) ≤ at') := Lib.hid (by rw [HES.out]; omega)
                          generalize hep : endAt F1 p = ep at *
                          have hepi : (ep : Int) ≤ 1080 := by omega
                          have hlpi : (lp : Int) ≤ 100 := by omega
                          clear hE1 hep
                          go_wp2_with fail
                          exact ⟨⟨p + 1, hlt3, by rw [HES.out]; go_num, by go_num, HEA.out, HE1.out⟩, by simp [intOf]; omega⟩
                        · have c4 : decide (((endAt F1 p : Nat) : Int) + 8 + lp ≤ at') = false := decide_eq_false hfit
                          generalize hep : endAt F1 p = ep at *
                          have hepi : (ep : Int) ≤ 1080 := by omega
                          have hlpi : (lp : Int) ≤ 100 := by omega
                          clear hfit
                          go_wp2_with fail
                          subst hep
                          have hpt : p ≤ t1 := by
                            obtain ⟨M, hM⟩ := HM.out p (by omega)
                            have := congrArg List.length hM
                            rw [List.length_append, List.length_take, HHF.out, HHT.out] at this
                            omega
                          have hTT : (T1 ++ F2).take p = F1.take p := by
                            obtain ⟨M, hM⟩ := HM.out p (by omega)
                            rw [List.take_append_of_le_length (by rw [HHT.out]; exact hpt), hM, List.take_append_of_le_length (by rw [List.length_take, HHF.out]; omega), List.take_take, Nat.min_self]
                          have hpti : decide ((p : Int) ≤ t1) = true := decide_eq_true (by omega)
                          have hptn : decide (p ≤ t1) = true := decide_eq_true hpt
                          have hpc : p ≤ cap5 := by have := hcap.out; omega
                          have hpf : p ≤ cap13 := by have := hcap13.out; omega
                          have hpci : (p : Int) ≤ cap5 := by omega
                          have hpfi : (p : Int) ≤ cap13 := by omega
                          have HSM : Hid (∀ y : Past w6, Calls Tryz.prog 22 #[.slice ao5 p cap5, .slice (some (⟨g13, 0, none⟩ : Addr)) p cap13] y.w fun e w'' => e = .returned (.bool true) ∧ Below y.w.heap.size y.w w'') := Lib.hid fun y => by
                            obtain ⟨a1, c1, e1, k1⟩ := (K5.out.below (below_past b6 y.h b6.size)).take p (by rw [HHN.out]; omega)
                            obtain ⟨a2, c2, e2, k2⟩ := (K13.out.below (below_past b6 y.h b6.size)).take p (by rw [HHF.out]; exact hpF)
                            rw [hTT] at k1
                            obtain ⟨rfl, -, rfl⟩ : ao5 = a1 ∧ _ ∧ cap5 = c1 := by simpa using e1
                            obtain ⟨rfl, -, rfl⟩ : (some (⟨g13, 0, none⟩ : Addr)) = a2 ∧ _ ∧ cap13 = c2 := by simpa using e2
                            exact same_any _ _ _ y.w k1 k2 (by rw [List.length_take]; omega)
                          have HAP : Hid (∀ y : Past w6, Calls Tryz.prog 8 #[] y.w fun e w'' => e = .returned (.bool true) ∧ Below y.w.heap.size y.w w'') := Lib.hid fun y => awake7 _ (T6.out.below y.h)
                          have B6 := Lib.hid b6
                          clear hTT hpt b6 hat0
                          refine wp_region_past (by kernel_rfl) (by kernel_rfl) ?_
                          repeat (go_big_quiet_step (first | (go_at_call 8; exact Past.call (HAP.out _)) | (go_at_call 22; exact Past.call (HSM.out _))))
                          refine wpQuiet_nil ?_
                          intro w2 hw2
                          obtain ⟨⟨wn, hn⟩, rfl⟩ := hw2
                          try dsimp only
                          go_wp2_with fail
                          go_ret
                          exact ⟨rfl, by rw [HB.out]; exact below_past (below_past B5.out B6.out Z5.out) hn (Nat.le_trans Z5.out B6.out.size)⟩
                      · obtain rfl : p = f := by omega
                        have c3 : decide (p < p) = false := decide_eq_false hlt3
                        go_wp2_with fail
                        have hpt : p ≤ t1 := by
                          obtain ⟨M, hM⟩ := HM.out p (by omega)
                          have := congrArg List.length hM
                          rw [List.length_append, List.length_take, HHF.out, HHT.out] at this
                          omega
                        have hTT : (T1 ++ F2).take p = F1.take p := by
                          obtain ⟨M, hM⟩ := HM.out p (by omega)
                          rw [List.take_append_of_le_length (by rw [HHT.out]; exact hpt), hM, List.take_append_of_le_length (by rw [List.length_take, HHF.out]; omega), List.take_take, Nat.min_self]
                        have hpti : decide ((p : Int) ≤ t1) = true := decide_eq_true (by omega)
                        have hptn : decide (p ≤ t1) = true := decide_eq_true hpt
                        have hpc : p ≤ cap5 := by have := hcap.out; omega
                        have hpf : p ≤ cap13 := by have := hcap13.out; omega
                        have hpci : (p : Int) ≤ cap5 := by omega
                        have hpfi : (p : Int) ≤ cap13 := by omega
                        have HSM : Hid (∀ y : Past w6, Calls Tryz.prog 22 #[.slice ao5 p cap5, .slice ao13 p cap13] y.w fun e w'' => e = .returned (.bool true) ∧ Below y.w.heap.size y.w w'') := Lib.hid fun y => by
                          obtain ⟨a1, c1, e1, k1⟩ := (K5.out.below (below_past b6 y.h b6.size)).take p (by rw [HHN.out]; omega)
                          obtain ⟨a2, c2, e2, k2⟩ := (K13.out.below (below_past b6 y.h b6.size)).take p (by rw [HHF.out]; exact hpF)
                          rw [hTT] at k1
                          obtain ⟨rfl, -, rfl⟩ : ao5 = a1 ∧ _ ∧ cap5 = c1 := by simpa using e1
                          obtain ⟨rfl, -, rfl⟩ : ao13 = a2 ∧ _ ∧ cap13 = c2 := by simpa using e2
                          exact same_any _ _ _ y.w k1 k2 (by rw [List.length_take]; omega)
                        have HAP : Hid (∀ y : Past w6, Calls Tryz.prog 8 #[] y.w fun e w'' => e = .returned (.bool true) ∧ Below y.w.heap.size y.w w'') := Lib.hid fun y => awake7 _ (T6.out.below y.h)
                        have B6 := Lib.hid b6
                        clear hTT hpt b6 hat0
                        refine wp_region_past (by kernel_rfl) (by kernel_rfl) ?_
                        repeat (go_big_quiet_step (first | (go_at_call 8; exact Past.call (HAP.out _)) | (go_at_call 22; exact Past.call (HSM.out _))))
                        refine wpQuiet_nil ?_
                        intro w2 hw2
                        obtain ⟨⟨wn, hn⟩, rfl⟩ := hw2
                        try dsimp only
                        go_wp2_with fail
                        go_ret
                        exact ⟨rfl, by rw [HB.out]; exact below_past (below_past B5.out B6.out Z5.out) hn (Nat.le_trans Z5.out B6.out.size)⟩
              · have q1 : (E != 0) = true := by simpa using hE0
                clear HSI hE0
                go_wp2_with fail
                refine HA4.out.mono ?_
                rintro e w5 ⟨rfl, b5⟩
                have b6 := below_past B4.out b5 Z4.out
                clear HA4 b5
                go_wp2_with fail
                go_ret
                exact ⟨rfl, by rw [HB.out]; exact b6⟩
set_option maxRecDepth 100000 in
theorem lifted (os : Os) (started : os.Started) (H : Type) (enc : TypeId × Value → H) :
    ReturnsInHanded {} Tryz.checked os 6 .any (fun w args => (Rows.journalSpoiltSpec.pre enc Tryz.prog Tryz.f6 [] false w args ∧ laidMetH Tryz.prog laidJ w) ∧ sizedMet enc Tryz.prog Tryz.f6 (OpenSpec.ofChange Rows.journalSpoiltSpec) false w args) (Rows.journalSpoiltSpec.post enc Tryz.prog Tryz.f6 false true false false) := by
  refine returnsInHanded_of_change_and (C := Tryz.checked) (X := fun w _ => laidMetH Tryz.prog laidJ w) (fun _ _ _ hh h => h.of_heap hh) own started (by kernel_rfl) Tryz.func6
    (ChangeSpec.witness_shaped (enc := enc) (C := Tryz.checked) (os := os) (X := fun w _ => laidMetH Tryz.prog laidJ w) false (World.doorLaid Tryz.prog 2000 os) #[.slice none 0 0, .slice none 0 0, .int .i64 0, .int .u8 0] 8 rfl (World.shaped_of_RefB (by kernel_rfl) (by kernel_rfl)) (by kernel_rfl) (by kernel_rfl) (by kernel_rfl) (door_J os _)) ?_
  intro W base args ds gs before hval0 hW _ _ hL _
  have hval : ∀ (j : Nat) t v, Tryz.f6.params[j]? = some t → args[j]? = some v → Value.okWide Tryz.prog W .any base t v := hval0
  clear hval0
  have hW' := hW
  obtain ⟨p, q, hA0, hV, rfl, hfz, hnd⟩ := hW
  have hA : DataW.TrodAll enc Tryz.prog W 0 (fun _ => true) true Tryz.f6.params.toList args.toList ds p := hA0
  rw [Tryz.params6] at hA hval
  clear hA0 hfz hnd hV
  have hr : Readable Tryz.f6.params.toList := by
    rw [Tryz.params6]
    exact readable_of_all (by kernel_rfl)
  have fin : ∀ W', Below W.heap.size W W' → Rows.journalSpoiltSpec.post enc Tryz.prog Tryz.f6 false true false false W args (.bool true) W' := fun W' hb =>
    law_post rfl hW' hr (fun l hl => by
      rw [Tryz.params6] at hl
      match l, hl with
      | [d1, d2, d3, d4], _ => rfl) (by kernel_rfl) hb
  clear hW' hr
  have HT := tabsJ_of_laid hL
  obtain ⟨v0, v1, v2, v3, d0, d1, d2, d3, p0, p1, p2, p3, rfl, rfl, rfl, h0, h1, h2, h3⟩ := trodAll_four hA; obtain ⟨l0, S0, hs0⟩ := in_strs Tryz.underlying27 Tryz.underlying9 cellsOf_string (hval 0 27 v0 rfl rfl) h0; obtain ⟨l1, S1, hs1⟩ := in_strs Tryz.underlying27 Tryz.underlying9 cellsOf_string (hval 1 27 v1 rfl rfl) h1; obtain ⟨n, rfl, _, _, w2⟩ := open_int Tryz.underlying3 (hval 2 3 v2 rfl rfl) h2; obtain ⟨x, rfl⟩ := in_byte Tryz.underlying5 (hval 3 5 v3 rfl rfl) h3
  exact (walk v0 v1 l0 l1 S0 S1 n x W hs0 hs1 (wf_i64 w2) HT).mono fun e W' ⟨he, hb⟩ => ⟨_, he, fin W' hb⟩
theorem row_holds : Rows.JournalSpoiltSaid :=
  OpenClaim.holds_of_wide 6 Tryz.f6 rfl rfl rfl rfl rfl rfl rfl ⟨rfl, rfl, rfl, rfl, rfl⟩ rfl rfl rfl rfl rfl (by kernel_rfl) Tryz.func6 (by kernel_rfl)
    (of_decide_eq_true (by kernel_rfl)) (by unfold Func.isWrapper; first | (rw [if_pos (by decide +kernel)]; kernel_rfl) | (rw [if_neg (by decide +kernel)]; exact ⟨rfl, rfl⟩))
    (fun os started H enc _ => lifted os started H enc)
theorem proved : Rows.JournalSpoiltCardSaid :=
  Claim7.holds_tied_plain_at .later [] [.data, .data, .data, .sentinel, .sentinel, .data, .data] true _ true
    row_holds (fun _ h => by cases h) (by kernel_rfl) (fun _ h => by cases h) journalSpoilt_row_tie rfl ⟨rfl, rfl⟩ (by kernel_rfl) rfl
    (fun f fn hf hfn => by
      obtain rfl : f = 6 := Option.some.inj ((show Tryz.prog.funcNamed "chirograph/chirographlaw07.JournalSpoilt" = some 6 by kernel_rfl).symm.trans hf) |>.symm
      obtain rfl : fn = Tryz.f6 := (Option.some.inj (Tryz.func6.symm.trans hfn)).symm
      exact ⟨by kernel_rfl, fun j t ht => by
        rw [Tryz.params6] at ht
        have hm : t ∈ [27, 27, 3, 5] := by simpa using Array.mem_of_getElem? ht
        have hall : ([27, 27, 3, 5].all fun u => !Tryz.prog.wantsStandIn u) = true := by kernel_rfl
        exact (show Tryz.prog.wantsStandIn t = false by simpa using List.all_eq_true.1 hall t hm)⟩)
    (by kernel_rfl)
end Go.Proofs.YtlhdnkfnhdkbkaaGreatDoor.jspoilt
