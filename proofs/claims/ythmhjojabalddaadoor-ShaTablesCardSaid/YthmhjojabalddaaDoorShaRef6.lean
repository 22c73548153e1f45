/- The document's sum by a key is the sum by a key. Conditions: none. -/
import Derived.Test.YthmhjojabalddaaDoorShaRef5
import Derived.Test.YthmhjojabalddaaDoorLists
namespace Go.Proofs.YthmhjojabalddaaDoor
open Go Go.RowKit

theorem Apart.growF {w : World} {B N : Nat} {e : TypeId} {v v' u : Value} {us : List Value} (h : Apart v u) (hu : OwnF w B e u us) (hat : v'.ownBlock = v.ownBlock ∨ ∀ g, v'.ownBlock = some g → N ≤ g) (hN : w.heap.size ≤ N) : Apart v' u := by
  intro g h1 h2
  rcases hat with e | e
  · exact h g (e ▸ h1) h2
  · have := (hu.lt g h2).2
    have := e g h1
    omega
theorem OwnF.apart {w w' : World} {B : Nat} {e : TypeId} {v u : Value} {us : List Value} (hu : OwnF w B e u us) (h : Apart v u) (hg : w.grownBy w' v.ownBlock) : OwnF w' B e u us :=
  hu.kept fun g hq => hg.block g (hu.lt g hq).2 fun e => h g e.symm hq
theorem OwnF.grown {w w' a : World} {B : Nat} {e : TypeId} {v : Value} {xs : List Value} (h : OwnF w B e v xs) (hg : w.grownBy w' v.ownBlock) (b : Below B a w) (hB : B ≤ w.heap.size) : Below B a w' :=
  b.grown hg hB fun k hk => (h.lt k hk).1
theorem ownF_new (w : World) (B n : Nat) (e : TypeId) (hn : n = w.heap.size) (hB : B ≤ n) : OwnF (w.alloc (.cells #[] e)) B e (.slice (some ⟨n, 0, none⟩) 0 0) [] := by
  subst hn
  exact .inr ⟨w.heap.size, 0, #[], (0, 0), rfl, hB, heap_alloc_new w _, .inl rfl, Nat.le_refl _, Nat.zero_le _, rfl, rfl⟩
theorem conv_ownF {w : World} {B : Nat} {v : Value} {l : List UInt8} (h : OwnF w B 5 v (l.map Extern.Stop.cell)) : (convert 33 9 v).run Tryd.prog w = .ok (.string (stx l)) w := by
  by_cases hl : l = []
  · subst hl
    rcases h with ⟨rfl, _⟩ | ⟨g, cap, cur, fr, rfl, _⟩
    · exact run_convert_bytes_nil w _ _ Tryd.underlying33 Tryd.underlying5 _ _ _ Tryd.underlying9
    · exact run_convert_bytes_back w _ _ _ ⟨g, 0, none⟩ cap [] Tryd.underlying33 Tryd.underlying5 Tryd.underlying9 fun j hj => absurd hj (Nat.not_lt_zero j)
  · obtain ⟨g, cap, rfl, _, _, hc⟩ := h.cell (i := 0) (by rw [List.length_map]; exact List.length_pos_iff.2 hl)
    have := run_convert_bytes_back (P := Tryd.prog) w 33 9 5 ⟨g, 0, none⟩ cap l Tryd.underlying33 Tryd.underlying5 Tryd.underlying9 fun j hj => by
      rw [show (⟨g, 0, none⟩ : Addr).add j = ⟨g, j, none⟩ by simp [Addr.add]; exact fun e => e.symm, hc j (by rw [List.length_map]; exact hj), List.getElem?_map, List.getElem?_eq_getElem hj]
      rfl
    rw [List.length_map]
    exact this
theorem fillB_get (k : List UInt8) (i : Nat) (h : i < 64) : (fillB k).get i = if i < k.length then k.getD i 0 else 0 := by
  unfold fillB Blk.get
  simp only
  rw [List.getD_eq_getElem?_getD, List.getElem?_take, if_pos h, List.getElem?_append]
  split
  · rw [List.getD_eq_getElem?_getD]
  · rw [List.getElem?_replicate, if_pos (by omega)]
    rfl
theorem keyL_take (k : List UInt8) (x : UInt8) (i : Nat) (h : i < 64) : (keyL k x).take i ++ [(fillB k).get i ^^^ x] = (keyL k x).take (i + 1) := by
  have hg : (fillB k).l[i]? = some ((fillB k).get i) := getD_some (by rw [(fillB k).h]; exact h)
  rw [List.take_add_one]
  congr 1
  unfold keyL
  rw [List.getElem?_map, hg]
  rfl

set_option maxRecDepth 100000 in
set_option maxHeartbeats 4000000 in
theorem r3Mac_any (key t : List UInt8) (w : World) (hk : key.length ≤ 1000) (hl : t.length ≤ 1000) :
    Calls Tryd.prog 16 #[.string (stx key), .string (stx t)] w fun e w' => e = .returned (.agg (cellsL (macL key t))) ∧ Below w.heap.size w w' := by
  have b0 : Below w.heap.size w (w.alloc (.cells (cellsL zeroLab) 25)) := (Below.refl _ _).alloc (Nat.le_refl _) _
  have r0 := rowAt_alloc_at w (cellsL zeroLab) 25 _ rfl
  have hz : (stx key).size = key.length := stx_size key
  obtain ⟨K, hK⟩ : ∃ K, macK key = K := ⟨_, rfl⟩
  have hKl : K.length ≤ 64 := by rw [← hK]; exact macK_len key
  have HM : Hid (macL key t = shaLab (keyL K 92 ++ (shaLab (keyL K 54 ++ t)).l)) := Lib.hid (by rw [← hK]; rfl)
  have HI := Lib.hid (fun w => r3Sum_any (stx (keyL K 54 ++ t)) w (by rw [stx_size, List.length_append, keyL_len]; omega))
  have HO := Lib.hid (fun w => r3Sum_any (stx (keyL K 92 ++ (shaLab (keyL K 54 ++ t)).l)) w (by rw [stx_size, List.length_append, keyL_len, (shaLab (keyL K 54 ++ t)).h]; omega))
  rw [show (stx (keyL K 54 ++ t)).data.toList = keyL K 54 ++ t from rfl] at HI
  rw [show (stx (keyL K 92 ++ (shaLab (keyL K 54 ++ t)).l)).data.toList = keyL K 92 ++ (shaLab (keyL K 54 ++ t)).l from rfl] at HO
  rw [← stx_append] at HI HO
  generalize macL key t = R at *
  generalize shaLab (keyL K 92 ++ (shaLab (keyL K 54 ++ t)).l) = RO at *
  generalize shaLab (keyL K 54 ++ t) = I at *
  have HR : Hid (RO = R) := Lib.hid HM.out.symm
  clear HM
  have zt : (stx t).size ≤ 1000 := by rw [stx_size]; exact hl
  have zI : (stx I.l).size = 32 := by rw [stx_size, I.h]
  have zk54 : (stx (keyL K 54)).size = 64 := by rw [stx_size, keyL_len]
  have zk92 : (stx (keyL K 92)).size = 64 := by rw [stx_size, keyL_len]
  obtain ⟨i0, hi, hz0, hz1, hz2⟩ := info_u8
  by_cases h64 : 64 < key.length
  · have h64' : decide ((64 : Int) < key.length) = true := decide_eq_true (by omega)
    have h64'' : decide (64 < key.length) = true := decide_eq_true (by omega)
    have HS := Lib.hid (fun w => r3Sum_any (stx key) w (by rw [stx_size]; omega))
    rw [show (stx key).data.toList = key from rfl] at HS
    have HKS : Hid (stx K = stx (shaLab key).l) := Lib.hid (by rw [← hK, macK_long key h64])
    generalize shaLab key = L at *
    clear hK
    as_aux_lemma =>
      go_enter Tryd.func16, Tryd.ntmps16
      go_wp2_with fail
      refine (HS.out _).mono ?_
      rintro e w1 ⟨rfl, b1⟩
      have r1 := rowAt_alloc_at w1 (cellsL L) 25 _ rfl
      have hc1 := conv_lab L _ _ r1
      have b2 := below_past b0 b1 b0.size
      have bn : Below w1.heap.size w1 (w1.alloc (.cells (cellsL L) 25)) := (Below.refl _ _).alloc (Nat.le_refl _) _
      have b3 := below_past b2 bn b2.size
      have r2 := rowAt_past bn (rowAt_past b1 r0)
      rw [← HKS.out] at hc1
      clear HS b1 b2 bn r0 r1 b0
      go_wp2_with fail
      clear hc1
      have q0 := b3.alloc b3.size (.cells #[] 5)
      have q1 := q0.alloc q0.size (.cells #[] 5)
      have hws := lt_of_rowAt r2
      obtain ⟨B, hB⟩ : ∃ B, B = w.heap.size + 1 := ⟨_, rfl⟩
      have oi0 : OwnF (((w1.alloc (.cells (cellsL L) 25)).alloc (.cells #[] 5)).alloc (.cells #[] 5)) B 5 (.slice (some ⟨w1.heap.size + 1, 0, none⟩) 0 0) (((keyL K 54).take 0).map Extern.Stop.cell) := (ownF_new _ B (w1.heap.size + 1) 5 (by simp) (by simp only [World.size_alloc] at hws ⊢; omega)).below ((Below.refl _ _).alloc (Nat.le_refl _) _)
      have oo0 : OwnF (((w1.alloc (.cells (cellsL L) 25)).alloc (.cells #[] 5)).alloc (.cells #[] 5)) B 5 (.slice (some ⟨w1.heap.size + 1 + 1, 0, none⟩) 0 0) (((keyL K 92).take 0).map Extern.Stop.cell) := ownF_new _ B (w1.heap.size + 1 + 1) 5 (by simp) (by simp only [World.size_alloc] at hws ⊢; omega)
      have ap0 : Hid (Apart (.slice (some ⟨w1.heap.size + 1, 0, none⟩) 0 0) (.slice (some ⟨w1.heap.size + 1 + 1, 0, none⟩) 0 0)) := Lib.hid (by
        intro g e1 e2
        simp only [Value.ownBlock, Option.some.injEq] at e1 e2
        omega)
      have b9 : Below (w1.alloc (.cells (cellsL L) 25)).heap.size (w1.alloc (.cells (cellsL L) 25)) (((w1.alloc (.cells (cellsL L) 25)).alloc (.cells #[] 5)).alloc (.cells #[] 5)) := ((Below.refl _ _).alloc (Nat.le_refl _) _).alloc (by simp) _
      have R3 := Lib.hid (rowAt_past b9 r2)
      have hB0 : B ≤ (((w1.alloc (.cells (cellsL L) 25)).alloc (.cells #[] 5)).alloc (.cells #[] 5)).heap.size := by simp only [World.size_alloc] at hws ⊢; omega
      have HB := Lib.hid hB
      clear q0 b3 r2 b9 hws hB
      generalize (((w1.alloc (.cells (cellsL L) 25)).alloc (.cells #[] 5)).alloc (.cells #[] 5)) = W0 at *
      generalize Value.slice (some ⟨w1.heap.size + 1, 0, none⟩) 0 0 = vi at *
      generalize Value.slice (some ⟨w1.heap.size + 1 + 1, 0, none⟩) 0 0 = vo at *
      go_loopw [6, 7, 8, 9] (fun v u x _ wr => ∃ i : Nat, i ≤ 64 ∧ x = .int .i64 i ∧ OwnF wr B 5 v (((keyL K 54).take i).map Extern.Stop.cell) ∧ OwnF wr B 5 u (((keyL K 92).take i).map Extern.Stop.cell) ∧ Hid (Apart v u) ∧ Below B W0 wr) (fun _ _ x _ _ => (64 - intOf x).toNat)
      case atStart => exact ⟨0, by omega, rfl, oi0, oo0, ap0, Below.refl _ _⟩
      case round =>
        obtain ⟨i, hi64, rfl, oi, oo, HAP, b4⟩ := hrel
        clear oi0 oo0 ap0
        by_cases hlt : i < 64
        · have hlt' : (i : Int) < 64 := by omega
          have hi0 : (0 : Int) ≤ i := by omega
          have hfg := fillB_get K i hlt
          have HI54 := Lib.hid (keyL_take K 54 i hlt)
          have HI92 := Lib.hid (keyL_take K 92 i hlt)
          have HXX := Lib.hid (fun c : UInt8 => xor_u8 c 54)
          have HXY := Lib.hid (fun c : UInt8 => xor_u8 c 92)
          rw [show (((54 : UInt8).toNat : Nat) : Int) = 54 from rfl] at HXX
          rw [show (((92 : UInt8).toNat : Nat) : Int) = 92 from rfl] at HXY
          obtain ⟨c, hc⟩ : ∃ c, (fillB K).get i = c := ⟨_, rfl⟩
          rw [hc] at HI54 HI92 hfg
          have hX54 := HXX.out c
          have hX92 := HXY.out c
          have c0 : (0 : Int) ≤ (c.toNat : Int) := by omega
          have c1 : (c.toNat : Int) < 256 := by have := c.toNat_lt; omega
          by_cases hik : i < K.length
          · rw [if_pos hik] at hfg
            have hg1 : decide ((i : Int) < K.length) = true := decide_eq_true (by omega)
            have hg2 : decide (i < K.length) = true := decide_eq_true hik
            have hgn : (i : Int) < K.length := by omega
            have hzK : (stx K).size = K.length := stx_size K
            have hix : ∀ (h : i < (stx K).size), (stx K)[i] = c := fun h => by rw [atB_get _ _ h, hfg]; rfl
            clear hc hfg HXX HXY
            as_aux_lemma =>
              have hB4 : B ≤ wr.heap.size := Nat.le_trans hB0 b4.size
              have hl1 : ((keyL K 54).take i).length ≤ 64 := by rw [List.length_take, keyL_len]; omega
              have hl2 : ((keyL K 92).take i).length ≤ 64 := by rw [List.length_take, keyL_len]; omega
              generalize c ^^^ 54 = d1 at *
              generalize c ^^^ 92 = d2 at *
              generalize (keyL K 54).take i = l1 at *
              generalize (keyL K 92).take i = l2 at *
              have q4 : Below B W0 (wr.alloc (.cells #[.int .u8 (d1.toNat)] 5)) := b4.alloc (hB4) _
              have hq4 : B ≤ (wr.alloc (.cells #[.int .u8 (d1.toNat)] 5)).heap.size := by simp only [World.size_alloc]; exact Nat.le_succ_of_le (hB4)
              have o4 := oi.below ((Below.refl _ _).alloc (Nat.le_refl _) (.cells #[.int .u8 (d1.toNat)] 5))
              have p4 := oo.below ((Below.refl _ _).alloc (Nat.le_refl _) (.cells #[.int .u8 (d1.toNat)] 5))
              have hcell : (wr.alloc (.cells #[.int .u8 (d1.toNat)] 5)).cell? ⟨wr.heap.size, 0, none⟩ = some (.int .u8 (d1.toNat)) := cell_of_rowAt (rowAt_alloc_at wr #[.int .u8 (d1.toNat)] 5 _ rfl) 0
              go_wp2_with (at_builtin; refine wpList_put_one rfl _ _ 33 rfl 5 i0 _ 1 Tryd.underlying33 hi hz0 hz1 hz2 rfl B _ _ rfl o4 (.int .u8 (d1.toNat)) ⟨wr.heap.size, 0, none⟩ 1 rfl hcell rfl hq4 (by rw [List.length_map]; unfold maxLen; omega) (by rw [List.length_map]; omega) ?_)
              intro v5 w5 o5 hg5 hat5
              have b5 := o4.grown hg5 q4 hq4
              have hB5 : B ≤ w5.heap.size := Nat.le_trans hB0 b5.size
              have p5 := p4.apart HAP.out hg5
              have HAP2 := HAP.out.growF p4 hat5 (by simp)
              have o6 : OwnF w5 B 5 v5 (((keyL K 54).take (i + 1)).map Extern.Stop.cell) := by
                rw [map_snoc, HI54.out] at o5
                exact o5
              have AP5 := Lib.hid HAP2.symm
              clear o4 o5 p4 hg5 hat5 hcell q4 hq4 HAP2 oi oo HAP b4 hB4
              have q4 : Below B W0 (w5.alloc (.cells #[.int .u8 (d2.toNat)] 5)) := b5.alloc (hB5) _
              have hq4 : B ≤ (w5.alloc (.cells #[.int .u8 (d2.toNat)] 5)).heap.size := by simp only [World.size_alloc]; exact Nat.le_succ_of_le (hB5)
              have o4 := p5.below ((Below.refl _ _).alloc (Nat.le_refl _) (.cells #[.int .u8 (d2.toNat)] 5))
              have p4 := o6.below ((Below.refl _ _).alloc (Nat.le_refl _) (.cells #[.int .u8 (d2.toNat)] 5))
              have hcell : (w5.alloc (.cells #[.int .u8 (d2.toNat)] 5)).cell? ⟨w5.heap.size, 0, none⟩ = some (.int .u8 (d2.toNat)) := cell_of_rowAt (rowAt_alloc_at w5 #[.int .u8 (d2.toNat)] 5 _ rfl) 0
              go_wp2_with (at_builtin; refine wpList_put_one rfl _ _ 33 rfl 5 i0 _ 1 Tryd.underlying33 hi hz0 hz1 hz2 rfl B _ _ rfl o4 (.int .u8 (d2.toNat)) ⟨w5.heap.size, 0, none⟩ 1 rfl hcell rfl hq4 (by rw [List.length_map]; unfold maxLen; omega) (by rw [List.length_map]; omega) ?_)
              intro v6 w6 o7 hg6 hat6
              have b6 := o4.grown hg6 q4 hq4
              have p6 := p4.apart AP5.out hg6
              have AP6 := Lib.hid (AP5.out.growF p4 hat6 (by simp)).symm
              have o8 : OwnF w6 B 5 v6 (((keyL K 92).take (i + 1)).map Extern.Stop.cell) := by
                rw [map_snoc, HI92.out] at o7
                exact o7
              clear o4 o7 p4 hg6 hat6 hcell q4 hq4 p5 o6 AP5 b5 hB5
              go_wp2_with fail
              exact ⟨⟨i + 1, hlt, by go_num, p6, o8, AP6, b6⟩, by simp [intOf]; omega⟩
          · rw [if_neg hik] at hfg
            have hg1 : decide ((i : Int) < K.length) = false := decide_eq_false (by omega)
            have hg2 : decide (i < K.length) = false := decide_eq_false hik
            have hzK : (stx K).size = K.length := stx_size K
            have hc0 : (c.toNat : Int) = 0 := by rw [hfg]; rfl
            rw [hc0] at hX54 hX92
            clear hc HXX HXY hc0 hfg
            as_aux_lemma =>
              have hB4 : B ≤ wr.heap.size := Nat.le_trans hB0 b4.size
              have hl1 : ((keyL K 54).take i).length ≤ 64 := by rw [List.length_take, keyL_len]; omega
              have hl2 : ((keyL K 92).take i).length ≤ 64 := by rw [List.length_take, keyL_len]; omega
              generalize c ^^^ 54 = d1 at *
              generalize c ^^^ 92 = d2 at *
              generalize (keyL K 54).take i = l1 at *
              generalize (keyL K 92).take i = l2 at *
              have q4 : Below B W0 (wr.alloc (.cells #[.int .u8 (d1.toNat)] 5)) := b4.alloc (hB4) _
              have hq4 : B ≤ (wr.alloc (.cells #[.int .u8 (d1.toNat)] 5)).heap.size := by simp only [World.size_alloc]; exact Nat.le_succ_of_le (hB4)
              have o4 := oi.below ((Below.refl _ _).alloc (Nat.le_refl _) (.cells #[.int .u8 (d1.toNat)] 5))
              have p4 := oo.below ((Below.refl _ _).alloc (Nat.le_refl _) (.cells #[.int .u8 (d1.toNat)] 5))
              have hcell : (wr.alloc (.cells #[.int .u8 (d1.toNat)] 5)).cell? ⟨wr.heap.size, 0, none⟩ = some (.int .u8 (d1.toNat)) := cell_of_rowAt (rowAt_alloc_at wr #[.int .u8 (d1.toNat)] 5 _ rfl) 0
              go_wp2_with (at_builtin; refine wpList_put_one rfl _ _ 33 rfl 5 i0 _ 1 Tryd.underlying33 hi hz0 hz1 hz2 rfl B _ _ rfl o4 (.int .u8 (d1.toNat)) ⟨wr.heap.size, 0, none⟩ 1 rfl hcell rfl hq4 (by rw [List.length_map]; unfold maxLen; omega) (by rw [List.length_map]; omega) ?_)
              intro v5 w5 o5 hg5 hat5
              have b5 := o4.grown hg5 q4 hq4
              have hB5 : B ≤ w5.heap.size := Nat.le_trans hB0 b5.size
              have p5 := p4.apart HAP.out hg5
              have HAP2 := HAP.out.growF p4 hat5 (by simp)
              have o6 : OwnF w5 B 5 v5 (((keyL K 54).take (i + 1)).map Extern.Stop.cell) := by
                rw [map_snoc, HI54.out] at o5
                exact o5
              have AP5 := Lib.hid HAP2.symm
              clear o4 o5 p4 hg5 hat5 hcell q4 hq4 HAP2 oi oo HAP b4 hB4
              have q4 : Below B W0 (w5.alloc (.cells #[.int .u8 (d2.toNat)] 5)) := b5.alloc (hB5) _
              have hq4 : B ≤ (w5.alloc (.cells #[.int .u8 (d2.toNat)] 5)).heap.size := by simp only [World.size_alloc]; exact Nat.le_succ_of_le (hB5)
              have o4 := p5.below ((Below.refl _ _).alloc (Nat.le_refl _) (.cells #[.int .u8 (d2.toNat)] 5))
              have p4 := o6.below ((Below.refl _ _).alloc (Nat.le_refl _) (.cells #[.int .u8 (d2.toNat)] 5))
              have hcell : (w5.alloc (.cells #[.int .u8 (d2.toNat)] 5)).cell? ⟨w5.heap.size, 0, none⟩ = some (.int .u8 (d2.toNat)) := cell_of_rowAt (rowAt_alloc_at w5 #[.int .u8 (d2.toNat)] 5 _ rfl) 0
              go_wp2_with (at_builtin; refine wpList_put_one rfl _ _ 33 rfl 5 i0 _ 1 Tryd.underlying33 hi hz0 hz1 hz2 rfl B _ _ rfl o4 (.int .u8 (d2.toNat)) ⟨w5.heap.size, 0, none⟩ 1 rfl hcell rfl hq4 (by rw [List.length_map]; unfold maxLen; omega) (by rw [List.length_map]; omega) ?_)
              intro v6 w6 o7 hg6 hat6
              have b6 := o4.grown hg6 q4 hq4
              have p6 := p4.apart AP5.out hg6
              have AP6 := Lib.hid (AP5.out.growF p4 hat6 (by simp)).symm
              have o8 : OwnF w6 B 5 v6 (((keyL K 92).take (i + 1)).map Extern.Stop.cell) := by
                rw [map_snoc, HI92.out] at o7
                exact o7
              clear o4 o7 p4 hg6 hat6 hcell q4 hq4 p5 o6 AP5 b5 hB5
              go_wp2_with fail
              exact ⟨⟨i + 1, hlt, by go_num, p6, o8, AP6, b6⟩, by simp [intOf]; omega⟩
        · obtain rfl : i = 64 := by omega
          rw [show ((64 : Nat) : Int) = 64 from rfl]
          rw [List.take_of_length_le (Nat.le_of_eq (keyL_len _ _))] at oi oo
          have hci := conv_ownF oi
          have bW := q1.trans (b4.mono (by rw [HB.out]; omega))
          have rr : rowAt wr w.heap.size = some (cellsL zeroLab) := by rw [rowAt_below b4 (by rw [HB.out]; omega)]; exact R3.out
          have OO := Lib.hid oo
          clear oi oo HAP b4 R3 q1
          as_aux_lemma =>
            go_wp2_with fail
            clear hci
            refine (HI.out _).mono ?_
            rintro e w5 ⟨rfl, d1⟩
            have bW2 := below_past bW d1 bW.size
            have bx : Below w5.heap.size w5 (w5.alloc (.cells (cellsL I) 25)) := (Below.refl _ _).alloc (Nat.le_refl _) _
            have rr2 := rowAt_past bx (rowAt_past d1 rr)
            have ri := rowAt_alloc_at w5 (cellsL I) 25 _ rfl
            have OO2 := Lib.hid ((OO.out.below d1).below bx)
            have bW3 := below_past bW2 bx bW2.size
            clear OO d1 rr bx bW bW2
            go_wp2_with fail
            generalize w5.alloc (.cells (cellsL I) 25) = W1 at *
            have hco : ∀ x : Past W1, (convert 33 9 u7).run Tryd.prog x.w = .ok (.string (stx (keyL K 92))) x.w := fun x => conv_ownF (OO2.out.below x.h)
            have hci : ∀ x : Past W1, (convert 33 9 (.slice (some ⟨w5.heap.size, 0, none⟩) 32 32)).run Tryd.prog x.w = .ok (.string (stx I.l)) x.w := fun x => conv_lab I x.w _ (rowAt_past x.h ri)
            have RR2 := Lib.hid rr2
            clear rr2 ri
            refine wp_region_wildL [] 6 (by kernel_rfl) (by kernel_rfl) ?_
            simp only [List.take_succ_cons, List.take_zero]
            iterate 5 (refine wildL_val (by decide) (by kernel_rfl) rfl ?_; intro K hK; go_big_quiet_op; go_big_quiet_on)
            refine wildL_call (by decide) (by kernel_rfl) (by kernel_rfl) ?_
            apply Exists.intro
            refine And.intro ?_ ?_
            focus
              intro x K hK
              go_big_quiet_op
              go_big_quiet_call (exact call_back (HO.out _))
              rfl
            refine wildL_nil ?_
            simp only [List.drop_succ_cons, List.drop_zero]
            rintro ⟨z, hz2⟩
            change wpList _ _ _ _ _ z
            have rz := rowAt_past hz2 RR2.out
            have bz := below_past bW3 hz2 bW3.size
            clear hco hci hz2 RR2 bW3
            go_wp2_with fail
            exact row_ret_lab rfl rfl rfl (rowAt_setRow_same rz _) ⟨by rw [HR.out], Below.setRow bz (Nat.le_refl _) _⟩
  · have h64' : decide ((64 : Int) < key.length) = false := decide_eq_false (by omega)
    have h64'' : decide (64 < key.length) = false := decide_eq_false (by omega)
    have HKS : Hid (stx K = stx key) := Lib.hid (by rw [← hK, macK_short key h64])
    have b3 := b0
    have r2 := r0
    rw [← HKS.out] at hz ⊢
    generalize key.length = kl at *
    clear hK b0 r0 HKS
    as_aux_lemma =>
      go_enter Tryd.func16, Tryd.ntmps16
      go_wp2_with fail
      have q0 := b3.alloc b3.size (.cells #[] 5)
      have q1 := q0.alloc q0.size (.cells #[] 5)
      have hws := lt_of_rowAt r2
      obtain ⟨B, hB⟩ : ∃ B, B = w.heap.size + 1 := ⟨_, rfl⟩
      have oi0 : OwnF (((w.alloc (.cells (cellsL zeroLab) 25)).alloc (.cells #[] 5)).alloc (.cells #[] 5)) B 5 (.slice (some ⟨w.heap.size + 1, 0, none⟩) 0 0) (((keyL K 54).take 0).map Extern.Stop.cell) := (ownF_new _ B (w.heap.size + 1) 5 (by simp) (by simp only [World.size_alloc] at hws ⊢; omega)).below ((Below.refl _ _).alloc (Nat.le_refl _) _)
      have oo0 : OwnF (((w.alloc (.cells (cellsL zeroLab) 25)).alloc (.cells #[] 5)).alloc (.cells #[] 5)) B 5 (.slice (some ⟨w.heap.size + 1 + 1, 0, none⟩) 0 0) (((keyL K 92).take 0).map Extern.Stop.cell) := ownF_new _ B (w.heap.size + 1 + 1) 5 (by simp) (by simp only [World.size_alloc] at hws ⊢; omega)
      have ap0 : Hid (Apart (.slice (some ⟨w.heap.size + 1, 0, none⟩) 0 0) (.slice (some ⟨w.heap.size + 1 + 1, 0, none⟩) 0 0)) := Lib.hid (by
        intro g e1 e2
        simp only [Value.ownBlock, Option.some.injEq] at e1 e2
        omega)
      have b9 : Below (w.alloc (.cells (cellsL zeroLab) 25)).heap.size (w.alloc (.cells (cellsL zeroLab) 25)) (((w.alloc (.cells (cellsL zeroLab) 25)).alloc (.cells #[] 5)).alloc (.cells #[] 5)) := ((Below.refl _ _).alloc (Nat.le_refl _) _).alloc (by simp) _
      have R3 := Lib.hid (rowAt_past b9 r2)
      have hB0 : B ≤ (((w.alloc (.cells (cellsL zeroLab) 25)).alloc (.cells #[] 5)).alloc (.cells #[] 5)).heap.size := by simp only [World.size_alloc] at hws ⊢; omega
      have HB := Lib.hid hB
      clear q0 b3 r2 b9 hws hB
      generalize (((w.alloc (.cells (cellsL zeroLab) 25)).alloc (.cells #[] 5)).alloc (.cells #[] 5)) = W0 at *
      generalize Value.slice (some ⟨w.heap.size + 1, 0, none⟩) 0 0 = vi at *
      generalize Value.slice (some ⟨w.heap.size + 1 + 1, 0, none⟩) 0 0 = vo at *
      go_loopw [6, 7, 8, 9] (fun v u x _ wr => ∃ i : Nat, i ≤ 64 ∧ x = .int .i64 i ∧ OwnF wr B 5 v (((keyL K 54).take i).map Extern.Stop.cell) ∧ OwnF wr B 5 u (((keyL K 92).take i).map Extern.Stop.cell) ∧ Hid (Apart v u) ∧ Below B W0 wr) (fun _ _ x _ _ => (64 - intOf x).toNat)
      case atStart => exact ⟨0, by omega, rfl, oi0, oo0, ap0, Below.refl _ _⟩
      case round =>
        obtain ⟨i, hi64, rfl, oi, oo, HAP, b4⟩ := hrel
        clear oi0 oo0 ap0
        by_cases hlt : i < 64
        · have hlt' : (i : Int) < 64 := by omega
          have hi0 : (0 : Int) ≤ i := by omega
          have hfg := fillB_get K i hlt
          have HI54 := Lib.hid (keyL_take K 54 i hlt)
          have HI92 := Lib.hid (keyL_take K 92 i hlt)
          have HXX := Lib.hid (fun c : UInt8 => xor_u8 c 54)
          have HXY := Lib.hid (fun c : UInt8 => xor_u8 c 92)
          rw [show (((54 : UInt8).toNat : Nat) : Int) = 54 from rfl] at HXX
          rw [show (((92 : UInt8).toNat : Nat) : Int) = 92 from rfl] at HXY
          obtain ⟨c, hc⟩ : ∃ c, (fillB K).get i = c := ⟨_, rfl⟩
          rw [hc] at HI54 HI92 hfg
          have hX54 := HXX.out c
          have hX92 := HXY.out c
          have c0 : (0 : Int) ≤ (c.toNat : Int) := by omega
          have c1 : (c.toNat : Int) < 256 := by have := c.toNat_lt; omega
          by_cases hik : i < K.length
          · rw [if_pos hik] at hfg
            have hg1 : decide ((i : Int) < K.length) = true := decide_eq_true (by omega)
            have hg2 : decide (i < K.length) = true := decide_eq_true hik
            have hgn : (i : Int) < K.length := by omega
            have hzK : (stx K).size = K.length := stx_size K
            have hix : ∀ (h : i < (stx K).size), (stx K)[i] = c := fun h => by rw [atB_get _ _ h, hfg]; rfl
            clear hc hfg HXX HXY
            as_aux_lemma =>
              have hB4 : B ≤ wr.heap.size := Nat.le_trans hB0 b4.size
              have hl1 : ((keyL K 54).take i).length ≤ 64 := by rw [List.length_take, keyL_len]; omega
              have hl2 : ((keyL K 92).take i).length ≤ 64 := by rw [List.length_take, keyL_len]; omega
              generalize c ^^^ 54 = d1 at *
              generalize c ^^^ 92 = d2 at *
              generalize (keyL K 54).take i = l1 at *
              generalize (keyL K 92).take i = l2 at *
              have q4 : Below B W0 (wr.alloc (.cells #[.int .u8 (d1.toNat)] 5)) := b4.alloc (hB4) _
              have hq4 : B ≤ (wr.alloc (.cells #[.int .u8 (d1.toNat)] 5)).heap.size := by simp only [World.size_alloc]; exact Nat.le_succ_of_le (hB4)
              have o4 := oi.below ((Below.refl _ _).alloc (Nat.le_refl _) (.cells #[.int .u8 (d1.toNat)] 5))
              have p4 := oo.below ((Below.refl _ _).alloc (Nat.le_refl _) (.cells #[.int .u8 (d1.toNat)] 5))
              have hcell : (wr.alloc (.cells #[.int .u8 (d1.toNat)] 5)).cell? ⟨wr.heap.size, 0, none⟩ = some (.int .u8 (d1.toNat)) := cell_of_rowAt (rowAt_alloc_at wr #[.int .u8 (d1.toNat)] 5 _ rfl) 0
              go_wp2_with (at_builtin; refine wpList_put_one rfl _ _ 33 rfl 5 i0 _ 1 Tryd.underlying33 hi hz0 hz1 hz2 rfl B _ _ rfl o4 (.int .u8 (d1.toNat)) ⟨wr.heap.size, 0, none⟩ 1 rfl hcell rfl hq4 (by rw [List.length_map]; unfold maxLen; omega) (by rw [List.length_map]; omega) ?_)
              intro v5 w5 o5 hg5 hat5
              have b5 := o4.grown hg5 q4 hq4
              have hB5 : B ≤ w5.heap.size := Nat.le_trans hB0 b5.size
              have p5 := p4.apart HAP.out hg5
              have HAP2 := HAP.out.growF p4 hat5 (by simp)
              have o6 : OwnF w5 B 5 v5 (((keyL K 54).take (i + 1)).map Extern.Stop.cell) := by
                rw [map_snoc, HI54.out] at o5
                exact o5
              have AP5 := Lib.hid HAP2.symm
              clear o4 o5 p4 hg5 hat5 hcell q4 hq4 HAP2 oi oo HAP b4 hB4
              have q4 : Below B W0 (w5.alloc (.cells #[.int .u8 (d2.toNat)] 5)) := b5.alloc (hB5) _
              have hq4 : B ≤ (w5.alloc (.cells #[.int .u8 (d2.toNat)] 5)).heap.size := by simp only [World.size_alloc]; exact Nat.le_succ_of_le (hB5)
              have o4 := p5.below ((Below.refl _ _).alloc (Nat.le_refl _) (.cells #[.int .u8 (d2.toNat)] 5))
              have p4 := o6.below ((Below.refl _ _).alloc (Nat.le_refl _) (.cells #[.int .u8 (d2.toNat)] 5))
              have hcell : (w5.alloc (.cells #[.int .u8 (d2.toNat)] 5)).cell? ⟨w5.heap.size, 0, none⟩ = some (.int .u8 (d2.toNat)) := cell_of_rowAt (rowAt_alloc_at w5 #[.int .u8 (d2.toNat)] 5 _ rfl) 0
              go_wp2_with (at_builtin; refine wpList_put_one rfl _ _ 33 rfl 5 i0 _ 1 Tryd.underlying33 hi hz0 hz1 hz2 rfl B _ _ rfl o4 (.int .u8 (d2.toNat)) ⟨w5.heap.size, 0, none⟩ 1 rfl hcell rfl hq4 (by rw [List.length_map]; unfold maxLen; omega) (by rw [List.length_map]; omega) ?_)
              intro v6 w6 o7 hg6 hat6
              have b6 := o4.grown hg6 q4 hq4
              have p6 := p4.apart AP5.out hg6
              have AP6 := Lib.hid (AP5.out.growF p4 hat6 (by simp)).symm
              have o8 : OwnF w6 B 5 v6 (((keyL K 92).take (i + 1)).map Extern.Stop.cell) := by
                rw [map_snoc, HI92.out] at o7
                exact o7
              clear o4 o7 p4 hg6 hat6 hcell q4 hq4 p5 o6 AP5 b5 hB5
              go_wp2_with fail
              exact ⟨⟨i + 1, hlt, by go_num, p6, o8, AP6, b6⟩, by simp [intOf]; omega⟩
          · rw [if_neg hik] at hfg
            have hg1 : decide ((i : Int) < K.length) = false := decide_eq_false (by omega)
            have hg2 : decide (i < K.length) = false := decide_eq_false hik
            have hzK : (stx K).size = K.length := stx_size K
            have hc0 : (c.toNat : Int) = 0 := by rw [hfg]; rfl
            rw [hc0] at hX54 hX92
            clear hc HXX HXY hc0 hfg
            as_aux_lemma =>
              have hB4 : B ≤ wr.heap.size := Nat.le_trans hB0 b4.size
              have hl1 : ((keyL K 54).take i).length ≤ 64 := by rw [List.length_take, keyL_len]; omega
              have hl2 : ((keyL K 92).take i).length ≤ 64 := by rw [List.length_take, keyL_len]; omega
              generalize c ^^^ 54 = d1 at *
              generalize c ^^^ 92 = d2 at *
              generalize (keyL K 54).take i = l1 at *
              generalize (keyL K 92).take i = l2 at *
              have q4 : Below B W0 (wr.alloc (.cells #[.int .u8 (d1.toNat)] 5)) := b4.alloc (hB4) _
              have hq4 : B ≤ (wr.alloc (.cells #[.int .u8 (d1.toNat)] 5)).heap.size := by simp only [World.size_alloc]; exact Nat.le_succ_of_le (hB4)
              have o4 := oi.below ((Below.refl _ _).alloc (Nat.le_refl _) (.cells #[.int .u8 (d1.toNat)] 5))
              have p4 := oo.below ((Below.refl _ _).alloc (Nat.le_refl _) (.cells #[.int .u8 (d1.toNat)] 5))
              have hcell : (wr.alloc (.cells #[.int .u8 (d1.toNat)] 5)).cell? ⟨wr.heap.size, 0, none⟩ = some (.int .u8 (d1.toNat)) := cell_of_rowAt (rowAt_alloc_at wr #[.int .u8 (d1.toNat)] 5 _ rfl) 0
              go_wp2_with (at_builtin; refine wpList_put_one rfl _ _ 33 rfl 5 i0 _ 1 Tryd.underlying33 hi hz0 hz1 hz2 rfl B _ _ rfl o4 (.int .u8 (d1.toNat)) ⟨wr.heap.size, 0, none⟩ 1 rfl hcell rfl hq4 (by rw [List.length_map]; unfold maxLen; omega) (by rw [List.length_map]; omega) ?_)
              intro v5 w5 o5 hg5 hat5
              have b5 := o4.grown hg5 q4 hq4
              have hB5 : B ≤ w5.heap.size := Nat.le_trans hB0 b5.size
              have p5 := p4.apart HAP.out hg5
              have HAP2 := HAP.out.growF p4 hat5 (by simp)
              have o6 : OwnF w5 B 5 v5 (((keyL K 54).take (i + 1)).map Extern.Stop.cell) := by
                rw [map_snoc, HI54.out] at o5
                exact o5
              have AP5 := Lib.hid HAP2.symm
              clear o4 o5 p4 hg5 hat5 hcell q4 hq4 HAP2 oi oo HAP b4 hB4
              have q4 : Below B W0 (w5.alloc (.cells #[.int .u8 (d2.toNat)] 5)) := b5.alloc (hB5) _
              have hq4 : B ≤ (w5.alloc (.cells #[.int .u8 (d2.toNat)] 5)).heap.size := by simp only [World.size_alloc]; exact Nat.le_succ_of_le (hB5)
              have o4 := p5.below ((Below.refl _ _).alloc (Nat.le_refl _) (.cells #[.int .u8 (d2.toNat)] 5))
              have p4 := o6.below ((Below.refl _ _).alloc (Nat.le_refl _) (.cells #[.int .u8 (d2.toNat)] 5))
              have hcell : (w5.alloc (.cells #[.int .u8 (d2.toNat)] 5)).cell? ⟨w5.heap.size, 0, none⟩ = some (.int .u8 (d2.toNat)) := cell_of_rowAt (rowAt_alloc_at w5 #[.int .u8 (d2.toNat)] 5 _ rfl) 0
              go_wp2_with (at_builtin; refine wpList_put_one rfl _ _ 33 rfl 5 i0 _ 1 Tryd.underlying33 hi hz0 hz1 hz2 rfl B _ _ rfl o4 (.int .u8 (d2.toNat)) ⟨w5.heap.size, 0, none⟩ 1 rfl hcell rfl hq4 (by rw [List.length_map]; unfold maxLen; omega) (by rw [List.length_map]; omega) ?_)
              intro v6 w6 o7 hg6 hat6
              have b6 := o4.grown hg6 q4 hq4
              have p6 := p4.apart AP5.out hg6
              have AP6 := Lib.hid (AP5.out.growF p4 hat6 (by simp)).symm
              have o8 : OwnF w6 B 5 v6 (((keyL K 92).take (i + 1)).map Extern.Stop.cell) := by
                rw [map_snoc, HI92.out] at o7
                exact o7
              clear o4 o7 p4 hg6 hat6 hcell q4 hq4 p5 o6 AP5 b5 hB5
              go_wp2_with fail
              exact ⟨⟨i + 1, hlt, by go_num, p6, o8, AP6, b6⟩, by simp [intOf]; omega⟩
        · obtain rfl : i = 64 := by omega
          rw [show ((64 : Nat) : Int) = 64 from rfl]
          rw [List.take_of_length_le (Nat.le_of_eq (keyL_len _ _))] at oi oo
          have hci := conv_ownF oi
          have bW := q1.trans (b4.mono (by rw [HB.out]; omega))
          have rr : rowAt wr w.heap.size = some (cellsL zeroLab) := by rw [rowAt_below b4 (by rw [HB.out]; omega)]; exact R3.out
          have OO := Lib.hid oo
          clear oi oo HAP b4 R3 q1
          as_aux_lemma =>
            go_wp2_with fail
            clear hci
            refine (HI.out _).mono ?_
            rintro e w5 ⟨rfl, d1⟩
            have bW2 := below_past bW d1 bW.size
            have bx : Below w5.heap.size w5 (w5.alloc (.cells (cellsL I) 25)) := (Below.refl _ _).alloc (Nat.le_refl _) _
            have rr2 := rowAt_past bx (rowAt_past d1 rr)
            have ri := rowAt_alloc_at w5 (cellsL I) 25 _ rfl
            have OO2 := Lib.hid ((OO.out.below d1).below bx)
            have bW3 := below_past bW2 bx bW2.size
            clear OO d1 rr bx bW bW2
            go_wp2_with fail
            generalize w5.alloc (.cells (cellsL I) 25) = W1 at *
            have hco : ∀ x : Past W1, (convert 33 9 u7).run Tryd.prog x.w = .ok (.string (stx (keyL K 92))) x.w := fun x => conv_ownF (OO2.out.below x.h)
            have hci : ∀ x : Past W1, (convert 33 9 (.slice (some ⟨w5.heap.size, 0, none⟩) 32 32)).run Tryd.prog x.w = .ok (.string (stx I.l)) x.w := fun x => conv_lab I x.w _ (rowAt_past x.h ri)
            have RR2 := Lib.hid rr2
            clear rr2 ri
            refine wp_region_wildL [] 6 (by kernel_rfl) (by kernel_rfl) ?_
            simp only [List.take_succ_cons, List.take_zero]
            iterate 5 (refine wildL_val (by decide) (by kernel_rfl) rfl ?_; intro K hK; go_big_quiet_op; go_big_quiet_on)
            refine wildL_call (by decide) (by kernel_rfl) (by kernel_rfl) ?_
            apply Exists.intro
            refine And.intro ?_ ?_
            focus
              intro x K hK
              go_big_quiet_op
              go_big_quiet_call (exact call_back (HO.out _))
              rfl
            refine wildL_nil ?_
            simp only [List.drop_succ_cons, List.drop_zero]
            rintro ⟨z, hz2⟩
            change wpList _ _ _ _ _ z
            have rz := rowAt_past hz2 RR2.out
            have bz := below_past bW3 hz2 bW3.size
            clear hco hci hz2 RR2 bW3
            go_wp2_with fail
            exact row_ret_lab rfl rfl rfl (rowAt_setRow_same rz _) ⟨by rw [HR.out], Below.setRow bz (Nat.le_refl _) _⟩
end Go.Proofs.YthmhjojabalddaaDoor
