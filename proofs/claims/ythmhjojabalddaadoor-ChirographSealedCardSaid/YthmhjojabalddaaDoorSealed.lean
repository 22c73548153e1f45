/- For every list of texts and every key the law ChirographSealed returns true. Conditions: the listed tables are as the program lays them. -/
import Derived.Test.YthmhjojabalddaaDoorSealedKit
import Derived.Test.YthmhjojabalddaaDoorTie
import Derived.Test.YthmhjojabalddaaDoorCards
import Derived.SevenTiedAt
namespace Go.Proofs.YthmhjojabalddaaDoor.sealedlaw
open Go Go.ChangeShapes Go.WideShapes Go.ChangeAt Go.ChangeMaps Go.RowKit Go.Proofs.YthmhjojabalddaaDoor

theorem map_getD {α : Type} (f : List UInt8 → α) : ∀ (tx : List (List UInt8)) (j : Nat) (d : α), j < tx.length → (tx.map f).getD j d = f (tx.getD j []) := by
  intro tx j d h
  rw [List.getD_eq_getElem?_getD, List.getElem?_map, List.getD_eq_getElem?_getD, List.getElem?_eq_getElem h]
  rfl
def framesS (S : Nat → ByteArray) (i : Nat) : ByteArray := stx (cat ((cutsL S 200 i).map encL))
theorem framesS_succ (S : Nat → ByteArray) (i : Nat) (L : List UInt8) (h : cutsL S 200 (i + 1) = cutsL S 200 i ++ [L]) : framesS S i ++ stx (frame (encL L)) = framesS S (i + 1) := by
  unfold framesS
  rw [h, List.map_append, cat_append, stx_append]
  congr 1
  show _ = cat ((cutsL S 200 i).map encL) ++ (frame (encL L) ++ [])
  rw [List.append_nil]
theorem framesS_size (S : Nat → ByteArray) (i : Nat) (hi : i ≤ 8) : (framesS S i).size ≤ 1736 := by
  rw [framesS, stx_size]
  have := cat_len (cutsL S 200 i) (cutsL_short S 200 i)
  rw [cutsL_length] at this
  omega
theorem map_succ {α : Type} (f : List UInt8 → α) {S : Nat → ByteArray} {i : Nat} {L : List UInt8} (h : cutsL S 200 (i + 1) = cutsL S 200 i ++ [L]) : (cutsL S 200 i).map f ++ [f L] = (cutsL S 200 (i + 1)).map f := by
  rw [h, List.map_append]
  rfl

set_option maxRecDepth 100000 in
set_option maxHeartbeats 8000000 in
theorem walk (v : Value) (len : Nat) (S : Nat → ByteArray) (key : ByteArray) (w : World) (h1 : InStrs w v len S) (ht : Cubes w ∧ Tabs w) : Calls Tryd.prog 10 #[v, .string key] w fun e w' => e = .returned (.bool true) ∧ Below w.heap.size w w' := by
  obtain ⟨ao1, cap1, rfl, hS1⟩ := h1
  have HS1 := Lib.hid hS1
  have HT := Lib.hid ht
  obtain ⟨KL, hKL⟩ : ∃ KL, key.data.toList.take 100 = KL := ⟨_, rfl⟩
  have HKN : Hid (KL.length ≤ 100) := Lib.hid (by rw [← hKL, List.length_take]; omega)
  have HKC : Hid (∀ w, Calls Tryd.prog 11 #[.string key, .int .i64 100] w fun e w' => e = .returned (.string (stx KL)) ∧ w' = w) := Lib.hid fun w => by
    have := l3Cut_any key 100 w (by decide)
    rwa [hKL] at this
  clear hS1 ht hKL
  go_enter Tryd.func10, Tryd.ntmps10
  go_wp2_with fail
  refine (HKC.out _).mono ?_
  rintro e w0 ⟨rfl, rfl⟩
  go_wp2_with fail
  have a1 : Below w0.heap.size w0 (w0.alloc (.cells #[] 25)) := (Below.refl _ _).alloc (Nat.le_refl _) _
  have a2 : Below (w0.alloc (.cells #[] 25)).heap.size (w0.alloc (.cells #[] 25)) ((w0.alloc (.cells #[] 25)).alloc (.cells #[] 25)) := (Below.refl _ _).alloc (Nat.le_refl _) _
  have a3 : Below ((w0.alloc (.cells #[] 25)).alloc (.cells #[] 25)).heap.size ((w0.alloc (.cells #[] 25)).alloc (.cells #[] 25)) (((w0.alloc (.cells #[] 25)).alloc (.cells #[] 25)).alloc (.cells #[] 9)) := (Below.refl _ _).alloc (Nat.le_refl _) _
  have L0 : Hid (Lists3 w0 (.slice (some ⟨w0.heap.size, 0, none⟩) 0 0) (.slice (some ⟨w0.heap.size + 1, 0, none⟩) 0 0) (.slice (some ⟨w0.heap.size + 1 + 1, 0, none⟩) 0 0) [] [] [] (((w0.alloc (.cells #[] 25)).alloc (.cells #[] 25)).alloc (.cells #[] 9))) := Lib.hid
    ⟨((ownLabs_new w0 _ _ rfl (Nat.le_refl _)).below a2).below a3, (ownLabs_new _ w0.heap.size _ (by simp only [World.size_alloc]) (by omega)).below a3, ownStrs_new _ w0.heap.size _ (by simp only [World.size_alloc]) (by omega),
      fun g h1 h2 => by simp [Value.ownBlock] at h1 h2; omega, below_past (below_past a1 a2 (by simp only [World.size_alloc]; omega)) a3 (by simp only [World.size_alloc]; omega)⟩
  clear a1 a2 a3
  generalize (((w0.alloc (.cells #[] 25)).alloc (.cells #[] 25)).alloc (.cells #[] 9)) = W0 at *
  go_loopw [5, 6, 7, 8, 9] (fun s v6 v7 v8 x wr => ∃ i : Nat, i ≤ len ∧ i ≤ 8 ∧ x = .int .i64 i ∧ Hid (s = .string (framesS S i)) ∧ Hid (Lists3 w0 v6 v7 v8 ((cutsL S 200 i).map shaLab) ((cutsL S 200 i).map (macL KL)) (cutsL S 200 i) wr)) (fun _ _ _ _ x _ => (8 - intOf x).toNat)
  case atStart => exact ⟨0, Nat.zero_le _, Nat.zero_le _, rfl, Lib.hid rfl, L0⟩
  case round =>
    obtain ⟨i, hi1, hi2, rfl, HX, L1⟩ := hrel
    clear L0
    have hx := HX.out
    subst hx
    by_cases hgo : i < len ∧ i < 8
    · obtain ⟨gg1, gg2⟩ := hgo
      have g1' : decide (i < len) = true := decide_eq_true gg1
      have g2' : decide ((i : Int) < 8) = true := decide_eq_true (by omega)
      have g1n : (i : Int) < len := by omega
      have hi8 : (i : Int) ≤ 8 := by omega
      obtain ⟨ad, hao, hc⟩ := HS1.out i gg1
      subst hao
      have c1 := (L1.out.below.cell (p := ad.add i) (cellLt hc)).trans hc
      obtain ⟨L, hL⟩ : ∃ L, (S i).data.toList.take 200 = L := ⟨_, rfl⟩
      have HK : Hid (∀ w, Calls Tryd.prog 11 #[.string (S i), .int .i64 200] w fun e w' => e = .returned (.string (stx L)) ∧ w' = w) := Lib.hid fun w => by
        have := l3Cut_any (S i) 200 w (by decide)
        rwa [hL] at this
      have HTX : Hid (cutsL S 200 (i + 1) = cutsL S 200 i ++ [L]) := Lib.hid (by rw [cutsL_succ, hL])
      have HLN : Hid (L.length ≤ 200) := Lib.hid (by rw [← hL, List.length_take]; omega)
      have HLL : Hid ((cutsL S 200 i).length ≤ 8) := Lib.hid (by rw [cutsL_length]; omega)
      clear hL hc
      go_wp2_with fail
      refine (HK.out _).mono ?_
      rintro e w1 ⟨rfl, rfl⟩
      have L2 := L1.out.past ((Below.refl w1.heap.size w1).alloc (Nat.le_refl _) (.cells #[.string (stx L)] 9))
      have hcell := cell_of_rowAt (rowAt_alloc_at w1 #[.string (stx L)] 9 _ rfl) 0
      clear L1 c1 HK
      go_wp2_with (at_builtin; refine wpList_put_text rfl _ _ rfl w0.heap.size _ _ rfl L2.l8 L ⟨w1.heap.size, 0, none⟩ 1 rfl hcell L2.below.size (by have := HLL.out; omega) ?_)
      intro v8' w2 hown hgrow hat
      have L3 := L2.text hown hgrow
      rw [← HTX.out] at L3
      clear L2 hown hgrow hat hcell
      have HWT : Hid (∀ (w : World) (B b : Nat), WriterAt B b [] 0 w → B ≤ w.heap.size → Calls Tryd.prog 29 #[.pointer (some ⟨b, 0, none⟩), .string (stx L)] w fun r w' => r = .returned (.tuple #[]) ∧ WriterAt B b (encL L) 0 w' ∧ Near B b w w') := Lib.hid fun w B b h hB => by
        have := WText_all B b [] 0 (stx L) w h hB
        obtain ⟨e1, e2⟩ := textW_enc L HLN.out
        rwa [e1, e2] at this
      have HWD : Hid (∀ (w : World) (B b : Nat), WriterAt B b (encL L) 0 w → Calls Tryd.prog 30 #[.pointer (some ⟨b, 0, none⟩)] w fun r w' => r = .returned (.tuple #[.string (stx (encL L)), .int .i64 0]) ∧ Below w.heap.size w w') := Lib.hid fun w B b h => by
        have := WDone_all B b (encL L) 0 w h
        obtain ⟨e1, e2⟩ := done_enc L HLN.out
        rw [e1, e2] at this
        exact this
      have HWR : Hid (∀ w : World, Tabs w → Calls Tryd.prog 31 #[.string (stx (encL L))] w fun e w' => e = .returned (.tuple #[.string (stx (frame (encL L))), .int .i64 0]) ∧ Below w.heap.size w w') := Lib.hid fun w h => Wrap_any (stx (encL L)) w (by rw [stx_size]; have := encL_len L HLN.out; omega) h
      have HSM : Hid (∀ w : World, Cubes w → Calls Tryd.prog 13 #[.string (stx L)] w fun e w' => e = .returned (.agg (cellsL (shaLab L))) ∧ Below w.heap.size w w') := Lib.hid fun w h => Sum_any (stx L) w h (by rw [stx_size]; have := HLN.out; omega)
      have HMC : Hid (∀ w : World, Cubes w → Calls Tryd.prog 15 #[.string (stx KL), .string (stx L)] w fun e w' => e = .returned (.agg (cellsL (macL KL L))) ∧ Below w.heap.size w w') := Lib.hid fun w h => Mac_any KL L w h (by have := HKN.out; omega) (by have := HLN.out; omega)
      have HFS : Hid (framesS S i ++ stx (frame (encL L)) = framesS S (i + 1)) := Lib.hid (framesS_succ S i L HTX.out)
      have HM6 : Hid ((cutsL S 200 i).map shaLab ++ [shaLab L] = (cutsL S 200 (i + 1)).map shaLab) := Lib.hid (map_succ _ HTX.out)
      have HM7 : Hid ((cutsL S 200 i).map (macL KL) ++ [macL KL L] = (cutsL S 200 (i + 1)).map (macL KL)) := Lib.hid (map_succ _ HTX.out)
      have hz1 : (framesS S i).size ≤ 1736 := framesS_size S i hi2
      have hz2 : (stx (frame (encL L))).size ≤ 217 := by rw [stx_size, frame_length]; have := encL_len L HLN.out; omega
      generalize stx (frame (encL L)) = F at *
      generalize shaLab L = A6 at *
      generalize macL KL L = A7 at *
      go_wp2_with fail
      have k0 : WriterAt w2.heap.size w2.heap.size [] 0 (w2.alloc (.cells #[.slice none 0 0, .int .i64 0] 55)) := ⟨none, 0, heap_alloc_new w2 _, World.ownsRow_nil _ _ _ _, by simp [Value.ownBlock]⟩
      have d1 : Below w2.heap.size w2 (w2.alloc (.cells #[.slice none 0 0, .int .i64 0] 55)) := (Below.refl _ _).alloc (Nat.le_refl _) _
      refine (HWT.out _ _ _ k0 d1.size).mono ?_
      rintro e w3 ⟨rfl, k3, n3⟩
      have L4 := L3.past (d1.trans (n3.below (Nat.le_refl _) (Nat.le_refl _)))
      have K3 := Lib.hid k3
      clear L3 HWT k0 d1 n3 k3
      go_wp2_with fail
      refine (HWD.out _ _ _ K3.out).mono ?_
      rintro e w4 ⟨rfl, d1⟩
      have L5 := L4.past d1
      clear L4 HWD K3 d1
      go_wp2_with fail
      refine (HWR.out _ (HT.out.2.below L5.below)).mono ?_
      rintro e w5 ⟨rfl, d1⟩
      have L6 := L5.past d1
      clear L5 HWR d1
      go_wp2_with fail
      rw [HFS.out]
      refine (HSM.out _ (HT.out.1.below L6.below)).mono ?_
      rintro e w6 ⟨rfl, d1⟩
      have L7 := (L6.past d1).past ((Below.refl w6.heap.size w6).alloc (Nat.le_refl _) (.cells (cellsL A6) 25))
      have hrow := rowAt_alloc_at w6 (cellsL A6) 25 _ rfl
      clear L6 HSM d1
      go_wp2_with (at_builtin; refine wpList_put_lab rfl _ _ rfl w0.heap.size _ _ rfl L7.l6 A6 w6.heap.size 1 rfl hrow L7.below.size (by rw [List.length_map]; have := HLL.out; omega) ?_)
      intro v6' w7 hown hgrow hat
      have L8 := L7.sum hown hgrow (by rw [World.size_alloc]; exact hat)
      rw [HM6.out] at L8
      clear L7 hown hgrow hat hrow
      go_wp2_with fail
      refine (HMC.out _ (HT.out.1.below L8.below)).mono ?_
      rintro e w8 ⟨rfl, d1⟩
      have L9 := (L8.past d1).past ((Below.refl w8.heap.size w8).alloc (Nat.le_refl _) (.cells (cellsL A7) 25))
      have hrow := rowAt_alloc_at w8 (cellsL A7) 25 _ rfl
      clear L8 HMC d1
      go_wp2_with (at_builtin; refine wpList_put_lab rfl _ _ rfl w0.heap.size _ _ rfl L9.l7 A7 w8.heap.size 1 rfl hrow L9.below.size (by rw [List.length_map]; have := HLL.out; omega) ?_)
      intro v7' w9 hown hgrow hat
      have LA := L9.mac hown hgrow (by rw [World.size_alloc]; exact hat)
      rw [HM7.out] at LA
      have LB := Lib.hid LA
      clear L9 LA hown hgrow hat hrow
      go_wp2_with fail
      exact ⟨⟨i + 1, gg1, gg2, by go_num, Lib.hid rfl, LB⟩, by simp [intOf]; omega⟩
    · by_cases hg1 : i < len
      · obtain rfl : i = 8 := by omega
        have g1' : decide ((8 : Nat) < len) = true := decide_eq_true hg1
        have g1n : ((8 : Nat) : Int) < len := by omega
        have g1m : (8 : Int) < len := by omega
        rw [show ((8 : Nat) : Int) = 8 from rfl]
        obtain ⟨m, hm⟩ : ∃ m, m = 8 := ⟨_, rfl⟩
        rw [← hm] at L1 ⊢
        have HM : Hid (m ≤ 8) := Lib.hid (by omega)
        clear hm hgo
        obtain ⟨tx, htx⟩ : ∃ tx, cutsL S 200 m = tx := ⟨_, rfl⟩
        have HTS : Hid (∀ t ∈ tx, t.length ≤ 200) := Lib.hid (by rw [← htx]; exact cutsL_short _ _ _)
        have HTN : Hid (tx.length ≤ 8) := Lib.hid (by rw [← htx, cutsL_length]; exact HM.out)
        have hFS : framesS S m = stx (cat (tx.map encL)) := by rw [framesS, htx]
        rw [htx] at L1
        obtain ⟨n, hn⟩ : ∃ n, tx.length = n := ⟨_, rfl⟩
        have HN := Lib.hid hn
        have L1 := L1.out
        obtain ⟨a6, cp6, e6, H6⟩ := L1.l6.at
        obtain ⟨a7, cp7, e7, H7⟩ := L1.l7.at
        obtain ⟨a8, cp8, e8, H8⟩ := L1.l8.lie
        rw [List.length_map, hn] at e6 e7 H6 H7
        rw [hn] at e8 H8
        subst e6 e7 e8
        obtain ⟨N, hNN⟩ : ∃ N, (cat (tx.map encL)).length = N := ⟨_, rfl⟩
        have hN9 : N ≤ 2000 := by rw [← hNN]; have := cat_len tx HTS.out; have := HTN.out; omega
        have hsz : (framesS S m).size = N := by rw [hFS, stx_size, hNN]
        have HAL : Hid (∀ w : World, Tabs w → Calls Tryd.prog 25 #[.string (framesS S m)] w fun e w' => ∃ v, e = .returned (.tuple #[v, .int .i64 N]) ∧ OwnStrs w' w.heap.size v (tx.map encL) ∧ Below w.heap.size w w') := Lib.hid fun w h => by
          have := All_any (stx (cat (tx.map encL))) w (by rw [stx_size, hNN]; omega) h
          unfold AllRet at this
          rw [show (stx (cat (tx.map encL))).data.toList = cat (tx.map encL) from rfl, all_whole (tx.map encL) (fun t ht => by
            obtain ⟨u, hu, rfl⟩ := List.mem_map.1 ht
            have := encL_len u (HTS.out u hu)
            omega), hNN] at this
          rw [hFS]
          exact this
        have HCK : Hid (∀ w, Tabs w → Calls Tryd.prog 32 #[.string ⟨#[49, 50, 51, 52, 53, 54, 55, 56, 57]⟩] w fun e w' => e = .returned (.int .u32 3421780262) ∧ Below w.heap.size w w') := Lib.hid fun w ht => by
          have := Check_any ⟨#[49, 50, 51, 52, 53, 54, 55, 56, 57]⟩ w (by decide) ht
          rw [show (⟨#[49, 50, 51, 52, 53, 54, 55, 56, 57]⟩ : ByteArray).data.toList = [49, 50, 51, 52, 53, 54, 55, 56, 57] from rfl, aw4_crc] at this
          exact this
        have LL := L1.below
        have K6 := Lib.hid H6
        have K7 := Lib.hid H7
        have K8 := Lib.hid H8
        clear L1 H6 H7 H8 hFS htx hn hNN
        generalize framesS S m = FS at *
        go_wp2_with fail
        refine (HAL.out _ (HT.out.2.below LL)).mono ?_
        rintro e w1 ⟨v16, rfl, ow, d1⟩
        have LL1 := below_past LL d1 LL.size
        obtain ⟨a16, cp16, e16, H16⟩ := ow.lie
        rw [List.length_map, HN.out] at e16 H16
        subst e16
        have K16 := Lib.hid H16
        have KK6 : Hid (∀ i, i < n → ∃ g cur, a6 = some ⟨g, 0, none⟩ ∧ rowAt w1 g = some cur ∧ i * 32 + 32 ≤ cur.size ∧ cur.extract (i * 32) (i * 32 + 32) = cellsL ((tx.map shaLab).getD i zeroLab)) := Lib.hid fun i hi => by
          obtain ⟨g, cur, h1, h2, h3⟩ := K6.out i hi
          exact ⟨g, cur, h1, rowAt_past d1 h2, h3⟩
        have KK7 : Hid (∀ i, i < n → ∃ g cur, a7 = some ⟨g, 0, none⟩ ∧ rowAt w1 g = some cur ∧ i * 32 + 32 ≤ cur.size ∧ cur.extract (i * 32) (i * 32 + 32) = cellsL ((tx.map (macL KL)).getD i zeroLab)) := Lib.hid fun i hi => by
          obtain ⟨g, cur, h1, h2, h3⟩ := K7.out i hi
          exact ⟨g, cur, h1, rowAt_past d1 h2, h3⟩
        have KK8 : Hid (∀ i, i < n → ∃ g, a8 = some ⟨g, 0, none⟩ ∧ w1.cell? ⟨g, i, none⟩ = some (.string (stx (tx.getD i [])))) := Lib.hid fun i hi => by
          obtain ⟨g, h1, h2⟩ := K8.out i hi
          exact ⟨g, h1, (d1.cell (p := ⟨g, i, none⟩) (cellLt h2)).trans h2⟩
        have hn8 : (n : Int) ≤ 8 := by have := HTN.out; have := HN.out; omega
        clear HAL ow H16 d1 K6 K7 K8
        go_wp2_with fail
        refine (HCK.out _ (HT.out.2.below LL1)).mono ?_
        rintro e w2 ⟨rfl, d1⟩
        have LL2 := below_past LL1 d1 LL1.size
        have D1 := Lib.hid d1
        clear HCK d1
        go_wp2_with fail
        go_loopw [99] (fun x wr => ∃ j : Nat, j ≤ n ∧ x = .int .i64 j ∧ Hid (Below w2.heap.size w2 wr)) (fun x _ => (n - intOf x).toNat)
        case atStart => exact ⟨0, Nat.zero_le _, rfl, Lib.hid (Below.refl _ _)⟩
        case round =>
          obtain ⟨j, hj, rfl, BZ⟩ := hrel
          by_cases hlt : j < n
          · have hlt' : (j : Int) < n := by omega
            have hjt : j < tx.length := by rw [HN.out]; exact hlt
            obtain ⟨t, htj⟩ : ∃ t, tx.getD j [] = t := ⟨_, rfl⟩
            have htm : t ∈ tx := by rw [← htj, List.getD_eq_getElem?_getD, List.getElem?_eq_getElem hjt]; exact List.getElem_mem hjt
            have ht2 := HTS.out t htm
            have B1 : Below w1.heap.size w1 wr := below_past D1.out BZ.out D1.out.size
            have LZ : Below w0.heap.size w0 wr := below_past LL1 B1 LL1.size
            obtain ⟨g16, hg16, hc16⟩ := K16.out j hlt
            obtain ⟨g8, hg8, hc8⟩ := KK8.out j hlt
            obtain ⟨g6, cur6, hg6, hr6, hs6, he6⟩ := KK6.out j hlt
            obtain ⟨g7, cur7, hg7, hr7, hs7, he7⟩ := KK7.out j hlt
            subst hg16 hg8 hg6 hg7
            rw [map_getD encL tx j [] hjt, htj] at hc16
            rw [map_getD shaLab tx j zeroLab hjt, htj] at he6
            rw [map_getD (macL KL) tx j zeroLab hjt, htj] at he7
            rw [htj] at hc8
            have c16 := (B1.cell (p := ⟨g16, j, none⟩) (cellLt hc16)).trans hc16
            have c8 := (B1.cell (p := ⟨g8, j, none⟩) (cellLt hc8)).trans hc8
            have c6 := Lib.hid (rowAt_past B1 hr6)
            have c7 := Lib.hid (rowAt_past B1 hr7)
            have C8 := Lib.hid c8
            obtain ⟨v1, v2, v3⟩ := read_enc t ht2
            have HO := Lib.hid (Open_any (stx (encL t)) wr)
            rw [if_pos (show (stx (encL t)).size ≤ 65536 by rw [stx_size]; have := encL_len t ht2; omega)] at HO
            have HRT : Hid (∀ (w : World) (B b : Nat), ReaderAt B b (stx (encL t)) 0 w → B ≤ w.heap.size → Calls Tryd.prog 34 #[.pointer (some ⟨b, 0, none⟩)] w fun r w' => r = .returned (.string (stx t)) ∧ ReaderAt B b (txt []) 0 w' ∧ Near B b w w') := Lib.hid fun w B b h hB => by
              have := RText_any B b (stx (encL t)) 0 w h hB
              rw [show textV (stx (encL t)) 0 = stx t from v1, show textR (stx (encL t)) 0 = txt [] from v2, show textE (stx (encL t)) 0 = 0 from v3] at this
              exact this
            have HSM : Hid (∀ w : World, Cubes w → Calls Tryd.prog 13 #[.string (stx t)] w fun e w' => e = .returned (.agg (cellsL (shaLab t))) ∧ Below w.heap.size w w') := Lib.hid fun w h => Sum_any (stx t) w h (by rw [stx_size]; omega)
            have HMC : Hid (∀ w : World, Cubes w → Calls Tryd.prog 15 #[.string (stx KL), .string (stx t)] w fun e w' => e = .returned (.agg (cellsL (macL KL t))) ∧ Below w.heap.size w w') := Lib.hid fun w h => Mac_any KL t w h (by have := HKN.out; omega) (by omega)
            clear hc16 hc8 hr6 hr7 htj htm v1 v2 v3 B1 c8
            generalize shaLab t = A6 at *
            generalize macL KL t = A7 at *
            go_wp2_with fail
            refine HO.out.mono ?_
            rintro e w3 ⟨rfl, k3, b3⟩
            have K3 := Lib.hid k3
            have hsz3 : wr.heap.size < w3.heap.size := heap_lt k3.2
            clear HO k3 c16
            go_wp2_with fail
            refine (HRT.out w3 w3.heap.size wr.heap.size ⟨rfl, K3.out.2⟩ (Nat.le_refl _)).mono ?_
            rintro e w4 ⟨rfl, k4, n4⟩
            have b4 : Below wr.heap.size wr w4 := b3.trans (n4.below (Nat.le_of_lt hsz3) (Nat.le_refl _))
            have K4 := Lib.hid k4
            have q8 : ∀ x : Past w4, x.w.cell? ⟨g8, j, none⟩ = some (.string (stx t)) := fun x => ((below_past b4 x.h b4.size).cell (p := ⟨g8, j, none⟩) (cellLt C8.out)).trans C8.out
            have q6 : ∀ x : Past w4, rowAt x.w g6 = some cur6 := fun x => rowAt_past (below_past b4 x.h b4.size) c6.out
            have q7 : ∀ x : Past w4, rowAt x.w g7 = some cur7 := fun x => rowAt_past (below_past b4 x.h b4.size) c7.out
            have L4 := below_past LZ b4 LZ.size
            have HD : Hid (∀ w', Below w4.heap.size w4 w' → Calls Tryd.prog 35 #[.pointer (some ⟨wr.heap.size, 0, none⟩)] w' fun e w'' => e = .returned (.int .i64 0) ∧ Below w'.heap.size w' w'') := Lib.hid fun w' hw => by
              have := RDone_any _ _ _ _ w' (K4.out.below hw)
              rw [if_neg (fun e => e.2 rfl)] at this
              exact this
            have HSM2 : Hid (∀ w', Below w4.heap.size w4 w' → Calls Tryd.prog 13 #[.string (stx t)] w' fun e w'' => e = .returned (.agg (cellsL A6)) ∧ Below w'.heap.size w' w'') := Lib.hid fun w' hw => HSM.out w' (HT.out.1.below (below_past L4 hw L4.size))
            have HMC2 : Hid (∀ w', Below w4.heap.size w4 w' → Calls Tryd.prog 15 #[.string (stx KL), .string (stx t)] w' fun e w'' => e = .returned (.agg (cellsL A7)) ∧ Below w'.heap.size w' w'') := Lib.hid fun w' hw => HMC.out w' (HT.out.1.below (below_past L4 hw L4.size))
            have B4 := Lib.hid b4
            have hq : ((stx t).toList == (stx t).toList) = true := by simp
            clear HRT HSM HMC K3 K4 b3 n4 k4 b4 C8 c6 c7 LZ L4
            go_wp2_with fail
            refine wp_region_wildL [] 30 (by kernel_rfl) (by kernel_rfl) ?_
            simp only [List.take_succ_cons, List.take_nil]
            iterate 1 (refine wildL_val (by decide) (by kernel_rfl) rfl ?_; intro K hK; go_big_quiet_op; go_big_quiet_on)
            refine wildL_call (by decide) (by kernel_rfl) (by kernel_rfl) ?_
            apply Exists.intro
            refine And.intro ?_ ?_
            focus
              intro x K hK
              go_big_quiet_op
              go_big_quiet_call (exact call_back (HD.out _ (Past.two _)))
              rfl
            iterate 11 (refine wildL_val (by decide) (by kernel_rfl) rfl ?_; intro K hK; go_big_quiet_op; go_big_quiet_on)
            refine wildL_call (by decide) (by kernel_rfl) (by kernel_rfl) ?_
            apply Exists.intro
            refine And.intro ?_ ?_
            focus
              intro x K hK
              go_big_quiet_op
              go_big_quiet_call (exact call_back (HSM2.out _ (Past.two _)))
              rfl
            iterate 9 (refine wildL_val (by decide) (by kernel_rfl) rfl ?_; intro K hK; go_big_quiet_op; go_big_quiet_on)
            refine wildL_call (by decide) (by kernel_rfl) (by kernel_rfl) ?_
            apply Exists.intro
            refine And.intro ?_ ?_
            focus
              intro x K hK
              go_big_quiet_op
              go_big_quiet_call (exact call_back (HMC2.out _ (Past.two _)))
              rfl
            iterate 6 (refine wildL_val (by decide) (by kernel_rfl) rfl ?_; intro K hK; go_big_quiet_op; go_big_quiet_on)
            refine wildL_nil ?_
            simp only [List.drop_succ_cons, List.drop_nil]
            rintro ⟨z, hz⟩
            change wpList _ _ _ _ _ z
            have BN : Hid (Below w2.heap.size w2 z) := Lib.hid (below_past BZ.out (below_past B4.out hz B4.out.size) BZ.out.size)
            clear q6 q7 q8 HD HSM2 HMC2 B4 BZ hz
            go_wp2_with fail
            exact ⟨⟨j + 1, hlt, by go_num, BN⟩, by simp [intOf]; omega⟩
          · obtain rfl : j = n := by omega
            go_wp2_with fail
            go_ret
            exact ⟨rfl, below_past LL2 BZ.out LL2.size⟩
      · obtain rfl : i = len := by omega
        have g1' : decide (i < i) = false := decide_eq_false hg1
        obtain ⟨m, hm⟩ : ∃ m, m = i := ⟨_, rfl⟩
        rw [← hm] at L1 ⊢
        have HM : Hid (m ≤ 8) := Lib.hid (by omega)
        clear hm hgo
        obtain ⟨tx, htx⟩ : ∃ tx, cutsL S 200 m = tx := ⟨_, rfl⟩
        have HTS : Hid (∀ t ∈ tx, t.length ≤ 200) := Lib.hid (by rw [← htx]; exact cutsL_short _ _ _)
        have HTN : Hid (tx.length ≤ 8) := Lib.hid (by rw [← htx, cutsL_length]; exact HM.out)
        have hFS : framesS S m = stx (cat (tx.map encL)) := by rw [framesS, htx]
        rw [htx] at L1
        obtain ⟨n, hn⟩ : ∃ n, tx.length = n := ⟨_, rfl⟩
        have HN := Lib.hid hn
        have L1 := L1.out
        obtain ⟨a6, cp6, e6, H6⟩ := L1.l6.at
        obtain ⟨a7, cp7, e7, H7⟩ := L1.l7.at
        obtain ⟨a8, cp8, e8, H8⟩ := L1.l8.lie
        rw [List.length_map, hn] at e6 e7 H6 H7
        rw [hn] at e8 H8
        subst e6 e7 e8
        obtain ⟨N, hNN⟩ : ∃ N, (cat (tx.map encL)).length = N := ⟨_, rfl⟩
        have hN9 : N ≤ 2000 := by rw [← hNN]; have := cat_len tx HTS.out; have := HTN.out; omega
        have hsz : (framesS S m).size = N := by rw [hFS, stx_size, hNN]
        have HAL : Hid (∀ w : World, Tabs w → Calls Tryd.prog 25 #[.string (framesS S m)] w fun e w' => ∃ v, e = .returned (.tuple #[v, .int .i64 N]) ∧ OwnStrs w' w.heap.size v (tx.map encL) ∧ Below w.heap.size w w') := Lib.hid fun w h => by
          have := All_any (stx (cat (tx.map encL))) w (by rw [stx_size, hNN]; omega) h
          unfold AllRet at this
          rw [show (stx (cat (tx.map encL))).data.toList = cat (tx.map encL) from rfl, all_whole (tx.map encL) (fun t ht => by
            obtain ⟨u, hu, rfl⟩ := List.mem_map.1 ht
            have := encL_len u (HTS.out u hu)
            omega), hNN] at this
          rw [hFS]
          exact this
        have HCK : Hid (∀ w, Tabs w → Calls Tryd.prog 32 #[.string ⟨#[49, 50, 51, 52, 53, 54, 55, 56, 57]⟩] w fun e w' => e = .returned (.int .u32 3421780262) ∧ Below w.heap.size w w') := Lib.hid fun w ht => by
          have := Check_any ⟨#[49, 50, 51, 52, 53, 54, 55, 56, 57]⟩ w (by decide) ht
          rw [show (⟨#[49, 50, 51, 52, 53, 54, 55, 56, 57]⟩ : ByteArray).data.toList = [49, 50, 51, 52, 53, 54, 55, 56, 57] from rfl, aw4_crc] at this
          exact this
        have LL := L1.below
        have K6 := Lib.hid H6
        have K7 := Lib.hid H7
        have K8 := Lib.hid H8
        clear L1 H6 H7 H8 hFS htx hn hNN
        generalize framesS S m = FS at *
        go_wp2_with fail
        refine (HAL.out _ (HT.out.2.below LL)).mono ?_
        rintro e w1 ⟨v16, rfl, ow, d1⟩
        have LL1 := below_past LL d1 LL.size
        obtain ⟨a16, cp16, e16, H16⟩ := ow.lie
        rw [List.length_map, HN.out] at e16 H16
        subst e16
        have K16 := Lib.hid H16
        have KK6 : Hid (∀ i, i < n → ∃ g cur, a6 = some ⟨g, 0, none⟩ ∧ rowAt w1 g = some cur ∧ i * 32 + 32 ≤ cur.size ∧ cur.extract (i * 32) (i * 32 + 32) = cellsL ((tx.map shaLab).getD i zeroLab)) := Lib.hid fun i hi => by
          obtain ⟨g, cur, h1, h2, h3⟩ := K6.out i hi
          exact ⟨g, cur, h1, rowAt_past d1 h2, h3⟩
        have KK7 : Hid (∀ i, i < n → ∃ g cur, a7 = some ⟨g, 0, none⟩ ∧ rowAt w1 g = some cur ∧ i * 32 + 32 ≤ cur.size ∧ cur.extract (i * 32) (i * 32 + 32) = cellsL ((tx.map (macL KL)).getD i zeroLab)) := Lib.hid fun i hi => by
          obtain ⟨g, cur, h1, h2, h3⟩ := K7.out i hi
          exact ⟨g, cur, h1, rowAt_past d1 h2, h3⟩
        have KK8 : Hid (∀ i, i < n → ∃ g, a8 = some ⟨g, 0, none⟩ ∧ w1.cell? ⟨g, i, none⟩ = some (.string (stx (tx.getD i [])))) := Lib.hid fun i hi => by
          obtain ⟨g, h1, h2⟩ := K8.out i hi
          exact ⟨g, h1, (d1.cell (p := ⟨g, i, none⟩) (cellLt h2)).trans h2⟩
        have hn8 : (n : Int) ≤ 8 := by have := HTN.out; have := HN.out; omega
        clear HAL ow H16 d1 K6 K7 K8
        go_wp2_with fail
        refine (HCK.out _ (HT.out.2.below LL1)).mono ?_
        rintro e w2 ⟨rfl, d1⟩
        have LL2 := below_past LL1 d1 LL1.size
        have D1 := Lib.hid d1
        clear HCK d1
        go_wp2_with fail
        go_loopw [99] (fun x wr => ∃ j : Nat, j ≤ n ∧ x = .int .i64 j ∧ Hid (Below w2.heap.size w2 wr)) (fun x _ => (n - intOf x).toNat)
        case atStart => exact ⟨0, Nat.zero_le _, rfl, Lib.hid (Below.refl _ _)⟩
        case round =>
          obtain ⟨j, hj, rfl, BZ⟩ := hrel
          by_cases hlt : j < n
          · have hlt' : (j : Int) < n := by omega
            have hjt : j < tx.length := by rw [HN.out]; exact hlt
            obtain ⟨t, htj⟩ : ∃ t, tx.getD j [] = t := ⟨_, rfl⟩
            have htm : t ∈ tx := by rw [← htj, List.getD_eq_getElem?_getD, List.getElem?_eq_getElem hjt]; exact List.getElem_mem hjt
            have ht2 := HTS.out t htm
            have B1 : Below w1.heap.size w1 wr := below_past D1.out BZ.out D1.out.size
            have LZ : Below w0.heap.size w0 wr := below_past LL1 B1 LL1.size
            obtain ⟨g16, hg16, hc16⟩ := K16.out j hlt
            obtain ⟨g8, hg8, hc8⟩ := KK8.out j hlt
            obtain ⟨g6, cur6, hg6, hr6, hs6, he6⟩ := KK6.out j hlt
            obtain ⟨g7, cur7, hg7, hr7, hs7, he7⟩ := KK7.out j hlt
            subst hg16 hg8 hg6 hg7
            rw [map_getD encL tx j [] hjt, htj] at hc16
            rw [map_getD shaLab tx j zeroLab hjt, htj] at he6
            rw [map_getD (macL KL) tx j zeroLab hjt, htj] at he7
            rw [htj] at hc8
            have c16 := (B1.cell (p := ⟨g16, j, none⟩) (cellLt hc16)).trans hc16
            have c8 := (B1.cell (p := ⟨g8, j, none⟩) (cellLt hc8)).trans hc8
            have c6 := Lib.hid (rowAt_past B1 hr6)
            have c7 := Lib.hid (rowAt_past B1 hr7)
            have C8 := Lib.hid c8
            obtain ⟨v1, v2, v3⟩ := read_enc t ht2
            have HO := Lib.hid (Open_any (stx (encL t)) wr)
            rw [if_pos (show (stx (encL t)).size ≤ 65536 by rw [stx_size]; have := encL_len t ht2; omega)] at HO
            have HRT : Hid (∀ (w : World) (B b : Nat), ReaderAt B b (stx (encL t)) 0 w → B ≤ w.heap.size → Calls Tryd.prog 34 #[.pointer (some ⟨b, 0, none⟩)] w fun r w' => r = .returned (.string (stx t)) ∧ ReaderAt B b (txt []) 0 w' ∧ Near B b w w') := Lib.hid fun w B b h hB => by
              have := RText_any B b (stx (encL t)) 0 w h hB
              rw [show textV (stx (encL t)) 0 = stx t from v1, show textR (stx (encL t)) 0 = txt [] from v2, show textE (stx (encL t)) 0 = 0 from v3] at this
              exact this
            have HSM : Hid (∀ w : World, Cubes w → Calls Tryd.prog 13 #[.string (stx t)] w fun e w' => e = .returned (.agg (cellsL (shaLab t))) ∧ Below w.heap.size w w') := Lib.hid fun w h => Sum_any (stx t) w h (by rw [stx_size]; omega)
            have HMC : Hid (∀ w : World, Cubes w → Calls Tryd.prog 15 #[.string (stx KL), .string (stx t)] w fun e w' => e = .returned (.agg (cellsL (macL KL t))) ∧ Below w.heap.size w w') := Lib.hid fun w h => Mac_any KL t w h (by have := HKN.out; omega) (by omega)
            clear hc16 hc8 hr6 hr7 htj htm v1 v2 v3 B1 c8
            generalize shaLab t = A6 at *
            generalize macL KL t = A7 at *
            go_wp2_with fail
            refine HO.out.mono ?_
            rintro e w3 ⟨rfl, k3, b3⟩
            have K3 := Lib.hid k3
            have hsz3 : wr.heap.size < w3.heap.size := heap_lt k3.2
            clear HO k3 c16
            go_wp2_with fail
            refine (HRT.out w3 w3.heap.size wr.heap.size ⟨rfl, K3.out.2⟩ (Nat.le_refl _)).mono ?_
            rintro e w4 ⟨rfl, k4, n4⟩
            have b4 : Below wr.heap.size wr w4 := b3.trans (n4.below (Nat.le_of_lt hsz3) (Nat.le_refl _))
            have K4 := Lib.hid k4
            have q8 : ∀ x : Past w4, x.w.cell? ⟨g8, j, none⟩ = some (.string (stx t)) := fun x => ((below_past b4 x.h b4.size).cell (p := ⟨g8, j, none⟩) (cellLt C8.out)).trans C8.out
            have q6 : ∀ x : Past w4, rowAt x.w g6 = some cur6 := fun x => rowAt_past (below_past b4 x.h b4.size) c6.out
            have q7 : ∀ x : Past w4, rowAt x.w g7 = some cur7 := fun x => rowAt_past (below_past b4 x.h b4.size) c7.out
            have L4 := below_past LZ b4 LZ.size
            have HD : Hid (∀ w', Below w4.heap.size w4 w' → Calls Tryd.prog 35 #[.pointer (some ⟨wr.heap.size, 0, none⟩)] w' fun e w'' => e = .returned (.int .i64 0) ∧ Below w'.heap.size w' w'') := Lib.hid fun w' hw => by
              have := RDone_any _ _ _ _ w' (K4.out.below hw)
              rw [if_neg (fun e => e.2 rfl)] at this
              exact this
            have HSM2 : Hid (∀ w', Below w4.heap.size w4 w' → Calls Tryd.prog 13 #[.string (stx t)] w' fun e w'' => e = .returned (.agg (cellsL A6)) ∧ Below w'.heap.size w' w'') := Lib.hid fun w' hw => HSM.out w' (HT.out.1.below (below_past L4 hw L4.size))
            have HMC2 : Hid (∀ w', Below w4.heap.size w4 w' → Calls Tryd.prog 15 #[.string (stx KL), .string (stx t)] w' fun e w'' => e = .returned (.agg (cellsL A7)) ∧ Below w'.heap.size w' w'') := Lib.hid fun w' hw => HMC.out w' (HT.out.1.below (below_past L4 hw L4.size))
            have B4 := Lib.hid b4
            have hq : ((stx t).toList == (stx t).toList) = true := by simp
            clear HRT HSM HMC K3 K4 b3 n4 k4 b4 C8 c6 c7 LZ L4
            go_wp2_with fail
            refine wp_region_wildL [] 30 (by kernel_rfl) (by kernel_rfl) ?_
            simp only [List.take_succ_cons, List.take_nil]
            iterate 1 (refine wildL_val (by decide) (by kernel_rfl) rfl ?_; intro K hK; go_big_quiet_op; go_big_quiet_on)
            refine wildL_call (by decide) (by kernel_rfl) (by kernel_rfl) ?_
            apply Exists.intro
            refine And.intro ?_ ?_
            focus
              intro x K hK
              go_big_quiet_op
              go_big_quiet_call (exact call_back (HD.out _ (Past.two _)))
              rfl
            iterate 11 (refine wildL_val (by decide) (by kernel_rfl) rfl ?_; intro K hK; go_big_quiet_op; go_big_quiet_on)
            refine wildL_call (by decide) (by kernel_rfl) (by kernel_rfl) ?_
            apply Exists.intro
            refine And.intro ?_ ?_
            focus
              intro x K hK
              go_big_quiet_op
              go_big_quiet_call (exact call_back (HSM2.out _ (Past.two _)))
              rfl
            iterate 9 (refine wildL_val (by decide) (by kernel_rfl) rfl ?_; intro K hK; go_big_quiet_op; go_big_quiet_on)
            refine wildL_call (by decide) (by kernel_rfl) (by kernel_rfl) ?_
            apply Exists.intro
            refine And.intro ?_ ?_
            focus
              intro x K hK
              go_big_quiet_op
              go_big_quiet_call (exact call_back (HMC2.out _ (Past.two _)))
              rfl
            iterate 6 (refine wildL_val (by decide) (by kernel_rfl) rfl ?_; intro K hK; go_big_quiet_op; go_big_quiet_on)
            refine wildL_nil ?_
            simp only [List.drop_succ_cons, List.drop_nil]
            rintro ⟨z, hz⟩
            change wpList _ _ _ _ _ z
            have BN : Hid (Below w2.heap.size w2 z) := Lib.hid (below_past BZ.out (below_past B4.out hz B4.out.size) BZ.out.size)
            clear q6 q7 q8 HD HSM2 HMC2 B4 BZ hz
            go_wp2_with fail
            exact ⟨⟨j + 1, hlt, by go_num, BN⟩, by simp [intOf]; omega⟩
          · obtain rfl : j = n := by omega
            go_wp2_with fail
            go_ret
            exact ⟨rfl, below_past LL2 BZ.out LL2.size⟩
set_option maxRecDepth 100000 in
theorem lifted (os : Os) (started : os.Started) (H : Type) (enc : TypeId × Value → H) :
    ReturnsInHanded {} Tryd.checked os 10 .any (fun w args => (Rows.chirographSealedSpec.pre enc Tryd.prog Tryd.f10 [] false w args ∧ laidMetH Tryd.prog laidAll w) ∧ sizedMet enc Tryd.prog Tryd.f10 (OpenSpec.ofChange Rows.chirographSealedSpec) false w args) (Rows.chirographSealedSpec.post enc Tryd.prog Tryd.f10 false true false false) := by
  refine returnsInHanded_of_change_and (C := Tryd.checked) (X := fun w _ => laidMetH Tryd.prog laidAll w) (fun _ _ _ hh h => h.of_heap hh) own started (by kernel_rfl) Tryd.func10
    (ChangeSpec.witness_shaped (enc := enc) (C := Tryd.checked) (os := os) (X := fun w _ => laidMetH Tryd.prog laidAll w) false (World.doorLaid Tryd.prog 2000 os) #[.slice none 0 0, .string ⟨#[]⟩] 8 rfl (World.shaped_of_RefB (by kernel_rfl) (by kernel_rfl)) (by kernel_rfl) (by kernel_rfl) (by kernel_rfl) (door_all os _)) ?_
  intro W base args ds gs before hval0 hW _ _ hL _
  have hval : ∀ (j : Nat) t v, Tryd.f10.params[j]? = some t → args[j]? = some v → Value.okWide Tryd.prog W .any base t v := hval0
  clear hval0
  have hW' := hW
  obtain ⟨p, q, hA0, hV, rfl, hfz, hnd⟩ := hW
  have hA : DataW.TrodAll enc Tryd.prog W 0 (fun _ => true) true Tryd.f10.params.toList args.toList ds p := hA0
  rw [Tryd.params10] at hA hval
  clear hA0 hfz hnd hV
  have hr : Readable Tryd.f10.params.toList := by
    rw [Tryd.params10]
    exact readable_of_all (by kernel_rfl)
  have fin : ∀ W', Below W.heap.size W W' → Rows.chirographSealedSpec.post enc Tryd.prog Tryd.f10 false true false false W args (.bool true) W' := fun W' hb =>
    law_post rfl hW' hr (fun l hl => by
      rw [Tryd.params10] at hl
      match l, hl with
      | [d1, d2], _ => rfl) (by kernel_rfl) hb
  clear hW' hr
  have HT := all_of_laid hL
  obtain ⟨v0, v1, d0, d1, p0, p1, rfl, rfl, rfl, h0, h1⟩ := trodAll_two hA; obtain ⟨l1, S1, hs1⟩ := in_strs Tryd.underlying30 Tryd.underlying9 cellsOf_string (hval 0 30 v0 rfl rfl) h0; obtain ⟨ky, rfl, _, _, w1⟩ := open_string Tryd.underlying9 (hval 1 9 v1 rfl rfl) h1
  exact (walk v0 l1 S1 ky W hs1 HT).mono fun e W' ⟨he, hb⟩ => ⟨_, he, fin W' hb⟩
theorem row_holds : Rows.ChirographSealedSaid :=
  OpenClaim.holds_of_wide 10 Tryd.f10 rfl rfl rfl rfl rfl rfl rfl ⟨rfl, rfl, rfl, rfl, rfl⟩ rfl rfl rfl rfl rfl (by kernel_rfl) Tryd.func10 (by kernel_rfl)
    (of_decide_eq_true (by kernel_rfl)) (by unfold Func.isWrapper; first | (rw [if_pos (by decide +kernel)]; kernel_rfl) | (rw [if_neg (by decide +kernel)]; exact ⟨rfl, rfl⟩))
    (fun os started H enc _ => lifted os started H enc)
theorem proved : Rows.ChirographSealedCardSaid :=
  Claim7.holds_tied_plain_at .later [] [.data, .data, .data] true _ false
    row_holds (fun _ h => by cases h) (by kernel_rfl) (fun _ h => by cases h) chirographSealed_row_tie rfl ⟨rfl, rfl⟩ (by kernel_rfl) rfl
    (fun f fn hf hfn => by
      obtain rfl : f = 10 := Option.some.inj ((show Tryd.prog.funcNamed "chirograph/chirographtop.ChirographSealed" = some 10 by kernel_rfl).symm.trans hf) |>.symm
      obtain rfl : fn = Tryd.f10 := (Option.some.inj (Tryd.func10.symm.trans hfn)).symm
      exact ⟨by kernel_rfl, fun j t ht => by
        rw [Tryd.params10] at ht
        have hm : t ∈ [30, 9] := by simpa using Array.mem_of_getElem? ht
        have hall : ([30, 9].all fun u => !Tryd.prog.wantsStandIn u) = true := by kernel_rfl
        exact (show Tryd.prog.wantsStandIn t = false by simpa using List.all_eq_true.1 hall t hm)⟩)
    (by kernel_rfl)
end Go.Proofs.YthmhjojabalddaaDoor.sealedlaw
