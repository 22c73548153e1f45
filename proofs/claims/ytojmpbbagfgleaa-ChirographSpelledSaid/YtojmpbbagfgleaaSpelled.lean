/- For every label, number and place the law ChirographSpelled returns true. Conditions: none. -/
import Derived.Test.YtojmpbbagfgleaaCode8
import Derived.Test.YtojmpbbagfgleaaMath3
import Derived.Test.YtojmpbbagfgleaaRow
import Derived.ChangeMaps5
namespace Go.Proofs.Ytojmpbbagfgleaa.spelled
open Go Go.ChangeShapes Go.WideShapes Go.ChangeAt Go.ChangeMaps Go.RowKit Go.Proofs.Ytojmpbbagfgleaa

/-- A label with one bit turned. -/
def flipB (a : Lab) (k r : Nat) : Lab := a.set k (UInt8.ofNat ((a.get k).toNat ^^^ 2 ^ (7 - r)))
theorem flipB_bad (l : Lab) (m k r : Nat) (hk : k < 32) (hr : r < 8) (hm : m ≤ 8 * k + r) : good m (flipB (cut l m) k r) = false := by
  rw [Bool.eq_false_iff]
  intro h
  obtain ⟨n, hn, hn2, hc⟩ := good_nat h
  obtain rfl : m = n := by omega
  have hx := byte_xor ⟨((cut l m).get k).toNat, ((cut l m).get k).toNat_lt⟩ ⟨r, hr⟩ ⟨r, hr⟩
  have h1 := bit_cut (flipB (cut l m) k r) m (8 * k + r) (by omega)
  rw [hc, if_neg (by omega), flipB, bit_set _ _ _ _ (by omega), if_pos (by omega), show (8 * k + r) % 8 = r by omega] at h1
  have h2 := bit_cut l m (8 * k + r) (by omega)
  rw [if_neg (by omega)] at h2
  have h3 : bitB ((cut l m).get k) r = 0 := by
    have : bit (cut l m) (8 * k + r) = bitB ((cut l m).get k) r := by
      rw [bit, show (8 * k + r) / 8 = k by omega, show (8 * k + r) % 8 = r by omega]
    rw [← this]
    exact h2
  have h4 : ((UInt8.ofNat (((cut l m).get k).toNat ^^^ 2 ^ (7 - r))).toNat) = ((cut l m).get k).toNat ^^^ 2 ^ (7 - r) := by
    rw [UInt8.toNat_ofNat']
    have := hx.1
    exact Nat.mod_eq_of_lt this
  rw [bitB, h4] at h1
  have h5 := hx.2
  rw [if_pos rfl] at h5
  have h6 : ((cut l m).get k).toNat / 2 ^ (7 - r) % 2 = 0 := h3
  rw [h6] at h5
  rw [h5] at h1
  cases h1
theorem has_good (n : Int) (a l : Lab) (h : good n a = false) : has n a l = false := by rw [has, h]; rfl
theorem ab_lab : (cellsL zeroLab).setIfInBounds 0 (.int .u8 171) = cellsL (zeroLab.set 0 171) := by
  rw [set_cellsL _ _ _ (by decide) (by decide)]
  rfl
theorem ab_hex : (hexTo (zeroLab.set 0 171) 32).take 2 = [97, 98] := by decide +kernel

theorem xor_u8 (a b : Nat) (ha : a < 256) (hb : b < 256) : bits .xor .u8 (a : Int) (b : Int) = ((a ^^^ b : Nat) : Int) := by
  have hx : a ^^^ b < 2 ^ 8 := Nat.xor_lt_two_pow (by omega) (by omega)
  have h1 : (BitVec.ofInt 8 (a : Int)).toNat = a := by rw [BitVec.toNat_ofInt]; omega
  have h2 : (BitVec.ofInt 8 (b : Int)).toNat = b := by rw [BitVec.toNat_ofInt]; omega
  show IntKind.u8.wrap ((BitVec.ofInt 8 (a : Int) ^^^ BitVec.ofInt 8 (b : Int)).toNat : Int) = _
  rw [BitVec.toNat_xor, h1, h2]
  show ((a ^^^ b : Nat) : Int) % 2 ^ IntKind.u8.bits = _
  rw [show (2 : Int) ^ IntKind.u8.bits = 256 from rfl]
  omega
theorem shr_128 : ∀ r : Fin 8, (128 : Int) / 2 ^ r.val = ((2 ^ (7 - r.val) : Nat) : Int) ∧ 2 ^ (7 - r.val) < 256 := by decide +kernel
theorem W_bytes (m : Nat) (c : Lab) (hm : m ≤ 256) : added (added [] 0 (numBytes m)) 0 c.l = numBytes m ++ c.l ∧ (numBytes m ++ c.l).length ≤ 65536 := by
  have h1 := numLen_le m (by omega)
  have h2 := numBytes_length m
  have h3 := c.h
  rw [added_le (bs := []) (Nat.zero_le _), List.nil_append, added_le (by omega)]
  exact ⟨rfl, by rw [List.length_append]; omega⟩
theorem W_label (c : Lab) : labelV (txt c.l) 0 = c ∧ takeR (txt c.l) 0 32 = txt [] ∧ takeE (txt c.l) 0 32 = 0 := by
  have h := c.h
  refine ⟨?_, ?_, ?_⟩
  · rw [labelV, dif_pos ⟨rfl, by rw [txt_size]; omega⟩]
    obtain ⟨l, hl⟩ := c
    have : l.take 32 = l := List.take_of_length_le (by omega)
    congr 1
  · rw [takeR_list _ _ (by omega), List.drop_of_length_le (by omega)]
  · rw [takeE_list _ _ (by omega)]

set_option maxRecDepth 100000 in
set_option maxHeartbeats 2000000 in
theorem walk (l : Lab) (n turn : Int) (w : World) : Calls Try.prog 10 #[.agg (cellsL l), .int .i64 n, .int .i64 turn] w fun e w' => e = .returned (.bool true) ∧ Below w.heap.size w w' := by
  have b0 : Below w.heap.size w (w.alloc (.cells (cellsL l) 23)) := (Below.refl _ _).alloc (Nat.le_refl _) _
  have r0 : rowAt (w.alloc (.cells (cellsL l) 23)) w.heap.size = some (cellsL l) := rowAt_alloc_at _ _ _ _ rfl
  obtain ⟨m, hm1, hm2⟩ : ∃ m : Nat, m ≤ 256 ∧ min (max n 0) 256 = (m : Int) := ⟨(min (max n 0) 256).toNat, by omega, by omega⟩
  have hcut : cut l n.toNat = cut l m := by
    by_cases h : n.toNat ≤ 256
    · rw [show n.toNat = m by omega]
    · rw [cut_256 _ _ (by omega), cut_256 _ _ (show 256 ≤ m by omega)]
  obtain ⟨P, hP⟩ : ∃ P, cut l m = P := ⟨_, rfl⟩
  have HC := Lib.hid (Cut_any l n)
  rw [hm2, hcut, hP] at HC
  have hg : good m P = true := by rw [← hP]; exact good_cut l m hm1
  have hh : has m P l = true := by rw [← hP]; exact has_yes l l m hm1 rfl
  obtain ⟨w1b, w2b⟩ := W_bytes m P hm1
  obtain ⟨v1, v2, v3⟩ := num_read m P.l (by omega)
  obtain ⟨u1, u2, u3⟩ := W_label P
  have W1 := Lib.hid w1b
  have W2 := Lib.hid w2b
  have W3 : Hid (txt (doneS (numBytes m ++ P.l) 0) = txt (numBytes m ++ P.l) ∧ doneE (numBytes m ++ P.l) 0 = 0) := Lib.hid (by
    rw [doneS, doneE, if_neg (by omega), if_neg (by decide), if_neg (by omega)]
    exact ⟨rfl, rfl⟩)
  have W4 : Hid ((txt (numBytes m ++ P.l)).size ≤ 65536) := Lib.hid (by rw [txt_size]; exact w2b)
  have V1 := Lib.hid v1
  have V2 := Lib.hid v2
  have V3 := Lib.hid v3
  have U1 := Lib.hid u1
  have U2 := Lib.hid u2
  have U3 := Lib.hid u3
  have HP := Lib.hid hP
  have hm0 : (0 : Int) ≤ m := by omega
  have hm3 : (m : Int) ≤ 256 := by omega
  have HG := Lib.hid hg
  have HH := Lib.hid hh
  clear w1b w2b v1 v2 v3 u1 u2 u3 hP hg hh hm2 hcut
  go_enter Try.func10, Try.ntmps10
  go_wp2_with fail
  generalize w.alloc (.cells (cellsL l) 23) = W at *
  refine (HC.out _).mono ?_
  rintro e w1 ⟨rfl, hb1⟩
  have q0 := rowAt_past hb1 r0
  have b1 := below_past b0 hb1 b0.size
  clear hb1 b0 r0 HC
  go_wp2_with fail
  have l1 := lt_of_rowAt q0
  have r0 : rowAt ((w1.alloc (.cells (cellsP m P) 26)).alloc (.cells #[.slice none 0 0, .int .i64 0] 44)) w.heap.size = some (cellsL l) :=
    (rowAt_alloc_past _ _ _ (by simp only [World.size_alloc]; omega)).trans ((rowAt_alloc_past w1 (.cells (cellsP m P) 26) _ l1).trans q0)
  have r1 : rowAt ((w1.alloc (.cells (cellsP m P) 26)).alloc (.cells #[.slice none 0 0, .int .i64 0] 44)) w1.heap.size = some (cellsP m P) :=
    (rowAt_alloc_past _ _ _ (by simp only [World.size_alloc]; omega)).trans (rowAt_alloc_at w1 (cellsP m P) 26 _ rfl)
  have k0 : WriterAt (w1.heap.size + 1) (w1.heap.size + 1) [] 0 ((w1.alloc (.cells (cellsP m P) 26)).alloc (.cells #[.slice none 0 0, .int .i64 0] 44)) := by
    refine ⟨none, 0, ?_, World.ownsRow_nil _ _ _ _, by simp [Value.ownBlock]⟩
    have := heap_alloc_new (w1.alloc (.cells (cellsP m P) 26)) (.cells #[.slice none 0 0, .int .i64 0] 44)
    simp only [World.size_alloc] at this
    exact this
  have b2 : Below w.heap.size w ((w1.alloc (.cells (cellsP m P) 26)).alloc (.cells #[.slice none 0 0, .int .i64 0] 44)) :=
    (b1.alloc b1.size (.cells (cellsP m P) 26)).alloc (by simp only [World.size_alloc]; omega) _
  have s2 : w1.heap.size + 1 ≤ ((w1.alloc (.cells (cellsP m P) 26)).alloc (.cells #[.slice none 0 0, .int .i64 0] 44)).heap.size := by simp only [World.size_alloc]; omega
  clear q0 b1
  generalize w1.heap.size = g at *
  generalize (w1.alloc (.cells (cellsP m P) 26)).alloc (.cells #[.slice none 0 0, .int .i64 0] 44) = W2 at *
  obtain ⟨G, hG⟩ : ∃ G, w.heap.size = G := ⟨_, rfl⟩
  have HGG := Lib.hid hG
  rw [hG] at r0 b2 l1 ⊢
  clear hG
  have HN := Lib.hid (Number_any (g + 1) (g + 1) [] 0 m W2 k0 (by omega) s2)
  clear k0
  refine HN.out.mono ?_
  rintro e w2 ⟨rfl, k1, n1⟩
  have c1 := n1.below (C := g + 1) (Nat.le_refl _) (Nat.le_refl _)
  have q0 := (rowAt_below c1 (Nat.lt_succ_of_lt l1)).trans r0
  have q1 := (rowAt_below c1 (Nat.lt_succ_self _)).trans r1
  have b3 := b2.trans (c1.mono (Nat.le_succ_of_le (Nat.le_of_lt l1)))
  have s3 := Nat.le_trans s2 n1.size
  clear HN r0 r1 c1 n1 b2 s2
  go_wp2_with fail
  have HL := Lib.hid (Label_any (g + 1) (g + 1) _ 0 P w2 k1 s3)
  rw [W1.out] at HL
  refine HL.out.mono ?_
  rintro e w3 ⟨rfl, k2, n1⟩
  have c1 := n1.below (C := g + 1) (Nat.le_refl _) (Nat.le_refl _)
  have r0 := (rowAt_below c1 (Nat.lt_succ_of_lt l1)).trans q0
  have r1 := (rowAt_below c1 (Nat.lt_succ_self _)).trans q1
  have b2 := b3.trans (c1.mono (Nat.le_succ_of_le (Nat.le_of_lt l1)))
  have s2 := Nat.le_trans s3 n1.size
  clear HL q0 q1 c1 n1 b3 s3 k1
  have HD := Lib.hid (WDone_all _ _ _ _ w3 k2)
  rw [W3.out.1, W3.out.2] at HD
  clear k2
  go_wp2_with fail
  refine HD.out.mono ?_
  rintro e w4 ⟨rfl, c1⟩
  have q0 := rowAt_past c1 r0
  have q1 := rowAt_past c1 r1
  have hs := Nat.le_trans (Nat.le_trans (Nat.le_of_lt l1) (Nat.le_succ g)) s2
  have b3 := below_past b2 c1 hs
  have s3 := Nat.le_trans s2 c1.size
  clear HD c1 r0 r1 b2 s2 hs
  go_wp2_with fail
  try rw [ab_lab]
  refine (Hex_any _ _).mono ?_
  rintro e w5 ⟨rfl, c1⟩
  obtain ⟨X, hX⟩ : ∃ X : ByteArray, (⟨(hexTo (zeroLab.set 0 171) 32).toArray⟩ : ByteArray) = X := ⟨_, rfl⟩
  have hX1 : X.size = 64 := by rw [← hX]; show (hexTo (zeroLab.set 0 171) 32).toArray.size = 64; rw [List.size_toArray, hexTo_length]
  have hX2 : X.extract 0 2 = ⟨#[97, 98]⟩ := by
    rw [← hX]
    show (txt (hexTo (zeroLab.set 0 171) 32)).extract 0 2 = _
    apply ByteArray.ext
    rw [ByteArray.data_extract]
    apply Array.toList_inj.1
    have := ab_hex
    simp [this]
  rw [hX]
  have r0 := rowAt_past c1 q0
  have r1 := rowAt_past c1 q1
  have hs := Nat.le_trans (Nat.le_trans (Nat.le_of_lt l1) (Nat.le_succ g)) s3
  have b2 := below_past b3 c1 hs
  have s2 := Nat.le_trans s3 c1.size
  clear c1 q0 q1 b3 s3 hs hX
  go_wp2_with fail
  have HO := Lib.hid (Open_any (txt (numBytes m ++ P.l)) w5)
  rw [if_pos W4.out] at HO
  refine HO.out.mono ?_
  rintro e w6 ⟨rfl, k1, c1⟩
  have q0 := rowAt_past c1 r0
  have q1 := rowAt_past c1 r1
  have l2 : g < w5.heap.size := s2
  have hs := Nat.le_of_lt (Nat.lt_trans l1 l2)
  have b3 := below_past b2 c1 hs
  have s3 := c1.size
  clear HO c1 r0 r1 b2 s2 hs
  generalize w5.heap.size = h at *
  have HR := Lib.hid (RNumber_all h h _ _ w6 k1)
  rw [V1.out, V2.out, V3.out] at HR
  clear k1
  go_wp2_with fail
  refine HR.out.mono ?_
  rintro e w7 ⟨rfl, k1, n1⟩
  have c1 := n1.below (C := h) (Nat.le_refl _) (Nat.le_refl _)
  have r0 := (rowAt_below c1 (Nat.lt_trans l1 l2)).trans q0
  have r1 := (rowAt_below c1 l2).trans q1
  have b2 := b3.trans (c1.mono (Nat.le_of_lt (Nat.lt_trans l1 l2)))
  have s2 := Nat.le_trans s3 n1.size
  have HL := Lib.hid (RLabel_any h h _ _ w7 k1 s2)
  rw [U1.out, U2.out, U3.out] at HL
  clear HR c1 n1 q0 q1 b3 s3 k1
  go_wp2_with fail
  refine HL.out.mono ?_
  rintro e w8 ⟨rfl, k1, n1⟩
  have c1 := n1.below (C := h) (Nat.le_refl _) (Nat.le_refl _)
  have q0 := (rowAt_below c1 (Nat.lt_trans l1 l2)).trans r0
  have q1 := (rowAt_below c1 l2).trans r1
  have b3 := b2.trans (c1.mono (Nat.le_of_lt (Nat.lt_trans l1 l2)))
  have s3 := Nat.le_trans s2 n1.size
  have KR := Lib.hid k1
  clear HL c1 n1 r0 r1 b2 s2 k1
  go_wp2_with fail
  have a1 : Below w8.heap.size w8 (w8.alloc (.cells (cellsP m P) 26)) := (Below.refl _ _).alloc (Nat.le_refl _) _
  have r2 := rowAt_alloc_at w8 (cellsP m P) 26 _ rfl
  have r0 := rowAt_past a1 q0
  have r1 := rowAt_past a1 q1
  have hs := Nat.le_trans (Nat.le_of_lt (Nat.lt_trans l1 l2)) s3
  have b2 := below_past b3 a1 hs
  have s2 : w8.heap.size + 1 ≤ (w8.alloc (.cells (cellsP m P) 26)).heap.size := by simp only [World.size_alloc]; omega
  have HD := Lib.hid (RDone_any _ _ _ _ _ (KR.out.below a1))
  rw [if_neg (fun e => e.2 rfl)] at HD
  clear q0 q1 b3 a1 KR
  generalize w8.alloc (.cells (cellsP m P) 26) = W8 at *
  generalize w8.heap.size = k at *
  refine HD.out.mono ?_
  rintro e w9 ⟨rfl, c1⟩
  have q0 := rowAt_past c1 r0
  have q1 := rowAt_past c1 r1
  have q2 := rowAt_past c1 r2
  have b3 := below_past b2 c1 (Nat.le_trans hs (Nat.le_of_lt s2))
  have l3 : G ≤ k := hs
  have l5 : h ≤ k := ‹h ≤ k›
  have s3 := Nat.le_trans s2 c1.size
  clear HD c1 r0 r1 r2 b2 s2 hs
  go_wp2_with fail
  refine (Good_any _ _ _).mono ?_
  rintro e w10 ⟨rfl, c1⟩
  rw [HG.out]
  have r0 := rowAt_past c1 q0
  have r1 := rowAt_past c1 q1
  have r2 := rowAt_past c1 q2
  have b2 := below_past b3 c1 (Nat.le_trans l3 (Nat.le_of_lt s3))
  have s2 := Nat.le_trans s3 c1.size
  clear c1 q0 q1 q2 b3 s3
  go_wp2_with fail
  refine (Has_any _ _ _ _).mono ?_
  rintro e w11 ⟨rfl, c1⟩
  rw [HH.out]
  have q0 := rowAt_past c1 r0
  have q1 := rowAt_past c1 r1
  have q2 := rowAt_past c1 r2
  have b3 := below_past b2 c1 (Nat.le_trans l3 (Nat.le_of_lt s2))
  have s3 := Nat.le_trans s2 c1.size
  have d1 := (cell_of_rowAt q1 0).trans (get_cellsP0 _ _)
  clear c1 r0 r1 r2 b2 s2
  by_cases h1 : turn < (m : Int)
  · have h1' : decide (turn < (m : Int)) = true := decide_eq_true h1
    clear h1
    go_wp2_with fail
    go_ret
    exact ⟨rfl, by rw [HGG.out]; exact b3⟩
  · have h1' : decide (turn < (m : Int)) = false := decide_eq_false h1
    by_cases h2 : 255 < turn
    · have h2' : decide (255 < turn) = true := decide_eq_true h2
      clear h1 h2
      go_wp2_with fail
      go_ret
      exact ⟨rfl, by rw [HGG.out]; exact b3⟩
    · have h2' : decide (255 < turn) = false := decide_eq_false h2
      obtain ⟨c, r, hc8, hr8, ht⟩ : ∃ c r : Nat, c < 32 ∧ r < 8 ∧ turn = 8 * (c : Int) + r := ⟨(turn / 8).toNat, (turn % 8).toNat, by omega, by omega, by omega⟩
      have hbad := flipB_bad l m c r hc8 hr8 (by omega)
      rw [HP.out] at hbad
      have HB := Lib.hid hbad
      have HB2 := Lib.hid (has_good _ _ l hbad)
      have e1 : turn / 8 = (c : Int) := by omega
      have e2 : turn % 8 = (r : Int) := by omega
      have ht0 : 0 ≤ turn := by omega
      have k1 : (c : Int) < 32 := by omega
      have c1 := (cell_of_rowAt q2 (1 + c)).trans (get_cellsP _ P c hc8)
      have z1 := frozen_of_rowAt q2 (1 + c)
      have hx := (P.get c).toNat_lt
      clear h1 h2 hbad ht
      go_wp2_with fail
      go_region
      obtain ⟨hs1, hs2⟩ := shr_128 ⟨r, hr8⟩
      rw [hs1, xor_u8 _ _ hx hs2]
      have hv : ((P.get c).toNat ^^^ 2 ^ (7 - r)) < 256 := Nat.xor_lt_two_pow (n := 8) hx hs2
      have t2 := rowAt_setCell_same q2 (1 + c) (.int .u8 ((P.get c).toNat ^^^ 2 ^ (7 - r) : Nat))
      rw [set_cellsP (m : Int) P c _ (by omega) (by omega), Int.toNat_natCast] at t2
      have t3 : rowAt (w11.setCell ⟨k, 1 + c, none⟩ (.int .u8 ((P.get c).toNat ^^^ 2 ^ (7 - r) : Nat))).drew k = some (cellsP m (flipB P c r)) := t2
      have l4 : G ≠ k := Nat.ne_of_lt (Nat.lt_of_lt_of_le (Nat.lt_trans l1 l2) l5)
      have t0 : rowAt (w11.setCell ⟨k, 1 + c, none⟩ (.int .u8 ((P.get c).toNat ^^^ 2 ^ (7 - r) : Nat))).drew G = some (cellsL l) := (rowAt_setCell_other w11 ⟨k, 1 + c, none⟩ G (.int .u8 ((P.get c).toNat ^^^ 2 ^ (7 - r) : Nat)) l4).trans q0
      have b4 : Below G w (w11.setCell ⟨k, 1 + c, none⟩ (.int .u8 ((P.get c).toNat ^^^ 2 ^ (7 - r) : Nat))).drew := (Below.setCell b3 l3 _).drew
      have s4 : G ≤ (w11.setCell ⟨k, 1 + c, none⟩ (.int .u8 ((P.get c).toNat ^^^ 2 ^ (7 - r) : Nat))).drew.heap.size := Nat.le_trans (Nat.le_trans l3 (Nat.le_of_lt s3)) (by simp [World.setCell, World.drew])
      clear hs1 hs2 hv t2 q0 q1 q2 b3 c1 z1 d1
      generalize (w11.setCell ⟨k, 1 + c, none⟩ (.int .u8 ((P.get c).toNat ^^^ 2 ^ (7 - r) : Nat))).drew = W9 at *
      generalize flipB P c r = F at *
      go_wp2_with fail
      refine (Good_any _ _ _).mono ?_
      rintro e w12 ⟨rfl, c1⟩
      rw [HB.out]
      have q0 := rowAt_past c1 t0
      have q2 := rowAt_past c1 t3
      have b5 := below_past b4 c1 s4
      have s5 := Nat.le_trans s4 c1.size
      clear c1 t0 t3 b4 s4
      go_wp2_with fail
      refine (Has_any _ _ _ _).mono ?_
      rintro e w13 ⟨rfl, c1⟩
      rw [HB2.out]
      have b6 := below_past b5 c1 s5
      clear c1 q0 q2 b5 s5
      go_wp2_with fail
      go_ret
      exact ⟨rfl, by rw [HGG.out]; exact b6⟩

set_option maxRecDepth 100000 in
theorem lifted (os : Os) (started : os.Started) (H : Type) (enc : TypeId × Value → H) :
    ReturnsInHanded {} Try.checked os 10 .any (Rows.chirographSpelledSpec.pre6 enc Try.prog Try.f10 Rows.chirographSpelledRow.domain false) (Rows.chirographSpelledSpec.post enc Try.prog Try.f10 false true false false) := by
  refine returnsInHanded_of_change (C := Try.checked) own started (by kernel_rfl) Try.func10
    (ChangeSpec.witness6 (enc := enc) (C := Try.checked) false ⟨#[], #[.agg (cellsL zeroLab), .int .i64 0, .int .i64 0], []⟩ 8 (by kernel_rfl) (by kernel_rfl) (by kernel_rfl) (by kernel_rfl)) ?_
  intro W base args ds gs before hval0 hW _ _
  have hval : ∀ (j : Nat) t v, Try.f10.params[j]? = some t → args[j]? = some v → Value.okWide Try.prog W .any base t v := hval0
  clear hval0
  have hW' := hW
  obtain ⟨p, q, hA0, hV, rfl, hfz, hnd⟩ := hW
  have hA : DataW.TrodAll enc Try.prog W 0 (fun _ => true) true Try.f10.params.toList args.toList ds p := hA0
  rw [Try.params10] at hA hval
  clear hA0 hfz hnd hV
  have hr : Readable Try.f10.params.toList := by
    rw [Try.params10]
    exact readable_of_all (by kernel_rfl)
  have fin : ∀ W', Below W.heap.size W W' → Rows.chirographSpelledSpec.post enc Try.prog Try.f10 false true false false W args (.bool true) W' := fun W' hb =>
    law_post rfl hW' hr (fun l hl => by
      rw [Try.params10] at hl
      match l, hl with
      | [d1, d2, d3], _ => rfl) (by kernel_rfl) hb
  clear hW' hr
  obtain ⟨v0, v1, v2, d0, d1, d2, p0, p1, p2, rfl, rfl, rfl, h0, h1, h2⟩ := trodAll_three hA; obtain ⟨a, rfl⟩ := open_lab Try.underlying23 Try.underlying5 cellsOf_u8 cellsOf_lab (hval 0 23 v0 rfl rfl) h0; obtain ⟨n, rfl, _, _, w1⟩ := open_int Try.underlying3 (hval 1 3 v1 rfl rfl) h1; obtain ⟨k, rfl, _, _, w2⟩ := open_int Try.underlying3 (hval 2 3 v2 rfl rfl) h2
  exact (walk a n k W).mono fun e W' ⟨he, hb⟩ => ⟨_, he, fin W' hb⟩
theorem proved : Rows.ChirographSpelledSaid :=
  OpenClaim.holds_of_wide 10 Try.f10 rfl rfl rfl rfl rfl rfl rfl ⟨rfl, rfl, rfl, rfl, rfl⟩ rfl rfl rfl rfl rfl (by kernel_rfl) Try.func10 (by kernel_rfl)
    (of_decide_eq_true (by kernel_rfl)) (by unfold Func.isWrapper; first | (rw [if_pos (by decide +kernel)]; kernel_rfl) | (rw [if_neg (by decide +kernel)]; exact ⟨rfl, rfl⟩))
    (fun os started H enc _ => lifted os started H enc)
end Go.Proofs.Ytojmpbbagfgleaa.spelled
