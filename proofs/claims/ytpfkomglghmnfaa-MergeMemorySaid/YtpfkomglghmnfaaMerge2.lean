/- Two lists of entries as one. Conditions: none. -/
import Derived.Test.YtpfkomglghmnfaaEnts2
import Derived.Test.YtpfkomglghmnfaaQuiet
import Derived.Deep.QuietTactic
import Derived.BigQuiet
import Derived.OwnWalk
namespace Go.Proofs.Ytpfkomglghmnfaa
open Go Go.RowKit

set_option maxRecDepth 100000 in
set_option maxHeartbeats 2000000 in
theorem mTwo_any (nv ov : Value) (ns os : List Ent) (w : World) (hn : EntsAt w nv ns) (ho : EntsAt w ov os) (hl : ns.length + os.length ≤ 1000000) :
    Calls Try.prog 36 #[nv, ov] w fun e w' => ∃ v', e = .returned v' ∧ OwnEnts w' w.heap.size v' (twoE ns os) ∧ Below w.heap.size w w' := by
  obtain ⟨A, c1, rfl, n1, n2, n3⟩ := id hn
  obtain ⟨A', c2, rfl, o1, o2, o3⟩ := id ho
  obtain ⟨i0, hi, hz0, hz1, hz2⟩ := info_ent
  have HN := Lib.hid hn
  have HO := Lib.hid ho
  have HL : Hid (twoE ns os = twoE ns os) := Lib.hid rfl
  obtain ⟨T, hT⟩ : ∃ T, twoE ns os = T := ⟨_, rfl⟩
  have HT := Lib.hid hT
  have HLL := Lib.hid hl
  obtain ⟨a, ha⟩ : ∃ a, ns.length = a := ⟨_, rfl⟩
  obtain ⟨b, hb⟩ : ∃ b, os.length = b := ⟨_, rfl⟩
  rw [ha, hb] at hl
  rw [ha, hb, hT]
  have HA := Lib.hid ha
  have HB := Lib.hid hb
  clear hn ho HL hT ha hb n1 n2 n3 o1 o2 o3
  go_enter Try.func36, Try.ntmps36
  go_wp2_with (at_make; refine wpList_make_own _ rfl _ _ 22 rfl w.heap.size 28 i0 _ 3 Try.underlying22 hi hz0 hz1 _ _ _ (a + b) rfl rfl ?hC ?bytes ?most (Nat.le_refl _) ?_)
  case hC => simp
  case bytes => rw [hz2]; omega
  case most => unfold maxLen; omega
  intro w1 hown hgrow
  have b0 : Below w.heap.size w w1 := (Below.refl _ _).grown hgrow (Nat.le_refl _) (fun k hk => by cases hk)
  go_wp2_with fail
  generalize hgB : w.heap.size = B at *
  have HBB := Lib.hid hgB
  have s0 : OwnEnts w1 B (.slice (some ⟨B, 0, none⟩) 0 (a + b)) [] := hown
  clear hgB hown hgrow
  go_loopw [0, 1, 5] (fun nx ox al wr => ∃ (xs ys L : List Ent), EntsAt w nx xs ∧ EntsAt w ox ys ∧ OwnEnts wr B al L ∧ Below B w wr ∧ Hid (L ++ twoE xs ys = T) ∧ L.length + xs.length + ys.length ≤ a + b) (fun nx ox _ _ => lenV nx + lenV ox)
  case atStart => exact ⟨ns, os, [], by rw [← HA.out]; exact HN.out, by rw [← HB.out]; exact HO.out, s0, b0, HT, by rw [HA.out, HB.out]; show 0 + a + b ≤ a + b; omega⟩
  case round =>
    obtain ⟨xs, ys, L, hx, hy, hL, b1, HLT, hll⟩ := hrel
    clear s0 b0 HT HN HO
    obtain ⟨A1, k1, rfl, x1, x2, x3⟩ := id hx
    obtain ⟨A2, k2, rfl, y1, y2, y3⟩ := id hy
    have hBr : B ≤ wr.heap.size := by have := b1.size; rw [HBB.out] at this; exact this
    cases xs with
    | nil =>
      have HF : Hid (L ++ ys = T) := Lib.hid (by rw [← HLT.out, twoE])
      have hlen1 : ([] : List Ent).length ≤ 1000000 := Nat.zero_le _
      have hlen2 : ys.length ≤ 1000000 := by omega
      clear x1 x2 x3 y1 y2 y3 HLT
      have HX := Lib.hid (hx.below (by rw [HBB.out]; exact b1))
      have HY := Lib.hid hy
      have HLO := Lib.hid hL
      have B1 := Lib.hid b1
      have hlen : L.length ≤ 1000000 := by omega
      clear hx hy hL b1
      try simp only [List.length_nil]
      try simp only [List.length_cons]
      go_wp2_with (at_builtin; refine wpList_put_ents rfl _ _ rfl B _ L rfl HLO.out _ [] rfl HX.out hBr hlen hlen1 ?_)
      intro v2 w2 hown2 hgrow2 _
      have b2 := HLO.out.grown hgrow2 B1.out hBr
      have HY2 := Lib.hid (HY.out.below (by rw [HBB.out]; exact b2))
      have hB2 : B ≤ w2.heap.size := Nat.le_trans hBr hgrow2.size
      have hlen3 : L.length ≤ 1000000 := by first | exact hlen | (rw [List.length_append]; omega)
      clear hgrow2 HY
      go_wp2_with (at_builtin; refine wpList_put_ents rfl _ _ rfl B _ L rfl hown2 _ ys rfl HY2.out hB2 hlen3 hlen2 ?_)
      intro v3 w3 hown3 hgrow3 _
      have b3 := hown2.grown hgrow3 b2 hB2
      have hown4 : OwnEnts w3 B v3 T := by rw [← HF.out]; simpa using hown3
      clear hown3
      clear hgrow3 HY2 hown2 b2 HF
      go_wp2_with fail
      go_ret
      exact ⟨_, rfl, by rw [HBB.out]; exact hown4, by rw [HBB.out]; exact b3⟩
    | cons x xs =>
      cases ys with
      | nil =>
        have HF : Hid (L ++ (x :: xs) = T) := Lib.hid (by rw [← HLT.out, twoE])
        have hlen1 : (x :: xs).length ≤ 1000000 := by omega
        have hlen2 : ([] : List Ent).length ≤ 1000000 := Nat.zero_le _
        have hp1 : decide ((0 : Int) < (xs.length : Int) + 1) = true := decide_eq_true (by omega)
        clear x1 x2 x3 y1 y2 y3 HLT
        have HX := Lib.hid (hx.below (by rw [HBB.out]; exact b1))
        have HY := Lib.hid hy
        have HLO := Lib.hid hL
        have B1 := Lib.hid b1
        have hlen : L.length ≤ 1000000 := by omega
        clear hx hy hL b1
        try simp only [List.length_nil]
        try simp only [List.length_cons]
        go_wp2_with (at_builtin; refine wpList_put_ents rfl _ _ rfl B _ L rfl HLO.out _ (x :: xs) rfl HX.out hBr hlen hlen1 ?_)
        intro v2 w2 hown2 hgrow2 _
        have b2 := HLO.out.grown hgrow2 B1.out hBr
        have HY2 := Lib.hid (HY.out.below (by rw [HBB.out]; exact b2))
        have hB2 : B ≤ w2.heap.size := Nat.le_trans hBr hgrow2.size
        have hlen3 : (L ++ x :: xs).length ≤ 1000000 := by first | exact hlen | (rw [List.length_append]; omega)
        clear hgrow2 HY
        go_wp2_with (at_builtin; refine wpList_put_ents rfl _ _ rfl B _ (L ++ x :: xs) rfl hown2 _ [] rfl HY2.out hB2 hlen3 hlen2 ?_)
        intro v3 w3 hown3 hgrow3 _
        have b3 := hown2.grown hgrow3 b2 hB2
        have hown4 : OwnEnts w3 B v3 T := by rw [← HF.out]; simpa using hown3
        clear hown3
        clear hgrow3 HY2 hown2 b2 HF
        go_wp2_with fail
        go_ret
        exact ⟨_, rfl, by rw [HBB.out]; exact hown4, by rw [HBB.out]; exact b3⟩
      | cons y ys =>
        obtain ⟨g1, p1, rfl, e1⟩ := x3 0 x rfl
        obtain ⟨g2, p2, rfl, e2⟩ := y3 0 y rfl
        have hxd := hx.tail
        have hyd := hy.tail
        obtain ⟨A3, hA3⟩ : ∃ A3, (if k1 = 1 then some (⟨g1, p1, none⟩ : Addr) else some ⟨g1, p1 + 3, none⟩) = A3 := ⟨_, rfl⟩
        obtain ⟨A4, hA4⟩ : ∃ A4, (if k2 = 1 then some (⟨g2, p2, none⟩ : Addr) else some ⟨g2, p2 + 3, none⟩) = A4 := ⟨_, rfl⟩
        rw [hA3] at hxd
        rw [hA4] at hyd
        rw [List.length_cons] at x1 hll
        rw [List.length_cons] at y1 hll
        have E1 := e1.below (by rw [HBB.out]; exact b1)
        have E2 := e2.below (by rw [HBB.out]; exact b1)
        rw [Nat.zero_mul, Nat.add_zero] at E1 E2
        have HX := Lib.hid hx
        have HY := Lib.hid hy
        have HXD := Lib.hid hxd
        have HYD := Lib.hid hyd
        have hx1 : (1 : Int) ≤ (xs.length : Int) + 1 := by omega
        have hy1 : (1 : Int) ≤ (ys.length : Int) + 1 := by omega
        have hlen : L.length ≤ 1000000 := by omega
        have hp1 : decide ((0 : Int) < (xs.length : Int) + 1) = true := decide_eq_true (by omega)
        have hq1 : decide ((0 : Int) < (ys.length : Int) + 1) = true := decide_eq_true (by omega)
        clear x3 y3 e1 e2 hx hy hxd hyd
        rw [List.length_cons, List.length_cons]
        go_wp2_with fail
        have z1 : ∀ q : Past wr, q.w.cell? ⟨g1, p1, none⟩ = some (.string (stx x.key)) := fun q => (q.h.cell (p := ⟨g1, p1, none⟩) E1.lt).trans E1.1
        have z2 : ∀ q : Past wr, q.w.cell? ⟨g2, p2, none⟩ = some (.string (stx y.key)) := fun q => (q.h.cell (p := ⟨g2, p2, none⟩) E2.lt).trans E2.1
        have HC : ∀ W, Hid (Calls Try.prog 41 #[.string (stx x.key), .string (stx y.key)] W fun e w' => e = .returned (.int .i64 (Lib.compareBytes x.key y.key)) ∧ w' = W) := fun W => Lib.hid (Try.strings_Compare (stx x.key) (stx y.key) W)
        generalize hR : Lib.compareBytes x.key y.key = R at *
        have HR := Lib.hid hR
        clear hR
        refine wp_region_past (by kernel_rfl) (by kernel_rfl) ?_
        repeat (go_big_quiet_step ((go_at_call 41; exact Past.call_same (HC _).out)))
        refine wpQuiet_nil ?_
        intro w2 hw2
        obtain ⟨⟨wn, hn⟩, rfl⟩ := hw2
        try dsimp only
        have L2 := hL.below hn
        have b2 := below_past b1 hn hBr
        have E1' := E1.below hn
        have E2' := E2.below hn
        have hB2 : B ≤ w2.heap.size := Nat.le_trans hBr hn.size
        clear z1 z2 HC hL b1 hn hBr E1 E2
        have hll1 : (L ++ [x]).length + xs.length + (y :: ys).length ≤ a + b := by simp; omega
        have hll2 : (L ++ [y]).length + (x :: xs).length + ys.length ≤ a + b := by simp; omega
        have hll3 : L.length + (x :: xs).length + ys.length ≤ a + b := by simp; omega
        by_cases hlt : x.key < y.key
        · have HT2 : Hid ((L ++ [x]) ++ twoE xs (y :: ys) = T) := Lib.hid (by rw [← HLT.out, twoE, if_pos hlt, List.append_assoc]; rfl)
          obtain rfl : R = -1 := HR.out ▸ cmp_lt hlt
          clear hlt HR HLT hll2 hll3
          have hown0 := World.ownsRow.alloc (w := w2.drew) L2 (.cells #[.string (stx x.key), .string (stx x.val), .bool x.gone] 28)
          have hcell0 := entAt_new w2.drew x w2.heap.size rfl
          have c0 := E1'.1
          have c1 := E1'.2.1
          have c2 := E1'.2.2
          have hBz : B ≤ w2.heap.size + 1 := Nat.le_succ_of_le hB2
          have B2 := Lib.hid b2
          have hb2 : Below B w (w2.drew.alloc (.cells #[.string (stx x.key), .string (stx x.val), .bool x.gone] 28)) := b2.drew.alloc hB2 _
          have HB2 := Lib.hid hb2
          clear b2 hb2
          go_wp2_with fail
          go_region_law ((refine step_put_ent rfl (.tmp 35) (.tmp 39) (by rfl) B _ L (by rfl) hown0 x w2.heap.size 1 (by rfl) hcell0 (by first | exact hBz | (simp; omega)) hlen ?_; intro g' c' w3 hown3 hgrow3))
          have hb3 := OwnEnts.grown' hown0 hgrow3 HB2.out (Nat.le_trans hB2 (by simp))
          go_simp
          go_roundw
          case rel => (repeat apply Exists.intro); exact ⟨⟨xs, y :: ys, L ++ [x], HXD.out, HY.out, hown3, hb3, HT2, hll1⟩, rfl⟩
          case measure => simp [lenV]
        · by_cases hgt : y.key < x.key
          · have HT2 : Hid ((L ++ [y]) ++ twoE (x :: xs) ys = T) := Lib.hid (by rw [← HLT.out, twoE, if_neg hlt, if_pos hgt, List.append_assoc]; rfl)
            obtain rfl : R = 1 := HR.out ▸ cmp_gt hgt
            clear hlt hgt HR HLT hll1 hll3
            have hown0 := World.ownsRow.alloc (w := w2.drew) L2 (.cells #[.string (stx y.key), .string (stx y.val), .bool y.gone] 28)
            have hcell0 := entAt_new w2.drew y w2.heap.size rfl
            have c0 := E2'.1
            have c1 := E2'.2.1
            have c2 := E2'.2.2
            have hBz : B ≤ w2.heap.size + 1 := Nat.le_succ_of_le hB2
            have B2 := Lib.hid b2
            have hb2 : Below B w (w2.drew.alloc (.cells #[.string (stx y.key), .string (stx y.val), .bool y.gone] 28)) := b2.drew.alloc hB2 _
            have HB2 := Lib.hid hb2
            clear b2 hb2
            go_wp2_with fail
            go_region_law ((refine step_put_ent rfl (.tmp 46) (.tmp 50) (by rfl) B _ L (by rfl) hown0 y w2.heap.size 1 (by rfl) hcell0 (by first | exact hBz | (simp; omega)) hlen ?_; intro g' c' w3 hown3 hgrow3))
            have hb3 := OwnEnts.grown' hown0 hgrow3 HB2.out (Nat.le_trans hB2 (by simp))
            go_simp
            go_roundw
            case rel => (repeat apply Exists.intro); exact ⟨⟨x :: xs, ys, L ++ [y], HX.out, HYD.out, hown3, hb3, HT2, hll2⟩, rfl⟩
            case measure => simp [lenV]
          · have HT2 : Hid (L ++ twoE (x :: xs) ys = T) := Lib.hid (by rw [← HLT.out, twoE, if_neg hlt, if_neg hgt])
            have hkk : x.key = y.key := by
              by_cases q : x.key = y.key
              · exact q
              · exact absurd (klt_of hlt q) hgt
            obtain rfl : R = 0 := HR.out ▸ (hkk ▸ cmp_eq x.key)
            clear hlt hgt HR HLT hll1 hll2 hkk
            go_wp2_with fail
            exact ⟨⟨x :: xs, ys, L, HX.out, HYD.out, L2, b2, HT2, hll3⟩, by simp [lenV]⟩
end Go.Proofs.Ytpfkomglghmnfaa
