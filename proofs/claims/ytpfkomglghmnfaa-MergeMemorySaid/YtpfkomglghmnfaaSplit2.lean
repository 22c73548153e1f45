/- Copies of lists of entries as one; a list split in lists. Conditions: none. -/
import Derived.Test.YtpfkomglghmnfaaSplit1
import Derived.Test.YtpfkomglghmnfaaMerge4
import Derived.Test.YtpfkomglghmnfaaMIn
import Derived.Test.YtpfkomglghmnfaaMerge7
namespace Go.Proofs.Ytpfkomglghmnfaa
open Go Go.RowKit
attribute [local go_sem] Oper.semAt_some

theorem flat_take (ls : List (List Ent)) (j : Nat) (l : List Ent) (h : ls[j]? = some l) : (ls.take (j + 1)).flatten = (ls.take j).flatten ++ l := by
  rw [List.take_add_one, h]
  simp
theorem flat_len (ls : List (List Ent)) : ls.flatten.length = sumE ls := by
  unfold sumE
  rw [List.length_flatten]
set_option maxRecDepth 100000 in
set_option maxHeartbeats 2000000 in
theorem mOwned_any (v : Value) (ls : List (List Ent)) (w : World) (h : EntssAt w v ls) (hn : ls.length ≤ 1000000) (hs : sumE ls ≤ 1000000) (hsm : ∀ l ∈ ls, ∀ x ∈ l, smallE x) :
    Calls Try.prog 26 #[v] w fun e w' => ∃ v', e = .returned v' ∧ OwnEnts w' w.heap.size v' ls.flatten ∧ Below w.heap.size w w' := by
  obtain ⟨A, cap, rfl, _, _, h3⟩ := h
  have H3 := Lib.hid h3
  have HSM := Lib.hid hsm
  have HSU := Lib.hid hs
  obtain ⟨n, hnn⟩ : ∃ n, ls.length = n := ⟨_, rfl⟩
  rw [hnn] at hn ⊢
  have HN := Lib.hid hnn
  have hni : (n : Int) ≤ 1000000 := by omega
  clear h3 hsm hs hnn
  go_enter Try.func26, Try.ntmps26
  go_wp2_with fail
  generalize hB : w.heap.size = B at *
  have HB := Lib.hid hB
  have o0 := ownEnts_nil w B
  have b0 : Below B w w := Below.refl _ _
  clear hB
  go_loopw [3, 10] (fun al ix wr => ∃ j : Nat, j ≤ n ∧ ix = .int .i64 j ∧ OwnEnts wr B al (ls.take j).flatten ∧ Below B w wr) (fun _ ix _ => (n - intOf ix).toNat)
  case atStart => exact ⟨0, Nat.zero_le _, rfl, o0, b0⟩
  case round =>
    obtain ⟨j, hj, rfl, ow, b1⟩ := hrel
    clear o0 b0
    by_cases hlt : j < n
    · have hlt' : (j : Int) < n := by omega
      obtain ⟨l, hl⟩ : ∃ l, ls[j]? = some l := ⟨_, List.getElem?_eq_getElem (by rw [HN.out]; exact hlt)⟩
      obtain ⟨g, o, u, rfl, hc, he⟩ := H3.out j l hl
      have cc := (b1.cell (p := ⟨g, o + j, none⟩) (by rw [← HB.out]; exact cellLt hc)).trans hc
      have HF : Hid ((ls.take (j + 1)).flatten = (ls.take j).flatten ++ l) := Lib.hid (flat_take ls j l hl)
      have hlm := List.mem_of_getElem? hl
      have HSX : Hid (∀ x ∈ l, smallE x) := Lib.hid (HSM.out l hlm)
      have HLB : Hid ((ls.take j).flatten.length + l.length ≤ 1000000) := Lib.hid (by
        have h1 := flat_len (ls.take (j + 1))
        have h2 := sumE_split (j + 1) ls
        have h4 := HSU.out
        rw [HF.out, List.length_append] at h1
        omega)
      obtain ⟨A2, c2, rfl, _, _, h4⟩ := he
      have H4 := Lib.hid h4
      obtain ⟨m, hm⟩ : ∃ m, l.length = m := ⟨_, rfl⟩
      have HM := Lib.hid hm
      rw [hm] at cc
      have hml : m ≤ 1000000 := by have := HLB.out; omega
      have hmi : (m : Int) ≤ 1000000 := by omega
      clear hc h4 hl hlm hm
      generalize hL0 : (ls.take j).flatten = L0 at *
      clear hL0
      have OW : OwnEnts wr B u3 (L0 ++ l.take 0) := by rw [List.take_zero, List.append_nil]; exact ow
      clear ow
      go_wp2_with fail
      go_loopw [3, 16] (fun al ix wr => ∃ i : Nat, i ≤ m ∧ ix = .int .i64 i ∧ OwnEnts wr B al (L0 ++ l.take i) ∧ Below B w wr) (fun _ ix _ => (m - intOf ix).toNat)
      case atStart => exact ⟨0, Nat.zero_le _, rfl, OW, b1⟩
      case round =>
        obtain ⟨i, hi, rfl, ow, b2⟩ := hrel
        clear OW b1 cc
        have hBr : B ≤ wr.heap.size := by have := b2.size; rw [HB.out] at this; exact this
        by_cases hlt2 : i < m
        · have hlt2' : (i : Int) < m := by omega
          obtain ⟨x, hx⟩ : ∃ x, l[i]? = some x := ⟨_, List.getElem?_eq_getElem (by rw [HM.out]; exact hlt2)⟩
          obtain ⟨g2, o2, rfl, hat⟩ := H4.out i x hx
          have hat2 := hat.below (by rw [HB.out]; exact b2)
          have hsx := HSX.out x (List.mem_of_getElem? hx)
          have HK : Hid (L0 ++ l.take (i + 1) = (L0 ++ l.take i) ++ [x]) := Lib.hid (by rw [List.take_add_one, hx, List.append_assoc]; rfl)
          have hlen : (L0 ++ l.take i).length ≤ 1000000 := by
            have := HLB.out
            rw [List.length_append, List.length_take]
            omega
          obtain ⟨k, vl, gn⟩ := x
          obtain ⟨c0, c1, c2⟩ := hat2
          have HO : ∀ W, Hid (Calls Try.prog 19 #[.agg #[.string (stx k), .string (stx vl), .bool gn]] W fun e w' => e = .returned (.agg #[.string (stx k), .string (stx vl), .bool gn]) ∧ Below W.heap.size W w') := fun W => Lib.hid (mOwn_any ⟨k, vl, gn⟩ W hsx.1 hsx.2)
          have b3 := b2.alloc hBr (.cells #[.string (stx k), .string (stx vl), .bool gn] 28)
          have ow2 : OwnEnts (wr.alloc (.cells #[.string (stx k), .string (stx vl), .bool gn] 28)) B _ (L0 ++ l.take i) := World.ownsRow.alloc ow _
          have hz2 : B ≤ (wr.alloc (.cells #[.string (stx k), .string (stx vl), .bool gn] 28)).heap.size := Nat.le_trans hBr (by simp)
          clear hat hx hsx b2 ow
          generalize L0 ++ l.take i = L at *
          go_wp2_with fail
          refine (HO _).out.mono ?_
          rintro e w4 ⟨rfl, b4⟩
          have ow4 := ow2.below b4
          have b4' := below_past b3 b4 hz2
          have hz4 : B ≤ w4.heap.size := Nat.le_trans hz2 b4.size
          clear b4 ow2 b3 c0 c1 c2 HO
          have hwz : w4.heap.size ≤ (w4.alloc (.cells #[.string (stx k), .string (stx vl), .bool gn] 28)).heap.size := by simp
          have ow5 : OwnEnts (w4.alloc (.cells #[.string (stx k), .string (stx vl), .bool gn] 28)) B _ L := World.ownsRow.alloc ow4 _
          have hc5 := entAt_new w4 ⟨k, vl, gn⟩ w4.heap.size rfl
          have bb5 := Below.alloc b4' hz4 (.cells #[.string (stx k), .string (stx vl), .bool gn] 28)
          go_wp2_with (at_builtin; refine wpList_put_ent rfl _ _ rfl B _ L rfl ow5 ⟨k, vl, gn⟩ w4.heap.size 1 rfl hc5 (Nat.le_trans hz4 hwz) hlen ?_)
          intro v5 w5 hown5 hgrow5 _
          have b5 := ow5.grown hgrow5 bb5 (Nat.le_trans hz4 hwz)
          clear hgrow5 hc5 ow5 bb5 hwz
          go_wp2_with fail
          exact ⟨⟨i + 1, hlt2, by go_num, by rw [HK.out]; exact hown5, b5⟩, by simp [intOf]; omega⟩
        · obtain rfl : i = m := by omega
          rw [List.take_of_length_le (by rw [HM.out]; exact Nat.le_refl _), ← HF.out] at ow
          go_wp2_with fail
          exact ⟨⟨j + 1, hlt, by go_num, ow, b2⟩, by simp [intOf]; omega⟩
    · obtain rfl : j = n := by omega
      rw [List.take_of_length_le (by rw [HN.out]; exact Nat.le_refl _)] at ow
      go_wp2_with fail
      go_ret
      exact ⟨_, rfl, by rw [HB.out]; exact ow, by rw [HB.out]; exact b1⟩
end Go.Proofs.Ytpfkomglghmnfaa
