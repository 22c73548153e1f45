/- Lists of entries as one, without what may go. Conditions: none. -/
import Derived.Test.YtpfkomglghmnfaaMerge3
import Derived.Test.YtpfkomglghmnfaaMerge1
namespace Go.Proofs.Ytpfkomglghmnfaa
open Go Go.RowKit

theorem keptE_take (d : Bool) (M : List Ent) (i : Nat) (x : Ent) (h : M[i]? = some x) : keptE d (M.take (i + 1)) = keptE d (M.take i) ++ (if !d || !x.gone then [x] else []) := by
  unfold keptE
  rw [List.take_add_one, h, List.filter_append]
  cases hp : (!d || !x.gone) <;> simp [hp]
def smallE (x : Ent) : Prop := x.key.length ≤ 281474976710656 ∧ x.val.length ≤ 281474976710656
set_option maxRecDepth 100000 in
set_option maxHeartbeats 2000000 in
theorem mLists_any (v : Value) (ls : List (List Ent)) (d : Bool) (w : World) (h : EntssAt w v ls) (hr : ∀ l ∈ ls, rising l) (hs : sumE ls ≤ 1000000) (hn : ls.length ≤ 1000000) (hsm : ∀ l ∈ ls, ∀ x ∈ l, smallE x) :
    Calls Try.prog 17 #[v, .bool d] w fun e w' => ∃ v', e = .returned v' ∧ OwnEnts w' w.heap.size v' (keptE d (mergeE ls)) ∧ Below w.heap.size w w' := by
  have HJ := Lib.hid (mJoin_any ls.length v ls w rfl h hr hs hn)
  have HM : Hid (∀ x ∈ mergeE ls, smallE x) := Lib.hid (fun x hx => by
    obtain ⟨l, hl, hxl⟩ := mergeE_mem hx
    exact hsm l hl x hxl)
  have HN : Hid ((mergeE ls).length ≤ 1000000) := Lib.hid (Nat.le_trans (mergeE_length ls) hs)
  clear h hr hs hn hsm
  generalize mergeE ls = M at *
  go_enter Try.func17, Try.ntmps17
  go_wp2_with fail
  refine HJ.out.mono ?_
  rintro e w1 ⟨v1, rfl, e1, b1⟩
  obtain ⟨A, cap, rfl, h1, h2, h3⟩ := e1
  have H3 := Lib.hid h3
  have B1 := Lib.hid b1
  obtain ⟨n, hn⟩ : ∃ n, M.length = n := ⟨_, rfl⟩
  have hnn : n ≤ 1000000 := by rw [← hn]; exact HN.out
  have hnn2 : (n : Int) ≤ 1000000 := by omega
  rw [hn]
  have HNL := Lib.hid hn
  have hz1 := b1.size
  clear h3 b1 hn HJ HN h1 h2
  generalize hB : w1.heap.size = B at *
  have HB := Lib.hid hB
  have s0 : Below B w1 w1 := Below.refl _ _
  clear hB
  go_wp2_with fail
  go_loopw [5, 11] (fun al ix wr => ∃ (i : Nat) (L : List Ent), i ≤ n ∧ ix = .int .i64 i ∧ OwnEnts wr B al L ∧ Below B w1 wr ∧ Hid (keptE d (M.take i) = L)) (fun _ ix _ => (n - intOf ix).toNat)
  case atStart => exact ⟨0, [], Nat.zero_le _, rfl, ownEnts_nil _ _, s0, Lib.hid rfl⟩
  case round =>
    obtain ⟨i, L, hi, rfl, ow, b0, HK⟩ := hrel
    clear s0
    have hBr : B ≤ wr.heap.size := by have := b0.size; rw [HB.out] at this; exact this
    by_cases hlt : i < n
    · have hlt' : (i : Int) < n := by omega
      obtain ⟨x, hx⟩ : ∃ x, M[i]? = some x := ⟨_, List.getElem?_eq_getElem (by rw [HNL.out]; exact hlt)⟩
      obtain ⟨g, o, rfl, hat⟩ := H3.out i x hx
      have hat2 := hat.below (by rw [HB.out]; exact b0)
      have hsx := HM.out x (List.mem_of_getElem? hx)
      have hk := keptE_take d M i x hx
      rw [HK.out] at hk
      have hlen : L.length ≤ 1000000 := by
        rw [← HK.out]
        refine Nat.le_trans (List.length_filter_le _ _) ?_
        rw [List.length_take]
        omega
      obtain ⟨k, vl, gn⟩ := x
      obtain ⟨c0, c1, c2⟩ := hat2
      have HO : ∀ W, Hid (Calls Try.prog 19 #[.agg #[.string (stx k), .string (stx vl), .bool gn]] W fun e w' => e = .returned (.agg #[.string (stx k), .string (stx vl), .bool gn]) ∧ Below W.heap.size W w') := fun W => Lib.hid (mOwn_any ⟨k, vl, gn⟩ W hsx.1 hsx.2)
      have b2 := b0.alloc hBr (.cells #[.string (stx k), .string (stx vl), .bool gn] 28)
      have ow2 : OwnEnts (wr.alloc (.cells #[.string (stx k), .string (stx vl), .bool gn] 28)) B _ L := World.ownsRow.alloc ow _
      have hz2 : B ≤ (wr.alloc (.cells #[.string (stx k), .string (stx vl), .bool gn] 28)).heap.size := by simp; omega
      have B2 := Lib.hid b2
      clear hat hx hsx b0 ow HK
      by_cases hkeep : (!d || !gn) = true
      · rw [if_pos hkeep] at hk
        have HK2 := Lib.hid hk
        have hcase : d = false ∨ (d = true ∧ gn = false) := by cases d <;> cases gn <;> simp_all
        clear hk hkeep
        rcases hcase with rfl | ⟨rfl, rfl⟩
        · go_wp2_with fail
          refine (HO _).out.mono ?_
          rintro e w3 ⟨rfl, b3⟩
          have ow3 := ow2.below b3
          have b3' := below_past b2 b3 hz2
          have hz3 : B ≤ w3.heap.size := Nat.le_trans hz2 b3.size
          clear b3 ow2 b2 c0 c1 c2 HO
          have hwz : w3.heap.size ≤ (w3.alloc (.cells #[.string (stx k), .string (stx vl), .bool gn] 28)).heap.size := by simp
          have ow4 : OwnEnts (w3.alloc (.cells #[.string (stx k), .string (stx vl), .bool gn] 28)) B _ L := World.ownsRow.alloc ow3 _
          have hc4 := entAt_new w3 ⟨k, vl, gn⟩ w3.heap.size rfl
          have bb4 := Below.alloc b3' hz3 (.cells #[.string (stx k), .string (stx vl), .bool gn] 28)
          go_wp2_with (at_builtin; refine wpList_put_ent rfl _ _ rfl B _ L rfl ow4 ⟨k, vl, gn⟩ w3.heap.size 1 rfl hc4 (Nat.le_trans hz3 hwz) hlen ?_)
          intro v5 w5 hown5 hgrow5 _
          have b5 := ow4.grown hgrow5 bb4 (Nat.le_trans hz3 hwz)
          clear hgrow5 hc4 ow4 bb4 hwz
          go_wp2_with fail
          exact ⟨⟨i + 1, _, hlt, by go_num, hown5, b5, HK2⟩, by simp [intOf]; omega⟩
        · go_wp2_with fail
          refine (HO _).out.mono ?_
          rintro e w3 ⟨rfl, b3⟩
          have ow3 := ow2.below b3
          have b3' := below_past b2 b3 hz2
          have hz3 : B ≤ w3.heap.size := Nat.le_trans hz2 b3.size
          clear b3 ow2 b2 c0 c1 c2 HO
          have hwz : w3.heap.size ≤ (w3.alloc (.cells #[.string (stx k), .string (stx vl), .bool false] 28)).heap.size := by simp
          have ow4 : OwnEnts (w3.alloc (.cells #[.string (stx k), .string (stx vl), .bool false] 28)) B _ L := World.ownsRow.alloc ow3 _
          have hc4 := entAt_new w3 ⟨k, vl, false⟩ w3.heap.size rfl
          have bb4 := Below.alloc b3' hz3 (.cells #[.string (stx k), .string (stx vl), .bool false] 28)
          go_wp2_with (at_builtin; refine wpList_put_ent rfl _ _ rfl B _ L rfl ow4 ⟨k, vl, false⟩ w3.heap.size 1 rfl hc4 (Nat.le_trans hz3 hwz) hlen ?_)
          intro v5 w5 hown5 hgrow5 _
          have b5 := ow4.grown hgrow5 bb4 (Nat.le_trans hz3 hwz)
          clear hgrow5 hc4 ow4 bb4 hwz
          go_wp2_with fail
          exact ⟨⟨i + 1, _, hlt, by go_num, hown5, b5, HK2⟩, by simp [intOf]; omega⟩
      · rw [if_neg hkeep, List.append_nil] at hk
        have HK2 := Lib.hid hk
        obtain ⟨rfl, rfl⟩ : d = true ∧ gn = true := by cases d <;> cases gn <;> simp_all
        clear hk hkeep HO
        go_wp2_with fail
        exact ⟨⟨i + 1, L, hlt, by go_num, ow2, b2, HK2⟩, by simp [intOf]; omega⟩
    · obtain rfl : i = n := by omega
      have HF : Hid (keptE d M = L) := Lib.hid (by rw [← HK.out, List.take_of_length_le (by rw [HNL.out]; exact Nat.le_refl _)])
      go_wp2_with fail
      go_ret
      refine ⟨_, rfl, ?_, below_past B1.out (by rw [HB.out]; exact b0) (by rw [HB.out]; exact hz1)⟩
      rw [HF.out]
      exact ow.low hz1
end Go.Proofs.Ytpfkomglghmnfaa
