/- Levels: sets of numbers; the numbers and the size of tables. Conditions: none. -/
import Derived.Test.YtfklhkephdnhaaaLevel6
namespace Go.Proofs.Ytfklhkephdnhaaa
open Go Go.RowKit Go.Maps

/-- Lists of numbers that lie in memory. -/
def NssAt (w : World) (v : Value) (ls : List (List Int)) : Prop :=
  ∃ ao cap, v = .slice ao ls.length cap ∧ ls.length ≤ cap ∧ cap ≤ maxLen ∧ ∀ i l, ls[i]? = some l → ∃ (a : Addr) (u : Value), ao = some a ∧ w.cell? (a.add i) = some u ∧ NsAt w u l
theorem NssAt.below {w w' : World} {v : Value} {ls : List (List Int)} (h : NssAt w v ls) (k : Below w.heap.size w w') : NssAt w' v ls := by
  obtain ⟨ao, cap, h1, h2, h3, h4⟩ := h
  refine ⟨ao, cap, h1, h2, h3, fun i x hi => ?_⟩
  obtain ⟨a, u, h5, h6, h7⟩ := h4 i x hi
  exact ⟨a, u, h5, (k.cell (p := a.add i) (cellLt h6)).trans h6, h7.below k⟩
theorem flat_take {ls : List (List Int)} {i : Nat} {l : List Int} (h : ls[i]? = some l) : (ls.take (i + 1)).flatten = (ls.take i).flatten ++ l := by
  rw [List.take_add_one, h]
  simp
theorem flat_len {ls : List (List Int)} {i j : Nat} {l : List Int} (h : ls[i]? = some l) : ((l.take j).reverse ++ (ls.take i).flatten.reverse).length ≤ ls.flatten.length := by
  have e : ls.flatten = (ls.take (i + 1)).flatten ++ (ls.drop (i + 1)).flatten := by rw [← List.flatten_append, List.take_append_drop]
  rw [e, flat_take h]
  simp only [List.length_append, List.length_reverse, List.length_take]
  omega
theorem rev_step {l : List Int} {j : Nat} {k : Int} (h : l[j]? = some k) (S : List Int) : k :: ((l.take j).reverse ++ S) = (l.take (j + 1)).reverse ++ S := by
  rw [List.take_add_one, h]
  simp
set_option maxRecDepth 100000 in
set_option maxHeartbeats 2000000 in
theorem lSet_any (v : Value) (ls : List (List Int)) (w : World) (h : NssAt w v ls) (hl : ls.flatten.length ≤ 1000000) :
    Calls Try.prog 31 #[v] w fun e w' => ∃ b, e = .returned (.map (some b)) ∧ SetAt w' b ls.flatten.reverse ∧ w.heap.size ≤ b ∧ Below w.heap.size w w' := by
  obtain ⟨ao, cap, rfl, l1, l2, l3⟩ := h
  obtain ⟨n, hn⟩ : ∃ n, ls.length = n := ⟨_, rfl⟩
  have HN := Lib.hid hn
  have L3 := Lib.hid l3
  have HLL := Lib.hid hl
  rw [hn] at l1 ⊢
  have hli : (n : Int) ≤ 9223372036854775807 := by unfold maxLen at l2; omega
  have hmm := @run_makeMap Try.prog
  have S0 := Lib.hid (setAt_new w)
  have b0 := Lib.hid ((Below.refl w.heap.size w).alloc (Nat.le_refl _) (.map #[] 0))
  clear l1 l2 l3 hn hl
  go_enter Try.func31, Try.ntmps31
  go_wp2_with fail
  generalize w.alloc (.map #[] 0) = W0 at *
  generalize hB : w.heap.size = B at *
  have HB := Lib.hid hB
  clear hB
  go_loopw [11] (fun x wr => ∃ i : Nat, i ≤ n ∧ x = .int .i64 i ∧ SetAt wr B (ls.take i).flatten.reverse ∧ Below B w wr) (fun x _ => (n - intOf x).toNat)
  case atStart => exact ⟨0, Nat.zero_le _, rfl, S0.out, b0.out⟩
  case round =>
    clear S0 b0 hmm
    obtain ⟨i, hi, rfl, hs, b1⟩ := hrel
    have HS := Lib.hid hs
    have B1 := Lib.hid b1
    by_cases hlt : i < n
    · have hlt' : (i : Int) < n := by omega
      obtain ⟨l, hx⟩ : ∃ l, ls[i]? = some l := ⟨_, List.getElem?_eq_getElem (by rw [HN.out]; exact hlt)⟩
      obtain ⟨a, u, rfl, hc, hl⟩ := L3.out i l hx
      obtain ⟨ao2, cap2, rfl, l1, l2, hin, l3⟩ := hl
      have c0 := (b1.cell (p := a.add i) (by rw [← HB.out]; exact cellLt hc)).trans hc
      obtain ⟨m, hm⟩ : ∃ m, l.length = m := ⟨_, rfl⟩
      have HM := Lib.hid hm
      have HX := Lib.hid hx
      have L5 := Lib.hid l3
      have HIN := Lib.hid hin
      rw [hm] at l1 c0
      have hli2 : (m : Int) ≤ 9223372036854775807 := by unfold maxLen at l2; omega
      clear hs b1 hx hc l1 l2 l3 hin hm
      go_wp2_with fail
      go_loopw [17] (fun x wz => ∃ j : Nat, j ≤ m ∧ x = .int .i64 j ∧ SetAt wz B ((l.take j).reverse ++ (ls.take i).flatten.reverse) ∧ Below B w wz) (fun x _ => (m - intOf x).toNat)
      case atStart => exact ⟨0, Nat.zero_le _, rfl, HS.out, B1.out⟩
      case round =>
        clear HS B1
        obtain ⟨j, hj, rfl, hs, b1⟩ := hrel
        have HS := Lib.hid hs
        have B1 := Lib.hid b1
        by_cases hlt2 : j < m
        · have hlt2' : (j : Int) < m := by omega
          obtain ⟨k, hx2⟩ : ∃ k, l[j]? = some k := ⟨_, List.getElem?_eq_getElem (by rw [HM.out]; exact hlt2)⟩
          obtain ⟨a2, rfl, hc2⟩ := L5.out j k hx2
          have c2 := (b1.cell (p := a2.add j) (by rw [← HB.out]; exact cellLt hc2)).trans hc2
          have hk : in64 k := HIN.out k (List.mem_of_getElem? hx2)
          have HX2 := Lib.hid hx2
          have hsl : ((l.take j).reverse ++ (ls.take i).flatten.reverse).length ≤ 1000000 := Nat.le_trans (flat_len HX.out) HLL.out
          have hbw := B1.out.size
          clear b1 hx2 hc2
          go_wp2_with (at_mapUpdate; refine wpList_putS rfl _ _ _ rfl B _ rfl hs k hk rfl rfl hsl ?_)
          intro w9 hs9 hg9
          have HS9 := Lib.hid hs9
          have B9 := Lib.hid (B1.out.grown hg9 (by rw [← HB.out]; exact hbw) (fun q e => by cases e; exact Nat.le_refl _))
          clear hs hs9 hg9 hsl HS B1
          go_wp2_with fail
          exact ⟨⟨j + 1, hlt2, by go_num, by rw [← rev_step HX2.out]; exact HS9.out, B9.out⟩, by simp [intOf]; omega⟩
        · obtain rfl : j = m := by omega
          clear hs b1
          go_wp2_with fail
          exact ⟨⟨i + 1, hlt, by go_num, by
            rw [flat_take HX.out, List.reverse_append]
            have := HS.out
            rwa [List.take_of_length_le (by rw [HM.out]; exact Nat.le_refl _)] at this, B1.out⟩, by simp [intOf]; omega⟩
    · obtain rfl : i = n := by omega
      clear hs b1
      go_wp2_with fail
      go_ret
      refine ⟨_, rfl, ?_, ?_, ?_⟩
      · have := HS.out
        rwa [List.take_of_length_le (by rw [HN.out]; exact Nat.le_refl _)] at this
      · rw [HB.out]; exact Nat.le_refl _
      · rw [HB.out]; exact B1.out
set_option maxRecDepth 100000 in
theorem lCalled_any (v : Value) (ls : List (List Int)) (w : World) (h : NssAt w v ls) (hl : ls.flatten.length ≤ 1000000) :
    Calls Try.prog 37 #[v] w fun e w' => ∃ fv, e = .returned fv ∧ FnAt w' fv (calledB ls.flatten) ∧ Below w.heap.size w w' := by
  have HC := Lib.hid (lSet_any v ls w h hl)
  clear h
  go_enter Try.func37, Try.ntmps37
  go_wp2_with fail
  refine HC.out.mono ?_
  rintro e w1 ⟨b, rfl, hs, hb, b1⟩
  have c0 : (w1.alloc (.cells #[.map (some b)] 74)).cell? ⟨w1.heap.size, 0, none⟩ = some (.map (some b)) := cell_new _ _ _ 0
  have b2 : Below w1.heap.size w1 (w1.alloc (.cells #[.map (some b)] 74)) := (Below.refl _ _).alloc (Nat.le_refl _) _
  have HS := Lib.hid (hs.below b2)
  have B3 := Lib.hid (b1.trans (b2.mono b1.size))
  have C0 := Lib.hid c0
  clear hs b1 b2 HC c0 hb
  go_wp2
  go_ret
  refine ⟨_, rfl, ?_, B3.out⟩
  refine FnAt.congr (p := calledB ls.flatten.reverse) ⟨_, _, rfl, fun args w => by kernel_rfl, fun W f hb ok => lCalled1_any f b w1.heap.size _ W ((hb.cell (p := ⟨w1.heap.size, 0, none⟩) (cellLt C0.out)).trans C0.out) (HS.out.below hb) ok.num⟩ fun f _ => ?_
  unfold calledB
  exact decide_eq_decide.2 List.mem_reverse
end Go.Proofs.Ytfklhkephdnhaaa
