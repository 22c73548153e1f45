/- At most n texts of at most 100 bytes. Conditions: none. -/
import Derived.Test.YtdedlekelkaabaaBloom6
import Derived.Test.YtdedlekelkaabaaStrs
import Derived.Test.YtdedlekelkaabaaLists
namespace Go.Proofs.Ytdedlekelkaabaa
open Go Go.RowKit Go.Shelf
attribute [local go_sem] Oper.semAt_some

theorem own_some {w : World} {B : Nat} {v : Value} {ts : List (List UInt8)} (h : OwnStrs w B v ts) (h0 : 0 < ts.length) : ∃ g c, v = .slice (some ⟨g, 0, none⟩) ts.length c := by
  obtain ⟨ao, c, hv, h2⟩ := h.lie
  obtain ⟨g, rfl, _⟩ := h2 0 h0
  exact ⟨g, c, hv⟩
set_option maxRecDepth 100000 in
set_option maxHeartbeats 4000000 in
theorem few8_some (v : Value) (len : Nat) (S : Nat → ByteArray) (n : Nat) (w : World) (h1 : InStrs w v len S) (hn : n ≤ 1000) :
    Calls Try.prog 5 #[v, .int .i64 n] w fun e w' => ∃ v', e = .returned v' ∧ OwnStrs w' w.heap.size v' (cutsL S 100 (min len n)) ∧ Below w.heap.size w w' ∧ ∃ g c, v' = .slice (some ⟨g, 0, none⟩) (min len n) c := by
  obtain ⟨ao1, cap1, rfl, hS1⟩ := h1
  have HS1 := Lib.hid hS1
  have a1 : Below w.heap.size w (w.alloc (.cells #[] 9)) := (Below.refl _ _).alloc (Nat.le_refl _) _
  have o1 : OwnStrs (w.alloc (.cells #[] 9)) w.heap.size (.slice (some ⟨w.heap.size, 0, none⟩) 0 0) (cutsL S 100 0) := ownStrs_new w _ _ rfl (Nat.le_refl _)
  have hni : (n : Int) ≤ 1000 := by omega
  clear hS1
  go_enter Try.func5, Try.ntmps5
  go_wp2_with fail
  generalize (w.alloc (.cells #[] 9)) = W0 at *
  generalize hB : w.heap.size = B at *
  have HB := Lib.hid hB
  clear hB
  go_loopw [5, 6] (fun v x wr => ∃ i : Nat, i ≤ len ∧ i ≤ n ∧ x = .int .i64 i ∧ OwnStrs wr B v (cutsL S 100 i) ∧ Below B w wr ∧ ∃ g c, v = .slice (some ⟨g, 0, none⟩) i c) (fun _ x _ => (n - intOf x).toNat)
  case atStart => exact ⟨0, Nat.zero_le _, Nat.zero_le _, rfl, o1, a1, _, _, rfl⟩
  case round =>
    obtain ⟨i, hi1, hi2, rfl, ow, b0, hsm⟩ := hrel
    clear o1 a1
    by_cases hgo : i < len ∧ i < n
    · as_aux_lemma =>
      obtain ⟨gg1, gg2⟩ := hgo
      have g1' : decide (i < len) = true := decide_eq_true gg1
      have g2' : decide ((i : Int) < n) = true := decide_eq_true (by omega)
      have g1n : (i : Int) < len := by omega
      obtain ⟨ad, hao, hc⟩ := HS1.out i gg1
      subst hao
      have c1 := (b0.cell (p := ad.add i) (by rw [← HB.out]; exact cellLt hc)).trans hc
      obtain ⟨L, hL⟩ : ∃ L, (S i).data.toList.take 100 = L := ⟨_, rfl⟩
      have HK : Hid (∀ w, Calls Try.prog 9 #[.string (S i), .int .i64 100] w fun e w' => e = .returned (.string (stx L)) ∧ w' = w) := Lib.hid fun w => by
        have := l3Cut_any (S i) 100 w (by decide)
        rwa [hL] at this
      have HTX : Hid (cutsL S 100 (i + 1) = cutsL S 100 i ++ [L]) := Lib.hid (by rw [cutsL_succ, hL])
      have hll : (cutsL S 100 i).length ≤ 1000000 := by rw [cutsL_length]; omega
      have HLL := Lib.hid hll
      have hBr : B ≤ wr.heap.size := by rw [← HB.out]; exact b0.size
      have hi8 : (i : Int) ≤ n := by omega
      clear hL hll hc
      go_wp2_with fail
      refine (HK.out _).mono ?_
      rintro e w1 ⟨rfl, rfl⟩
      have bq : Below w1.heap.size w1 (w1.alloc (.cells #[.string (stx L)] 9)) := (Below.refl _ _).alloc (Nat.le_refl _) _
      have ow2 := ow.below bq
      have b1 := below_past b0 bq hBr
      have hcell := cell_of_rowAt (rowAt_alloc_at w1 #[.string (stx L)] 9 _ rfl) 0
      go_wp2_with (at_builtin; refine wpList_put_text rfl _ _ rfl B _ _ rfl ow2 L ⟨w1.heap.size, 0, none⟩ 1 rfl hcell (by simp; omega) HLL.out ?_)
      intro v' w' hown hgrow hat
      have b2 := ow2.grown hgrow b1 (by simp; omega)
      rw [← HTX.out] at hown
      have hsm2 := own_some hown (by rw [cutsL_length]; omega)
      rw [cutsL_length] at hsm2
      clear ow ow2 hgrow hat b0 b1 bq hcell c1 hsm
      go_wp2_with fail
      exact ⟨⟨i + 1, gg1, gg2, by go_num, hown, b2, hsm2⟩, by simp [intOf]; omega⟩
    · have hmin : min len n = i := by omega
      have HMIN := Lib.hid hmin
      by_cases hg1 : i < len
      · have g1' : decide (i < len) = true := decide_eq_true hg1
        have g2' : decide (i < n) = false := decide_eq_false (by omega)
        have g1n : (i : Int) < len := by omega
        clear hgo hmin hg1
        go_wp2_with fail
        go_ret
        rw [HMIN.out, HB.out]
        exact ⟨_, rfl, ow, b0, hsm⟩
      · obtain rfl : i = len := by omega
        have g1' : decide (i < i) = false := decide_eq_false hg1
        clear hgo hmin hg1
        go_wp2_with fail
        go_ret
        rw [HMIN.out, HB.out]
        exact ⟨_, rfl, ow, b0, hsm⟩
theorem few8_any (v : Value) (len : Nat) (S : Nat → ByteArray) (n : Nat) (w : World) (h1 : InStrs w v len S) (hn : n ≤ 1000) :
    Calls Try.prog 5 #[v, .int .i64 n] w fun e w' => ∃ v', e = .returned v' ∧ OwnStrs w' w.heap.size v' (cutsL S 100 (min len n)) ∧ Below w.heap.size w w' := by
  refine (few8_some v len S n w h1 hn).mono ?_
  rintro e w' ⟨v', h2, h3, h4, _⟩
  exact ⟨v', h2, h3, h4⟩
/-- Texts are put behind a list of the call's own. -/
theorem wpList_put_texts {ops : Array Oper} {rest : List Oper} {o : Oper} {a : Act} {w : World} {Q : Exit → Act → World → Prop} (hgd : o.guard = none) (s x : Operand)
    (ho : o.op = .call { callee := .builtin .append, args := #[s, x], argTypes := #[22, 22] }) (B : Nat) (v : Value) (ts us : List (List UInt8)) (hs : a.eval s = v) (hown : OwnStrs w B v ts)
    (ad : Addr) (m c : Nat) (hx : a.eval x = .slice (some ad) m c) (hm : us.length = m) (hcell : ∀ j u, (strCells us)[j]? = some u → w.cell? (ad.add j) = some u) (hB : B ≤ w.heap.size) (hl : ts.length ≤ 1000000) (hl2 : us.length ≤ 1000000)
    (h : ∀ v' w', OwnStrs w' B v' (ts ++ us) → w.grownBy w' v.ownBlock → (v'.ownBlock = v.ownBlock ∨ v'.ownBlock = some w.heap.size) → wpList Try.prog ops Q rest (a.put o.dst v') w') : wpList Try.prog ops Q (o :: rest) a w := by
  subst hm
  obtain ⟨i0, hi, hz0, hz1, hz2⟩ := info_str
  refine wpList_append_own_at (P := Try.prog) w hgd s x 22 ho B 9 i0 (.string ⟨#[]⟩) 1 16 Try.underlying22 hi hz0 hz1 hz2 rfl (by decide) v ts.length (strCells ts) hs hown ad us.length c (strCells us) hx (by rw [strCells_length, Nat.mul_one]) hcell ?_ (by unfold maxLen; omega) (by omega) hB ?_
  · intro u hu
    obtain ⟨t, _, rfl⟩ := List.mem_map.1 hu
    rfl
  · intro v' w' h1 h2 _ h4
    refine h v' w' ?_ h2 h4
    show w'.ownsRow B 9 1 v' (ts ++ us).length (strCells (ts ++ us))
    rw [List.length_append, show strCells (ts ++ us) = strCells ts ++ strCells us by simp [strCells]]
    exact h1
end Go.Proofs.Ytdedlekelkaabaa
