/- Levels: those tables of which all that is asked is so. Conditions: none. -/
import Derived.Test.YtfklhkephdnhaaaLevel8
namespace Go.Proofs.Ytfklhkephdnhaaa
open Go Go.RowKit Go.Maps

/-- Function values that lie in memory, each asking its own. -/
def FnsAt (w : World) (v : Value) (ps : List (Fl → Bool)) : Prop :=
  ∃ ao cap, v = .slice ao ps.length cap ∧ ps.length ≤ cap ∧ cap ≤ maxLen ∧ ∀ i p, ps[i]? = some p → ∃ (a : Addr) (u : Value), ao = some a ∧ w.cell? (a.add i) = some u ∧ FnAt w u p
theorem FnsAt.below {w w' : World} {v : Value} {ps : List (Fl → Bool)} (h : FnsAt w v ps) (k : Below w.heap.size w w') : FnsAt w' v ps := by
  obtain ⟨ao, cap, h1, h2, h3, h4⟩ := h
  refine ⟨ao, cap, h1, h2, h3, fun i x hi => ?_⟩
  obtain ⟨a, u, h5, h6, h7⟩ := h4 i x hi
  exact ⟨a, u, h5, (k.cell (p := a.add i) (cellLt h6)).trans h6, h7.below k⟩
theorem fnsAt_one {w : World} {fv : Value} {p : Fl → Bool} {g : Nat} (h : FnAt w fv p) (hc : w.cell? ⟨g, 0, none⟩ = some fv) : FnsAt w (.slice (some ⟨g, 0, none⟩) 1 1) [p] := by
  refine ⟨_, _, rfl, Nat.le_refl _, by decide, fun i x hi => ?_⟩
  have hi2 : i = 0 := by
    have := (List.getElem?_eq_some_iff.1 hi).1
    simpa using this
  subst hi2
  obtain rfl : p = x := by simpa using hi
  exact ⟨_, fv, rfl, hc, h⟩
theorem fnsAt_two {w : World} {f1 f2 : Value} {p q : Fl → Bool} {g : Nat} (h : FnAt w f1 p) (h2 : FnAt w f2 q) (hc : w.cell? ⟨g, 0, none⟩ = some f1) (hc2 : w.cell? ⟨g, 1, none⟩ = some f2) : FnsAt w (.slice (some ⟨g, 0, none⟩) 2 2) [p, q] := by
  refine ⟨_, _, rfl, Nat.le_refl _, by decide, fun i x hi => ?_⟩
  have hl := (List.getElem?_eq_some_iff.1 hi).1
  rcases (by simp at hl; omega : i = 0 ∨ i = 1) with e | e
  · subst e
    obtain rfl : p = x := by simpa using hi
    exact ⟨_, f1, rfl, hc, h⟩
  · subst e
    obtain rfl : q = x := by simpa using hi
    exact ⟨_, f2, rfl, hc2, h2⟩
set_option maxRecDepth 100000 in
theorem lThose1_any (fv : Value) (p : Fl → Bool) (f : Fl) (b : Nat) (w : World) (hf : FnAt w fv p) (hc : FlAt w b 0 f) (ok : FlOk f) :
    Calls Try.prog 67 #[fv, .pointer (some ⟨b, 0, none⟩)] w fun e w' => e = .returned (.bool (!p f)) ∧ Below w.heap.size w w' := by
  obtain ⟨c0, c1, c2, c3, c4⟩ := hc
  obtain ⟨g, cb, rfl, eg, hp⟩ := hf
  have HC := Lib.hid (hp w f (Below.refl _ _) ok)
  unfold flV at *
  clear hp
  go_enter Try.func67, Try.ntmps67
  go_wp2_with (go_at_fn g; refine HC.out.mono ?_; rintro e w2 ⟨rfl, b2⟩)
  go_ret
  exact ⟨rfl, b2⟩
def idxP (p : (Fl → Bool) → Bool) (ps : List (Fl → Bool)) : Int := match ps.findIdx? p with | some i => (i : Int) | none => -1
theorem idxP_any (p : (Fl → Bool) → Bool) (ks : List (Fl → Bool)) : decide (0 ≤ idxP p ks) = ks.any p := by
  unfold idxP
  cases h : ks.findIdx? p with
  | none =>
    have := List.findIdx?_eq_none_iff.1 h
    simp
    exact this
  | some i =>
    obtain ⟨h1, h2, _⟩ := List.findIdx?_eq_some_iff_getElem.1 h
    have : ks.any p = true := List.any_eq_true.2 ⟨_, List.getElem_mem h1, h2⟩
    rw [this]
    simp
set_option maxRecDepth 100000 in
set_option maxHeartbeats 1000000 in
theorem ixFuns_any (v : Value) (ps : List (Fl → Bool)) (f : Fl) (b : Nat) (w : World) (h : FnsAt w v ps) (hc : FlAt w b 0 f) (ok : FlOk f) :
    Calls Try.prog 81 #[v, .func (.func 67) #[] #[.pointer (some ⟨b, 0, none⟩)]] w fun e w' => e = .returned (.int .i64 (idxP (fun p => !p f) ps)) ∧ Below w.heap.size w w' := by
  obtain ⟨ao, cap, rfl, h1, h2, h3⟩ := h
  have H3 := Lib.hid h3
  have HO := Lib.hid ok
  have HFC := Lib.hid hc
  obtain ⟨n, hn⟩ : ∃ n, ps.length = n := ⟨_, rfl⟩
  have HN := Lib.hid hn
  rw [hn] at h1 ⊢
  have hli : (n : Int) ≤ 9223372036854775807 := by unfold maxLen at h2; omega
  have eg : ∀ args w, (callFunc 67 args).run Try.prog w = .ok (.enter 67 args) w := fun args w => by kernel_rfl
  clear h3 hn h1 h2 ok hc
  go_enter Try.func81, Try.ntmps81
  go_wp2_with fail
  go_loopw [5, 8] (fun _ x wr => ∃ i : Nat, i ≤ n ∧ x = .int .i64 i ∧ Below w.heap.size w wr ∧ Hid (∀ j k, j < i → ps[j]? = some k → (!k f) = false)) (fun _ x _ => (n - intOf x).toNat)
  case atStart => exact ⟨0, Nat.zero_le _, rfl, Below.refl _ _, Lib.hid fun j k h => absurd h (Nat.not_lt_zero _)⟩
  case round =>
    obtain ⟨i, hi, rfl, b1, HA⟩ := hrel
    by_cases hlt : i < n
    · have hlt' : (i : Int) < n := by omega
      obtain ⟨k, hk⟩ : ∃ k, ps[i]? = some k := ⟨_, List.getElem?_eq_getElem (by rw [HN.out]; exact hlt)⟩
      obtain ⟨a, u, rfl, hc, hfn⟩ := H3.out i k hk
      have c0 := (b1.cell (p := a.add i) (cellLt hc)).trans hc
      have HC := Lib.hid (lThose1_any u k f b wr (hfn.below b1) (HFC.out.below b1) HO.out)
      have HK := Lib.hid hk
      have b1s := b1.size
      clear hk hc hfn
      cases hq : !k f with
      | true =>
        rw [hq] at HC
        have HF : Hid (idxP (fun p => !p f) ps = (i : Int)) := Lib.hid (by
          unfold idxP
          have : ps.findIdx? (fun p => !p f) = some i := List.findIdx?_eq_some_iff_getElem.2 ⟨by rw [HN.out]; exact hlt, by have := List.getElem?_eq_some_iff.1 HK.out; obtain ⟨q1, q2⟩ := this; rw [q2]; exact hq, fun j hj => by
            have := HA.out j (ps[j]'(by rw [HN.out]; omega)) hj (List.getElem?_eq_getElem _)
            rw [this]
            decide⟩
          rw [this])
        clear hq HK HA
        go_wp2_with (go_at_fn 67; refine HC.out.mono ?_; rintro e w2 ⟨rfl, b2⟩)
        go_ret
        exact ⟨by rw [HF.out]; rfl, b1.trans (b2.mono b1s)⟩
      | false =>
        rw [hq] at HC
        have HA2 : Hid (∀ j k, j < i + 1 → ps[j]? = some k → (!k f) = false) := Lib.hid fun j x hj hx => by
          rcases (by omega : j < i ∨ j = i) with e | e
          · exact HA.out j x e hx
          · subst e
            rw [HK.out] at hx
            cases hx
            exact hq
        clear hq HK HA
        go_wp2_with (go_at_fn 67; refine HC.out.mono ?_; rintro e w2 ⟨rfl, b2⟩)
        exact ⟨⟨i + 1, hlt, by go_num, b1.trans (b2.mono b1s), HA2⟩, by simp [intOf]; omega⟩
    · obtain rfl : i = n := by omega
      have HF : Hid (idxP (fun p => !p f) ps = -1) := Lib.hid (by
        unfold idxP
        have : ps.findIdx? (fun p => !p f) = none := List.findIdx?_eq_none_iff.2 fun x hx => by
          obtain ⟨j, hj, rfl⟩ := List.getElem_of_mem hx
          exact HA.out j _ (by rw [← HN.out]; exact hj) (List.getElem?_eq_getElem hj)
        rw [this])
      clear HA
      go_wp2_with fail
      go_ret
      exact ⟨by rw [HF.out]; rfl, b1⟩
set_option maxRecDepth 100000 in
theorem ctFuns_any (v : Value) (ps : List (Fl → Bool)) (f : Fl) (b : Nat) (w : World) (h : FnsAt w v ps) (hc : FlAt w b 0 f) (ok : FlOk f) :
    Calls Try.prog 66 #[v, .func (.func 67) #[] #[.pointer (some ⟨b, 0, none⟩)]] w fun e w' => e = .returned (.bool (!ps.all fun p => p f)) ∧ Below w.heap.size w w' := by
  have HC := Lib.hid (ixFuns_any v ps f b w h hc ok)
  have HR : Hid ((!ps.all fun p => p f) = decide (0 ≤ idxP (fun p => !p f) ps)) := Lib.hid (by
    rw [idxP_any, List.any_eq_not_all_not]
    simp)
  rw [HR.out]
  clear h hc
  generalize idxP (fun p => !p f) ps = I at *
  go_enter Try.func66, Try.ntmps66
  go_wp2_with (go_at_call 81; refine HC.out.mono ?_; rintro e w2 ⟨rfl, b2⟩)
  go_ret
  exact ⟨rfl, b2⟩
theorem filter_take_succ {q : Fl → Bool} {L : List Fl} {i : Nat} {f : Fl} (h : L[i]? = some f) : (L.take (i + 1)).filter q = if q f then (L.take i).filter q ++ [f] else (L.take i).filter q := by
  rw [List.take_add_one, h, List.filter_append]
  cases hq : q f <;> simp [hq]
set_option maxRecDepth 100000 in
set_option maxHeartbeats 2000000 in
theorem lThose_any (v av : Value) (L : List Fl) (ps : List (Fl → Bool)) (w : World) (h : FlsAt w v L) (ha : FnsAt w av ps) (hl : L.length ≤ 1000000) (hok : ∀ f ∈ L, FlOk f) :
    Calls Try.prog 35 #[v, av] w fun e w' => ∃ v', e = .returned v' ∧ OwnV w' w.heap.size v' (L.filter fun f => ps.all fun p => p f) ∧ Below w.heap.size w w' := by
  have HA := Lib.hid ha
  have HOK := Lib.hid hok
  clear ha hok
  obtain ⟨ao, cap, rfl, l1, l2, l3⟩ := h
  obtain ⟨n, hn⟩ : ∃ n, L.length = n := ⟨_, rfl⟩
  have HN := Lib.hid hn
  have L3 := Lib.hid l3
  rw [hn] at l1 hl ⊢
  have hli : (n : Int) ≤ 1000000 := by omega
  clear l1 l2 l3 hn
  obtain ⟨q, hq⟩ : ∃ q : Fl → Bool, (fun f => ps.all fun p => p f) = q := ⟨_, rfl⟩
  have HQ : Hid (∀ f, (ps.all fun p => p f) = q f) := Lib.hid fun f => congrFun hq f
  simp only [congrFun hq]
  clear hq
  go_enter Try.func35, Try.ntmps35
  go_wp2_with fail
  generalize hB : w.heap.size = B at *
  have HB := Lib.hid hB
  clear hB
  go_loopw [5, 10] (fun u x wr => ∃ i : Nat, i ≤ n ∧ x = .int .i64 i ∧ OwnV wr B u ((L.take i).filter q) ∧ Below B w wr) (fun _ x _ => (n - intOf x).toNat)
  case atStart => exact ⟨0, Nat.zero_le _, rfl, ownV_nil _ _, by rw [← HB.out]; exact Below.refl _ _⟩
  case round =>
    obtain ⟨i, hi, rfl, ow, b1⟩ := hrel
    by_cases hlt : i < n
    · have hlt' : (i : Int) < n := by omega
      obtain ⟨f, hx⟩ : ∃ f, L[i]? = some f := ⟨_, List.getElem?_eq_getElem (by rw [HN.out]; exact hlt)⟩
      obtain ⟨g, o, rfl, hat⟩ := L3.out i f hx
      have hat2 := hat.below (by rw [HB.out]; exact b1)
      obtain ⟨c0, c1, c2, c3, c4⟩ := hat2
      have HX := Lib.hid hx
      have hBr : B ≤ wr.heap.size := by have := b1.size; rw [HB.out] at this; exact this
      clear hat hx
      have b2 := b1.alloc hBr (.cells #[.int .i64 f.num, .int .i64 f.lev, .int .i64 f.size, .string (stx f.first), .string (stx f.last)] 58)
      have ow2 : OwnV (wr.alloc (.cells #[.int .i64 f.num, .int .i64 f.lev, .int .i64 f.size, .string (stx f.first), .string (stx f.last)] 58)) B _ ((L.take i).filter q) := World.ownsRow.alloc ow _
      have hB2 : B ≤ (wr.alloc (.cells #[.int .i64 f.num, .int .i64 f.lev, .int .i64 f.size, .string (stx f.first), .string (stx f.last)] 58)).heap.size := by simp; omega
      have HFL := Lib.hid (flAt_new wr f 58 _ rfl)
      have HC := Lib.hid (ctFuns_any av ps f wr.heap.size _ (HA.out.below (by rw [HB.out]; exact b2)) HFL.out (HOK.out f (List.mem_of_getElem? HX.out)))
      have HQF := HQ.out f
      rw [HQF] at HC
      have HFT := filter_take_succ (q := q) HX.out
      have hlen : ((L.take i).filter q).length ≤ 1000000 := Nat.le_trans (List.length_filter_le _ _) (by rw [List.length_take]; omega)
      have OW2 := Lib.hid ow2
      clear ow b1 HQF ow2
      go_wp2_with fail
      generalize wr.heap.size = bf at *
      generalize wr.alloc (.cells #[.int .i64 f.num, .int .i64 f.lev, .int .i64 f.size, .string (stx f.first), .string (stx f.last)] 58) = W4 at *
      refine HC.out.mono ?_
      rintro e w5 ⟨rfl, b5⟩
      have HFL5 := HFL.out.below b5
      have ow5 := OW2.out.below b5
      have b6 := b2.trans (b5.mono hB2)
      have hB5 := Nat.le_trans hB2 b5.size
      clear HC HFL OW2 b2 b5 hB2 c0 c1 c2 c3 c4
      cases hqf : q f with
      | false =>
        rw [hqf] at HFT
        have HFT2 := Lib.hid HFT
        clear HFT HFL5
        go_wp2_with fail
        exact ⟨⟨i + 1, hlt, by go_num, by rw [HFT2.out]; exact ow5, b6⟩, by simp [intOf]; omega⟩
      | true =>
        rw [hqf] at HFT
        have HFT2 := Lib.hid HFT
        obtain ⟨d0, d1, d2, d3, d4⟩ := HFL5
        have ow6 : OwnV (w5.alloc (.cells #[.int .i64 f.num, .int .i64 f.lev, .int .i64 f.size, .string (stx f.first), .string (stx f.last)] 58)) B _ ((L.take i).filter q) := World.ownsRow.alloc ow5 _
        have hcell := flAt_new w5 f 58 _ rfl
        have b7 := b6.alloc hB5 (.cells #[.int .i64 f.num, .int .i64 f.lev, .int .i64 f.size, .string (stx f.first), .string (stx f.last)] 58)
        have hB7 : B ≤ (w5.alloc (.cells #[.int .i64 f.num, .int .i64 f.lev, .int .i64 f.size, .string (stx f.first), .string (stx f.last)] 58)).heap.size := by simp; omega
        clear HFT ow5 b6
        go_wp2_with (at_builtin; refine wpList_putV rfl _ _ rfl B _ _ rfl ow6 f w5.heap.size 1 rfl hcell hB7 hlen ?_)
        intro v8 w8 hown8 hgrow8 _
        have b8 := ow6.grown hgrow8 b7 hB7
        clear hgrow8 ow6 b7 hB7 hcell
        go_wp2_with fail
        exact ⟨⟨i + 1, hlt, by go_num, by rw [HFT2.out]; exact hown8, b8⟩, by simp [intOf]; omega⟩
    · obtain rfl : i = n := by omega
      go_wp2_with fail
      go_ret
      exact ⟨_, rfl, by rw [HB.out]; rwa [List.take_of_length_le (by rw [HN.out]; exact Nat.le_refl _)] at ow, by rw [HB.out]; exact b1⟩
end Go.Proofs.Ytfklhkephdnhaaa
