/- For every list of entries, every size and every most, the law MergeSplits returns true. Conditions: none. -/
import Derived.Test.YtgddmbfacmgfpaaSplit4
import Derived.Test.YtgddmbfacmgfpaaEnts4
import Derived.Test.YtgddmbfacmgfpaaEntsIn
import Derived.ChangeMaps5
namespace Go.Proofs.Ytgddmbfacmgfpaa.msplits
open Go Go.ChangeShapes Go.WideShapes Go.ChangeAt Go.ChangeMaps Go.RowKit Go.Proofs.Ytgddmbfacmgfpaa
attribute [local go_sem] Oper.semAt_some

set_option maxRecDepth 100000 in
theorem mSplit_bad (v : Value) (size most : Int) (w : World) (h : size < 1 ∨ most < 1) : Calls Try.prog 44 #[v, .int .i64 size, .int .i64 most] w fun e w' => e = .returned (.slice none 0 0) ∧ w' = w := by
  by_cases h1 : size < 1
  · have q : decide (size < 1) = true := decide_eq_true h1
    clear h
    go_enter Try.func44, Try.ntmps44
    go_wp2_with fail
    go_ret
    exact ⟨rfl, rfl⟩
  · have h2 : most < 1 := by omega
    have q : decide (size < 1) = false := decide_eq_false h1
    have q2 : decide (most < 1) = true := decide_eq_true h2
    clear h
    go_enter Try.func44, Try.ntmps44
    go_wp2_with fail
    go_ret
    exact ⟨rfl, rfl⟩
theorem entss_get {w : World} {A : Option Addr} {n cap : Nat} {ls : List (List Ent)} (h : EntssAt w (.slice A n cap) ls) : ∀ i l, ls[i]? = some l → ∃ g o u, A = some ⟨g, o, none⟩ ∧ w.cell? ⟨g, o + i, none⟩ = some u ∧ EntsAt w u l := by
  obtain ⟨A', cap', e, _, _, h4⟩ := h
  obtain ⟨rfl, _⟩ : A = A' ∧ _ := by simpa using e
  exact h4
theorem len_of_sum : ∀ {I : List (List Ent)} {i : Nat} {l : List Ent}, I[i]? = some l → l.length ≤ sumE I
  | x :: I, 0, l, h => by
    obtain rfl : x = l := by simpa using h
    simp [sumE]
  | x :: I, i + 1, l, h => by
    have h1 := len_of_sum (I := I) (i := i) (l := l) (by simpa using h)
    have h2 : sumE (x :: I) = x.length + sumE I := by simp [sumE]
    omega
set_option maxRecDepth 100000 in
set_option maxHeartbeats 4000000 in
theorem walk (v : Value) (es : List Ent) (size most : Int) (w : World) (h1 : InEnts w v es) (hsx : size ≤ 9223372036854775807) (hmx : most ≤ 9223372036854775807) : Calls Try.prog 9 #[v, .int .i64 size, .int .i64 most] w fun e w' => e = .returned (.bool true) ∧ Below w.heap.size w w' := by
  have HFW := Lib.hid (few9_any v es 100 w h1 (by decide))
  have hFl : (fewE 100 es).length ≤ 100 := by rw [fewE_length]; omega
  have HFS := Lib.hid (fewE_small 100 es)
  clear h1
  generalize fewE 100 es = F at *
  have HCS : Hid (∀ x ∈ F, costE x ≤ 100000000) := Lib.hid fun x hx => cost_small (HFS.out x hx).1 (HFS.out x hx).2
  have HSS : Hid (∀ x ∈ F, smallE x) := Lib.hid fun x hx => ⟨by have := (HFS.out x hx).1; omega, by have := (HFS.out x hx).2; omega⟩
  go_enter Try.func9, Try.ntmps9
  go_wp2_with fail
  refine HFW.out.mono ?_
  rintro e w1 ⟨v1, rfl, o1, b1⟩
  clear HFW HFS
  by_cases hbad : size < 1 ∨ most < 1
  · go_wp2_with fail
    refine (mSplit_bad v1 size most w1 hbad).mono ?_
    rintro e w2 ⟨rfl, rfl⟩
    by_cases hs : size < 1
    · have q : decide (size < 1) = true := decide_eq_true hs
      clear hbad
      go_wp2_with fail
      refine (awake12 _).mono ?_
      rintro e w3 ⟨rfl, b3⟩
      have b4 := below_past b1 b3 b1.size
      clear o1 b3 b1
      go_wp2_with fail
      go_ret
      exact ⟨rfl, b4⟩
    · have hm : most < 1 := by omega
      have q : decide (size < 1) = false := decide_eq_false hs
      have q2 : decide (most < 1) = true := decide_eq_true hm
      clear hbad
      go_wp2_with fail
      refine (awake12 _).mono ?_
      rintro e w3 ⟨rfl, b3⟩
      have b4 := below_past b1 b3 b1.size
      clear o1 b3 b1
      go_wp2_with fail
      go_ret
      exact ⟨rfl, b4⟩
  · have hs1 : 1 ≤ size := by omega
    have hm1 : 1 ≤ most := by omega
    have q1 : decide (size < 1) = false := decide_eq_false (by omega)
    have q2 : decide (most < 1) = false := decide_eq_false (by omega)
    have HSP := Lib.hid (mSplit_any v1 F size most w1 o1.lie (by omega) HCS.out HSS.out hm1 hmx hs1 hsx)
    have HRS : ∀ W, Below w1.heap.size w1 W → Hid (Calls Try.prog 45 #[v1, .int .i64 size, .int .i64 most] W fun e w' => ∃ v', e = .returned v' ∧ OwnLists w' W.heap.size v' (splitE size most [] F) ∧ Below W.heap.size W w') := fun W k => Lib.hid (r12Split_any v1 F size most W (o1.lie.below k) (by omega) HCS.out)
    have HFL : Hid ((splitE size most [] F).flatten = F) := Lib.hid (splitE_flat size most F [])
    have hTl : (splitE size most [] F).length ≤ 101 := Nat.le_trans (splitE_length size most F []) (by omega)
    have HSU : Hid (sumE (splitE size most [] F) = F.length) := Lib.hid (by rw [← flat_len, HFL.out])
    clear hbad hsx hmx
    generalize splitE size most [] F = T at *
    go_wp2_with fail
    refine HSP.out.mono ?_
    rintro e w2 ⟨v2, rfl, o2, b2⟩
    have bz2 := below_past b1 b2 b1.size
    clear HSP
    go_wp2_with fail
    refine (HRS _ b2).out.mono ?_
    rintro e w3 ⟨v3, rfl, o3, b3⟩
    have o2' := o2.below b3
    have o1' := (o1.below b2).below b3
    have bz3 := below_past bz2 b3 bz2.size
    clear HRS o2 o1 b2 b3 bz2 b1
    go_wp2_with fail
    refine (awake12 _).mono ?_
    rintro e w4 ⟨rfl, b4⟩
    have o2 := o2'.below b4
    have o3' := o3.below b4
    have o1 := o1'.below b4
    have bz4 := below_past bz3 b4 bz3.size
    clear o2' o1' o3 b4 bz3
    obtain ⟨A2, c2, rfl⟩ := o2.shape
    obtain ⟨A3, c3, rfl⟩ := o3'.shape
    obtain ⟨n, hn⟩ : ∃ n, T.length = n := ⟨_, rfl⟩
    rw [hn] at hTl o2 o3'
    rw [hn]
    have HN := Lib.hid hn
    have hni : (n : Int) ≤ 101 := by omega
    have bq : Below w4.heap.size w4 (w4.alloc (.cells #[] 71)) := (Below.refl _ _).alloc (Nat.le_refl _) _
    have H2 := Lib.hid (entss_get o2.lie)
    have H3 := Lib.hid (entss_get o3'.lie)
    have H1 := Lib.hid o1.lie
    have oA := ownEnts_new w4 w4.heap.size w4.heap.size rfl (Nat.le_refl _)
    have hbz := bz4.size
    have bz5' := bz4
    clear hn o2 o3' o1 bz4
    go_wp2_with fail
    generalize hBa : w4.heap.size = Ba at *
    have HBa := Lib.hid hBa
    have HBQ := Lib.hid bq
    clear bq hBa
    generalize w4.alloc (.cells #[] 71) = W at *
    go_loopw [9, 45] (fun al ix wr => ∃ j : Nat, j ≤ n ∧ ix = .int .i64 j ∧ OwnEnts wr Ba al (T.take j).flatten ∧ Below Ba w4 wr) (fun _ ix _ => (n - intOf ix).toNat)
    case atStart => exact ⟨0, Nat.zero_le _, rfl, oA, HBQ.out⟩
    case round =>
      obtain ⟨j, hj, rfl, ow, b6⟩ := hrel
      clear oA
      have hBr : Ba ≤ wr.heap.size := by have := b6.size; rw [HBa.out] at this; exact this
      by_cases hlt : j < n
      · have hlt' : (j : Int) < n := by omega
        obtain ⟨l, hl⟩ : ∃ l, T[j]? = some l := ⟨_, List.getElem?_eq_getElem (by rw [HN.out]; exact hlt)⟩
        obtain ⟨g2, o2, u2, rfl, hc2, he2⟩ := H2.out j l hl
        obtain ⟨g3, o3, u3, rfl, hc3, he3⟩ := H3.out j l hl
        have c2' := (b6.cell (p := ⟨g2, o2 + j, none⟩) (by rw [← HBa.out]; exact cellLt hc2)).trans hc2
        have c3' := (b6.cell (p := ⟨g3, o3 + j, none⟩) (by rw [← HBa.out]; exact cellLt hc3)).trans hc3
        have b6' : Below w4.heap.size w4 wr := by rw [HBa.out]; exact b6
        have e2 := he2.below b6'
        have e3 := he3.below b6'
        have hll : l.length ≤ 100 := by
          have h1 := len_of_sum hl
          rw [HSU.out] at h1
          omega
        have HF : Hid ((T.take (j + 1)).flatten = (T.take j).flatten ++ l) := Lib.hid (flat_take T j l hl)
        have hTj : (T.take j).flatten.length ≤ 1000000 := by
          have h1 := flat_len (T.take j)
          have h2 := sumE_split j T
          rw [HSU.out] at h2
          omega
        have HSA : ∀ q : Past wr, Hid (Calls Try.prog 32 #[u2, u3] q.w fun e w' => e = .returned (.bool true) ∧ Below q.w.heap.size q.w w') := fun q => Lib.hid (by
          have := r9Same_any u2 u3 l l q.w (e2.below q.h) (e3.below q.h) (by omega)
          rwa [decide_eq_true rfl] at this)
        have z2 : ∀ q : Past wr, q.w.cell? ⟨g2, o2 + j, none⟩ = some u2 := fun q => (q.h.cell (p := ⟨g2, o2 + j, none⟩) (cellLt c2')).trans c2'
        have z3 : ∀ q : Past wr, q.w.cell? ⟨g3, o3 + j, none⟩ = some u3 := fun q => (q.h.cell (p := ⟨g3, o3 + j, none⟩) (cellLt c3')).trans c3'
        have C2 := Lib.hid c2'
        have E2 := Lib.hid e2
        clear hc2 hc3 he2 he3 hl b6' c2' c3' e2 e3
        go_wp2_with fail
        refine wp_region_past (by kernel_rfl) (by kernel_rfl) ?_
        repeat (go_big_quiet_step ((go_at_call 32; exact Past.call (HSA _).out)))
        refine wpQuiet_nil ?_
        intro w2 hw2
        obtain ⟨⟨wn, hn⟩, rfl⟩ := hw2
        try dsimp only
        have ow7 := ow.below hn
        have b7 := below_past b6 hn hBr
        have hz7 : Ba ≤ w2.heap.size := Nat.le_trans hBr hn.size
        have C7 := (hn.cell (p := ⟨g2, o2 + j, none⟩) (cellLt C2.out)).trans C2.out
        have E7 := Lib.hid (E2.out.below hn)
        have hl1 : l.length ≤ 1000000 := by omega
        clear z2 z3 HSA ow b6 hn C2 E2
        go_wp2_with (at_builtin; refine wpList_put_ents rfl _ _ rfl Ba _ (T.take j).flatten rfl ow7 _ l rfl E7.out hz7 hTj hl1 ?_)
        intro v8 w8 hown hgrow _
        have b8 := ow7.grown hgrow b7 hz7
        rw [← HF.out] at hown
        clear ow7 hgrow b7 E7 C7
        go_wp2_with fail
        exact ⟨⟨j + 1, hlt, by go_num, hown, b8⟩, by simp [intOf]; omega⟩
      · obtain rfl : j = n := by omega
        rw [List.take_of_length_le (by rw [HN.out]; exact Nat.le_refl _), HFL.out] at ow
        have b6' : Below w4.heap.size w4 wr := by rw [HBa.out]; exact b6
        have hsa := r9Same_any _ _ F F wr ow.lie (H1.out.below b6') (by omega)
        rw [decide_eq_true rfl] at hsa
        have HSA := Lib.hid hsa
        clear ow b6' hsa
        go_wp2_with fail
        refine HSA.out.mono ?_
        rintro e w9 ⟨rfl, b9⟩
        have b10 := below_past bz5' (by rw [HBa.out]; exact below_past b6 b9 hBr) bz5'.size
        clear b9 HSA b6
        go_wp2_with fail
        go_ret
        exact ⟨rfl, b10⟩
set_option maxRecDepth 100000 in
theorem lifted (os : Os) (started : os.Started) (H : Type) (enc : TypeId × Value → H) :
    ReturnsInHanded {} Try.checked os 9 .any (Rows.mergeSplitsSpec.pre6 enc Try.prog Try.f9 Rows.mergeSplitsRow.domain false) (Rows.mergeSplitsSpec.post enc Try.prog Try.f9 false true false false) := by
  refine returnsInHanded_of_change (C := Try.checked) own started (by kernel_rfl) Try.func9
    (ChangeSpec.witness6 (enc := enc) (C := Try.checked) false ⟨#[], #[.slice none 0 0, .int .i64 0, .int .i64 0], []⟩ 8 (by kernel_rfl) (by kernel_rfl) (by kernel_rfl) (by kernel_rfl)) ?_
  intro W base args ds gs before hval0 hW _ _
  have hval : ∀ (j : Nat) t v, Try.f9.params[j]? = some t → args[j]? = some v → Value.okWide Try.prog W .any base t v := hval0
  clear hval0
  have hW' := hW
  obtain ⟨p, q, hA0, hV, rfl, hfz, hnd⟩ := hW
  have hA : DataW.TrodAll enc Try.prog W 0 (fun _ => true) true Try.f9.params.toList args.toList ds p := hA0
  rw [Try.params9] at hA hval
  clear hA0 hfz hnd hV
  have hr : Readable Try.f9.params.toList := by
    rw [Try.params9]
    exact readable_of_all (by kernel_rfl)
  have fin : ∀ W', Below W.heap.size W W' → Rows.mergeSplitsSpec.post enc Try.prog Try.f9 false true false false W args (.bool true) W' := fun W' hb =>
    law_post rfl hW' hr (fun l hl => by
      rw [Try.params9] at hl
      match l, hl with
      | [d1, d2, d3], _ => rfl) (by kernel_rfl) hb
  clear hW' hr
  obtain ⟨v0, v1, v2, d0, d1, d2, p0, p1, p2, rfl, rfl, rfl, h0, h1, h2⟩ := trodAll_three hA; obtain ⟨l1, hs1, hs1b⟩ := in_ents_of Try.underlying63 Try.underlying71 (by kernel_rfl) rfl rfl rfl rfl rfl rfl Try.underlying9 (by kernel_rfl) Try.underlying4 (by kernel_rfl) (hval 0 63 v0 rfl rfl) h0; obtain ⟨n, rfl, _, _, w1⟩ := open_int Try.underlying3 (hval 1 3 v1 rfl rfl) h1; obtain ⟨k, rfl, _, _, w2⟩ := open_int Try.underlying3 (hval 2 3 v2 rfl rfl) h2
  exact (walk v0 l1 n k W hs1 (wf_i64 w1).2 (wf_i64 w2).2).mono fun e W' ⟨he, hb⟩ => ⟨_, he, fin W' hb⟩
theorem proved : Rows.MergeSplitsSaid :=
  OpenClaim.holds_of_wide 9 Try.f9 rfl rfl rfl rfl rfl rfl rfl ⟨rfl, rfl, rfl, rfl, rfl⟩ rfl rfl rfl rfl rfl (by kernel_rfl) Try.func9 (by kernel_rfl)
    (of_decide_eq_true (by kernel_rfl)) (by unfold Func.isWrapper; first | (rw [if_pos (by decide +kernel)]; kernel_rfl) | (rw [if_neg (by decide +kernel)]; exact ⟨rfl, rfl⟩))
    (fun os started H enc _ => lifted os started H enc)
end Go.Proofs.Ytgddmbfacmgfpaa.msplits
