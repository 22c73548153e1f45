/- For all keys, every number of bits and every key that is asked for, the law BloomMakes returns true. Conditions: none. -/
import Derived.Test.YtdedlekelkaabaaR8f
import Derived.Test.YtdedlekelkaabaaHas
import Derived.Test.YtdedlekelkaabaaWildO
import Derived.Test.YtdedlekelkaabaaQuiet
namespace Go.Proofs.Ytdedlekelkaabaa.makes8
open Go Go.ChangeShapes Go.WideShapes Go.ChangeAt Go.ChangeMaps Go.RowKit Go.Proofs.Ytdedlekelkaabaa
open Go.Proofs.Ytdedlekelkaabaa.has (strs_in keys_of)
attribute [local go_sem] Oper.semAt_some

theorem stx_size8 (l : List UInt8) : (stx l).size = l.length := by simp [ByteArray.size]
set_option maxRecDepth 100000 in
theorem walk_bad (v : Value) (len : Nat) (S : Nat → ByteArray) (each : Int) (key : ByteArray) (w : World) (h1 : InStrs w v len S) (he : each < 1 ∨ 32 < each) :
    Calls Try.prog 3 #[v, .int .i64 each, .string key] w fun e w' => e = .returned (.bool true) ∧ Below w.heap.size w w' := by
  have HF := Lib.hid (few8_any v len S 60 w h1 (by decide))
  rw [show ((60 : Nat) : Int) = 60 from rfl] at HF
  have HM : ∀ v w, Hid (Calls Try.prog 6 #[v, .int .i64 each] w fun e w' => e = .returned (.tuple #[.agg #[.int .i64 0, .slice none 0 0], .int .i64 1]) ∧ Below w.heap.size w w') := fun v w => Lib.hid (make_err v each w he)
  have HA : ∀ w, Hid (Calls Try.prog 7 #[] w fun e w' => e = .returned (.bool true) ∧ Below w.heap.size w w') := fun w => Lib.hid (awake8 w)
  have HE := Lib.hid he
  clear h1 he
  have q0 : decide (each < 1) = true ∨ (decide (each < 1) = false ∧ decide (32 < each) = true) := by
    rcases HE.out with h | h
    · exact .inl (decide_eq_true h)
    · exact .inr ⟨decide_eq_false (by omega), decide_eq_true h⟩
  rcases q0 with q1 | ⟨q1, q2⟩
  all_goals
    go_enter Try.func3, Try.ntmps3
    go_wp2_with fail
    refine HF.out.mono ?_
    rintro e w1 ⟨v1, rfl, ow, b1⟩
    clear HF ow
    go_wp2_with fail
    refine (HM _ _).out.mono ?_
    rintro e w2 ⟨rfl, b2⟩
    have a2 := below_past b1 b2 b1.size
    have a3 := a2.alloc a2.size (.cells #[.int .i64 0, .slice none 0 0] 26)
    have x3 := World.alloc_heap_new w2 (.cells #[.int .i64 0, .slice none 0 0] 26)
    clear HM b1 b2 a2
    go_wp2_with fail
    generalize w2.alloc (.cells #[.int .i64 0, .slice none 0 0] 26) = W3 at *
    refine (HA _).out.mono ?_
    rintro e w4 ⟨rfl, b4⟩
    have x4 := (b4.block _ (heap_lt x3)).trans x3
    have a4 := below_past a3 b4 a3.size
    clear HA a3 b4 x3
    have c0 : w4.cell? ⟨w2.heap.size, 0, none⟩ = some (.int .i64 0) := (Lib.cell_of_heap x4 0).trans rfl
    have c1 : w4.cell? ⟨w2.heap.size, 1, none⟩ = some (.slice none 0 0) := (Lib.cell_of_heap x4 1).trans rfl
    go_wp2_with fail
    go_ret
    exact ⟨rfl, a4⟩
set_option maxRecDepth 100000 in
set_option maxHeartbeats 4000000 in
theorem walk_good (v : Value) (len : Nat) (S : Nat → ByteArray) (each : Nat) (key : ByteArray) (w : World) (h1 : InStrs w v len S) (he : 1 ≤ each ∧ each ≤ 32) :
    Calls Try.prog 3 #[v, .int .i64 each, .string key] w fun e w' => e = .returned (.bool true) ∧ Below w.heap.size w w' := by
  obtain ⟨K, hK, hl1, hl2, ow⟩ : ∃ K : List (List UInt8), K = cutsL S 100 (min len 60) ∧ K.length ≤ 60 ∧ (∀ t ∈ K, t.length ≤ 100) ∧ True := ⟨_, rfl, by rw [cutsL_length]; omega, cutsL_short _ _ _, trivial⟩
  have HF := Lib.hid (few8_any v len S 60 w h1 (by decide))
  rw [show ((60 : Nat) : Int) = 60 from rfl, ← hK] at HF
  obtain ⟨p, hp⟩ : ∃ p, probesK each = p := ⟨_, rfl⟩
  obtain ⟨n, hn⟩ : ∃ n, sizeK K.length each = n := ⟨_, rfl⟩
  obtain ⟨nb, hnb⟩ : ∃ nb, 8 * n = nb := ⟨_, rfl⟩
  have hn1 : 0 < n := by rw [← hn]; exact sizeK_pos _ _
  have hn2 : n ≤ 8193 := by rw [← hn]; exact sizeK_le _ _ (by omega) he.2
  obtain ⟨bs, hbs⟩ : ∃ bs, makeK p n K = bs := ⟨_, rfl⟩
  have hbl : bs.length = n := by rw [← hbs, makeK_length]
  have hbb : (bits8 bs).length = nb := by rw [bits8_length, hbl, hnb]
  obtain ⟨KY, hKY⟩ : ∃ KY, stx (key.data.toList.take 300) = KY := ⟨_, rfl⟩
  have hKs : KY.size ≤ 300 := by rw [← hKY, stx_size8, List.length_take]; omega
  have hsz : ∀ i, i < K.length → (stx (K.getD i [])).size ≤ 1000000 := fun i hi => by
    have := hl2 _ (List.getElem_mem hi)
    simp [ByteArray.size, hi]
    omega
  have HM : ∀ v w, StrsAt w v K → Hid (Calls Try.prog 6 #[v, .int .i64 each] w fun e w' => ∃ g cap, e = .returned (.tuple #[.agg #[.int .i64 p, .slice (some ⟨g, 0, none⟩) n cap], .int .i64 0]) ∧ BytesIn w' (some ⟨g, 0, none⟩) bs ∧ w.heap.size ≤ g ∧ Below w.heap.size w w') := fun v w h => Lib.hid (by
    have := make_full v K.length _ each w (strs_in h) hsz he (by omega) K (keys_of K) p n hp hn
    rwa [hbs] at this)
  have HR : ∀ v w, StrsAt w v K → Hid (Calls Try.prog 8 #[v, .int .i64 each] w fun e w' => ∃ ao cap, e = .returned (.agg #[.int .i64 p, .slice ao nb cap]) ∧ BitsIn w' (.slice ao nb cap) (bits8 bs) ∧ Below w.heap.size w w') := fun v w h => Lib.hid (by
    have := r8Make_any v K.length _ each w (strs_in h) hsz he (by omega) p n nb hp hn hnb
    rwa [show bsK p n (fun i => stx (K.getD i [])) K.length = bs by
      rw [← hbs]
      show makeK p n (keysL (fun i => stx (K.getD i [])) K.length) = _
      rw [keys_of]] at this)
  have HOF : ∀ ao cap w, BytesIn w ao bs → Hid (Calls Try.prog 11 #[.int .i64 p, .slice ao n cap] w fun e w' => ∃ bo bc, e = .returned (.agg #[.int .i64 p, .slice bo nb bc]) ∧ BitsIn w' (.slice bo nb bc) (bits8 bs) ∧ Below w.heap.size w w') := fun ao cap w h => Lib.hid (by
    have := r8Of_any p ao cap bs w h (by omega)
    rw [hbl, hnb] at this
    refine this.mono fun e w' ⟨v, h3, h4, h5⟩ => ?_
    obtain ⟨bo, bc, rfl⟩ := own_shapeB h4
    refine ⟨bo, bc, h3, ?_, h5⟩
    have h6 : w'.ownsRow w.heap.size 4 1 (.slice bo nb bc) (bits8 bs).length (boolCells (bits8 bs)) := by rw [hbb]; exact h4
    exact own_bits h6)
  have HSX : ∀ v1 v2 W, BitsIn W v1 (bits8 bs) → BitsIn W v2 (bits8 bs) → Hid (Calls Try.prog 10 #[.agg #[.int .i64 p, v1], .agg #[.int .i64 p, v2]] W fun e w' => e = .returned (.bool true) ∧ Below W.heap.size W w') := fun v1 v2 W h1 h2 => Lib.hid (r8Same_eq p v1 v2 (bits8 bs) W h1 h2 (by omega))
  obtain ⟨M, hM⟩ : ∃ M, mayF p bs (hashL KY.data.toList) = M := ⟨_, rfl⟩
  obtain ⟨G, hG⟩ : ∃ G, goodB p n = G := ⟨_, rfl⟩
  have HM1 : ∀ ao cap W, BytesIn W ao bs → Hid (Calls Try.prog 12 #[.agg #[.int .i64 p, .slice ao n cap], .string KY] W fun e w' => e = .returned (.bool M) ∧ Below W.heap.size W w') := fun ao cap W h => Lib.hid (by
    have := may_any p ao cap bs KY W (by omega) h
    rwa [hbl, hM] at this)
  have HM2 : ∀ v W, BitsIn W v (bits8 bs) → Hid (Calls Try.prog 13 #[.agg #[.int .i64 p, v], .string KY] W fun e w' => e = .returned (.bool M) ∧ Below W.heap.size W w') := fun v W h => Lib.hid (by
    have := r8May_any p v (bits8 bs) KY W h (by omega)
    rwa [mayR_bits, hM] at this)
  have HG1 : ∀ ao cap W, Hid (Calls Try.prog 14 #[.agg #[.int .i64 p, .slice ao n cap]] W fun e w' => e = .returned (.bool G) ∧ Below W.heap.size W w') := fun ao cap W => Lib.hid (by
    have := good_any p ao n cap W
    rwa [hG] at this)
  have HG2 : ∀ bo bc W, Hid (Calls Try.prog 15 #[.agg #[.int .i64 p, .slice bo nb bc]] W fun e w' => e = .returned (.bool G) ∧ Below W.heap.size W w') := fun bo bc W => Lib.hid (by
    have := r8Good_any p bo nb bc W
    rwa [show goodR p nb = G by
      rw [← hG]
      unfold goodR goodB
      exact decide_eq_decide.2 ⟨fun h => by omega, fun h => by omega⟩] at this)
  have HCK : ∀ w, Hid (Calls Try.prog 9 #[.string key, .int .i64 300] w fun e w' => e = .returned (.string KY) ∧ w' = w) := fun w => Lib.hid (by rw [← hKY]; exact l3Cut_any key 300 w (by decide))
  have HA : ∀ w, Hid (Calls Try.prog 7 #[] w fun e w' => e = .returned (.bool true) ∧ Below w.heap.size w w') := fun w => Lib.hid (awake8 w)
  have q1 : decide ((each : Int) < 1) = false := decide_eq_false (by omega)
  have q2 : decide ((32 : Int) < each) = false := decide_eq_false (by omega)
  clear h1 he hK hl1 hl2 ow hp hn hnb hn1 hn2 hbs hbl hbb hKY hKs hsz hM hG
  go_enter Try.func3, Try.ntmps3
  go_wp2_with fail
  refine HF.out.mono ?_
  rintro e w1 ⟨v1, rfl, ow, b1⟩
  have s1 := ow.lie
  clear HF ow
  obtain ⟨ao1, c1, rfl, _⟩ : ∃ ao c, v1 = .slice ao K.length c ∧ True := by
    obtain ⟨ao, c, h, _⟩ := s1
    exact ⟨ao, c, h, trivial⟩
  obtain ⟨m, hm⟩ : ∃ m, K.length = m := ⟨_, rfl⟩
  rw [hm] at s1 ⊢
  clear hm
  go_wp2_with fail
  refine (HM _ _ s1).out.mono ?_
  rintro e w2 ⟨g, cap, rfl, hB2, hg, b2⟩
  have s2 := s1.below b2
  have a2 := below_past b1 b2 b1.size
  clear HM b1 b2 s1 hg
  have x3 := World.alloc_heap_new w2 (.cells #[.int .i64 p, .slice (some ⟨g, 0, none⟩) n cap] 26)
  have b3 := (Below.refl w2.heap.size w2).alloc (Nat.le_refl _) (.cells #[.int .i64 p, .slice (some ⟨g, 0, none⟩) n cap] 26)
  have a3 := below_past a2 b3 a2.size
  have s3 := s2.below b3
  have hB3 := hB2.below b3
  clear s2 hB2 a2 b3
  go_wp2_with fail
  generalize w2.alloc (.cells #[.int .i64 p, .slice (some ⟨g, 0, none⟩) n cap] 26) = W3 at *
  refine (HR _ _ s3).out.mono ?_
  rintro e w4 ⟨ro, rc, rfl, hR4, b4⟩
  have x4 := (b4.block _ (heap_lt x3)).trans x3
  have a4 := below_past a3 b4 a3.size
  have hB4 := hB3.below b4
  clear x3 a3 hB3 b4 s3 HR
  have b5 := (Below.refl w4.heap.size w4).alloc (Nat.le_refl _) (.cells #[.int .i64 p, .slice ro nb rc] 33)
  have x5 := (b5.block _ (heap_lt x4)).trans x4
  have y5 := World.alloc_heap_new w4 (.cells #[.int .i64 p, .slice ro nb rc] 33)
  have a5 := below_past a4 b5 a4.size
  have hB5 := hB4.below b5
  have hR5 := hR4.below b5
  clear x4 a4 hB4 hR4 b5
  go_wp2_with fail
  generalize w4.alloc (.cells #[.int .i64 p, .slice ro nb rc] 33) = W5 at *
  refine (HCK _).out.mono ?_
  rintro e w6 ⟨rfl, rfl⟩
  go_wp2_with fail
  have c0 := fun y : Past w6 => (Lib.cell_of_heap ((y.h.block _ (heap_lt x5)).trans x5) 0).trans (rfl : _ = some (Value.int .i64 p))
  have c1 := fun y : Past w6 => (Lib.cell_of_heap ((y.h.block _ (heap_lt x5)).trans x5) 1).trans (rfl : _ = some (Value.slice (some ⟨g, 0, none⟩) n cap))
  have d0 := fun y : Past w6 => (Lib.cell_of_heap ((y.h.block _ (heap_lt y5)).trans y5) 0).trans (rfl : _ = some (Value.int .i64 p))
  have d1 := fun y : Past w6 => (Lib.cell_of_heap ((y.h.block _ (heap_lt y5)).trans y5) 1).trans (rfl : _ = some (Value.slice ro nb rc))
  have HB5 := Lib.hid hB5
  have HR5 := Lib.hid hR5
  have A5 := Lib.hid a5
  have X5 := Lib.hid x5
  have Y5 := Lib.hid y5
  clear hB5 hR5 a5 x5 y5
  refine wp_region_wildM [10] [0, 1, 2, 3, 4, 5, 6, 7, 8, 9, 11, 10, 12, 13, 14, 15, 16, 17, 18, 19, 20, 21, 22, 23, 24, 25, 26, 27, 28, 29, 30] (by kernel_rfl) (by kernel_rfl) ?_
  simp only [pickO, List.getElem?_cons_zero, List.getElem?_cons_succ]
  refine wildO_call (by decide) (by kernel_rfl) (by kernel_rfl) ?_
  apply Exists.intro
  refine And.intro ?_ ?_
  focus
    intro x K hK
    go_big_quiet_op
    go_big_quiet_call (exact call_back (HA _).out)
    rfl
  iterate 10 (refine wildO_val (by decide) (by kernel_rfl) rfl ?_; intro K hK; go_big_quiet_op; go_big_quiet_on)
  refine wildO_wild (by decide) (by kernel_rfl) ?_
  intro x K hK
  unfold wildAt
  go_simp
  refine (HOF _ _ _ (HB5.out.below x.h)).out.mono ?_
  rintro e w7 ⟨bo2, bc2, rfl, hb2, hb⟩
  refine ⟨_, rfl, hb, hK _ _ ?_⟩
  simp only [Act.put, List.setIfInBounds_toArray, List.set_cons_succ, List.set_cons_zero]
  have hbx := Below.step x.h hb
  have e0 := fun y : Past w7 => (Lib.cell_of_heap ((y.h.block _ (heap_lt ((hbx.block _ (heap_lt X5.out)).trans X5.out))).trans ((hbx.block _ (heap_lt X5.out)).trans X5.out)) 0).trans (rfl : _ = some (Value.int .i64 p))
  have e1 := fun y : Past w7 => (Lib.cell_of_heap ((y.h.block _ (heap_lt ((hbx.block _ (heap_lt X5.out)).trans X5.out))).trans ((hbx.block _ (heap_lt X5.out)).trans X5.out)) 1).trans (rfl : _ = some (Value.slice (some ⟨g, 0, none⟩) n cap))
  have k0 := fun y : Past w7 => (Lib.cell_of_heap ((y.h.block _ (heap_lt ((hbx.block _ (heap_lt Y5.out)).trans Y5.out))).trans ((hbx.block _ (heap_lt Y5.out)).trans Y5.out)) 0).trans (rfl : _ = some (Value.int .i64 p))
  have k1 := fun y : Past w7 => (Lib.cell_of_heap ((y.h.block _ (heap_lt ((hbx.block _ (heap_lt Y5.out)).trans Y5.out))).trans ((hbx.block _ (heap_lt Y5.out)).trans Y5.out)) 1).trans (rfl : _ = some (Value.slice ro nb rc))
  have HB7 := Lib.hid (HB5.out.below hbx)
  have HR7 := Lib.hid (HR5.out.below hbx)
  clear c0 c1 d0 d1
  refine wildO_call (by decide) (by kernel_rfl) (by kernel_rfl) ?_
  apply Exists.intro
  refine And.intro ?_ ?_
  focus
    intro x K hK
    go_big_quiet_op
    go_big_quiet_call (exact call_back (HSX _ _ _ (hb2.below (Past.two _)) (HR7.out.below (Past.two _))).out)
    rfl
  iterate 4 (refine wildO_val (by decide) (by kernel_rfl) rfl ?_; intro K hK; go_big_quiet_op; go_big_quiet_on)
  refine wildO_call (by decide) (by kernel_rfl) (by kernel_rfl) ?_
  apply Exists.intro
  refine And.intro ?_ ?_
  focus
    intro x K hK
    go_big_quiet_op
    go_big_quiet_call (exact call_back (HM1 _ _ _ (HB7.out.below (Past.two _))).out)
    rfl
  iterate 2 (refine wildO_val (by decide) (by kernel_rfl) rfl ?_; intro K hK; go_big_quiet_op; go_big_quiet_on)
  refine wildO_call (by decide) (by kernel_rfl) (by kernel_rfl) ?_
  apply Exists.intro
  refine And.intro ?_ ?_
  focus
    intro x K hK
    go_big_quiet_op
    go_big_quiet_call (exact call_back (HM2 _ _ (HR7.out.below (Past.two _))).out)
    rfl
  iterate 4 (refine wildO_val (by decide) (by kernel_rfl) rfl ?_; intro K hK; go_big_quiet_op; go_big_quiet_on)
  refine wildO_call (by decide) (by kernel_rfl) (by kernel_rfl) ?_
  apply Exists.intro
  refine And.intro ?_ ?_
  focus
    intro x K hK
    go_big_quiet_op
    go_big_quiet_call (exact call_back (HG1 _ _ _).out)
    rfl
  iterate 1 (refine wildO_val (by decide) (by kernel_rfl) rfl ?_; intro K hK; go_big_quiet_op; go_big_quiet_on)
  refine wildO_call (by decide) (by kernel_rfl) (by kernel_rfl) ?_
  apply Exists.intro
  refine And.intro ?_ ?_
  focus
    intro x K hK
    go_big_quiet_op
    go_big_quiet_call (exact call_back (HG2 _ _ _).out)
    rfl
  iterate 3 (refine wildO_val (by decide) (by kernel_rfl) rfl ?_; intro K hK; go_big_quiet_op; go_big_quiet_on)
  refine wildO_nil ?_
  rintro ⟨z, hz⟩
  dsimp only
  have bz := Below.step hbx hz
  have a8 := below_past A5.out bz A5.out.size
  clear e0 e1 k0 k1
  go_wp2_with fail
  go_ret
  exact ⟨rfl, a8⟩
theorem walk (v : Value) (len : Nat) (S : Nat → ByteArray) (each : Int) (key : ByteArray) (w : World) (h1 : InStrs w v len S) :
    Calls Try.prog 3 #[v, .int .i64 each, .string key] w fun e w' => e = .returned (.bool true) ∧ Below w.heap.size w w' := by
  by_cases h : each < 1 ∨ 32 < each
  · exact walk_bad v len S each key w h1 h
  · obtain ⟨q, rfl⟩ : ∃ q : Nat, each = q := ⟨each.toNat, by omega⟩
    exact walk_good v len S q key w h1 (by omega)
set_option maxRecDepth 100000 in
theorem lifted (os : Os) (started : os.Started) (H : Type) (enc : TypeId × Value → H) :
    ReturnsInHanded {} Try.checked os 3 .any (Rows.bloomMakesSpec.pre6 enc Try.prog Try.f3 Rows.bloomMakesRow.domain false) (Rows.bloomMakesSpec.post enc Try.prog Try.f3 false true false false) := by
  refine returnsInHanded_of_change (C := Try.checked) own started (by kernel_rfl) Try.func3
    (ChangeSpec.witness6 (enc := enc) (C := Try.checked) false ⟨#[], #[.slice none 0 0, .int .i64 0, .string ⟨#[]⟩], []⟩ 8 (by kernel_rfl) (by kernel_rfl) (by kernel_rfl) (by kernel_rfl)) ?_
  intro W base args ds gs before hval0 hW _ _
  have hval : ∀ (j : Nat) t v, Try.f3.params[j]? = some t → args[j]? = some v → Value.okWide Try.prog W .any base t v := hval0
  clear hval0
  have hW' := hW
  obtain ⟨p, q, hA0, hV, rfl, hfz, hnd⟩ := hW
  have hA : DataW.TrodAll enc Try.prog W 0 (fun _ => true) true Try.f3.params.toList args.toList ds p := hA0
  rw [Try.params3] at hA hval
  clear hA0 hfz hnd hV
  have hr : Readable Try.f3.params.toList := by
    rw [Try.params3]
    exact readable_of_all (by kernel_rfl)
  have fin : ∀ W', Below W.heap.size W W' → Rows.bloomMakesSpec.post enc Try.prog Try.f3 false true false false W args (.bool true) W' := fun W' hb =>
    law_post rfl hW' hr (fun l hl => by
      rw [Try.params3] at hl
      match l, hl with
      | [d1, d2, d3], _ => rfl) (by kernel_rfl) hb
  clear hW' hr
  obtain ⟨v0, v1, v2, d0, d1, d2, p0, p1, p2, rfl, rfl, rfl, h0, h1, h2⟩ := trodAll_three hA; obtain ⟨l1, S1, hs1⟩ := in_strs Try.underlying22 Try.underlying9 cellsOf_string (hval 0 22 v0 rfl rfl) h0; obtain ⟨n, rfl, _, _, w1⟩ := open_int Try.underlying3 (hval 1 3 v1 rfl rfl) h1; obtain ⟨s, rfl, _, _, w2⟩ := open_string Try.underlying9 (hval 2 9 v2 rfl rfl) h2
  exact (walk v0 l1 S1 n s W hs1).mono fun e W' ⟨he, hb⟩ => ⟨_, he, fin W' hb⟩
theorem proved : Rows.BloomMakesSaid :=
  OpenClaim.holds_of_wide 3 Try.f3 rfl rfl rfl rfl rfl rfl rfl ⟨rfl, rfl, rfl, rfl, rfl⟩ rfl rfl rfl rfl rfl (by kernel_rfl) Try.func3 (by kernel_rfl)
    (of_decide_eq_true (by kernel_rfl)) (by unfold Func.isWrapper; first | (rw [if_pos (by decide +kernel)]; kernel_rfl) | (rw [if_neg (by decide +kernel)]; exact ⟨rfl, rfl⟩))
    (fun os started H enc _ => lifted os started H enc)
end Go.Proofs.Ytdedlekelkaabaa.makes8
