/- For every text the law NameTwice returns true. Conditions: none. -/
import Derived.Test.YtklbpnbnopiabaaName9
import Derived.Test.YtklbpnbnopiabaaRow
import Derived.ChangeMaps5
namespace Go.Proofs.Ytklbpnbnopiabaa.twice
open Go Go.ChangeShapes Go.WideShapes Go.ChangeAt Go.ChangeMaps Go.RowKit Go.Proofs.Ytklbpnbnopiabaa

theorem parts_fit : ∀ (f : Nat) (cur l : List UInt8), (partsF f cur l).length ≤ f + 1 ∧ ∀ p ∈ partsF f cur l, p.length ≤ cur.length + l.length
  | 0, cur, l => ⟨Nat.le_refl _, fun p hp => by rw [List.mem_singleton.1 hp]; omega⟩
  | f + 1, cur, l => by
    unfold partsF
    split
    · exact ⟨by simp, fun p hp => by rw [List.mem_singleton.1 hp]; omega⟩
    · split
      · obtain ⟨h1, h2⟩ := parts_fit f [] (l.drop (decL l).2)
        refine ⟨by rw [List.length_cons]; omega, fun p hp => ?_⟩
        rcases List.mem_cons.1 hp with rfl | hp
        · omega
        · have := h2 p hp
          rw [List.length_nil, List.length_drop] at this
          omega
      · obtain ⟨h1, h2⟩ := parts_fit f (cur ++ l.take (decL l).2) (l.drop (decL l).2)
        refine ⟨by omega, fun p hp => ?_⟩
        have := h2 p hp
        rw [List.length_append, List.length_take, List.length_drop] at this
        omega
theorem encC_len : ∀ cs : List Nat, (encC cs).length ≤ 4 * cs.length
  | [] => Nat.le_refl _
  | c :: cs => by
    have := encC_len cs
    have := encL_le c
    rw [encC_cons, List.length_append, List.length_cons]
    omega
theorem fold_len (l : List UInt8) : (foldL l).length ≤ 4 * l.length := by
  have h1 := encC_len ((codes l).map foldC)
  have h2 := runes_len _ l (Nat.le_refl _)
  rw [List.length_map, codes, List.length_map] at h1
  unfold foldL codes
  omega
theorem fold_runes (l : List UInt8) : (runesL (foldL l)).length = (runesL l).length := by
  have := congrArg List.length (codes_fold l)
  simpa [codes] using this
set_option maxRecDepth 100000 in
theorem no (s : ByteArray) (L F : List UInt8) (m i k : Nat) (w : World) (HK : Hid (Calls Try.prog 24 #[.string s, .int .i64 300] w fun e w' => e = .returned (.string (stx L)) ∧ w' = w))
    (H1 : Hid (∀ w, Calls Try.prog 40 #[.string (stx L)] w fun e w' => e = .returned (.string (stx F)) ∧ Below w.heap.size w w'))
    (H2 : Hid (∀ w, Calls Try.prog 40 #[.string (stx F)] w fun e w' => e = .returned (.string (stx F)) ∧ Below w.heap.size w w'))
    (H3 : Hid (∀ w, Calls Try.prog 42 #[.string (stx F)] w fun e w' => e = .returned (.int .i64 m) ∧ Below w.heap.size w w'))
    (H4 : Hid (∀ w, Calls Try.prog 42 #[.string (stx L)] w fun e w' => e = .returned (.int .i64 m) ∧ Below w.heap.size w w'))
    (H5 : Hid (∀ w, Calls Try.prog 33 #[.string (stx L)] w fun e w' => e = .returned (ChkR (i, k)) ∧ Below w.heap.size w w')) (hk : k ≠ 0) :
    Calls Try.prog 10 #[.string s] w fun e w' => e = .returned (.bool true) ∧ Below w.heap.size w w' := by
  have H6 := Lib.hid (awake6)
  have hk' : ((k : Int) != 0) = true := by simpa using hk
  unfold ChkR at H5
  generalize stx L = X at *
  generalize stx F = Y at *
  clear hk
  go_enter Try.func10, Try.ntmps10
  go_wp2_with fail
  refine HK.out.mono ?_
  rintro e w1 ⟨rfl, rfl⟩
  go_wp2_with fail
  refine (H1.out _).mono ?_
  rintro e w2 ⟨rfl, b1⟩
  clear HK H1
  go_wp2_with fail
  refine (H2.out _).mono ?_
  rintro e w3 ⟨rfl, b2⟩
  have b3 := below_past b1 b2 b1.size
  clear b1 b2 H2
  go_wp2_with fail
  refine (H3.out _).mono ?_
  rintro e w4 ⟨rfl, b2⟩
  have b4 := below_past b3 b2 b3.size
  clear b3 b2 H3
  go_wp2_with fail
  refine (H4.out _).mono ?_
  rintro e w5 ⟨rfl, b2⟩
  have b3 := below_past b4 b2 b4.size
  clear b4 b2
  go_wp2_with fail
  refine (H5.out _).mono ?_
  rintro e w6 ⟨rfl, b2⟩
  have b4 := below_past b3 b2 b3.size
  clear b3 b2 H5
  clear H4
  go_wp2_with fail
  refine (H6.out _).mono ?_
  rintro e w7 ⟨rfl, b2⟩
  have b3 := below_past b4 b2 b4.size
  clear b4 b2 H6
  go_wp2_with fail
  go_ret
  exact ⟨rfl, b3⟩
set_option maxRecDepth 100000 in
set_option maxHeartbeats 1000000 in
theorem yes (s : ByteArray) (L : List UInt8) (P : List (List UInt8)) (m n : Nat) (w : World) (HK : Hid (Calls Try.prog 24 #[.string s, .int .i64 300] w fun e w' => e = .returned (.string (stx L)) ∧ w' = w))
    (H1 : Hid (∀ w, Calls Try.prog 40 #[.string (stx L)] w fun e w' => e = .returned (.string (stx L)) ∧ Below w.heap.size w w'))
    (H3 : Hid (∀ w, Calls Try.prog 42 #[.string (stx L)] w fun e w' => e = .returned (.int .i64 m) ∧ Below w.heap.size w w'))
    (H5 : Hid (∀ w, Calls Try.prog 33 #[.string (stx L)] w fun e w' => e = .returned (ChkR (0, 0)) ∧ Below w.heap.size w w')) (hm : m ≤ 40)
    (H7 : Hid (∀ w, Calls Try.prog 38 #[.string (stx L)] w fun e w' => ∃ v, e = .returned v ∧ OwnStrs w' w.heap.size v P ∧ Below w.heap.size w w'))
    (HN : Hid (P.length = n)) (hn : n ≤ 301) (HP : Hid (∀ i, i < n → ∀ w, Calls Try.prog 33 #[.string (stx (P.getD i []))] w fun e w' => (∃ j : Nat, e = .returned (ChkR (j, 0))) ∧ Below w.heap.size w w')) :
    Calls Try.prog 10 #[.string s] w fun e w' => e = .returned (.bool true) ∧ Below w.heap.size w w' := by
  have H6 := Lib.hid (awake6)
  have hm' : (m : Int) ≤ 40 := by omega
  have hn' : (n : Int) ≤ 301 := by omega
  have H2 := H1
  have H4 := H3
  unfold ChkR at H5 HP
  generalize stx L = X at *
  go_enter Try.func10, Try.ntmps10
  go_wp2_with fail
  refine HK.out.mono ?_
  rintro e w1 ⟨rfl, rfl⟩
  go_wp2_with fail
  refine (H1.out _).mono ?_
  rintro e w2 ⟨rfl, b1⟩
  clear HK H1
  go_wp2_with fail
  refine (H2.out _).mono ?_
  rintro e w3 ⟨rfl, b2⟩
  have b3 := below_past b1 b2 b1.size
  clear b1 b2 H2
  go_wp2_with fail
  refine (H3.out _).mono ?_
  rintro e w4 ⟨rfl, b2⟩
  have b4 := below_past b3 b2 b3.size
  clear b3 b2 H3
  go_wp2_with fail
  refine (H4.out _).mono ?_
  rintro e w5 ⟨rfl, b2⟩
  have b3 := below_past b4 b2 b4.size
  clear b4 b2
  go_wp2_with fail
  refine (H5.out _).mono ?_
  rintro e w6 ⟨rfl, b2⟩
  have b4 := below_past b3 b2 b3.size
  clear b3 b2 H5
  go_wp2_with fail
  refine (H7.out _).mono ?_
  rintro e w7 ⟨v, rfl, o1, b2⟩
  obtain ⟨ao, c1, hv, K1⟩ := o1.lie
  rw [HN.out] at hv
  subst hv
  have K1 := Lib.hid K1
  have b3 := below_past b4 b2 b4.size
  clear b4 b2 H7 o1
  go_wp2_with fail
  go_loopw [36] (fun x wr => ∃ i : Nat, i ≤ n ∧ x = .int .i64 i ∧ Below w1.heap.size w1 wr ∧ Below w7.heap.size w7 wr) (fun x _ => (n - intOf x).toNat)
  case atStart => exact ⟨0, Nat.zero_le _, rfl, b3, Below.refl _ _⟩
  case round =>
    obtain ⟨i, hi, rfl, b0, bq⟩ := hrel
    clear b3
    by_cases hlt : i < n
    · have hlt' : (i : Int) < n := by omega
      obtain ⟨g1, rfl, d1⟩ := K1.out i (by rw [HN.out]; exact hlt)
      have c1 := cell_past bq d1
      have HC := Lib.hid (HP.out i hlt)
      generalize stx (P.getD i []) = Z at *
      clear d1
      go_wp2_with fail
      refine (HC.out _).mono ?_
      rintro e w8 ⟨⟨j, rfl⟩, b2⟩
      have b3 := below_past b0 b2 b0.size
      have b4 := below_past bq b2 bq.size
      clear b0 bq b2 HC c1
      go_wp2_with fail
      exact ⟨⟨i + 1, hlt, by go_num, b3, b4⟩, by simp [intOf]; omega⟩
    · obtain rfl : i = n := by omega
      go_wp2_with fail
      refine (H6.out _).mono ?_
      rintro e w8 ⟨rfl, b2⟩
      have b3 := below_past b0 b2 b0.size
      clear b0 b2 H6 bq
      go_wp2_with fail
      refine (H4.out _).mono ?_
      rintro e w9 ⟨rfl, b2⟩
      have b4 := below_past b3 b2 b3.size
      go_wp2_with fail
      go_ret
      exact ⟨rfl, b4⟩
theorem walk (s : ByteArray) (w : World) : Calls Try.prog 10 #[.string s] w fun e w' => e = .returned (.bool true) ∧ Below w.heap.size w w' := by
  have HK := Lib.hid (l3Cut_any s 300 w (by decide))
  obtain ⟨L, hL⟩ : ∃ L, s.data.toList.take 300 = L := ⟨_, rfl⟩
  have hl : L.length ≤ 300 := by rw [← hL, List.length_take]; omega
  rw [hL] at HK
  have hf := fold_len L
  have hz : (stx L).size ≤ 1000000 := by rw [stx_size]; omega
  have hz2 : (stx (foldL L)).size ≤ 1000000 := by rw [stx_size]; omega
  by_cases h : (chk L).2 = 0
  · have hg : (codes L).all goodC = true := ((chk_ok L).1 h).1
    have hfl := fold_good L hg
    have hlen : (runesL L).length ≤ 40 := by have := ((chk_ok L).1 h).2.1; rwa [codes, List.length_map] at this
    obtain ⟨hp1, hp2⟩ := parts_fit L.length [] L
    have hc0 : chk L = (0, 0) := by
      refine Prod.ext ?_ h
      unfold chk at h ⊢
      split
      · rename_i e; exact absurd h (by rw [if_pos e]; decide)
      · rename_i e; rw [if_neg e] at h; exact chkF_zero _ _ _ _ _ h
    refine yes s L (partsL L) (runesL L).length (partsL L).length w HK (Lib.hid fun w => ?_) (Lib.hid fun w => Runes_any (stx L) w hz) (Lib.hid fun w => ?_) hlen (Lib.hid fun w => Parts_any (stx L) w hz) (Lib.hid rfl) (by unfold partsL; omega) (Lib.hid fun i hi w => ?_)
    · have := Fold_any (stx L) w hz
      rwa [show (stx L).data.toList = L from rfl, hfl] at this
    · have := Check_any (stx L) w hz
      rwa [show (stx L).data.toList = L from rfl, hc0] at this
    · have hmem : (partsL L).getD i [] ∈ partsL L := by
        rw [List.getD_eq_getElem?_getD, List.getElem?_eq_getElem hi]
        exact List.getElem_mem hi
      have hle := hp2 _ hmem
      rw [List.length_nil] at hle
      have hok := parts_ok L h _ hmem
      refine (Check_any (stx ((partsL L).getD i [])) w (by rw [stx_size]; omega)).mono fun e w' ⟨he, hb⟩ => ⟨⟨(chk ((partsL L).getD i [])).1, ?_⟩, hb⟩
      rw [he, ← hok]
  · refine no s L (foldL L) (runesL L).length (chk L).1 (chk L).2 w HK (Lib.hid fun w => Fold_any (stx L) w hz) (Lib.hid fun w => ?_) (Lib.hid fun w => ?_) (Lib.hid fun w => Runes_any (stx L) w hz) (Lib.hid fun w => Check_any (stx L) w hz) h
    · have := Fold_any (stx (foldL L)) w hz2
      rwa [show (stx (foldL L)).data.toList = foldL L from rfl, fold_twice] at this
    · have := Runes_any (stx (foldL L)) w hz2
      rwa [show (stx (foldL L)).data.toList = foldL L from rfl, fold_runes] at this
set_option maxRecDepth 100000 in
theorem lifted (os : Os) (started : os.Started) (H : Type) (enc : TypeId × Value → H) :
    ReturnsInHanded {} Try.checked os 10 .any (Rows.nameTwiceSpec.pre6 enc Try.prog Try.f10 Rows.nameTwiceRow.domain false) (Rows.nameTwiceSpec.post enc Try.prog Try.f10 false true false false) := by
  refine returnsInHanded_of_change (C := Try.checked) own started (by kernel_rfl) Try.func10
    (ChangeSpec.witness6 (enc := enc) (C := Try.checked) false ⟨#[], #[.string ⟨#[]⟩], []⟩ 8 (by kernel_rfl) (by kernel_rfl) (by kernel_rfl) (by kernel_rfl)) ?_
  intro W base args ds gs before hval0 hW _ _
  have hval : ∀ (j : Nat) t v, Try.f10.params[j]? = some t → args[j]? = some v → Value.okWide Try.prog W .any base t v := hval0
  clear hval0
  have hW' := hW
  obtain ⟨p, q, hA0, hV, rfl, hfz, hnd⟩ := hW
  have hA : DataW.TrodAll enc Try.prog W 0 (fun _ => true) true Try.f10.params.toList args.toList ds p := hA0
  rw [Try.params10] at hA hval
  clear hA0 hfz hnd hV
  have hr : Readable Try.f10.params.toList := by
    rw [Try.params10]
    exact readable_of_all (by kernel_rfl)
  have fin : ∀ W', Below W.heap.size W W' → Rows.nameTwiceSpec.post enc Try.prog Try.f10 false true false false W args (.bool true) W' := fun W' hb =>
    law_post rfl hW' hr (fun l hl => by
      rw [Try.params10] at hl
      match l, hl with
      | [d1], _ => rfl) (by kernel_rfl) hb
  clear hW' hr
  obtain ⟨v0, d0, rfl, rfl, h0⟩ := trodAll_one hA; obtain ⟨s, rfl, _, _, w0⟩ := open_string Try.underlying9 (hval 0 9 v0 rfl rfl) h0
  exact (walk s W).mono fun e W' ⟨he, hb⟩ => ⟨_, he, fin W' hb⟩
theorem proved : Rows.NameTwiceSaid :=
  OpenClaim.holds_of_wide 10 Try.f10 rfl rfl rfl rfl rfl rfl rfl ⟨rfl, rfl, rfl, rfl, rfl⟩ rfl rfl rfl rfl rfl (by kernel_rfl) Try.func10 (by kernel_rfl)
    (of_decide_eq_true (by kernel_rfl)) (by unfold Func.isWrapper; first | (rw [if_pos (by decide +kernel)]; kernel_rfl) | (rw [if_neg (by decide +kernel)]; exact ⟨rfl, rfl⟩))
    (fun os started H enc _ => lifted os started H enc)
end Go.Proofs.Ytklbpnbnopiabaa.twice
