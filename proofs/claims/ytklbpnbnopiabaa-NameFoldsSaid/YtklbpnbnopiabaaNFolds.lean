/- For every text the law NameFolds returns true. Conditions: none. -/
import Derived.Test.YtklbpnbnopiabaaName9
import Derived.Test.YtklbpnbnopiabaaRow
import Derived.ChangeMaps5
namespace Go.Proofs.Ytklbpnbnopiabaa.folds
open Go Go.ChangeShapes Go.WideShapes Go.ChangeAt Go.ChangeMaps Go.RowKit Go.Proofs.Ytklbpnbnopiabaa

theorem parts_len : ∀ (f : Nat) (cur l : List UInt8), (partsF f cur l).length ≤ f + 1
  | 0, _, _ => Nat.le_refl _
  | f + 1, cur, l => by
    unfold partsF
    split
    · simp
    · split
      · have := parts_len f [] (l.drop (decL l).2)
        rw [List.length_cons]
        omega
      · have := parts_len f (cur ++ l.take (decL l).2) (l.drop (decL l).2)
        omega
set_option maxRecDepth 100000 in
set_option maxHeartbeats 1000000 in
theorem walk (s : ByteArray) (w : World) : Calls Try.prog 9 #[.string s] w fun e w' => e = .returned (.bool true) ∧ Below w.heap.size w w' := by
  have HK := Lib.hid (l3Cut_any s 300 w (by decide))
  obtain ⟨L, hL⟩ : ∃ L, s.data.toList.take 300 = L := ⟨_, rfl⟩
  have hl : L.length ≤ 300 := by rw [← hL, List.length_take]; omega
  rw [hL] at HK
  have hz : (stx L).size ≤ 1000000 := by rw [stx_size]; omega
  have H1 := Lib.hid (fun w => Parts_any (stx L) w hz)
  have H2 := Lib.hid (fun w => r6Parts_any (stx L) w hz)
  have H3 := Lib.hid (awake6)
  have H4 := Lib.hid (fun w => Fold_any (stx L) w hz)
  have H5 := Lib.hid (fun w => r6Fold_any (stx L) w hz)
  have H6 := Lib.hid (fun w => Runes_any (stx L) w hz)
  have H7 := Lib.hid (fun w => r6Runes_any (stx L) w hz)
  have hpl := parts_len L.length [] L
  rw [show (stx L).data.toList = L from rfl] at H1 H2 H4 H5 H6 H7
  obtain ⟨P, hP⟩ : ∃ P, partsL L = P := ⟨_, rfl⟩
  have hpl2 : P.length ≤ 301 := by rw [← hP]; unfold partsL; omega
  rw [hP] at H1 H2
  obtain ⟨n, hn⟩ : ∃ n, P.length = n := ⟨_, rfl⟩
  have HN := Lib.hid hn
  obtain ⟨m, hm⟩ : ∃ m, (runesL L).length = m := ⟨_, rfl⟩
  have HM := Lib.hid hm
  rw [hm] at H6
  have hn' : (n : Int) ≤ 301 := by omega
  clear hL hl hz hpl hP hpl2 hn hm
  generalize stx (foldL L) = F at *
  generalize stx L = X at *
  go_enter Try.func9, Try.ntmps9
  go_wp2_with fail
  refine HK.out.mono ?_
  rintro e w1 ⟨rfl, rfl⟩
  go_wp2_with fail
  refine (H1.out _).mono ?_
  rintro e w2 ⟨v, rfl, o1, b1⟩
  have k1 := o1.lie
  clear HK H1 o1
  go_wp2_with fail
  refine (H2.out _).mono ?_
  rintro e w3 ⟨u, rfl, o1, b2⟩
  have k2 := o1.lie
  have k3 := k1.below b2
  have b3 := below_past b1 b2 b1.size
  clear b1 b2 H2 k1 o1
  obtain ⟨ao, c1, hv, K1⟩ := k3
  obtain ⟨bo, c2, hu, K2⟩ := k2
  rw [HN.out] at hv hu
  subst hv hu
  have K1 := Lib.hid K1
  have K2 := Lib.hid K2
  go_wp2_with fail
  refine (H3.out _).mono ?_
  rintro e w4 ⟨rfl, b2⟩
  have bk := b2
  have b4 := below_past b3 b2 b3.size
  clear b3 b2 H3
  go_wp2_with fail
  refine (H4.out _).mono ?_
  rintro e w5 ⟨rfl, b2⟩
  have b3 := below_past b4 b2 b4.size
  have bk2 := below_past bk b2 bk.size
  clear b4 b2 H4 bk
  go_wp2_with fail
  refine (H5.out _).mono ?_
  rintro e w6 ⟨rfl, b2⟩
  have b4 := below_past b3 b2 b3.size
  have bk := below_past bk2 b2 bk2.size
  clear b3 b2 H5 bk2
  go_wp2_with fail
  refine (H6.out _).mono ?_
  rintro e w7 ⟨rfl, b2⟩
  have b3 := below_past b4 b2 b4.size
  have bk2 := below_past bk b2 bk.size
  clear b4 b2 H6 bk
  go_wp2_with fail
  refine (H7.out _).mono ?_
  rintro e w8 ⟨z, rfl, o1, b2⟩
  obtain ⟨co, c3, hz, _⟩ := o1.lie
  rw [HM.out] at hz
  subst hz
  have b4 := below_past b3 b2 b3.size
  have bk := below_past bk2 b2 bk2.size
  clear b3 b2 H7 bk2 o1
  go_wp2_with fail
  go_loopw [38] (fun x wr => ∃ i : Nat, i ≤ n ∧ x = .int .i64 i ∧ Below w1.heap.size w1 wr ∧ Below w3.heap.size w3 wr) (fun x _ => (n - intOf x).toNat)
  case atStart => exact ⟨0, Nat.zero_le _, rfl, b4, bk⟩
  case round =>
    obtain ⟨i, hi, rfl, b0, bq⟩ := hrel
    clear b4 bk
    by_cases hlt : i < n
    · have hlt' : (i : Int) < n := by omega
      obtain ⟨g1, rfl, d1⟩ := K1.out i (by rw [HN.out]; exact hlt)
      obtain ⟨g2, rfl, d2⟩ := K2.out i (by rw [HN.out]; exact hlt)
      have c1 := cell_past bq d1
      have c2 := cell_past bq d2
      clear d1 d2
      go_wp2_with fail
      go_region
      have b1 := b0.drew
      have bq1 := bq.drew
      go_wp2_with fail
      exact ⟨⟨i + 1, hlt, by go_num, b1, bq1⟩, by simp [intOf]; omega⟩
    · obtain rfl : i = n := by omega
      go_wp2_with fail
      go_ret
      exact ⟨rfl, b0⟩
set_option maxRecDepth 100000 in
theorem lifted (os : Os) (started : os.Started) (H : Type) (enc : TypeId × Value → H) :
    ReturnsInHanded {} Try.checked os 9 .any (Rows.nameFoldsSpec.pre6 enc Try.prog Try.f9 Rows.nameFoldsRow.domain false) (Rows.nameFoldsSpec.post enc Try.prog Try.f9 false true false false) := by
  refine returnsInHanded_of_change (C := Try.checked) own started (by kernel_rfl) Try.func9
    (ChangeSpec.witness6 (enc := enc) (C := Try.checked) false ⟨#[], #[.string ⟨#[]⟩], []⟩ 8 (by kernel_rfl) (by kernel_rfl) (by kernel_rfl) (by kernel_rfl)) ?_
  intro W base args ds gs before hval0 hW _ _
  have hval : ∀ (j : Nat) t v, Try.f9.params[j]? = some t → args[j]? = some v → Value.okWide Try.prog W .any base t v := hval0
  clear hval0
  have hW' := hW
  obtain ⟨p, q, hA0, hV, rfl, hfz, hnd⟩ := hW
  have hA : DataW.TrodAll enc Try.prog W 0 (fun _ => true) true Try.f9.params.toList args.toList ds p := hA0
  rw [Try.params9] at hA hval
  clear hA0 hfz hnd hV
  have hr : Readable Try.f9.params.toList := by
    rw [Try.params9]
    exact readable_of_all (by kernel_rfl)
  have fin : ∀ W', Below W.heap.size W W' → Rows.nameFoldsSpec.post enc Try.prog Try.f9 false true false false W args (.bool true) W' := fun W' hb =>
    law_post rfl hW' hr (fun l hl => by
      rw [Try.params9] at hl
      match l, hl with
      | [d1], _ => rfl) (by kernel_rfl) hb
  clear hW' hr
  obtain ⟨v0, d0, rfl, rfl, h0⟩ := trodAll_one hA; obtain ⟨s, rfl, _, _, w0⟩ := open_string Try.underlying9 (hval 0 9 v0 rfl rfl) h0
  exact (walk s W).mono fun e W' ⟨he, hb⟩ => ⟨_, he, fin W' hb⟩
theorem proved : Rows.NameFoldsSaid :=
  OpenClaim.holds_of_wide 9 Try.f9 rfl rfl rfl rfl rfl rfl rfl ⟨rfl, rfl, rfl, rfl, rfl⟩ rfl rfl rfl rfl rfl (by kernel_rfl) Try.func9 (by kernel_rfl)
    (of_decide_eq_true (by kernel_rfl)) (by unfold Func.isWrapper; first | (rw [if_pos (by decide +kernel)]; kernel_rfl) | (rw [if_neg (by decide +kernel)]; exact ⟨rfl, rfl⟩))
    (fun os started H enc _ => lifted os started H enc)
end Go.Proofs.Ytklbpnbnopiabaa.folds
