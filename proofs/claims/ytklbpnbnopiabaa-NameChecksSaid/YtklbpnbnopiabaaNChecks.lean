/- For every text and every rune the law NameChecks returns true. Conditions: none. -/
import Derived.Test.YtklbpnbnopiabaaName9
import Derived.Test.YtklbpnbnopiabaaRow
import Derived.ChangeMaps5
namespace Go.Proofs.Ytklbpnbnopiabaa.checks
open Go Go.ChangeShapes Go.WideShapes Go.ChangeAt Go.ChangeMaps Go.RowKit Go.Proofs.Ytklbpnbnopiabaa

theorem wf_i32 {n : Int} (h : (Lit.int .i32 n).wf = true) : -2147483648 ≤ n ∧ n ≤ 2147483647 := by
  simpa [Lit.wf, IntKind.min, IntKind.max, IntKind.signed, IntKind.bits] using h
set_option maxRecDepth 100000 in
set_option maxHeartbeats 1000000 in
theorem walk (s : ByteArray) (c : Int) (hc1 : -2147483648 ≤ c) (hc2 : c ≤ 2147483647) (w : World) : Calls Try.prog 8 #[.string s, .int .i32 c] w fun e w' => e = .returned (.bool true) ∧ Below w.heap.size w w' := by
  have HK := Lib.hid (l3Cut_any s 300 w (by decide))
  obtain ⟨L, hL⟩ : ∃ L, s.data.toList.take 300 = L := ⟨_, rfl⟩
  have hl : L.length ≤ 300 := by rw [← hL, List.length_take]; omega
  rw [hL] at HK
  have H1 := Lib.hid (fun w => Check_any (stx L) w (by rw [stx_size]; omega))
  have H2 := Lib.hid (fun w => r6Check_any (stx L) w (by rw [stx_size]; omega))
  have H3 := Lib.hid (awake6)
  have H4 := Lib.hid (fun w => Kind_any c w)
  have H5 := Lib.hid (fun w => r6Kind_any c w)
  rw [show (stx L).data.toList = L from rfl] at H1 H2
  unfold ChkR at H1 H2
  clear hL hl
  obtain ⟨R, hR⟩ : ∃ R, chk L = R := ⟨_, rfl⟩
  rw [hR] at H1 H2
  clear hR
  obtain ⟨n, e⟩ := R
  generalize kind c = K at *
  generalize stx L = X at *
  go_enter Try.func8, Try.ntmps8
  go_wp2_with fail
  refine HK.out.mono ?_
  rintro e w1 ⟨rfl, rfl⟩
  go_wp2_with fail
  refine (H1.out _).mono ?_
  rintro e w2 ⟨rfl, b1⟩
  clear HK H1
  go_wp2_with fail
  refine (H2.out _).mono ?_
  rintro e w3 ⟨rfl, b2⟩
  have b3 := below_past b1 b2 b1.size
  clear b1 b2 H2
  go_wp2_with fail
  refine (H3.out _).mono ?_
  rintro e w4 ⟨rfl, b2⟩
  have b4 := below_past b3 b2 b3.size
  clear b3 b2 H3
  go_wp2_with fail
  refine (H4.out _).mono ?_
  rintro e w5 ⟨rfl, b2⟩
  have b5 := below_past b4 b2 b4.size
  clear b4 b2 H4
  go_wp2_with fail
  refine (H5.out _).mono ?_
  rintro e w6 ⟨rfl, b2⟩
  have b6 := below_past b5 b2 b5.size
  clear b5 b2 H5
  go_wp2_with fail
  go_ret
  exact ⟨rfl, b6⟩
set_option maxRecDepth 100000 in
theorem lifted (os : Os) (started : os.Started) (H : Type) (enc : TypeId × Value → H) :
    ReturnsInHanded {} Try.checked os 8 .any (Rows.nameChecksSpec.pre6 enc Try.prog Try.f8 Rows.nameChecksRow.domain false) (Rows.nameChecksSpec.post enc Try.prog Try.f8 false true false false) := by
  refine returnsInHanded_of_change (C := Try.checked) own started (by kernel_rfl) Try.func8
    (ChangeSpec.witness6 (enc := enc) (C := Try.checked) false ⟨#[], #[.string ⟨#[]⟩, .int .i32 0], []⟩ 8 (by kernel_rfl) (by kernel_rfl) (by kernel_rfl) (by kernel_rfl)) ?_
  intro W base args ds gs before hval0 hW _ _
  have hval : ∀ (j : Nat) t v, Try.f8.params[j]? = some t → args[j]? = some v → Value.okWide Try.prog W .any base t v := hval0
  clear hval0
  have hW' := hW
  obtain ⟨p, q, hA0, hV, rfl, hfz, hnd⟩ := hW
  have hA : DataW.TrodAll enc Try.prog W 0 (fun _ => true) true Try.f8.params.toList args.toList ds p := hA0
  rw [Try.params8] at hA hval
  clear hA0 hfz hnd hV
  have hr : Readable Try.f8.params.toList := by
    rw [Try.params8]
    exact readable_of_all (by kernel_rfl)
  have fin : ∀ W', Below W.heap.size W W' → Rows.nameChecksSpec.post enc Try.prog Try.f8 false true false false W args (.bool true) W' := fun W' hb =>
    law_post rfl hW' hr (fun l hl => by
      rw [Try.params8] at hl
      match l, hl with
      | [d1, d2], _ => rfl) (by kernel_rfl) hb
  clear hW' hr
  obtain ⟨v0, v1, d0, d1, p0, p1, rfl, rfl, rfl, h0, h1⟩ := trodAll_two hA; obtain ⟨s, rfl, _, _, w0⟩ := open_string Try.underlying9 (hval 0 9 v0 rfl rfl) h0; obtain ⟨c, rfl, _, _, wc⟩ := open_int Try.underlying21 (hval 1 21 v1 rfl rfl) h1
  exact (walk s c (wf_i32 wc).1 (wf_i32 wc).2 W).mono fun e W' ⟨he, hb⟩ => ⟨_, he, fin W' hb⟩
theorem proved : Rows.NameChecksSaid :=
  OpenClaim.holds_of_wide 8 Try.f8 rfl rfl rfl rfl rfl rfl rfl ⟨rfl, rfl, rfl, rfl, rfl⟩ rfl rfl rfl rfl rfl (by kernel_rfl) Try.func8 (by kernel_rfl)
    (of_decide_eq_true (by kernel_rfl)) (by unfold Func.isWrapper; first | (rw [if_pos (by decide +kernel)]; kernel_rfl) | (rw [if_neg (by decide +kernel)]; exact ⟨rfl, rfl⟩))
    (fun os started H enc _ => lifted os started H enc)
end Go.Proofs.Ytklbpnbnopiabaa.checks
