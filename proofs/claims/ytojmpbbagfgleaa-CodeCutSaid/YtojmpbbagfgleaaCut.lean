/- For every number, text and place the law CodeCut returns true. Conditions: none. -/
import Derived.Test.YtojmpbbagfgleaaCode8
import Derived.Test.YtojmpbbagfgleaaLaw2
import Derived.Test.YtojmpbbagfgleaaRow
import Derived.ChangeMaps5
namespace Go.Proofs.Ytojmpbbagfgleaa.cut
open Go Go.ChangeShapes Go.WideShapes Go.ChangeAt Go.ChangeMaps Go.RowKit Go.Proofs.Ytojmpbbagfgleaa

def wrS (n : Int) (s : ByteArray) : List UInt8 := doneS (textW (numW [] 0 n) (numWE 0 n) s) (textWE (numWE 0 n) s)
def wrE (n : Int) (s : ByteArray) : Int := doneE (textW (numW [] 0 n) (numWE 0 n) s) (textWE (numWE 0 n) s)
theorem wr_zero {n : Int} {s : ByteArray} (h : wrE n s = 0) : 0 ≤ n ∧ s.size ≤ 65536 ∧ wrS n s = numBytes n.toNat ++ (numBytes s.size ++ s.data.toList) ∧ (wrS n s).length ≤ 65536 := by
  obtain ⟨h1, h2, h3⟩ := doneE_zero h
  obtain ⟨h4, h5⟩ := textWE_zero h1
  obtain ⟨h6, _⟩ := numWE_zero h5
  have e : wrS n s = textW (numW [] 0 n) (numWE 0 n) s := h3
  rw [e]
  refine ⟨h6, h4, ?_, h2⟩
  rw [textW, if_neg (by omega), h5, numW, if_neg (by omega)] at h2 ⊢
  obtain ⟨i1, i2⟩ := added_end h2
  rw [i2]
  obtain ⟨i3, i4⟩ := added_end i1
  rw [i4]
  obtain ⟨_, i6⟩ := added_end i3
  rw [i6, List.nil_append, List.append_assoc]

/-- Of bytes that are cut off some are wanting. -/
theorem cut_math (n : Nat) (t : List UInt8) (k : Nat) (hn : n < 9223372036854775808) (ht : t.length ≤ 65536) (hk : k < (numBytes n ++ (numBytes t.length ++ t)).length) :
    textE (numS (txt ((numBytes n ++ (numBytes t.length ++ t)).take k)) 0) (numE (txt ((numBytes n ++ (numBytes t.length ++ t)).take k)) 0) = 5 := by
  by_cases hb : k < (numBytes n).length
  · rw [List.take_append_of_le_length (by omega), num_short n k hn hb]
    exact (text_err _ _ (by decide)).2.2
  · rw [List.take_append, List.take_of_length_le (by omega)]
    obtain ⟨_, h2, h3⟩ := num_read n ((numBytes t.length ++ t).take (k - (numBytes n).length)) hn
    rw [h2, h3]
    rw [List.length_append] at hk
    exact text_short t _ ht (by omega)
theorem cut_txt (l : List UInt8) (k : Nat) : (txt l).extract 0 k = txt (l.take k) := by
  apply ByteArray.ext
  rw [ByteArray.data_extract]
  apply Array.toList_inj.1
  simp

set_option maxRecDepth 100000 in
set_option maxHeartbeats 2000000 in
theorem walk (n : Int) (s : ByteArray) (cut : Int) (hn : n < 9223372036854775808) (w : World) : Calls Try.prog 9 #[.int .i64 n, .string s, .int .i64 cut] w fun e w' => e = .returned (.bool true) ∧ Below w.heap.size w w' := by
  obtain ⟨T, hT⟩ : ∃ T, wrS n s = T := ⟨_, rfl⟩
  obtain ⟨E, hE⟩ : ∃ E, wrE n s = E := ⟨_, rfl⟩
  have HTT := Lib.hid hT
  have HE := Lib.hid hE
  by_cases h0 : E = 0
  · subst h0
    obtain ⟨z1, z2, z3, z4⟩ := wr_zero hE
    rw [hT] at z3 z4
    by_cases hc : cut < 0
    · have hc' : decide (cut < 0) = true := decide_eq_true hc
      clear hE hT z1 z2 z3 z4 hc
      have k0 : WriterAt w.heap.size w.heap.size [] 0 (w.alloc (.cells #[.slice none 0 0, .int .i64 0] 44)) :=
        ⟨none, 0, heap_alloc_new w _, World.ownsRow_nil _ _ _ _, by simp [Value.ownBlock]⟩
      have b0 : Below w.heap.size w (w.alloc (.cells #[.slice none 0 0, .int .i64 0] 44)) := (Below.refl _ _).alloc (Nat.le_refl _) _
      have HN := Lib.hid (WNumber_all _ _ _ _ n _ k0 hn b0.size)
      clear k0 hn
      go_enter Try.func9, Try.ntmps9
      go_wp2_with fail
      refine HN.out.mono ?_
      rintro e w1 ⟨rfl, k1, b1⟩
      have b2 := b0.trans (b1.below (Nat.le_refl _) (Nat.le_refl _))
      have HT := Lib.hid (WText_all _ _ _ _ s _ k1 b2.size)
      clear HN k1 b0 b1
      go_wp2_with fail
      refine HT.out.mono ?_
      rintro e w2 ⟨rfl, k1, b1⟩
      have b3 := b2.trans (b1.below (Nat.le_refl _) (Nat.le_refl _))
      have HD := Lib.hid (WDone_all _ _ _ _ _ k1)
      rw [show doneS (textW (numW [] 0 n) (numWE 0 n) s) (textWE (numWE 0 n) s) = T from HTT.out, show doneE (textW (numW [] 0 n) (numWE 0 n) s) (textWE (numWE 0 n) s) = 0 from HE.out] at HD
      clear HT k1 b2 b1
      go_wp2_with fail
      refine HD.out.mono ?_
      rintro e w3 ⟨rfl, b1⟩
      have b4 := below_past b3 b1 b3.size
      clear HD b3 b1
      go_wp2_with fail
      refine (awake2 _).mono ?_
      rintro e w4 ⟨rfl, b1⟩
      have b5 := below_past b4 b1 b4.size
      clear b4 b1
      go_wp2_with fail
      go_ret
      exact ⟨rfl, b5⟩
    · have hc' : decide (cut < 0) = false := decide_eq_false hc
      obtain ⟨k, rfl⟩ : ∃ k : Nat, cut = k := ⟨cut.toNat, by omega⟩
      by_cases hk : k < T.length
      · have hk' : decide (T.length ≤ k) = false := decide_eq_false (by omega)
        have hsz : (txt T).size = T.length := txt_size T
        have HX : Hid ((txt T).extract 0 k = txt (T.take k)) := Lib.hid (cut_txt T k)
        have hm := cut_math n.toNat s.data.toList k (by omega) z2 (by rw [z3] at hk; exact hk)
        rw [show s.data.toList.length = s.size from rfl, ← z3] at hm
        have HM := Lib.hid hm
        have HL : Hid ((txt (T.take k)).size ≤ 65536) := Lib.hid (by rw [txt_size, List.length_take]; omega)
        clear hE hT z1 z2 z3 z4 hc hm
        have k0 : WriterAt w.heap.size w.heap.size [] 0 (w.alloc (.cells #[.slice none 0 0, .int .i64 0] 44)) :=
          ⟨none, 0, heap_alloc_new w _, World.ownsRow_nil _ _ _ _, by simp [Value.ownBlock]⟩
        have b0 : Below w.heap.size w (w.alloc (.cells #[.slice none 0 0, .int .i64 0] 44)) := (Below.refl _ _).alloc (Nat.le_refl _) _
        have HN := Lib.hid (WNumber_all _ _ _ _ n _ k0 hn b0.size)
        clear k0 hn
        go_enter Try.func9, Try.ntmps9
        go_wp2_with fail
        refine HN.out.mono ?_
        rintro e w1 ⟨rfl, k1, b1⟩
        have b2 := b0.trans (b1.below (Nat.le_refl _) (Nat.le_refl _))
        have HT := Lib.hid (WText_all _ _ _ _ s _ k1 b2.size)
        clear HN k1 b0 b1
        go_wp2_with fail
        refine HT.out.mono ?_
        rintro e w2 ⟨rfl, k1, b1⟩
        have b3 := b2.trans (b1.below (Nat.le_refl _) (Nat.le_refl _))
        have HD := Lib.hid (WDone_all _ _ _ _ _ k1)
        rw [show doneS (textW (numW [] 0 n) (numWE 0 n) s) (textWE (numWE 0 n) s) = T from HTT.out, show doneE (textW (numW [] 0 n) (numWE 0 n) s) (textWE (numWE 0 n) s) = 0 from HE.out] at HD
        clear HT k1 b2 b1
        go_wp2_with fail
        refine HD.out.mono ?_
        rintro e w3 ⟨rfl, b1⟩
        have b4 := below_past b3 b1 b3.size
        clear HD b3 b1
        go_wp2_with fail
        have HO := Lib.hid (Open_any ((txt T).extract 0 k) w3)
        rw [HX.out, if_pos HL.out] at HO
        rw [HX.out]
        refine HO.out.mono ?_
        rintro e w4 ⟨rfl, k1, b1⟩
        have b5 := below_past b4 b1 b4.size
        have s4 := b4.size
        have s5 := b1.size
        have HR := Lib.hid (RNumber_all _ _ _ _ _ k1)
        clear HO b4 b1 k1
        generalize w3.heap.size = g at *
        go_wp2_with fail
        refine HR.out.mono ?_
        rintro e w5 ⟨rfl, k1, b1⟩
        have b6 := b5.trans (b1.below s4 s4)
        have HS := Lib.hid (RText_any _ _ _ _ _ k1 (Nat.le_trans s5 b1.size))
        clear HR b5 b1 k1
        go_wp2_with fail
        refine HS.out.mono ?_
        rintro e w6 ⟨rfl, k1, b1⟩
        rw [HM.out] at k1
        have b7 := b6.trans (b1.below s4 s4)
        have K := Lib.hid k1
        clear HS b6 b1 k1
        go_wp2_with fail
        refine (awake2 _).mono ?_
        rintro e w7 ⟨rfl, b1⟩
        have b8 := below_past b7 b1 b7.size
        have HD := Lib.hid (RDone_any _ _ _ _ _ (K.out.below b1))
        rw [if_neg (fun e => by cases e.1)] at HD
        clear K b7 b1
        go_wp2_with fail
        refine HD.out.mono ?_
        rintro e w8 ⟨rfl, b1⟩
        have b9 := below_past b8 b1 b8.size
        clear HD b8 b1
        go_wp2_with fail
        go_ret
        exact ⟨rfl, b9⟩
      · have hk' : decide (T.length ≤ k) = true := decide_eq_true (by omega)
        have hsz : (txt T).size = T.length := txt_size T
        clear hE hT z1 z2 z3 z4 hc hk
        have k0 : WriterAt w.heap.size w.heap.size [] 0 (w.alloc (.cells #[.slice none 0 0, .int .i64 0] 44)) :=
          ⟨none, 0, heap_alloc_new w _, World.ownsRow_nil _ _ _ _, by simp [Value.ownBlock]⟩
        have b0 : Below w.heap.size w (w.alloc (.cells #[.slice none 0 0, .int .i64 0] 44)) := (Below.refl _ _).alloc (Nat.le_refl _) _
        have HN := Lib.hid (WNumber_all _ _ _ _ n _ k0 hn b0.size)
        clear k0 hn
        go_enter Try.func9, Try.ntmps9
        go_wp2_with fail
        refine HN.out.mono ?_
        rintro e w1 ⟨rfl, k1, b1⟩
        have b2 := b0.trans (b1.below (Nat.le_refl _) (Nat.le_refl _))
        have HT := Lib.hid (WText_all _ _ _ _ s _ k1 b2.size)
        clear HN k1 b0 b1
        go_wp2_with fail
        refine HT.out.mono ?_
        rintro e w2 ⟨rfl, k1, b1⟩
        have b3 := b2.trans (b1.below (Nat.le_refl _) (Nat.le_refl _))
        have HD := Lib.hid (WDone_all _ _ _ _ _ k1)
        rw [show doneS (textW (numW [] 0 n) (numWE 0 n) s) (textWE (numWE 0 n) s) = T from HTT.out, show doneE (textW (numW [] 0 n) (numWE 0 n) s) (textWE (numWE 0 n) s) = 0 from HE.out] at HD
        clear HT k1 b2 b1
        go_wp2_with fail
        refine HD.out.mono ?_
        rintro e w3 ⟨rfl, b1⟩
        have b4 := below_past b3 b1 b3.size
        clear HD b3 b1
        go_wp2_with fail
        refine (awake2 _).mono ?_
        rintro e w4 ⟨rfl, b1⟩
        have b5 := below_past b4 b1 b4.size
        clear b4 b1
        go_wp2_with fail
        go_ret
        exact ⟨rfl, b5⟩
  · have hq : (E != 0) = true := by simpa using h0
    clear hE hT
    have k0 : WriterAt w.heap.size w.heap.size [] 0 (w.alloc (.cells #[.slice none 0 0, .int .i64 0] 44)) :=
      ⟨none, 0, heap_alloc_new w _, World.ownsRow_nil _ _ _ _, by simp [Value.ownBlock]⟩
    have b0 : Below w.heap.size w (w.alloc (.cells #[.slice none 0 0, .int .i64 0] 44)) := (Below.refl _ _).alloc (Nat.le_refl _) _
    have HN := Lib.hid (WNumber_all _ _ _ _ n _ k0 hn b0.size)
    clear k0 hn
    go_enter Try.func9, Try.ntmps9
    go_wp2_with fail
    refine HN.out.mono ?_
    rintro e w1 ⟨rfl, k1, b1⟩
    have b2 := b0.trans (b1.below (Nat.le_refl _) (Nat.le_refl _))
    have HT := Lib.hid (WText_all _ _ _ _ s _ k1 b2.size)
    clear HN k1 b0 b1
    go_wp2_with fail
    refine HT.out.mono ?_
    rintro e w2 ⟨rfl, k1, b1⟩
    have b3 := b2.trans (b1.below (Nat.le_refl _) (Nat.le_refl _))
    have HD := Lib.hid (WDone_all _ _ _ _ _ k1)
    rw [show doneS (textW (numW [] 0 n) (numWE 0 n) s) (textWE (numWE 0 n) s) = T from HTT.out, show doneE (textW (numW [] 0 n) (numWE 0 n) s) (textWE (numWE 0 n) s) = E from HE.out] at HD
    clear HT k1 b2 b1
    go_wp2_with fail
    refine HD.out.mono ?_
    rintro e w3 ⟨rfl, b1⟩
    have b4 := below_past b3 b1 b3.size
    clear HD b3 b1
    go_wp2_with fail
    refine (awake2 _).mono ?_
    rintro e w4 ⟨rfl, b1⟩
    have b5 := below_past b4 b1 b4.size
    clear b4 b1
    go_wp2_with fail
    go_ret
    exact ⟨rfl, b5⟩

set_option maxRecDepth 100000 in
theorem lifted (os : Os) (started : os.Started) (H : Type) (enc : TypeId × Value → H) :
    ReturnsInHanded {} Try.checked os 9 .any (Rows.codeCutSpec.pre6 enc Try.prog Try.f9 Rows.codeCutRow.domain false) (Rows.codeCutSpec.post enc Try.prog Try.f9 false true false false) := by
  refine returnsInHanded_of_change (C := Try.checked) own started (by kernel_rfl) Try.func9
    (ChangeSpec.witness6 (enc := enc) (C := Try.checked) false ⟨#[], #[.int .i64 0, .string ⟨#[]⟩, .int .i64 0], []⟩ 8 (by kernel_rfl) (by kernel_rfl) (by kernel_rfl) (by kernel_rfl)) ?_
  intro W base args ds gs before hval0 hW _ _
  have hval : ∀ (j : Nat) t v, Try.f9.params[j]? = some t → args[j]? = some v → Value.okWide Try.prog W .any base t v := hval0
  clear hval0
  have hW' := hW
  obtain ⟨p, q, hA0, hV, rfl, hfz, hnd⟩ := hW
  have hA : DataW.TrodAll enc Try.prog W 0 (fun _ => true) true Try.f9.params.toList args.toList ds p := hA0
  rw [Try.params9] at hA hval
  clear hA0 hfz hnd hV
  have hr : Readable Try.f9.params.toList := by
    rw [Try.params9]
    exact readable_of_all (by kernel_rfl)
  have fin : ∀ W', Below W.heap.size W W' → Rows.codeCutSpec.post enc Try.prog Try.f9 false true false false W args (.bool true) W' := fun W' hb =>
    law_post rfl hW' hr (fun l hl => by
      rw [Try.params9] at hl
      match l, hl with
      | [d1, d2, d3], _ => rfl) (by kernel_rfl) hb
  clear hW' hr
  obtain ⟨v0, v1, v2, d0, d1, d2, p0, p1, p2, rfl, rfl, rfl, h0, h1, h2⟩ := trodAll_three hA; obtain ⟨n, rfl, _, _, w0⟩ := open_int Try.underlying3 (hval 0 3 v0 rfl rfl) h0; obtain ⟨s, rfl, _, _, w1⟩ := open_string Try.underlying9 (hval 1 9 v1 rfl rfl) h1; obtain ⟨c, rfl, _, _, w2⟩ := open_int Try.underlying3 (hval 2 3 v2 rfl rfl) h2
  exact (walk n s c (by have := (wf_i64 w0).2; omega) W).mono fun e W' ⟨he, hb⟩ => ⟨_, he, fin W' hb⟩
theorem proved : Rows.CodeCutSaid :=
  OpenClaim.holds_of_wide 9 Try.f9 rfl rfl rfl rfl rfl rfl rfl ⟨rfl, rfl, rfl, rfl, rfl⟩ rfl rfl rfl rfl rfl (by kernel_rfl) Try.func9 (by kernel_rfl)
    (of_decide_eq_true (by kernel_rfl)) (by unfold Func.isWrapper; first | (rw [if_pos (by decide +kernel)]; kernel_rfl) | (rw [if_neg (by decide +kernel)]; exact ⟨rfl, rfl⟩))
    (fun os started H enc _ => lifted os started H enc)
end Go.Proofs.Ytojmpbbagfgleaa.cut
