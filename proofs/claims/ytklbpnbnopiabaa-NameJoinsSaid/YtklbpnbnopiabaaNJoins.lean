/- For every two texts and every byte the law NameJoins returns true. Conditions: none. -/
import Derived.Test.YtklbpnbnopiabaaName9
import Derived.Test.YtklbpnbnopiabaaRow
import Derived.ChangeMaps5
namespace Go.Proofs.Ytklbpnbnopiabaa.joins
open Go Go.ChangeShapes Go.WideShapes Go.ChangeAt Go.ChangeMaps Go.RowKit Go.Proofs.Ytklbpnbnopiabaa

def CutCall (s X : ByteArray) : Prop := ∀ w, Calls Try.prog 24 #[.string s, .int .i64 200] w fun e w' => e = .returned (.string X) ∧ w' = w
def ChkCall (X : ByteArray) (r : Nat × Nat) : Prop := ∀ w, Calls Try.prog 33 #[.string X] w fun e w' => e = .returned (.tuple #[.int .i64 r.1, .int .i64 r.2]) ∧ Below w.heap.size w w'
def RunCall (X : ByteArray) (m : Nat) : Prop := ∀ w, Calls Try.prog 42 #[.string X] w fun e w' => e = .returned (.int .i64 m) ∧ Below w.heap.size w w'
set_option maxRecDepth 100000 in
theorem bad_a (s t X Y : ByteArray) (j : Int) (i e i2 e2 : Nat) (w : World) (HA : Hid (CutCall s X)) (HB : Hid (CutCall t Y)) (H1 : Hid (ChkCall X (i, e))) (H2 : Hid (ChkCall Y (i2, e2))) (he : e ≠ 0) :
    Calls Try.prog 11 #[.string s, .string t, .int .u8 j] w fun e w' => e = .returned (.bool true) ∧ Below w.heap.size w w' := by
  have H3 := Lib.hid (awake6)
  have he' : ((e : Int) != 0) = true := by simpa using he
  clear he
  go_enter Try.func11, Try.ntmps11
  go_wp2_with fail
  refine (HA.out _).mono ?_
  rintro e w1 ⟨rfl, rfl⟩
  go_wp2_with fail
  refine (HB.out _).mono ?_
  rintro e w2 ⟨rfl, rfl⟩
  go_wp2_with fail
  refine (H1.out _).mono ?_
  rintro e w3 ⟨rfl, b1⟩
  clear HA HB H1
  go_wp2_with fail
  refine (H2.out _).mono ?_
  rintro e w4 ⟨rfl, b2⟩
  have b3 := below_past b1 b2 b1.size
  clear b1 b2 H2
  go_wp2_with fail
  refine (H3.out _).mono ?_
  rintro e w5 ⟨rfl, b2⟩
  have b4 := below_past b3 b2 b3.size
  clear b3 b2 H3
  go_wp2_with fail
  go_ret
  exact ⟨rfl, b4⟩
set_option maxRecDepth 100000 in
theorem bad_b (s t X Y : ByteArray) (j : Int) (i i2 e2 : Nat) (w : World) (HA : Hid (CutCall s X)) (HB : Hid (CutCall t Y)) (H1 : Hid (ChkCall X (i, 0))) (H2 : Hid (ChkCall Y (i2, e2))) (he : e2 ≠ 0) :
    Calls Try.prog 11 #[.string s, .string t, .int .u8 j] w fun e w' => e = .returned (.bool true) ∧ Below w.heap.size w w' := by
  have H3 := Lib.hid (awake6)
  have he' : ((e2 : Int) != 0) = true := by simpa using he
  clear he
  go_enter Try.func11, Try.ntmps11
  go_wp2_with fail
  refine (HA.out _).mono ?_
  rintro e w1 ⟨rfl, rfl⟩
  go_wp2_with fail
  refine (HB.out _).mono ?_
  rintro e w2 ⟨rfl, rfl⟩
  go_wp2_with fail
  refine (H1.out _).mono ?_
  rintro e w3 ⟨rfl, b1⟩
  clear HA HB H1
  go_wp2_with fail
  refine (H2.out _).mono ?_
  rintro e w4 ⟨rfl, b2⟩
  have b3 := below_past b1 b2 b1.size
  clear b1 b2 H2
  go_wp2_with fail
  refine (H3.out _).mono ?_
  rintro e w5 ⟨rfl, b2⟩
  have b4 := below_past b3 b2 b3.size
  clear b3 b2 H3
  go_wp2_with fail
  go_ret
  exact ⟨rfl, b4⟩
set_option maxRecDepth 100000 in
theorem bad_j (s t X Y : ByteArray) (j : Int) (i i2 : Nat) (w : World) (HA : Hid (CutCall s X)) (HB : Hid (CutCall t Y)) (H1 : Hid (ChkCall X (i, 0))) (H2 : Hid (ChkCall Y (i2, 0))) (hj : joint j = false) :
    Calls Try.prog 11 #[.string s, .string t, .int .u8 j] w fun e w' => e = .returned (.bool true) ∧ Below w.heap.size w w' := by
  have H3 := Lib.hid (awake6)
  obtain ⟨j1, j2, j3, j4, j5⟩ := joint_no hj
  have k1 : (j != 46) = true := by simp [bne, j1]
  have k2 : (j != 45) = true := by simp [bne, j2]
  have k3 : (j != 95) = true := by simp [bne, j3]
  have k4 : (j != 64) = true := by simp [bne, j4]
  have k5 : (j != 43) = true := by simp [bne, j5]
  clear hj j1 j2 j3 j4 j5
  go_enter Try.func11, Try.ntmps11
  go_wp2_with fail
  refine (HA.out _).mono ?_
  rintro e w1 ⟨rfl, rfl⟩
  go_wp2_with fail
  refine (HB.out _).mono ?_
  rintro e w2 ⟨rfl, rfl⟩
  go_wp2_with fail
  refine (H1.out _).mono ?_
  rintro e w3 ⟨rfl, b1⟩
  clear HA HB H1
  go_wp2_with fail
  refine (H2.out _).mono ?_
  rintro e w4 ⟨rfl, b2⟩
  have b3 := below_past b1 b2 b1.size
  clear b1 b2 H2
  go_wp2_with fail
  refine (H3.out _).mono ?_
  rintro e w5 ⟨rfl, b2⟩
  have b4 := below_past b3 b2 b3.size
  clear b3 b2 H3
  go_wp2_with fail
  go_ret
  exact ⟨rfl, b4⟩
set_option maxRecDepth 100000 in
set_option maxHeartbeats 2000000 in
theorem good (s t : ByteArray) (A B : List UInt8) (j : UInt8) (i i2 m n : Nat) (w : World) (HA : Hid (CutCall s (stx A))) (HB : Hid (CutCall t (stx B))) (H1 : Hid (ChkCall (stx A) (i, 0))) (H2 : Hid (ChkCall (stx B) (i2, 0))) (hj : joint (j.toNat : Int) = true)
    (la : A.length ≤ 200) (lb : B.length ≤ 200) (H4 : Hid (RunCall (stx A) m)) (H5 : Hid (RunCall (stx B) n)) (hmn : m + n ≤ 400) (r1 r2 r3 : Nat × Nat) (H6 : Hid (ChkCall (stx (A ++ [j] ++ B)) r1)) (H7 : Hid (ChkCall (stx (A ++ B)) r2)) (H8 : Hid (ChkCall (stx (A ++ [j, j] ++ B)) r3))
    (q1 : r1.2 = 0 ↔ m + n < 40) (q2 : r2.2 = 0 ↔ m + n ≤ 40) (q3 : r3.2 ≠ 0) :
    Calls Try.prog 11 #[.string s, .string t, .int .u8 j.toNat] w fun e w' => e = .returned (.bool true) ∧ Below w.heap.size w w' := by
  have H3 := Lib.hid (awake6)
  obtain ⟨x1, e1⟩ := r1
  obtain ⟨x2, e2⟩ := r2
  obtain ⟨x3, e3⟩ := r3
  have y1 : ((e1 : Int) == 0) = decide (((m + n : Nat) : Int) < 40) := by
    rw [Bool.eq_iff_iff]
    simp only [beq_iff_eq, decide_eq_true_eq]
    simp only at q1
    omega
  have y2 : ((e2 : Int) == 0) = decide (((m + n : Nat) : Int) ≤ 40) := by
    rw [Bool.eq_iff_iff]
    simp only [beq_iff_eq, decide_eq_true_eq]
    simp only at q2
    omega
  have y3 : ((e3 : Int) != 0) = true := by simpa using q3
  have C1 : ∀ W : World, Hid ((convert 55 9 (.slice (some ⟨W.heap.size, 0, none⟩) 1 1)).run Try.prog (W.alloc (.cells #[.int .u8 (j.toNat : Int)] 5)) = .ok (.string (stx [j])) (W.alloc (.cells #[.int .u8 (j.toNat : Int)] 5))) := fun W => Lib.hid (convert_new [j] W _ 1 rfl rfl)
  have C2 : ∀ W : World, Hid ((convert 55 9 (.slice (some ⟨W.heap.size, 0, none⟩) 2 2)).run Try.prog (W.alloc (.cells #[.int .u8 (j.toNat : Int), .int .u8 (j.toNat : Int)] 5)) = .ok (.string (stx [j, j])) (W.alloc (.cells #[.int .u8 (j.toNat : Int), .int .u8 (j.toNat : Int)] 5))) := fun W => Lib.hid (convert_new [j, j] W _ 2 rfl rfl)
  have s1 := Lib.hid (stx_append A [j])
  have s2 := Lib.hid (stx_append (A ++ [j]) B)
  have s3 := Lib.hid (stx_append A B)
  have s4 := Lib.hid (stx_append A [j, j])
  have s5 := Lib.hid (stx_append (A ++ [j, j]) B)
  have z1 : (stx A).size ≤ 200 := by rw [stx_size]; exact la
  have z2 : (stx B).size ≤ 200 := by rw [stx_size]; exact lb
  have z3 : (stx [j]).size = 1 := rfl
  have z4 : (stx [j, j]).size = 2 := rfl
  have z5 : (stx (A ++ [j])).size ≤ 201 := by rw [stx_size, List.length_append]; simp; omega
  have z6 : (stx (A ++ [j, j])).size ≤ 202 := by rw [stx_size, List.length_append]; simp; omega
  have hmn' : (m : Int) + n ≤ 400 := by omega
  have hc := joint_cases hj
  clear q1 q2 q3 la lb hj
  generalize stx A = X at *
  generalize stx B = Y at *
  generalize stx (A ++ [j] ++ B) = X1 at *
  generalize stx (A ++ [j, j] ++ B) = X3 at *
  generalize stx (A ++ B) = X2 at *
  generalize stx (A ++ [j]) = A1 at *
  generalize stx (A ++ [j, j]) = A2 at *
  generalize stx [j] = J1 at *
  generalize stx [j, j] = J2 at *
  rcases hc with hc | hc | hc | hc | hc
  all_goals
    rw [hc] at C1 C2 ⊢
    clear hc
    go_enter Try.func11, Try.ntmps11
    go_wp2_with fail
    refine (HA.out _).mono ?_
    rintro e w1 ⟨rfl, rfl⟩
    go_wp2_with fail
    refine (HB.out _).mono ?_
    rintro e w2 ⟨rfl, rfl⟩
    go_wp2_with fail
    refine (H1.out _).mono ?_
    rintro e w3 ⟨rfl, b1⟩
    clear HA HB H1
    go_wp2_with fail
    refine (H2.out _).mono ?_
    rintro e w4 ⟨rfl, b2⟩
    have b3 := below_past b1 b2 b1.size
    clear b1 b2 H2
    go_wp2_with fail
    refine (H4.out _).mono ?_
    rintro e w5 ⟨rfl, b2⟩
    have b4 := below_past b3 b2 b3.size
    clear b3 b2 H4
    go_wp2_with fail
    refine (H5.out _).mono ?_
    rintro e w6 ⟨rfl, b2⟩
    have b3 := below_past b4 b2 b4.size
    clear b4 b2 H5
    go_wp2_with fail
    rw [(C1 _).out]
    simp only [Result.andThen]
    rw [Oper.upon_value]
    go_wp2_with fail
    rw [s1.out, s2.out]
    refine (H6.out _).mono ?_
    rintro e w7 ⟨rfl, b2⟩
    have b5 := below_past (b3.alloc b3.size _) b2 (b3.alloc b3.size _).size
    clear b3 b2 H6 C1
    go_wp2_with fail
    rw [s3.out]
    refine (H7.out _).mono ?_
    rintro e w8 ⟨rfl, b2⟩
    have b3 := below_past b5 b2 b5.size
    clear b5 b2 H7
    go_wp2_with fail
    rw [(C2 _).out]
    simp only [Result.andThen]
    rw [Oper.upon_value]
    go_wp2_with fail
    rw [s4.out, s5.out]
    refine (H8.out _).mono ?_
    rintro e w9 ⟨rfl, b2⟩
    have b5 := below_past (b3.alloc b3.size _) b2 (b3.alloc b3.size _).size
    clear b3 b2 H8 C2
    go_wp2_with fail
    refine (H3.out _).mono ?_
    rintro e w10 ⟨rfl, b2⟩
    have b3 := below_past b5 b2 b5.size
    clear b5 b2 H3
    go_wp2_with fail
    go_ret
    exact ⟨rfl, b3⟩
theorem walk (s t : ByteArray) (j : Int) (h0 : 0 ≤ j) (h1 : j ≤ 255) (w : World) : Calls Try.prog 11 #[.string s, .string t, .int .u8 j] w fun e w' => e = .returned (.bool true) ∧ Below w.heap.size w w' := by
  obtain ⟨A, hA⟩ : ∃ L, s.data.toList.take 200 = L := ⟨_, rfl⟩
  obtain ⟨B, hB⟩ : ∃ L, t.data.toList.take 200 = L := ⟨_, rfl⟩
  have la : A.length ≤ 200 := by rw [← hA, List.length_take]; omega
  have lb : B.length ≤ 200 := by rw [← hB, List.length_take]; omega
  have HA : CutCall s (stx A) := fun w => by have := l3Cut_any s 200 w (by decide); rwa [hA] at this
  have HB : CutCall t (stx B) := fun w => by have := l3Cut_any t 200 w (by decide); rwa [hB] at this
  have chkc : ∀ L : List UInt8, L.length ≤ 1000 → ChkCall (stx L) (chk L) := fun L hL w => Check_any (stx L) w (by rw [stx_size]; omega)
  have runc : ∀ L : List UInt8, L.length ≤ 1000 → RunCall (stx L) (runesL L).length := fun L hL w => Runes_any (stx L) w (by rw [stx_size]; omega)
  have H1 := chkc A (by omega)
  have H2 := chkc B (by omega)
  by_cases ha : (chk A).2 = 0
  · by_cases hb : (chk B).2 = 0
    · rw [show chk A = ((chk A).1, 0) from Prod.ext rfl ha] at H1
      rw [show chk B = ((chk B).1, 0) from Prod.ext rfl hb] at H2
      cases hj : joint j with
      | false => exact bad_j s t (stx A) (stx B) j _ _ w (Lib.hid HA) (Lib.hid HB) (Lib.hid H1) (Lib.hid H2) hj
      | true =>
        obtain ⟨k, rfl⟩ : ∃ k : UInt8, j = (k.toNat : Int) := ⟨UInt8.ofNat j.toNat, by rw [UInt8.toNat_ofNat']; omega⟩
        obtain ⟨q1, q2, q3⟩ := joins A B k ha hb hj
        have l1 := runes_len _ A (Nat.le_refl _)
        have l2 := runes_len _ B (Nat.le_refl _)
        unfold codes at q1 q2
        rw [List.length_map, List.length_map] at q1 q2
        exact good s t A B k _ _ _ _ w (Lib.hid HA) (Lib.hid HB) (Lib.hid H1) (Lib.hid H2) hj la lb (Lib.hid (runc A (by omega))) (Lib.hid (runc B (by omega))) (by omega) _ _ _
          (Lib.hid (chkc _ (by simp; omega))) (Lib.hid (chkc _ (by simp; omega))) (Lib.hid (chkc _ (by simp; omega))) q1 q2 q3
    · rw [show chk A = ((chk A).1, 0) from Prod.ext rfl ha] at H1
      exact bad_b s t (stx A) (stx B) j _ _ _ w (Lib.hid HA) (Lib.hid HB) (Lib.hid H1) (Lib.hid H2) hb
  · exact bad_a s t (stx A) (stx B) j _ _ _ _ w (Lib.hid HA) (Lib.hid HB) (Lib.hid H1) (Lib.hid H2) ha
set_option maxRecDepth 100000 in
theorem lifted (os : Os) (started : os.Started) (H : Type) (enc : TypeId × Value → H) :
    ReturnsInHanded {} Try.checked os 11 .any (Rows.nameJoinsSpec.pre6 enc Try.prog Try.f11 Rows.nameJoinsRow.domain false) (Rows.nameJoinsSpec.post enc Try.prog Try.f11 false true false false) := by
  refine returnsInHanded_of_change (C := Try.checked) own started (by kernel_rfl) Try.func11
    (ChangeSpec.witness6 (enc := enc) (C := Try.checked) false ⟨#[], #[.string ⟨#[]⟩, .string ⟨#[]⟩, .int .u8 0], []⟩ 8 (by kernel_rfl) (by kernel_rfl) (by kernel_rfl) (by kernel_rfl)) ?_
  intro W base args ds gs before hval0 hW _ _
  have hval : ∀ (j : Nat) t v, Try.f11.params[j]? = some t → args[j]? = some v → Value.okWide Try.prog W .any base t v := hval0
  clear hval0
  have hW' := hW
  obtain ⟨p, q, hA0, hV, rfl, hfz, hnd⟩ := hW
  have hA : DataW.TrodAll enc Try.prog W 0 (fun _ => true) true Try.f11.params.toList args.toList ds p := hA0
  rw [Try.params11] at hA hval
  clear hA0 hfz hnd hV
  have hr : Readable Try.f11.params.toList := by
    rw [Try.params11]
    exact readable_of_all (by kernel_rfl)
  have fin : ∀ W', Below W.heap.size W W' → Rows.nameJoinsSpec.post enc Try.prog Try.f11 false true false false W args (.bool true) W' := fun W' hb =>
    law_post rfl hW' hr (fun l hl => by
      rw [Try.params11] at hl
      match l, hl with
      | [d1, d2, d3], _ => rfl) (by kernel_rfl) hb
  clear hW' hr
  obtain ⟨v0, v1, v2, d0, d1, d2, p0, p1, p2, rfl, rfl, rfl, h0, h1, h2⟩ := trodAll_three hA; obtain ⟨s, rfl, _, _, w0⟩ := open_string Try.underlying9 (hval 0 9 v0 rfl rfl) h0; obtain ⟨t, rfl, _, _, w1⟩ := open_string Try.underlying9 (hval 1 9 v1 rfl rfl) h1; obtain ⟨j, rfl, _, _, wj⟩ := open_int Try.underlying5 (hval 2 5 v2 rfl rfl) h2
  exact (walk s t j (wf_u8 wj).1 (wf_u8 wj).2 W).mono fun e W' ⟨he, hb⟩ => ⟨_, he, fin W' hb⟩
theorem proved : Rows.NameJoinsSaid :=
  OpenClaim.holds_of_wide 11 Try.f11 rfl rfl rfl rfl rfl rfl rfl ⟨rfl, rfl, rfl, rfl, rfl⟩ rfl rfl rfl rfl rfl (by kernel_rfl) Try.func11 (by kernel_rfl)
    (of_decide_eq_true (by kernel_rfl)) (by unfold Func.isWrapper; first | (rw [if_pos (by decide +kernel)]; kernel_rfl) | (rw [if_neg (by decide +kernel)]; exact ⟨rfl, rfl⟩))
    (fun os started H enc _ => lifted os started H enc)
end Go.Proofs.Ytklbpnbnopiabaa.joins
