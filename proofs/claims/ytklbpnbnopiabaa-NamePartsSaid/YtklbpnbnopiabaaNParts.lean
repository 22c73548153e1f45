/- For every text the law NameParts returns true. Conditions: none. -/
import Derived.Test.YtklbpnbnopiabaaName9
import Derived.Test.YtklbpnbnopiabaaRow
import Derived.ChangeMaps5
namespace Go.Proofs.Ytklbpnbnopiabaa.parts
open Go Go.ChangeShapes Go.WideShapes Go.ChangeAt Go.ChangeMaps Go.RowKit Go.Proofs.Ytklbpnbnopiabaa

/-- Where the k-th part begins. -/
def startP (ps : List (List UInt8)) (k : Nat) : Nat := ((ps.take k).map List.length).sum + k
theorem startP_succ (ps : List (List UInt8)) (k : Nat) (h : k < ps.length) : startP ps (k + 1) = startP ps k + ps[k].length + 1 := by
  unfold startP
  rw [List.take_succ_eq_append_getElem h, List.map_append, List.sum_append]
  simp
  omega
theorem joined_at : ∀ (ps : List (List UInt8)) (l : List UInt8), Joined ps l → ∀ k (h : k < ps.length), startP ps k + ps[k].length ≤ l.length ∧ (l.drop (startP ps k)).take ps[k].length = ps[k] ∧
    (k + 1 < ps.length → ∃ x, l[startP ps k + ps[k].length]? = some x ∧ kind (x.toNat : Int) = 3) ∧ (k + 1 = ps.length → startP ps k + ps[k].length = l.length)
  | [p], l, hj, 0, _ => by
    have : l = p := hj
    subst this
    refine ⟨by simp [startP], by simp [startP], fun h => absurd h (by simp), fun _ => by simp [startP]⟩
  | p :: q :: r, l, hj, 0, _ => by
    obtain ⟨j, m, rfl, hk, _⟩ := hj
    refine ⟨by simp [startP], by simp [startP], fun _ => ⟨j, by simp [startP], hk⟩, fun h => by simp at h⟩
  | p :: q :: r, l, hj, k + 1, h => by
    obtain ⟨j, m, rfl, hk, hm⟩ := hj
    have hk' : k < (q :: r).length := by simpa using h
    obtain ⟨a, b, c, d⟩ := joined_at (q :: r) m hm k hk'
    have e : startP (p :: q :: r) (k + 1) = p.length + 1 + startP (q :: r) k := by
      unfold startP
      simp
      omega
    rw [e, List.getElem_cons_succ]
    have e2 : (p ++ j :: m).drop (p.length + 1 + startP (q :: r) k) = m.drop (startP (q :: r) k) := by
      rw [show p.length + 1 + startP (q :: r) k = p.length + (1 + startP (q :: r) k) by omega, List.drop_append, List.drop_eq_nil_of_le (by omega), List.nil_append, Nat.add_sub_cancel_left, Nat.add_comm 1, List.drop_succ_cons]
    refine ⟨?_, by rw [e2]; exact b, fun hx => ?_, fun hx => ?_⟩
    · rw [List.length_append]
      have e3 : (j :: m).length = m.length + 1 := rfl
      omega
    · obtain ⟨x, h1, h2⟩ := c (by simpa using hx)
      refine ⟨x, ?_, h2⟩
      rw [List.getElem?_append_right (by omega), show p.length + 1 + startP (q :: r) k + (q :: r)[k].length - p.length = (startP (q :: r) k + (q :: r)[k].length) + 1 by omega, List.getElem?_cons_succ]
      exact h1
    · have := d (by simpa using hx)
      rw [List.length_append]
      have e3 : (j :: m).length = m.length + 1 := rfl
      omega
theorem parts_len : ∀ (f : Nat) (cur l : List UInt8), 1 ≤ (partsF f cur l).length ∧ (partsF f cur l).length ≤ f + 1
  | 0, _, _ => ⟨Nat.le_refl _, Nat.le_refl _⟩
  | f + 1, cur, l => by
    unfold partsF
    split
    · simp
    · split
      · have := parts_len f [] (l.drop (decL l).2)
        rw [List.length_cons]
        omega
      · have := parts_len f (cur ++ l.take (decL l).2) (l.drop (decL l).2)
        omega
set_option maxRecDepth 100000 in
set_option maxHeartbeats 2000000 in
theorem walk (s : ByteArray) (w : World) : Calls Try.prog 12 #[.string s] w fun e w' => e = .returned (.bool true) ∧ Below w.heap.size w w' := by
  have HK := Lib.hid (l3Cut_any s 300 w (by decide))
  obtain ⟨L, hL⟩ : ∃ L, s.data.toList.take 300 = L := ⟨_, rfl⟩
  have hl : L.length ≤ 300 := by rw [← hL, List.length_take]; omega
  rw [hL] at HK
  have hz : (stx L).size ≤ 1000000 := by rw [stx_size]; omega
  have H1 := Lib.hid (fun w => Parts_any (stx L) w hz)
  have H3 := Lib.hid (awake6)
  obtain ⟨p1, p2⟩ := parts_len L.length [] L
  have hj := joined_at (partsL L) L (partsL_joined L)
  rw [show (stx L).data.toList = L from rfl] at H1
  obtain ⟨P, hP⟩ : ∃ P, partsL L = P := ⟨_, rfl⟩
  have hpl : 1 ≤ P.length ∧ P.length ≤ 301 := by rw [← hP]; unfold partsL; omega
  rw [hP] at H1 hj
  obtain ⟨n, hn⟩ : ∃ n, P.length = n := ⟨_, rfl⟩
  have HN := Lib.hid hn
  have hn' : (n : Int) ≤ 301 := by omega
  have hn1 : 1 ≤ n := by omega
  obtain ⟨m, hm⟩ : ∃ m, (stx L).size = m := ⟨_, rfl⟩
  have hlm : L.length = m := by rw [← hm, stx_size]
  have hm' : (m : Int) ≤ 300 := by omega
  have HLM := Lib.hid hlm
  have HJ := Lib.hid hj
  have HX := Lib.hid (fun i j => stx_extract L i j)
  have HAT := Lib.hid (fun i h => atB_get (stx L) i h)
  have HAL : Hid (∀ i, atB (stx L) i = L.getD i 0) := Lib.hid fun i => rfl
  clear hL hl hz hP hpl hn hlm hj p1 p2
  generalize stx L = X at *
  go_enter Try.func12, Try.ntmps12
  go_wp2_with fail
  refine HK.out.mono ?_
  rintro e w1 ⟨rfl, rfl⟩
  go_wp2_with fail
  refine (H1.out _).mono ?_
  rintro e w2 ⟨v, rfl, o1, b1⟩
  obtain ⟨ao, cap, hv, K1⟩ := o1.lie
  rw [HN.out] at hv
  subst hv
  have K1 := Lib.hid K1
  clear HK H1 o1
  go_wp2_with fail
  go_loopw [4, 5, 14] (fun y z x wr => ∃ i : Nat, i ≤ n ∧ x = .int .i64 i ∧ ((i < n ∧ y = .int .i64 (startP P i : Nat) ∧ z = .int .i64 i) ∨ (i = n ∧ y = .int .i64 m ∧ z = .int .i64 ((n : Int) - 1))) ∧ Below w1.heap.size w1 wr ∧ Below w2.heap.size w2 wr) (fun _ _ x _ => (n - intOf x).toNat)
  case atStart => exact ⟨0, Nat.zero_le _, rfl, .inl ⟨by omega, rfl, rfl⟩, b1, Below.refl _ _⟩
  case round =>
    obtain ⟨i, hi, rfl, hst, b0, bq⟩ := hrel
    clear b1
    rcases hst with ⟨hlt, rfl, rfl⟩ | ⟨rfl, rfl, rfl⟩
    · have hlt' : (i : Int) < n := by omega
      have hil : i < P.length := by rw [HN.out]; exact hlt
      obtain ⟨g, rfl, d1⟩ := K1.out i hil
      have c1 := cell_past bq d1
      obtain ⟨j1, j2, j3, j4⟩ := HJ.out i hil
      have hsu := startP_succ P i hil
      have hp : P.getD i [] = P[i] := by rw [List.getD_eq_getElem?_getD, List.getElem?_eq_getElem hil]; rfl
      rw [hp] at c1
      obtain ⟨p, hpp⟩ : ∃ p, P[i] = p := ⟨_, rfl⟩
      rw [hpp] at c1 j1 j2 j3 j4 hsu
      obtain ⟨q, hq⟩ : ∃ q, startP P i = q := ⟨_, rfl⟩
      rw [hq] at j1 j2 j3 j4 hsu ⊢
      rw [HLM.out] at j1 j4
      rw [HN.out] at j3 j4
      have hx : X.extract q (q + p.length) = stx p := by
        rw [HX.out, List.drop_take, Nat.add_sub_cancel_left, j2]
      obtain ⟨k, hk⟩ : ∃ k, p.length = k := ⟨_, rfl⟩
      have hsz : (stx p).size = k := by rw [stx_size, hk]
      rw [hk] at j1 j3 j4 hx hsu
      have j1' : (q : Int) + k ≤ m := by omega
      have hq1 : (q : Int) ≤ (q : Int) + k := by omega
      have hq0 : (0 : Int) ≤ (q : Int) + k := by omega
      have hqk : ((q : Int) + k).toNat = q + k := by omega
      have HSU := Lib.hid hsu
      clear d1 hp hpp hq hk j2 hsu
      generalize stx p = S at *
      by_cases h2 : i + 1 < n
      · obtain ⟨x, x1, x2⟩ := j3 h2
        have h2' : (i : Int) + 1 < n := by omega
        have hqm : q + k < m := by
          have := (List.getElem?_eq_some_iff.1 x1).1
          rw [HLM.out] at this
          exact this
        have hqm' : (q : Int) + k < m := by omega
        have hat : X[q + k]'(by rw [hm]; exact hqm) = x := by
          rw [HAT.out (q + k) (by rw [hm]; exact hqm), HAL.out, List.getD_eq_getElem?_getD, x1]
          rfl
        have hxb := x.toNat_lt
        have HKK := Lib.hid (fun w => Kind_any (x.toNat : Int) w)
        rw [x2] at HKK
        clear x1 x2 j3 j4
        go_wp2_with fail
        refine (HKK.out _).mono ?_
        rintro e w3 ⟨rfl, b3⟩
        have b4 := below_past b0 b3 b0.size
        have b5 := below_past bq b3 bq.size
        clear b0 b3 bq HKK c1
        go_wp2_with fail
        exact ⟨⟨i + 1, hlt, by go_num, .inl ⟨h2, by rw [HSU.out]; go_num, by go_num⟩, b4, b5⟩, by simp [intOf]; omega⟩
      · have h3 : i + 1 = n := by omega
        have h2' : ¬ ((i : Int) + 1 < n) := by omega
        have hqm := j4 h3
        have HQM := Lib.hid hqm
        have hz : Value.int .i64 (i : Int) = .int .i64 ((n : Int) - 1) := by
          congr 1
          omega
        have HZ := Lib.hid hz
        have HQ2 : Hid (Value.int .i64 ((q : Int) + k) = .int .i64 m) := Lib.hid (by
          congr 1
          omega)
        clear j3 j4 hqm hz h3 HSU
        go_wp2_with fail
        exact ⟨⟨i + 1, hlt, by go_num, .inr ⟨by omega, HQ2.out, HZ.out⟩, b0, bq⟩, by simp [intOf]; omega⟩
    · go_wp2_with fail
      refine (H3.out _).mono ?_
      rintro e w3 ⟨rfl, b3⟩
      have b4 := below_past b0 b3 b0.size
      clear b0 b3 bq H3
      go_wp2_with fail
      go_ret
      exact ⟨rfl, b4⟩
set_option maxRecDepth 100000 in
theorem lifted (os : Os) (started : os.Started) (H : Type) (enc : TypeId × Value → H) :
    ReturnsInHanded {} Try.checked os 12 .any (Rows.namePartsSpec.pre6 enc Try.prog Try.f12 Rows.namePartsRow.domain false) (Rows.namePartsSpec.post enc Try.prog Try.f12 false true false false) := by
  refine returnsInHanded_of_change (C := Try.checked) own started (by kernel_rfl) Try.func12
    (ChangeSpec.witness6 (enc := enc) (C := Try.checked) false ⟨#[], #[.string ⟨#[]⟩], []⟩ 8 (by kernel_rfl) (by kernel_rfl) (by kernel_rfl) (by kernel_rfl)) ?_
  intro W base args ds gs before hval0 hW _ _
  have hval : ∀ (j : Nat) t v, Try.f12.params[j]? = some t → args[j]? = some v → Value.okWide Try.prog W .any base t v := hval0
  clear hval0
  have hW' := hW
  obtain ⟨p, q, hA0, hV, rfl, hfz, hnd⟩ := hW
  have hA : DataW.TrodAll enc Try.prog W 0 (fun _ => true) true Try.f12.params.toList args.toList ds p := hA0
  rw [Try.params12] at hA hval
  clear hA0 hfz hnd hV
  have hr : Readable Try.f12.params.toList := by
    rw [Try.params12]
    exact readable_of_all (by kernel_rfl)
  have fin : ∀ W', Below W.heap.size W W' → Rows.namePartsSpec.post enc Try.prog Try.f12 false true false false W args (.bool true) W' := fun W' hb =>
    law_post rfl hW' hr (fun l hl => by
      rw [Try.params12] at hl
      match l, hl with
      | [d1], _ => rfl) (by kernel_rfl) hb
  clear hW' hr
  obtain ⟨v0, d0, rfl, rfl, h0⟩ := trodAll_one hA; obtain ⟨s, rfl, _, _, w0⟩ := open_string Try.underlying9 (hval 0 9 v0 rfl rfl) h0
  exact (walk s W).mono fun e W' ⟨he, hb⟩ => ⟨_, he, fin W' hb⟩
theorem proved : Rows.NamePartsSaid :=
  OpenClaim.holds_of_wide 12 Try.f12 rfl rfl rfl rfl rfl rfl rfl ⟨rfl, rfl, rfl, rfl, rfl⟩ rfl rfl rfl rfl rfl (by kernel_rfl) Try.func12 (by kernel_rfl)
    (of_decide_eq_true (by kernel_rfl)) (by unfold Func.isWrapper; first | (rw [if_pos (by decide +kernel)]; kernel_rfl) | (rw [if_neg (by decide +kernel)]; exact ⟨rfl, rfl⟩))
    (fun os started H enc _ => lifted os started H enc)
end Go.Proofs.Ytklbpnbnopiabaa.parts
