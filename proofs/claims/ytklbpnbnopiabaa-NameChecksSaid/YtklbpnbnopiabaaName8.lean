/- The document's own parts; the calls whose answers it fixes. Conditions: a text of at most a million bytes. -/
import Derived.Test.YtklbpnbnopiabaaName7
namespace Go.Proofs.Ytklbpnbnopiabaa
open Go Go.RowKit

theorem runes_drop (s : ByteArray) : ∀ (i : Nat), i ≤ (runesL s.data.toList).length → widths ((runesL s.data.toList).take i) ≤ s.size ∧ runesL (s.data.toList.drop (widths ((runesL s.data.toList).take i))) = (runesL s.data.toList).drop i
  | 0, _ => ⟨Nat.zero_le _, rfl⟩
  | i + 1, h => by
    obtain ⟨h1, h2⟩ := runes_drop s i (by omega)
    have hi : i < (runesL s.data.toList).length := h
    have hlt : widths ((runesL s.data.toList).take i) < s.size := by
      rcases Nat.lt_or_ge (widths ((runesL s.data.toList).take i)) s.size with k | k
      · exact k
      · rw [runes_over s _ k] at h2
        have := congrArg List.length h2
        rw [List.length_drop, List.length_nil] at this
        omega
    rw [runes_at s _ hlt, List.drop_eq_getElem_cons hi] at h2
    injection h2 with h3 h4
    rw [List.take_succ_eq_append_getElem hi, widths_put, ← h3]
    exact ⟨(decode_fits s _ hlt).2, h4⟩
theorem rune_here (s : ByteArray) (i : Nat) (h : i < (runesL s.data.toList).length) : widths ((runesL s.data.toList).take i) < s.size ∧ Utf8.decode s (widths ((runesL s.data.toList).take i)) = (runesL s.data.toList)[i] := by
  obtain ⟨h1, h2⟩ := runes_drop s i (by omega)
  have hlt : widths ((runesL s.data.toList).take i) < s.size := by
    rcases Nat.lt_or_ge (widths ((runesL s.data.toList).take i)) s.size with k | k
    · exact k
    · rw [runes_over s _ k] at h2
      have := congrArg List.length h2
      rw [List.length_drop, List.length_nil] at this
      omega
  refine ⟨hlt, ?_⟩
  rw [runes_at s _ hlt, List.drop_eq_getElem_cons h] at h2
  injection h2
theorem widths_all (s : ByteArray) (i : Nat) (h : i = (runesL s.data.toList).length) : widths ((runesL s.data.toList).take i) = s.size := by
  obtain ⟨h1, h2⟩ := runes_drop s i (Nat.le_of_eq h)
  rcases Nat.lt_or_ge (widths ((runesL s.data.toList).take i)) s.size with k | k
  · rw [runes_at s _ k, List.drop_eq_nil_of_le (Nat.le_of_eq h.symm)] at h2
    cases h2
  · omega

set_option maxRecDepth 100000 in
set_option maxHeartbeats 1000000 in
theorem r6Parts_any (s : ByteArray) (w : World) (hs : s.size ≤ 1000000) : Calls Try.prog 39 #[.string s] w fun e w' => ∃ v, e = .returned v ∧ OwnStrs w' w.heap.size v (partsL s.data.toList) ∧ Below w.heap.size w w' := by
  obtain ⟨i0, hi, hz0, hz1, hz2⟩ := info_str
  have HX := Lib.hid (fun w => r6Runes_any s w hs)
  have o0 := ownStrs_empty w
  have b0 : Below w.heap.size w (w.alloc (.cells #[] 9)) := (Below.refl _ _).alloc (Nat.le_refl _) _
  have hlen := len_le s
  have HRD := Lib.hid (runes_drop s)
  have HRH := Lib.hid (rune_here s)
  have HWA := Lib.hid (widths_all s)
  obtain ⟨m, hm⟩ : ∃ m, s.size = m := ⟨_, rfl⟩
  have hmlim : m ≤ 1000000 := by omega
  have hmlim' : (m : Int) ≤ 1000000 := by omega
  have HM := Lib.hid hm
  obtain ⟨l, hl⟩ : ∃ l, runesL s.data.toList = l := ⟨_, rfl⟩
  rw [hl] at HX hlen HRD HRH HWA
  obtain ⟨n, hn⟩ : ∃ n, l.length = n := ⟨_, rfl⟩
  have hlim : n ≤ 1000000 := by omega
  have HN := Lib.hid hn
  obtain ⟨R, hR⟩ : ∃ R, partsL s.data.toList = R := ⟨_, rfl⟩
  have HR := Lib.hid hR
  rw [hR]
  have hlim' : (n : Int) ≤ 1000000 := by omega
  clear hs hl hR hlen hn hm
  go_enter Try.func39, Try.ntmps39
  go_wp2_with fail
  generalize w.alloc (.cells #[] 9) = W at *
  refine (HX.out W).mono ?_
  rintro e w1 ⟨v, rfl, ow, b1⟩
  have o1 := o0.below b1
  have b2 := below_past b0 b1 b0.size
  have AT0 := ow.lie
  obtain ⟨ao, cap, hv, _⟩ := AT0
  rw [HN.out] at hv
  subst hv
  have OR := ow
  clear ow HX o0 b0 b1
  go_wp2_with fail
  go_loopw [3, 4, 11] (fun v y x wr => ∃ (i k f : Nat) (ts : List (List UInt8)), i ≤ n ∧ k ≤ widths (l.take i) ∧ m ≤ widths (l.take i) + f ∧ ts.length ≤ i ∧ x = .int .i64 i ∧ y = .int .i64 k ∧ Hid (R = ts ++ partsF f ((s.data.toList.take (widths (l.take i))).drop k) (s.data.toList.drop (widths (l.take i)))) ∧ OwnStrs wr w.heap.size v ts ∧ Below w.heap.size w wr ∧ OwnRunes wr W.heap.size (.slice ao n cap) l) (fun _ _ x _ => (n - intOf x).toNat)
  case atStart => exact ⟨0, 0, m, [], Nat.zero_le _, Nat.le_refl _, by omega, Nat.le_refl _, rfl, rfl, Lib.hid (by rw [← HR.out, partsL, show s.data.toList.length = m from HM.out]; rfl), o1, b2, OR⟩
  case round =>
    obtain ⟨i, k, f, ts, h1, h2, h3, h4, rfl, rfl, HF, ow, b1, RA⟩ := hrel
    clear o1 b2 HR OR
    by_cases hlt : i < n
    · have hlt' : (i : Int) < n := by omega
      have hil : i < l.length := by rw [HN.out]; exact hlt
      obtain ⟨ao2, cap2, hv2, AT2⟩ := RA.lie
      obtain ⟨g, e2, d0, d1, d2⟩ := AT2 i hil
      have hao : ao = some ⟨g, 0, none⟩ := by
        have := hv2
        simp only [Value.slice.injEq] at this
        rw [this.1, e2]
      subst hao
      obtain ⟨hp, hdec⟩ := HRH.out i hil
      rw [HM.out] at hp
      have hps : widths (l.take i) < s.size := by rw [HM.out]; exact hp
      have hfit := decode_fits s _ hps
      have hJ := joint_at s _ hps
      obtain ⟨f2, rfl⟩ : ∃ f2, f = f2 + 1 := ⟨f - 1, by omega⟩
      have HF2 := HF.out
      rw [parts_at s _ f2 k hps h2, hdec] at HF2
      rw [hdec, HM.out] at hfit
      rw [hdec] at hJ
      have hw : widths (l.take (i + 1)) = widths (l.take i) + l[i].2 := by rw [List.take_succ_eq_append_getElem hil, widths_put]
      have HW := Lib.hid hw
      have HX : Hid (s.extract k (widths (l.take i)) = stx ((s.data.toList.take (widths (l.take i))).drop k)) := Lib.hid (stx_extract s.data.toList k (widths (l.take i)))
      obtain ⟨S, hS⟩ : ∃ S, (s.data.toList.take (widths (l.take i))).drop k = S := ⟨_, rfl⟩
      rw [hS] at HF2 HX
      obtain ⟨c, hc⟩ : ∃ c, l[i].1 = c := ⟨_, rfl⟩
      obtain ⟨d, hd⟩ : ∃ d, l[i].2 = d := ⟨_, rfl⟩
      obtain ⟨q, hq⟩ : ∃ q, widths (l.take i) = q := ⟨_, rfl⟩
      rw [hc] at d0 HF2 hJ
      rw [hd] at d2 HF2 hJ hfit HW
      rw [hq] at d1 HF2 hp hfit HW HX h2 h3
      have h2' : (k : Int) ≤ q := by omega
      have hp' : (q : Int) ≤ m := by omega
      have hqd : (q : Int) + d ≤ m := by omega
      have HK := Lib.hid (r6Kind_any (c : Int))
      have HJ := Lib.hid hJ
      have HF3 := Lib.hid HF2
      have hfit2 := hfit.2
      have hfit1 := hfit.1
      have MM := HM.out
      have b2 := b1.alloc b1.size (.cells #[.int .i64 c, .int .i64 q, .int .i64 d] 93)
      have r2 := rowAt_alloc_at wr #[.int .i64 c, .int .i64 q, .int .i64 d] 93 _ rfl
      have bst : Below wr.heap.size wr (wr.alloc (.cells #[.int .i64 c, .int .i64 q, .int .i64 d] 93)) := (Below.refl _ _).alloc (Nat.le_refl _) _
      have HLT : Hid (∀ k, u3.ownBlock = some k → k < wr.heap.size) := Lib.hid fun k hk => (World.ownsRow.lt ow k hk).2
      have ow2 := ow.below bst
      have RA2 := OwnRunes.below RA bst
      clear hc hd hq hS HF HF2 hdec hps hJ hw hfit ow b1 hv2 AT2 e2 RA
      obtain ⟨K, hK⟩ : ∃ K, kind (c : Int) = K := ⟨_, rfl⟩
      rw [hK] at HK HJ HF3
      clear hK
      by_cases h5 : K = 3
      · subst h5
        have HF4 := Lib.hid (HF3.out.trans (by rw [if_pos rfl]))
        obtain rfl := HJ.out rfl
        clear HF3 HJ
        go_wp2_with fail
        refine (HK.out _).mono ?_
        rintro e w2 ⟨rfl, b3⟩
        have ow5 := ow2.below b3
        have RA5 := RA2.below b3
        have r5 := rowAt_past b3 r2
        have b4 := below_past b2 b3 b2.size
        have c1 := cell_of_rowAt r5 1
        have c2 := cell_of_rowAt r5 2
        have r6 : rowAt (w2.alloc (.cells #[.string (stx S)] 9)) wr.heap.size = some #[.int .i64 c, .int .i64 q, .int .i64 1] := rowAt_past ((Below.refl _ _).alloc (Nat.le_refl _) _) r5
        have RA6 := RA5.below ((Below.refl _ _).alloc (Nat.le_refl _) (.cells #[.string (stx S)] 9))
        clear HK ow2 RA2 r2 b2 b3 r5 RA5
        have hx := HX.out
        have bq : Below w2.heap.size w2 (w2.alloc (.cells #[.string (stx S)] 9)) := (Below.refl _ _).alloc (Nat.le_refl _) _
        have ow4 : (w2.alloc (.cells #[.string (stx S)] 9)).ownsRow w.heap.size 9 1 u3 ts.length (strCells ts) := ow5.below bq
        have b5 := below_past b4 bq b4.size
        clear bq ow5
        go_wp2_with (at_builtin; refine wpList_append_own _ rfl _ _ 35 rfl w.heap.size 9 i0 (.string ⟨#[]⟩) 1 16 Try.underlying35 hi hz0 hz1 hz2 rfl (by decide) _ _ _ rfl ow4 ⟨w2.heap.size, 0, none⟩ 1 1 [.string (stx S)] rfl rfl ?c1 ?c2 ?c3 ?c4 ?c5 ?_)
        case c1 =>
          intro j u hu
          have hj : j = 0 := by
            have := (List.getElem?_eq_some_iff.1 hu).1
            simpa using this
          subst hj
          have hu2 : Value.string (stx S) = u := by simpa using hu
          rw [← hu2, show (⟨w2.heap.size, 0, none⟩ : Addr).add 0 = ⟨w2.heap.size, 0, none⟩ by simp [Addr.add]]
          exact cell_of_rowAt (rowAt_alloc_at w2 #[.string (stx S)] 9 _ rfl) 0
        case c2 =>
          intro u hu
          have hu2 : u = Value.string (stx S) := by simpa using hu
          rw [hu2]
          rfl
        case c3 => unfold maxLen; omega
        case c4 => omega
        case c5 => exact b5.size
        intro v' w' hown hgrow hnil
        have b6 := b5.grown hgrow b5.size (fun k hk => (World.ownsRow.lt ow4 k hk).1)
        have hown2 : OwnStrs w' w.heap.size v' (ts ++ [S]) := by
          show w'.ownsRow w.heap.size 9 1 v' (ts ++ [S]).length (strCells (ts ++ [S]))
          rw [List.length_append, ← strCells_put]
          exact hown
        have RA7 := own_other RA6 ow4 (by decide) hgrow
        have r7 : rowAt w' wr.heap.size = some #[.int .i64 c, .int .i64 q, .int .i64 1] := (by
          rw [← r6]
          unfold rowAt
          rw [hgrow.block _ (lt_of_rowAt r6) (fun e => Nat.lt_irrefl _ (HLT.out _ e.symm))])
        have c1 := cell_of_rowAt r7 1
        have c2 := cell_of_rowAt r7 2
        clear hown hgrow hnil b5 ow4 RA6 r6 r7
        go_wp2_with fail
        exact ⟨⟨i + 1, q + 1, f2, ts ++ [S], hlt, by rw [HW.out]; omega, by rw [HW.out]; omega, by rw [List.length_append, List.length_singleton]; omega, by go_num, by go_num, Lib.hid (by rw [HW.out, HF4.out, List.append_assoc]; rfl), hown2, b6, RA7⟩, by simp [intOf]; omega⟩
      · have h5' : ((K : Int) == 3) = false := by rw [beq_eq_false_iff_ne]; omega
        have HF4 := Lib.hid (HF3.out.trans (by rw [if_neg h5]))
        clear HF3 HJ h5
        go_wp2_with fail
        refine (HK.out _).mono ?_
        rintro e w2 ⟨rfl, b3⟩
        have ow5 := ow2.below b3
        have RA5 := RA2.below b3
        have b4 := below_past b2 b3 b2.size
        clear HK ow2 RA2 r2 b2 b3
        go_wp2_with fail
        exact ⟨⟨i + 1, k, f2, ts, hlt, by rw [HW.out]; omega, by rw [HW.out]; omega, by omega, by go_num, rfl, Lib.hid (by rw [HW.out]; exact HF4.out), ow5, b4, RA5⟩, by simp [intOf]; omega⟩
    · obtain rfl : i = n := by omega
      have hwa := HWA.out i HN.out.symm
      have HF2 := HF.out
      rw [HM.out] at hwa
      rw [hwa, parts_over s f k m (by rw [HM.out]; exact Nat.le_refl _)] at HF2
      rw [hwa] at h2 h3
      have h2' : (k : Int) ≤ m := by omega
      have HX : Hid (s.extract k m = stx (s.data.toList.drop k)) := Lib.hid (by
        have := stx_extract s.data.toList k m
        rwa [List.take_of_length_le (Nat.le_of_eq HM.out)] at this)
      obtain ⟨S, hS⟩ : ∃ S, s.data.toList.drop k = S := ⟨_, rfl⟩
      rw [hS] at HF2 HX
      have HF3 := Lib.hid HF2
      have MM := HM.out
      clear HF HF2 hS hwa RA
      have hx := HX.out
      have bq : Below wr.heap.size wr (wr.alloc (.cells #[.string (stx S)] 9)) := (Below.refl _ _).alloc (Nat.le_refl _) _
      have ow4 : (wr.alloc (.cells #[.string (stx S)] 9)).ownsRow w.heap.size 9 1 u3 ts.length (strCells ts) := ow.below bq
      have b5 := below_past b1 bq b1.size
      clear bq ow
      go_wp2_with (at_builtin; refine wpList_append_own _ rfl _ _ 35 rfl w.heap.size 9 i0 (.string ⟨#[]⟩) 1 16 Try.underlying35 hi hz0 hz1 hz2 rfl (by decide) _ _ _ rfl ow4 ⟨wr.heap.size, 0, none⟩ 1 1 [.string (stx S)] rfl rfl ?c1 ?c2 ?c3 ?c4 ?c5 ?_)
      case c1 =>
        intro j u hu
        have hj : j = 0 := by
          have := (List.getElem?_eq_some_iff.1 hu).1
          simpa using this
        subst hj
        have hu2 : Value.string (stx S) = u := by simpa using hu
        rw [← hu2, show (⟨wr.heap.size, 0, none⟩ : Addr).add 0 = ⟨wr.heap.size, 0, none⟩ by simp [Addr.add]]
        exact cell_of_rowAt (rowAt_alloc_at wr #[.string (stx S)] 9 _ rfl) 0
      case c2 =>
        intro u hu
        have hu2 : u = Value.string (stx S) := by simpa using hu
        rw [hu2]
        rfl
      case c3 => unfold maxLen; omega
      case c4 => omega
      case c5 => exact b5.size
      intro v' w' hown hgrow hnil
      have b6 := b5.grown hgrow b5.size (fun k hk => (World.ownsRow.lt ow4 k hk).1)
      have hown2 : OwnStrs w' w.heap.size v' (ts ++ [S]) := by
        show w'.ownsRow w.heap.size 9 1 v' (ts ++ [S]).length (strCells (ts ++ [S]))
        rw [List.length_append, ← strCells_put]
        exact hown
      have OW2 := Lib.hid hown2
      clear hown hown2 hgrow hnil b5 ow4
      go_wp2_with fail
      exact bodyPost_ret (v := v') (by simp [results, Try.results39, go_sem]) rfl ⟨_, rfl, by rw [HF3.out]; exact OW2.out, b6⟩
end Go.Proofs.Ytklbpnbnopiabaa
