/- What stands between a text's joints. Conditions: a text of at most a million bytes. -/
import Derived.Test.YtklbpnbnopiabaaName6
namespace Go.Proofs.Ytklbpnbnopiabaa
open Go Go.RowKit

theorem parts_at (s : ByteArray) (p f k : Nat) (hp : p < s.size) (hk : k ≤ p) : partsF (f + 1) ((s.data.toList.take p).drop k) (s.data.toList.drop p) =
    if kind (Utf8.decode s p).1 = 3 then (s.data.toList.take p).drop k :: partsF f ((s.data.toList.take (p + (Utf8.decode s p).2)).drop (p + (Utf8.decode s p).2)) (s.data.toList.drop (p + (Utf8.decode s p).2))
    else partsF f ((s.data.toList.take (p + (Utf8.decode s p).2)).drop k) (s.data.toList.drop (p + (Utf8.decode s p).2)) := by
  have hne := drop_ne (l := s.data.toList) hp
  rw [partsF, if_neg hne, ← decode_list, List.drop_drop]
  generalize Utf8.decode s p = r
  have e1 : (s.data.toList.take (p + r.2)).drop (p + r.2) = [] := List.drop_eq_nil_of_le (by rw [List.length_take]; omega)
  have e2 : (s.data.toList.take p).drop k ++ (s.data.toList.drop p).take r.2 = (s.data.toList.take (p + r.2)).drop k := by
    rw [List.take_add, List.drop_append_of_le_length]
    rw [List.length_take]
    have : s.data.toList.length = s.size := rfl
    omega
  rw [e1, e2]
theorem parts_over (s : ByteArray) (f k p : Nat) (hp : s.size ≤ p) : partsF f ((s.data.toList.take p).drop k) (s.data.toList.drop p) = [s.data.toList.drop k] := by
  rw [List.drop_eq_nil_of_le hp, List.take_of_length_le hp]
  cases f <;> rfl
/-- An own row stays one where what holds cells stays. -/
theorem own_kept {e : TypeId} {B k n : Nat} {v : Value} {xs : List Value} {w w' : World} (h : w.ownsRow B e k v n xs) (q : ∀ (i : Nat) c t fz, w.heap[i]? = some (Obj.cells c t fz) → w'.heap[i]? = some (Obj.cells c t fz)) : w'.ownsRow B e k v n xs := by
  refine ⟨h.1, ?_⟩
  rcases h.2 with hn | ⟨g, cap, cur, hv, hbg, hg, rest⟩
  · exact .inl hn
  · exact .inr ⟨g, cap, cur, hv, hbg, q _ _ _ _ hg, rest⟩
theorem OwnStrs.iter {w : World} {B : Nat} {v : Value} {ts : List (List UInt8)} (h : OwnStrs w B v ts) {k : Nat} {s : ByteArray} {p : Nat} (hk : w.heap[k]? = some (.stringIter s p)) (q : Nat) : OwnStrs (w.iterAt k s q) B v ts :=
  own_kept h fun i _ _ _ hi => (Lib.iterAt_other w k i s q (fun e => by rw [e, hk] at hi; cases hi)).trans hi
/-- An iterator stands while a list of one's own grows. -/
theorem iter_grown {w w' : World} {B : Nat} {v : Value} {ts : List (List UInt8)} (h : OwnStrs w B v ts) (hg : w.grownBy w' v.ownBlock) {k : Nat} {s : ByteArray} {p : Nat} (hk : w.heap[k]? = some (.stringIter s p)) : w'.heap[k]? = some (.stringIter s p) := by
  rw [hg.block k (Array.getElem?_eq_some_iff.1 hk).1 ?_]
  · exact hk
  · intro e
    obtain ⟨c, fz, hc⟩ := ownsRow_kind h k e.symm
    rw [hk] at hc
    cases hc
theorem joint_at (s : ByteArray) (p : Nat) (h : p < s.size) : kind (Utf8.decode s p).1 = 3 → (Utf8.decode s p).2 = 1 := by
  rw [decode_list]
  exact fun hk => (joint_one _ (drop_ne (l := s.data.toList) h) hk).1
theorem runeLen_joint {c : Nat} (h : kind (c : Int) = 3) : Lib.runeLen (c : Int) = 1 := by
  rcases joint_cases ((kind_joint _).1 h) with e | e | e | e | e <;> rw [e] <;> decide

set_option maxRecDepth 100000 in
set_option maxHeartbeats 1000000 in
theorem Parts_any (s : ByteArray) (w : World) (hs : s.size ≤ 1000000) : Calls Try.prog 38 #[.string s] w fun e w' => ∃ v, e = .returned v ∧ OwnStrs w' w.heap.size v (partsL s.data.toList) ∧ Below w.heap.size w w' := by
  obtain ⟨i0, hi, hz0, hz1, hz2⟩ := info_str
  have it0 := iter_new w s
  have b0 : Below w.heap.size w (w.iter s 0) := (Below.refl _ _).alloc (Nat.le_refl _) _
  have o0 : OwnStrs (w.iter s 0) w.heap.size (.slice none 0 0) [] := World.ownsRow_nil _ _ _ _
  have it1 : (w.iter s 0).heap[w.heap.size]? = some (.stringIter s 0) := it0
  obtain ⟨n, hn⟩ : ∃ n, s.size = n := ⟨_, rfl⟩
  have hlim : n ≤ 1000000 := by omega
  have hlim' : (n : Int) ≤ 1000000 := by omega
  have HN := Lib.hid hn
  obtain ⟨R, hR⟩ : ∃ R, partsL s.data.toList = R := ⟨_, rfl⟩
  have HR := Lib.hid hR
  rw [hR]
  clear hs hR it0
  go_enter Try.func38, Try.ntmps38
  go_wp2_with fail
  generalize w.iter s 0 = W at *
  go_loopw [3, 4] (fun v x wr => ∃ (p k f : Nat) (ts : List (List UInt8)), k ≤ p ∧ p ≤ n ∧ n ≤ p + f ∧ ts.length ≤ p ∧ x = .int .i64 k ∧ wr.heap[w.heap.size]? = some (.stringIter s p) ∧ Hid (R = ts ++ partsF f ((s.data.toList.take p).drop k) (s.data.toList.drop p)) ∧ OwnStrs wr w.heap.size v ts ∧ Below w.heap.size w wr) (fun _ _ wr => n - wr.iterPos w.heap.size)
  case atStart => exact ⟨0, 0, n, [], Nat.le_refl _, Nat.zero_le _, by omega, Nat.le_refl _, rfl, it1, Lib.hid (by rw [← HR.out, partsL, show s.data.toList.length = n from HN.out]; rfl), o0, b0⟩
  case round =>
    obtain ⟨p, k, f, ts, h1, h2, h3, h4, rfl, it2, HF, ow, b1⟩ := hrel
    have h1' : (k : Int) ≤ p := by omega
    have h2' : (p : Int) ≤ n := by omega
    clear it1 o0 b0 HR
    by_cases hp : p < n
    · have hps : p < s.size := by rw [HN.out]; exact hp
      have hnx : ∀ ty, (Instr.next (.pointer (some ⟨w.heap.size, 0, none⟩)) true ty).run Try.prog wr = _ := fun ty => Lib.run_next_any_at wr w.heap.size s p ty it2 hps
      have HD := decode_fits s p hps
      rw [HN.out] at HD
      obtain ⟨f2, rfl⟩ : ∃ f2, f = f2 + 1 := ⟨f - 1, by omega⟩
      have HF2 := HF.out
      rw [parts_at s p f2 k hps h1] at HF2
      have it3 := Lib.iterAt_heap wr w.heap.size s p (p + (Utf8.decode s p).2) it2
      have b2 := Lib.below_iterAt b1 (k := w.heap.size) (Nat.le_refl _) s (p + (Utf8.decode s p).2)
      have ow2 := ow.iter it2 (p + (Utf8.decode s p).2)
      have hpos := Lib.hid (iter_pos it2)
      have HJ := Lib.hid (joint_at s p hps)
      obtain ⟨c, hc⟩ : ∃ c, (Utf8.decode s p).1 = c := ⟨_, rfl⟩
      obtain ⟨d, hd⟩ : ∃ d, (Utf8.decode s p).2 = d := ⟨_, rfl⟩
      rw [hc, hd] at hnx HF2 HJ
      rw [hd] at it3 b2 HD ow2
      have HK := Lib.hid (Kind_any (c : Int))
      have HRL := Lib.hid (@runeLen_joint c)
      have HX : Hid (s.extract k p = stx ((s.data.toList.take p).drop k)) := Lib.hid (stx_extract s.data.toList k p)
      have HCL := Lib.hid (fun w => sClone_any (stx ((s.data.toList.take p).drop k)) w (by rw [stx_size, List.length_drop, List.length_take]; omega))
      obtain ⟨S, hS⟩ : ∃ S, (s.data.toList.take p).drop k = S := ⟨_, rfl⟩
      rw [hS] at HF2 HX HCL
      have HF3 := Lib.hid HF2
      have hd1 : 1 ≤ d := HD.1
      have hd2 : p + d ≤ n := HD.2
      clear hc hd it2 b1 ow HF HF2 hS HD
      obtain ⟨K, hK⟩ : ∃ K, kind (c : Int) = K := ⟨_, rfl⟩
      rw [hK] at HK HRL HF3 HJ
      clear hK
      generalize wr.iterAt w.heap.size s (p + d) = V at *
      by_cases h5 : K = 3
      · subst h5
        have HF4 := Lib.hid (HF3.out.trans (by rw [if_pos rfl]))
        have HL := Lib.hid (HRL.out rfl)
        obtain rfl := HJ.out rfl
        clear HF3 HRL HJ
        go_wp2_with fail
        refine (HK.out _).mono ?_
        rintro e w1 ⟨rfl, b3⟩
        have it4 := iter_past b3 it3
        have ow3 := ow2.below b3
        have b4 := below_past b2 b3 b2.size
        clear HK it3 ow2 b2 b3
        go_wp2_with fail
        rw [HX.out]
        refine (HCL.out _).mono ?_
        rintro e w2 ⟨rfl, b3⟩
        have it5 := iter_past b3 it4
        have ow5 := ow3.below b3
        have b2 := below_past b4 b3 b4.size
        have it6 : (w2.alloc (.cells #[.string (stx S)] 9)).heap[w.heap.size]? = some (.stringIter s (p + 1)) := iter_past ((Below.refl _ _).alloc (Nat.le_refl _) _) it5
        clear HCL it4 ow3 b4 b3 it5
        have bq : Below w2.heap.size w2 (w2.alloc (.cells #[.string (stx S)] 9)) := (Below.refl _ _).alloc (Nat.le_refl _) _
        have ow4 : (w2.alloc (.cells #[.string (stx S)] 9)).ownsRow w.heap.size 9 1 u3 ts.length (strCells ts) := ow5.below bq
        have b5 := below_past b2 bq b2.size
        clear bq ow5
        go_wp2_with (at_builtin; refine wpList_append_own _ rfl _ _ 35 rfl w.heap.size 9 i0 (.string ⟨#[]⟩) 1 16 Try.underlying35 hi hz0 hz1 hz2 rfl (by decide) _ _ _ rfl ow4 ⟨w2.heap.size, 0, none⟩ 1 1 [.string (stx S)] rfl rfl ?c1 ?c2 ?c3 ?c4 ?c5 ?_)
        case c1 =>
          intro j u hu
          have hj : j = 0 := by
            have := (List.getElem?_eq_some_iff.1 hu).1
            simpa using this
          subst hj
          have hu2 : Value.string (stx S) = u := by simpa using hu
          rw [← hu2, show (⟨w2.heap.size, 0, none⟩ : Addr).add 0 = ⟨w2.heap.size, 0, none⟩ by simp [Addr.add]]
          exact cell_of_rowAt (rowAt_alloc_at w2 #[.string (stx S)] 9 _ rfl) 0
        case c2 =>
          intro u hu
          have hu2 : u = Value.string (stx S) := by simpa using hu
          rw [hu2]
          rfl
        case c3 => unfold maxLen; omega
        case c4 => omega
        case c5 => exact b5.size
        intro v' w' hown hgrow hnil
        have b6 := b5.grown hgrow b5.size (fun k hk => (World.ownsRow.lt ow4 k hk).1)
        have hown2 : OwnStrs w' w.heap.size v' (ts ++ [S]) := by
          show w'.ownsRow w.heap.size 9 1 v' (ts ++ [S]).length (strCells (ts ++ [S]))
          rw [List.length_append, ← strCells_put]
          exact hown
        have it7 := iter_grown ow4 hgrow it6
        have hpos7 := Lib.hid (iter_pos it7)
        have HRL2 := Lib.hid (Try.utf8_RuneLen (c : Int) w')
        rw [HL.out] at HRL2
        clear hown hgrow hnil b5 b2 ow4 it6
        go_wp2_with fail
        refine HRL2.out.mono ?_
        rintro e w3 ⟨rfl, rfl⟩
        clear HRL2
        go_wp2_with fail
        exact ⟨⟨p + 1, p + 1, f2, ts ++ [S], Nat.le_refl _, hd2, by omega, by rw [List.length_append, List.length_singleton]; omega, by go_num, it7, Lib.hid (by rw [HF4.out, List.append_assoc]; rfl), hown2, b6⟩, by rw [hpos.out, hpos7.out]; omega⟩
      · have h5' : ((K : Int) == 3) = false := by rw [beq_eq_false_iff_ne]; omega
        have HF4 := Lib.hid (HF3.out.trans (by rw [if_neg h5]))
        clear HF3 HRL HJ h5
        go_wp2_with fail
        refine (HK.out _).mono ?_
        rintro e w1 ⟨rfl, b3⟩
        have it4 := iter_past b3 it3
        have ow3 := ow2.below b3
        have b4 := below_past b2 b3 b2.size
        have hpos7 := Lib.hid (iter_pos it4)
        clear HK it3 ow2 b2 b3
        go_wp2_with fail
        exact ⟨⟨p + d, k, f2, ts, by omega, hd2, by omega, by omega, rfl, it4, HF4, ow3, b4⟩, by rw [hpos.out, hpos7.out]; omega⟩
    · have hnx : ∀ ty, (Instr.next (.pointer (some ⟨w.heap.size, 0, none⟩)) true ty).run Try.prog wr = _ := fun ty => Lib.run_next_end_at wr w.heap.size s p ty it2 (by rw [HN.out]; exact hp)
      obtain rfl : p = n := by omega
      have HF2 := HF.out
      rw [parts_over s f k p (by rw [HN.out]; exact Nat.le_refl _)] at HF2
      have HX : Hid (s.extract k p = stx (s.data.toList.drop k)) := Lib.hid (by
        have := stx_extract s.data.toList k p
        rwa [List.take_of_length_le (Nat.le_of_eq HN.out)] at this)
      have HCL := Lib.hid (fun w => sClone_any (stx (s.data.toList.drop k)) w (by rw [stx_size, List.length_drop, show s.data.toList.length = p from HN.out]; omega))
      obtain ⟨S, hS⟩ : ∃ S, s.data.toList.drop k = S := ⟨_, rfl⟩
      rw [hS] at HF2 HX HCL
      have HF3 := Lib.hid HF2
      have NN := HN.out
      clear it2 HF HF2 hS
      go_wp2_with fail
      rw [HX.out]
      refine (HCL.out _).mono ?_
      rintro e w2 ⟨rfl, b3⟩
      have ow5 := ow.below b3
      have b2 := below_past b1 b3 b1.size
      clear HCL ow b3 b1
      have bq : Below w2.heap.size w2 (w2.alloc (.cells #[.string (stx S)] 9)) := (Below.refl _ _).alloc (Nat.le_refl _) _
      have ow4 : (w2.alloc (.cells #[.string (stx S)] 9)).ownsRow w.heap.size 9 1 u3 ts.length (strCells ts) := ow5.below bq
      have b5 := below_past b2 bq b2.size
      clear bq ow5
      go_wp2_with (at_builtin; refine wpList_append_own _ rfl _ _ 35 rfl w.heap.size 9 i0 (.string ⟨#[]⟩) 1 16 Try.underlying35 hi hz0 hz1 hz2 rfl (by decide) _ _ _ rfl ow4 ⟨w2.heap.size, 0, none⟩ 1 1 [.string (stx S)] rfl rfl ?c1 ?c2 ?c3 ?c4 ?c5 ?_)
      case c1 =>
        intro j u hu
        have hj : j = 0 := by
          have := (List.getElem?_eq_some_iff.1 hu).1
          simpa using this
        subst hj
        have hu2 : Value.string (stx S) = u := by simpa using hu
        rw [← hu2, show (⟨w2.heap.size, 0, none⟩ : Addr).add 0 = ⟨w2.heap.size, 0, none⟩ by simp [Addr.add]]
        exact cell_of_rowAt (rowAt_alloc_at w2 #[.string (stx S)] 9 _ rfl) 0
      case c2 =>
        intro u hu
        have hu2 : u = Value.string (stx S) := by simpa using hu
        rw [hu2]
        rfl
      case c3 => unfold maxLen; omega
      case c4 => omega
      case c5 => exact b5.size
      intro v' w' hown hgrow hnil
      have b6 := b5.grown hgrow b5.size (fun k hk => (World.ownsRow.lt ow4 k hk).1)
      have hown2 : OwnStrs w' w.heap.size v' (ts ++ [S]) := by
        show w'.ownsRow w.heap.size 9 1 v' (ts ++ [S]).length (strCells (ts ++ [S]))
        rw [List.length_append, ← strCells_put]
        exact hown
      have OW2 := Lib.hid hown2
      clear hown hown2 hgrow hnil b5 b2 ow4
      go_wp2_with fail
      exact bodyPost_ret (v := v') (by simp [results, Try.results38, go_sem]) rfl ⟨_, rfl, by rw [HF3.out]; exact OW2.out, b6⟩
end Go.Proofs.Ytklbpnbnopiabaa
