/- Identities: how many runes, where they aren't ones. Conditions: a text of at most a million bytes. -/
import Derived.Test.YtpfonbpfmipdlaaDoorName1
import Derived.Lib.OthersKept
import Derived.Test.YtpfonbpfmipdlaaDoorStrs
namespace Go.Proofs.YtpfonbpfmipdlaaDoor
open Go Go.RowKit

theorem drop_ne {l : List UInt8} {p : Nat} (h : p < l.length) : l.drop p ≠ [] := by
  intro e
  have := congrArg List.length e
  rw [List.length_drop, List.length_nil] at this
  omega
theorem runes_at (s : ByteArray) (p : Nat) (h : p < s.size) : runesL (s.data.toList.drop p) = Utf8.decode s p :: runesL (s.data.toList.drop (p + (Utf8.decode s p).2)) := by
  rw [runes_cons _ (drop_ne h), decode_list, List.drop_drop]
theorem runes_over (s : ByteArray) (p : Nat) (h : s.size ≤ p) : runesL (s.data.toList.drop p) = [] := by
  rw [List.drop_eq_nil_of_le h]
  rfl
theorem decode_fits (s : ByteArray) (p : Nat) (h : p < s.size) : 1 ≤ (Utf8.decode s p).2 ∧ p + (Utf8.decode s p).2 ≤ s.size := by
  have h1 := dec_le _ (drop_ne (l := s.data.toList) h)
  have h2 := dec_pos (s.data.toList.drop p)
  rw [decode_list]
  rw [List.length_drop] at h1
  have : s.data.toList.length = s.size := rfl
  omega
theorem iter_new (w : World) (s : ByteArray) : (w.iter s 0).heap[w.heap.size]? = some (.stringIter s 0) := heap_alloc_new w _
theorem iter_past {W w' : World} (h : Below W.heap.size W w') {k : Nat} {s : ByteArray} {p : Nat} (hk : W.heap[k]? = some (.stringIter s p)) : w'.heap[k]? = some (.stringIter s p) :=
  (h.block k (Array.getElem?_eq_some_iff.1 hk).1).trans hk
theorem iter_pos {w : World} {k : Nat} {s : ByteArray} {p : Nat} (hk : w.heap[k]? = some (.stringIter s p)) : w.iterPos k = p := by simp [World.iterPos, hk]

theorem chkF_cons (n : Nat) (r : Nat × Nat) (t : List (Nat × Nat)) (p i last : Nat) : chkF n (r :: t) p i last =
    if r.1 = 65533 then (p, 4) else if i = 40 then (p, 2) else if kind r.1 = 0 ∨ (kind r.1 = 3 ∧ last = 3) ∨ great r.1 = true then (p, 3) else chkF n t (p + r.2) (i + 1) (kind r.1) := rfl
/-- What Check answers. -/
def ChkR (r : Nat × Nat) : Value := .tuple #[.int .i64 r.1, .int .i64 r.2]
theorem ret_chk {r q : Nat × Nat} (h : r = q) : Ending.returned (ChkR r) = .returned (ChkR q) := by rw [h]

set_option maxRecDepth 100000 in
theorem Check_empty (w : World) : Calls Tryd.prog 8 #[.string ⟨#[]⟩] w fun e w' => e = .returned (ChkR (0, 5)) ∧ Below w.heap.size w w' := by
  go_enter Tryd.func8, Tryd.ntmps8
  go_wp2_with fail
  go_ret2
  exact ⟨rfl, Below.refl _ _⟩
set_option maxRecDepth 100000 in
set_option maxHeartbeats 1000000 in
theorem Check_full (s : ByteArray) (w : World) (hs : s.size ≤ 1000000) (h0 : 0 < s.size) : Calls Tryd.prog 8 #[.string s] w fun e w' => e = .returned (ChkR (chkF s.size (runesL s.data.toList) 0 0 3)) ∧ Below w.heap.size w w' := by
  have it0 := iter_new w s
  have b0 : Below w.heap.size w (w.iter s 0) := (Below.refl _ _).alloc (Nat.le_refl _) _
  obtain ⟨R, hR⟩ : ∃ R, chkF s.size (runesL s.data.toList) 0 0 3 = R := ⟨_, rfl⟩
  have HR := Lib.hid hR
  rw [hR]
  have hl : s.toList.isEmpty = false := by
    rw [← Bool.not_eq_true, toList_none]
    omega
  have HSZ := Lib.hid hs
  clear hR hs h0
  go_enter Tryd.func8, Tryd.ntmps8
  go_wp2_with fail
  generalize w.iter s 0 = W at *
  go_loopw [4, 5] (fun k la wr => ∃ i p last : Nat, k = .int .i64 i ∧ i ≤ 40 ∧ la = .int .i64 last ∧ wr.heap[w.heap.size]? = some (.stringIter s p) ∧ Hid (chkF s.size (runesL (s.data.toList.drop p)) p i last = R) ∧ Below w.heap.size w wr) (fun _ _ wr => s.size - wr.iterPos w.heap.size)
  case atStart => exact ⟨0, 0, 3, rfl, by omega, rfl, it0, Lib.hid (by rw [List.drop_zero, HR.out]), b0⟩
  case round =>
    obtain ⟨i, p, last, rfl, hi, rfl, it1, HI, b1⟩ := hrel
    have hi' : (i : Int) ≤ 40 := by omega
    clear it0 b0 HR
    by_cases hp : p < s.size
    · have hnx : ∀ ty, (Instr.next (.pointer (some ⟨w.heap.size, 0, none⟩)) true ty).run Tryd.prog wr = _ := fun ty => Lib.run_next_any_at wr w.heap.size s p ty it1 hp
      have HF := Lib.hid (decode_fits s p hp)
      have HI2 := HI.out
      rw [runes_at s p hp, chkF_cons] at HI2
      have it2 := Lib.iterAt_heap wr w.heap.size s p (p + (Utf8.decode s p).2) it1
      have b2 := Lib.below_iterAt b1 (k := w.heap.size) (Nat.le_refl _) s (p + (Utf8.decode s p).2)
      have hpos := Lib.hid (iter_pos it1)
      obtain ⟨c, hc⟩ : ∃ c, (Utf8.decode s p).1 = c := ⟨_, rfl⟩
      obtain ⟨d, hd⟩ : ∃ d, (Utf8.decode s p).2 = d := ⟨_, rfl⟩
      rw [hc, hd] at hnx
      rw [hc, hd] at HI2
      rw [hd] at it2 b2 HF
      have HK := Lib.hid (Kind_any (c : Int))
      have HG := Lib.hid (great_any (c : Int))
      clear hc hd it1 b1 HI
      obtain ⟨K, hK⟩ : ∃ K, kind (c : Int) = K := ⟨_, rfl⟩
      obtain ⟨G, hG⟩ : ∃ G, great (c : Int) = G := ⟨_, rfl⟩
      rw [hK, hG] at HI2
      rw [hK] at HK
      rw [hG] at HG
      have HI3 := Lib.hid HI2
      clear hK hG HI2
      generalize wr.iterAt w.heap.size s (p + d) = V at *
      go_wp2_with fail
      refine (HK.out _).mono ?_
      rintro e w1 ⟨rfl, b3⟩
      have it3 := iter_past b3 it2
      have b4 := below_past b2 b3 b2.size
      have hpos2 := Lib.hid (iter_pos it3)
      clear it2 b2 b3 HK
      by_cases h1 : c = 65533
      · have h1' : ((c : Int) == 65533) = true := by rw [h1]; rfl
        have HE := Lib.hid (HI3.out.symm.trans (if_pos h1))
        clear h1 HI3
        go_wp2_with fail
        go_ret2
        exact ⟨ret_chk HE.out.symm, b4⟩
      · have h1' : ((c : Int) == 65533) = false := by rw [beq_eq_false_iff_ne]; omega
        have HE := Lib.hid (HI3.out.symm.trans (if_neg h1))
        clear h1 HI3
        by_cases h2 : i = 40
        · have h2' : ((i : Int) == 40) = true := by rw [h2]; rfl
          have HE2 := Lib.hid (HE.out.trans (if_pos h2))
          clear h2 HE
          go_wp2_with fail
          go_ret2
          exact ⟨ret_chk HE2.out.symm, b4⟩
        · have h2' : ((i : Int) == 40) = false := by rw [beq_eq_false_iff_ne]; omega
          have hi40 : i + 1 ≤ 40 := by omega
          have HE2 := Lib.hid (HE.out.trans (if_neg h2))
          clear h2 HE
          by_cases h3 : K = 0
          · have h3' : ((K : Int) == 0) = true := by rw [h3]; rfl
            have HE3 := Lib.hid (HE2.out.trans (if_pos (.inl h3)))
            clear h3 HE2
            go_wp2_with fail
            go_ret2
            exact ⟨ret_chk HE3.out.symm, b4⟩
          · have h3' : ((K : Int) == 0) = false := by rw [beq_eq_false_iff_ne]; omega
            by_cases h4 : K = 3 ∧ last = 3
            · have h4' : ((K : Int) == 3) = true := by rw [h4.1]; rfl
              have h5' : ((last : Int) == 3) = true := by rw [h4.2]; rfl
              have HE3 := Lib.hid (HE2.out.trans (if_pos (.inr (.inl h4))))
              clear h4 h3 HE2
              go_wp2_with fail
              go_ret2
              exact ⟨ret_chk HE3.out.symm, b4⟩
            · have HG2 := Lib.hid (HG.out w1)
              have HH : Hid (R = chkF s.size (runesL (s.data.toList.drop (p + d))) (p + d) (i + 1) K) ∨ G = true := by
                cases G with
                | true => exact .inr rfl
                | false => exact .inl (Lib.hid (HE2.out.trans (if_neg (by rintro (k | k | k); exact h3 k; exact h4 k; exact Bool.noConfusion k))))
              have HJ : Hid (G = true → R = (p, 3)) := Lib.hid fun g => HE2.out.trans (if_pos (.inr (.inr g)))
              by_cases h6 : K = 3
              · have h5' : ((last : Int) == 3) = false := by rw [beq_eq_false_iff_ne]; omega
                subst h6
                clear h3 h4 HE2 HG
                rcases HH with HH | rfl
                · cases G with
                  | true =>
                    have HE3 := Lib.hid (HJ.out rfl)
                    clear HH HJ
                    go_wp2_with fail
                    refine HG2.out.mono ?_
                    rintro e w2 ⟨rfl, b5⟩
                    have b6 := below_past b4 b5 b4.size
                    clear b4 b5 HG2
                    go_wp2_with fail
                    go_ret2
                    exact ⟨ret_chk HE3.out.symm, b6⟩
                  | false =>
                    clear HJ
                    go_wp2_with fail
                    refine HG2.out.mono ?_
                    rintro e w2 ⟨rfl, b5⟩
                    have b6 := below_past b4 b5 b4.size
                    have it4 := iter_past b5 it3
                    have hpos4 := Lib.hid (iter_pos it4)
                    clear b4 b5 HG2 it3 hpos2
                    go_wp2_with fail
                    exact ⟨⟨i + 1, p + d, _, by go_num, hi40, rfl, it4, Lib.hid HH.out.symm, b6⟩, by rw [hpos.out, hpos4.out]; have := HF.out; omega⟩
                · have HE3 := Lib.hid (HJ.out rfl)
                  clear HJ
                  go_wp2_with fail
                  refine HG2.out.mono ?_
                  rintro e w2 ⟨rfl, b5⟩
                  have b6 := below_past b4 b5 b4.size
                  clear b4 b5 HG2
                  go_wp2_with fail
                  go_ret2
                  exact ⟨ret_chk HE3.out.symm, b6⟩
              · have h6' : ((K : Int) == 3) = false := by rw [beq_eq_false_iff_ne]; omega
                clear h3 h4 h6 HE2 HG
                rcases HH with HH | rfl
                · cases G with
                  | true =>
                    have HE3 := Lib.hid (HJ.out rfl)
                    clear HH HJ
                    go_wp2_with fail
                    refine HG2.out.mono ?_
                    rintro e w2 ⟨rfl, b5⟩
                    have b6 := below_past b4 b5 b4.size
                    clear b4 b5 HG2
                    go_wp2_with fail
                    go_ret2
                    exact ⟨ret_chk HE3.out.symm, b6⟩
                  | false =>
                    clear HJ
                    go_wp2_with fail
                    refine HG2.out.mono ?_
                    rintro e w2 ⟨rfl, b5⟩
                    have b6 := below_past b4 b5 b4.size
                    have it4 := iter_past b5 it3
                    have hpos4 := Lib.hid (iter_pos it4)
                    clear b4 b5 HG2 it3 hpos2
                    go_wp2_with fail
                    exact ⟨⟨i + 1, p + d, _, by go_num, hi40, rfl, it4, Lib.hid HH.out.symm, b6⟩, by rw [hpos.out, hpos4.out]; have := HF.out; omega⟩
                · have HE3 := Lib.hid (HJ.out rfl)
                  clear HJ
                  go_wp2_with fail
                  refine HG2.out.mono ?_
                  rintro e w2 ⟨rfl, b5⟩
                  have b6 := below_past b4 b5 b4.size
                  clear b4 b5 HG2
                  go_wp2_with fail
                  go_ret2
                  exact ⟨ret_chk HE3.out.symm, b6⟩
    · have hnx : ∀ ty, (Instr.next (.pointer (some ⟨w.heap.size, 0, none⟩)) true ty).run Tryd.prog wr = _ := fun ty => Lib.run_next_end_at wr w.heap.size s p ty it1 hp
      have HE := HI.out
      rw [runes_over s p (by omega), chkF] at HE
      clear it1 HI
      by_cases h : last = 3
      · have h5' : ((last : Int) == 3) = true := by rw [h]; rfl
        have HE2 := Lib.hid (HE.symm.trans (if_pos h))
        clear h HE
        go_wp2_with fail
        go_ret2
        exact ⟨ret_chk HE2.out.symm, b1⟩
      · have h5' : ((last : Int) == 3) = false := by rw [beq_eq_false_iff_ne]; omega
        have HE2 := Lib.hid (HE.symm.trans (if_neg h))
        clear h HE
        go_wp2_with fail
        go_ret2
        exact ⟨ret_chk HE2.out.symm, b1⟩
end Go.Proofs.YtpfonbpfmipdlaaDoor
