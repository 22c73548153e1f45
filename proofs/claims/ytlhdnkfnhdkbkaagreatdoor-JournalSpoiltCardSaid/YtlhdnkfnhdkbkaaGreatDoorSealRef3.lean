/- The document's own opening of all frames, and lists of texts that are the same. Conditions: none. -/
import Derived.Test.YtlhdnkfnhdkbkaaGreatDoorSealRef
namespace Go.Proofs.YtlhdnkfnhdkbkaaGreatDoor
open Go Go.RowKit

theorem opE_nil : opE [] = 5 := rfl
set_option maxRecDepth 100000 in
set_option maxHeartbeats 1000000 in
theorem r4All_any (s : ByteArray) (w : World) (hs : s.size ≤ 1000000) :
    Calls Tryz.prog 37 #[.string s] w (AllRet w s.data.toList) := by
  obtain ⟨n, hn⟩ : ∃ n, s.size = n := ⟨_, rfl⟩
  obtain ⟨l, hl⟩ : ∃ l, s.data.toList = l := ⟨_, rfl⟩
  have hln : l.length = n := by rw [← hl]; exact hn
  have hlim : n ≤ 1000000 := by omega
  have hlim' : (n : Int) ≤ 1000000 := by omega
  have HLN := Lib.hid hln
  have HL := Lib.hid hl
  rw [hl]
  obtain ⟨i0, hi, hz0, hz1, hz2⟩ := info_str
  have o0 := ownStrs_empty w
  have a0 : Below w.heap.size w (w.alloc (.cells #[] 9)) := (Below.refl _ _).alloc (Nat.le_refl _) _
  clear hs hl hln
  go_enter Tryz.func37, Tryz.ntmps37
  go_wp2_with fail
  go_loopw [4, 5] (fun v x wr => ∃ (at0 : Nat) (ts : List (List UInt8)) (f : Nat), at0 ≤ n ∧ 8 * ts.length ≤ at0 ∧ x = .int .i64 at0 ∧ Hid (n + 1 ≤ f + at0 ∧ allR l = (ts ++ (allF f l at0).1, (allF f l at0).2)) ∧ OwnStrs wr w.heap.size v ts ∧ Below w.heap.size w wr) (fun _ x _ => (n - intOf x).toNat)
  case atStart => exact ⟨0, [], n + 1, Nat.zero_le _, Nat.le_refl _, rfl, Lib.hid ⟨Nat.le_refl _, by rw [allR, HLN.out]; rfl⟩, o0, a0⟩
  case round =>
    obtain ⟨at0, ts, f, h1, h2, rfl, HF, ow, b0⟩ := hrel
    clear o0 a0
    have ha0 : (0 : Int) ≤ at0 := by omega
    have ha1 : (at0 : Int) ≤ n := by omega
    obtain ⟨f2, hf2⟩ : ∃ f2, f = f2 + 1 := ⟨f - 1, by have := HF.out.1; omega⟩
    subst hf2
    obtain ⟨d, hd⟩ : ∃ d, l.drop at0 = d := ⟨_, rfl⟩
    have hdl : d.length = n - at0 := by rw [← hd, List.length_drop, HLN.out]
    by_cases hend : at0 < n
    · have hend' : decide (at0 < n) = true := decide_eq_true hend
      have x1 : s.extract at0 n = stx d := by
        have := stx_extract s.data.toList at0 n
        rw [HL.out, List.take_of_length_le (Nat.le_of_eq HLN.out), hd] at this
        rw [show s = stx l by rw [← HL.out]]
        exact this
      have HO : Hid (Calls Tryz.prog 54 #[.string (stx d)] wr fun e w' => e = .returned (OpenR d) ∧ Below wr.heap.size wr w') := Lib.hid (r4Open_any (stx d) wr (by rw [stx_size, hdl]; omega))
      have hle := opN_le d
      rw [hdl] at hle
      obtain ⟨E, hE⟩ : ∃ E, opE d = E := ⟨_, rfl⟩
      obtain ⟨N, hN⟩ : ∃ N, opN d = N := ⟨_, rfl⟩
      obtain ⟨S, hS⟩ : ∃ S, opS d = S := ⟨_, rfl⟩
      have hO : OpenR d = .tuple #[.string (stx S), .int .i64 N, .int .i64 E] := by rw [OpenR, hE, hN, hS]
      rw [hO] at HO
      have hall : allF (f2 + 1) l at0 = if E = 0 then (S :: (allF f2 l (at0 + N)).1, (allF f2 l (at0 + N)).2) else ([], at0) := by
        rw [allF, hd, hE, hN, hS]
      rw [hE, hN] at hle
      by_cases h0 : E = 0
      · have hq : (E != 0) = false := by simpa using h0
        rw [if_pos h0] at hall
        obtain ⟨hle1, hle2, _⟩ := hle
        have hle3 := hle2 h0
        have hNn : (at0 : Int) + N ≤ n := by omega
        have hlt2 : at0 + N ≤ n := by omega
        have HF2 : Hid (n + 1 ≤ f2 + (at0 + N) ∧ allR l = ((ts ++ [S]) ++ (allF f2 l (at0 + N)).1, (allF f2 l (at0 + N)).2)) := Lib.hid ⟨by have := HF.out.1; omega, by rw [HF.out.2, hall]; simp⟩
        subst h0
        clear hall hO hE hN hS hd hle2 HF
        go_wp2_with fail
        refine HO.out.mono ?_
        rintro e w3 ⟨rfl, b1⟩
        have ow3 := ow.below b1
        have b3 := below_past b0 b1 b0.size
        have b4 : Below w3.heap.size w3 (w3.alloc (.cells #[.string (stx S)] 9)) := (Below.refl _ _).alloc (Nat.le_refl _) _
        have ow4 : (w3.alloc (.cells #[.string (stx S)] 9)).ownsRow w.heap.size 9 1 u4 ts.length (strCells ts) := ow3.below b4
        have b5 := below_past b3 b4 b3.size
        clear ow ow3 b1 b0 HO
        go_wp2_with (at_builtin; refine wpList_append_own _ rfl _ _ 27 rfl w.heap.size 9 i0 (.string ⟨#[]⟩) 1 16 Tryz.underlying27 hi hz0 hz1 hz2 rfl (by decide) _ _ _ rfl ow4 ⟨w3.heap.size, 0, none⟩ 1 1 [.string (stx S)] rfl rfl ?c1 ?c2 ?c3 ?c4 ?c5 ?_)
        case c1 =>
          intro j u hu
          have hj : j = 0 := by
            have := (List.getElem?_eq_some_iff.1 hu).1
            simpa using this
          subst hj
          have hu2 : Value.string (stx S) = u := by simpa using hu
          rw [← hu2, show (⟨w3.heap.size, 0, none⟩ : Addr).add 0 = ⟨w3.heap.size, 0, none⟩ by simp [Addr.add]]
          exact cell_of_rowAt (rowAt_alloc_at w3 #[.string (stx S)] 9 _ rfl) 0
        case c2 =>
          intro u hu
          have hu2 : u = Value.string (stx S) := by simpa using hu
          rw [hu2]
          rfl
        case c3 => unfold maxLen; omega
        case c4 => omega
        case c5 => exact b5.size
        intro v' w' hown hgrow hnil
        have b6 := b5.grown hgrow b5.size (fun k hk => (ow4.lt k hk).1)
        have hown2 : OwnStrs w' w.heap.size v' (ts ++ [S]) := by
          show w'.ownsRow w.heap.size 9 1 v' (ts ++ [S]).length (strCells (ts ++ [S]))
          rw [List.length_append, ← strCells_put]
          exact hown
        clear hown hgrow hnil b5 b4 b3 ow4
        go_wp2_with fail
        exact ⟨⟨at0 + N, ts ++ [S], f2, hlt2, by rw [List.length_append, List.length_singleton]; omega, by go_num, HF2, hown2, b6⟩, by simp [intOf]; omega⟩
      · have hq : (E != 0) = true := by simpa using h0
        rw [if_neg h0] at hall
        have HF2 : Hid (allR l = (ts, at0)) := Lib.hid (by rw [HF.out.2, hall]; simp)
        clear hall hO hE hN hS hd hle HF h0
        go_wp2_with fail
        refine HO.out.mono ?_
        rintro e w3 ⟨rfl, b1⟩
        have ow3 := Lib.hid (ow.below b1)
        have b3 := below_past b0 b1 b0.size
        clear ow b1 b0 HO
        go_wp2_with fail
        go_ret2
        exact ⟨_, by rw [HF2.out]; rfl, by rw [HF2.out]; exact ow3.out, b3⟩
    · have hend' : decide (at0 < n) = false := decide_eq_false hend
      have hd0 : d = [] := List.eq_nil_of_length_eq_zero (by omega)
      have hall : allF (f2 + 1) l at0 = ([], at0) := by rw [allF, hd, hd0, opE_nil, if_neg (by decide)]
      have HF2 : Hid (allR l = (ts, at0)) := Lib.hid (by rw [HF.out.2, hall]; simp)
      have OW := Lib.hid ow
      clear hall hd hd0 hdl HF ow hend
      go_wp2_with fail
      go_ret2
      exact ⟨_, by rw [HF2.out]; rfl, by rw [HF2.out]; exact OW.out, b0⟩

set_option maxRecDepth 100000 in
theorem same_any (v u : Value) (ts : List (List UInt8)) (w : World) (h1 : StrsAt w v ts) (h2 : StrsAt w u ts) (hlim : ts.length ≤ 1000000) :
    Calls Tryz.prog 22 #[v, u] w fun e w' => e = .returned (.bool true) ∧ Below w.heap.size w w' := by
  obtain ⟨ao, c1, rfl, k1⟩ := h1
  obtain ⟨bo, c2, rfl, k2⟩ := h2
  obtain ⟨n, hn⟩ : ∃ n, ts.length = n := ⟨_, rfl⟩
  rw [hn] at hlim k1 k2 ⊢
  have hn' : (n : Int) ≤ 1000000 := by omega
  have K1 := Lib.hid k1
  have K2 := Lib.hid k2
  clear k1 k2 hn
  go_enter Tryz.func22, Tryz.ntmps22
  go_wp2_with fail
  go_loopw [13] (fun x wr => ∃ i : Nat, i ≤ n ∧ x = .int .i64 i ∧ Below w.heap.size w wr) (fun x _ => (n - intOf x).toNat)
  case atStart => exact ⟨0, Nat.zero_le _, rfl, Below.refl _ _⟩
  case round =>
    obtain ⟨i, hi, rfl, b0⟩ := hrel
    by_cases hlt : i < n
    · have hlt' : (i : Int) < n := by omega
      obtain ⟨g1, rfl, d1⟩ := K1.out i hlt
      obtain ⟨g2, rfl, d2⟩ := K2.out i hlt
      have c1 := (b0.cell (p := ⟨g1, i, none⟩) (cellLt d1)).trans d1
      have c2 := (b0.cell (p := ⟨g2, i, none⟩) (cellLt d2)).trans d2
      clear d1 d2
      go_wp2_with fail
      go_region
      have b1 := b0.drew
      go_wp2_with fail
      exact ⟨⟨i + 1, hlt, by go_num, b1⟩, by simp [intOf]; omega⟩
    · obtain rfl : i = n := by omega
      go_wp2_with fail
      go_ret
      exact ⟨rfl, b0⟩
end Go.Proofs.YtlhdnkfnhdkbkaaGreatDoor
