/- The document's own list of runes, and where a text isn't an identity. Conditions: a text of at most a million bytes. -/
import Derived.Test.YtlldcgofjibdjaaDoorName3
namespace Go.Proofs.YtlldcgofjibdjaaDoor
open Go Go.RowKit

/-- A list of runes, each with where it begins. -/
def runeCells : List (Nat × Nat) → Nat → List Value
  | [], _ => []
  | r :: t, p => .int .i64 r.1 :: .int .i64 p :: .int .i64 r.2 :: runeCells t (p + r.2)
theorem runeCells_len : ∀ (l : List (Nat × Nat)) (p : Nat), (runeCells l p).length = 3 * l.length
  | [], _ => rfl
  | r :: t, p => by simp [runeCells, runeCells_len t]; omega
def widths (l : List (Nat × Nat)) : Nat := (l.map (·.2)).sum
theorem widths_cons (r : Nat × Nat) (t : List (Nat × Nat)) : widths (r :: t) = r.2 + widths t := rfl
theorem runeCells_put : ∀ (l : List (Nat × Nat)) (p : Nat) (r : Nat × Nat), runeCells (l ++ [r]) p = runeCells l p ++ [.int .i64 r.1, .int .i64 (p + widths l : Nat), .int .i64 r.2]
  | [], p, r => rfl
  | q :: t, p, r => by
    simp only [List.cons_append, runeCells, widths_cons]
    rw [runeCells_put t (p + q.2) r, show p + q.2 + widths t = p + (q.2 + widths t) by omega]
theorem widths_put (l : List (Nat × Nat)) (r : Nat × Nat) : widths (l ++ [r]) = widths l + r.2 := by simp [widths]
theorem info_rune : (Tryd.prog.info? 76).map (fun i => (i.zero, i.size, i.bytes)) = some (some (.agg #[.int .i64 0, .int .i64 0, .int .i64 0]), 3, 24) := by kernel_rfl

/-- A list of runes of the call's own. -/
def OwnRunes (w : World) (B : Nat) (v : Value) (l : List (Nat × Nat)) : Prop := w.ownsRow B 76 3 v l.length (runeCells l 0)
theorem OwnRunes.below {w w' : World} {B : Nat} {v : Value} {l : List (Nat × Nat)} (h : OwnRunes w B v l) (k : Below w.heap.size w w') : OwnRunes w' B v l :=
  World.ownsRow.kept h (row := none) ⟨k.os, k.tape, k.output, k.size, fun j hj _ => k.block j hj⟩ (by cases hv : v.ownBlock <;> simp)
theorem ownRunes_empty (w : World) : OwnRunes (w.alloc (.cells #[] 76)) w.heap.size (.slice (some ⟨w.heap.size, 0, none⟩) 0 0) [] :=
  ⟨rfl, .inr ⟨w.heap.size, 0, #[], rfl, Nat.le_refl _, heap_alloc_new w _, Nat.le_refl _, Nat.zero_le _, rfl, rfl⟩⟩
theorem len_le (s : ByteArray) : (runesL s.data.toList).length ≤ s.size := runes_len _ s.data.toList (Nat.le_refl _)

set_option maxRecDepth 100000 in
set_option maxHeartbeats 1000000 in
theorem r6Runes_any (s : ByteArray) (w : World) (hs : s.size ≤ 1000000) :
    Calls Tryd.prog 42 #[.string s] w fun e w' => ∃ v, e = .returned v ∧ OwnRunes w' w.heap.size v (runesL s.data.toList) ∧ Below w.heap.size w w' := by
  obtain ⟨i0, hi, hz0, hz1, hz2⟩ := info_parts info_rune
  obtain ⟨n, hn⟩ : ∃ n, s.size = n := ⟨_, rfl⟩
  have hlim : n ≤ 1000000 := by omega
  have hlim' : (n : Int) ≤ 1000000 := by omega
  have HN := Lib.hid hn
  have o0 := ownRunes_empty w
  have b0 : Below w.heap.size w (w.alloc (.cells #[] 76)) := (Below.refl _ _).alloc (Nat.le_refl _) _
  obtain ⟨R, hR⟩ : ∃ R, runesL s.data.toList = R := ⟨_, rfl⟩
  have HR := Lib.hid hR
  rw [hR]
  clear hs hR
  go_enter Tryd.func42, Tryd.ntmps42
  go_wp2_with fail
  generalize w.alloc (.cells #[] 76) = W at *
  go_loopw [3, 4] (fun v x wr => ∃ (p : Nat) (l : List (Nat × Nat)), p ≤ n ∧ l.length ≤ p ∧ x = .int .i64 p ∧ Hid (widths l = p) ∧ Hid (R = l ++ runesL (s.data.toList.drop p)) ∧ OwnRunes wr w.heap.size v l ∧ Below w.heap.size w wr) (fun _ x _ => (n - intOf x).toNat)
  case atStart => exact ⟨0, [], Nat.zero_le _, Nat.le_refl _, rfl, Lib.hid rfl, Lib.hid (by rw [List.drop_zero, HR.out]; rfl), o0, b0⟩
  case round =>
    obtain ⟨p, l, h1, h2, rfl, HW, HF, ow, b1⟩ := hrel
    clear o0 b0 HR
    by_cases hp : p < n
    · have hp' : (p : Int) < n := by omega
      have HX := Lib.hid (next_any s p wr (by rw [HN.out]; exact hp) (by rw [HN.out]; exact hlim))
      have HD := decode_fits s p (by rw [HN.out]; exact hp)
      rw [HN.out] at HD
      have HF2 := HF.out
      rw [runes_at s p (by rw [HN.out]; exact hp)] at HF2
      obtain ⟨r, hr⟩ : ∃ r, Utf8.decode s p = r := ⟨_, rfl⟩
      rw [hr] at HX HD HF2
      have HF3 := Lib.hid HF2
      have hr1 : 1 ≤ r.2 := HD.1
      have hr2 : p + r.2 ≤ n := HD.2
      have hr3 : (p : Int) + (r.2 : Int) ≤ 1000000 := by omega
      clear hr HF HF2 HD
      obtain ⟨c, d⟩ := r
      go_wp2_with fail
      refine HX.out.mono ?_
      rintro e w3 ⟨rfl, b2⟩
      have ow3 := ow.below b2
      have b3 := below_past b1 b2 b1.size
      have LT3 : Hid (∀ k, u3.ownBlock = some k → k < w3.heap.size) := Lib.hid fun k hk => (ow3.lt k hk).2
      have ow4 : OwnRunes (w3.alloc (.cells #[.int .i64 c, .int .i64 p, .int .i64 d] 76)) w.heap.size u3 l := ow3.below ((Below.refl _ _).alloc (Nat.le_refl _) _)
      have b4 := b3.alloc b3.size (.cells #[.int .i64 c, .int .i64 p, .int .i64 d] 76)
      have r4 := rowAt_alloc_at w3 #[.int .i64 c, .int .i64 p, .int .i64 d] 76 _ rfl
      unfold RuneV
      clear ow ow3 b1 b2 b3 HX
      have ow5 := ow4.below ((Below.refl _ _).alloc (Nat.le_refl _) (.cells #[.int .i64 c, .int .i64 p, .int .i64 d] 76))
      have b5 := b4.alloc b4.size (.cells #[.int .i64 c, .int .i64 p, .int .i64 d] 76)
      have r5 := (rowAt_alloc_past (w3.alloc (.cells #[.int .i64 c, .int .i64 p, .int .i64 d] 76)) (.cells #[.int .i64 c, .int .i64 p, .int .i64 d] 76) w3.heap.size (by simp only [World.size_alloc]; omega)).trans r4
      have q5 := rowAt_alloc_at (w3.alloc (.cells #[.int .i64 c, .int .i64 p, .int .i64 d] 76)) #[.int .i64 c, .int .i64 p, .int .i64 d] 76 (w3.heap.size + 1) (by simp only [World.size_alloc])
      have hne : w3.heap.size < (w3.alloc (.cells #[.int .i64 c, .int .i64 p, .int .i64 d] 76)).heap.size := by simp only [World.size_alloc]; omega
      clear r4 ow4
      go_wp2_with (at_builtin; refine wpList_append_own _ rfl _ _ 73 rfl w.heap.size 76 i0 (.agg #[.int .i64 0, .int .i64 0, .int .i64 0]) 3 24 Tryd.underlying73 hi hz0 hz1 hz2 rfl (by decide) _ _ _ rfl ow5 ⟨w3.heap.size + 1, 0, none⟩ 1 1 [.int .i64 c, .int .i64 p, .int .i64 d] rfl rfl ?c1 ?c2 ?c3 ?c4 ?c5 ?_)
      case c1 =>
        intro j u hu
        have hj : j < 3 := (List.getElem?_eq_some_iff.1 hu).1
        rw [show (⟨w3.heap.size + 1, 0, none⟩ : Addr).add j = ⟨w3.heap.size + 1, j, none⟩ by simp [Addr.add]; exact fun e => e.symm, cell_of_rowAt q5]
        rw [← hu]
        match j, hj with
        | 0, _ => rfl
        | 1, _ => rfl
        | 2, _ => rfl
      case c2 =>
        intro u hu
        simp at hu
        rcases hu with rfl | rfl | rfl <;> rfl
      case c3 => unfold maxLen; omega
      case c4 => omega
      case c5 => exact b5.size
      intro v' w' hown hgrow hnil
      have hnb : u3.ownBlock ≠ some w3.heap.size := fun e => Nat.lt_irrefl _ (LT3.out _ e)
      have b6 := b5.grown hgrow b5.size (fun k hk => (ow5.lt k hk).1)
      have r6 : rowAt w' w3.heap.size = some #[.int .i64 c, .int .i64 p, .int .i64 d] := by
        rw [← r5]
        unfold rowAt
        rw [hgrow.block _ (by simp only [World.size_alloc]; omega) (fun e => hnb e.symm)]
      have hown2 : OwnRunes w' w.heap.size v' (l ++ [(c, d)]) := by
        show w'.ownsRow w.heap.size 76 3 v' (l ++ [(c, d)]).length (runeCells (l ++ [(c, d)]) 0)
        rw [List.length_append, runeCells_put, HW.out, Nat.zero_add]
        exact hown
      have e2 := cell_of_rowAt r6 2
      clear hown hgrow hnil b5 b4 ow5 r5 q5 hnb
      go_wp2_with fail
      exact ⟨⟨p + d, l ++ [(c, d)], hr2, by rw [List.length_append, List.length_singleton]; omega, by go_num, Lib.hid (by rw [widths_put, HW.out]), Lib.hid (by rw [HF3.out]; simp), hown2, b6⟩, by simp [intOf]; omega⟩
    · obtain rfl : p = n := by omega
      have HF2 : Hid (R = l) := Lib.hid (by rw [HF.out, runes_over s _ (by rw [HN.out]; exact Nat.le_refl _), List.append_nil])
      have OW := Lib.hid ow
      clear ow HF
      go_wp2_with fail
      exact bodyPost_ret (v := u3) (by simp [results, Tryd.results42, go_sem]) rfl ⟨_, rfl, by rw [HF2.out]; exact OW.out, b1⟩

theorem runeCells_get : ∀ (l : List (Nat × Nat)) (p i : Nat) (h : i < l.length), (runeCells l p)[i * 3]? = some (.int .i64 l[i].1) ∧ (runeCells l p)[i * 3 + 1]? = some (.int .i64 (p + widths (l.take i) : Nat)) ∧ (runeCells l p)[i * 3 + 2]? = some (.int .i64 l[i].2)
  | r :: t, p, 0, _ => ⟨rfl, rfl, rfl⟩
  | r :: t, p, i + 1, h => by
    obtain ⟨h1, h2, h3⟩ := runeCells_get t (p + r.2) i (by simpa using h)
    rw [show (i + 1) * 3 = i * 3 + 3 by omega, show i * 3 + 3 + 1 = i * 3 + 1 + 3 by omega, show i * 3 + 3 + 2 = i * 3 + 2 + 3 by omega]
    simp only [runeCells, List.getElem?_cons_succ, List.getElem_cons_succ, List.take_succ_cons, widths_cons]
    refine ⟨h1, ?_, h3⟩
    rw [h2, Nat.add_assoc]
/-- A list of runes that lies in memory. -/
def RunesAt (w : World) (v : Value) (l : List (Nat × Nat)) : Prop :=
  ∃ ao cap, v = .slice ao l.length cap ∧ ∀ i (h : i < l.length), ∃ g, ao = some ⟨g, 0, none⟩ ∧ w.cell? ⟨g, i * 3, none⟩ = some (.int .i64 l[i].1) ∧ w.cell? ⟨g, i * 3 + 1, none⟩ = some (.int .i64 (widths (l.take i) : Nat)) ∧ w.cell? ⟨g, i * 3 + 2, none⟩ = some (.int .i64 l[i].2)
theorem OwnRunes.lie {w : World} {B : Nat} {v : Value} {l : List (Nat × Nat)} (h : OwnRunes w B v l) : RunesAt w v l := by
  have h' := h
  rcases h.2 with ⟨h1, h2⟩ | ⟨g, cap, cur, h1, _⟩
  · exact ⟨none, 0, by rw [h1, h2], fun i hi => absurd hi (by omega)⟩
  · have hb : v.ownBlock = some g := by rw [h1]; rfl
    have key : ∀ j u, (runeCells l 0)[j]? = some u → w.cell? ⟨g, j, none⟩ = some u := fun j u hu => by
      have := World.ownsRow.cells h' hb j u hu
      rw [← this]
      congr 1
      exact (show (⟨g, 0, none⟩ : Addr).add j = ⟨g, j, none⟩ by simp [Addr.add]; exact fun e => e.symm).symm
    refine ⟨_, _, h1, fun i hi => ⟨g, rfl, ?_⟩⟩
    obtain ⟨a, b, c⟩ := runeCells_get l 0 i hi
    rw [Nat.zero_add] at b
    exact ⟨key _ _ a, key _ _ b, key _ _ c⟩
theorem cell_past {W w' : World} (h : Below W.heap.size W w') {g i : Nat} {v : Value} (hc : W.cell? ⟨g, i, none⟩ = some v) : w'.cell? ⟨g, i, none⟩ = some v :=
  (h.cell (p := ⟨g, i, none⟩) (cellLt hc)).trans hc

def lastK (l : List (Nat × Nat)) (i : Nat) : Nat := if i = 0 then 3 else kind ((l.getD (i - 1) (0, 0)).1 : Int)
theorem lastK_succ (l : List (Nat × Nat)) (i : Nat) (h : i < l.length) : lastK l (i + 1) = kind (l[i].1 : Int) := by
  unfold lastK
  rw [if_neg (by omega), Nat.add_sub_cancel, List.getD_eq_getElem?_getD, List.getElem?_eq_getElem h]
  rfl
def ChkAll (n : Nat) (l : List (Nat × Nat)) : Nat × Nat := if l = [] then (0, 5) else chkF n l 0 0 3
theorem chk_step (n : Nat) (l : List (Nat × Nat)) (i : Nat) (h : i < l.length) : chkF n (l.drop i) (widths (l.take i)) i (lastK l i) =
    if l[i].1 = 65533 then (widths (l.take i), 4) else if i = 40 then (widths (l.take i), 2) else if kind l[i].1 = 0 ∨ (kind l[i].1 = 3 ∧ lastK l i = 3) ∨ great l[i].1 = true then (widths (l.take i), 3) else chkF n (l.drop (i + 1)) (widths (l.take (i + 1))) (i + 1) (lastK l (i + 1)) := by
  rw [List.drop_eq_getElem_cons h, chkF_cons, lastK_succ l i h]
  rw [show widths (l.take (i + 1)) = widths (l.take i) + l[i].2 by rw [List.take_succ_eq_append_getElem h, widths_put]]

set_option maxRecDepth 100000 in
theorem r6Check_empty (s : ByteArray) (w : World) (hs : s.size ≤ 1000000) (h0 : runesL s.data.toList = []) : Calls Tryd.prog 28 #[.string s] w fun e w' => e = .returned (ChkR (0, 5)) ∧ Below w.heap.size w w' := by
  have HX := Lib.hid (r6Runes_any s w hs)
  rw [h0] at HX
  clear hs h0
  go_enter Tryd.func28, Tryd.ntmps28
  go_wp2_with fail
  refine HX.out.mono ?_
  rintro e w1 ⟨v, rfl, ow, b1⟩
  obtain ⟨ao, cap, rfl, _⟩ := ow.lie
  clear ow HX
  go_wp2_with fail
  go_ret2
  exact ⟨rfl, b1⟩
set_option maxRecDepth 100000 in
set_option maxHeartbeats 1000000 in
theorem r6Check_full (s : ByteArray) (w : World) (hs : s.size ≤ 1000000) (h0 : runesL s.data.toList ≠ []) : Calls Tryd.prog 28 #[.string s] w fun e w' => e = .returned (ChkR (chkF s.size (runesL s.data.toList) 0 0 3)) ∧ Below w.heap.size w w' := by
  have HX := Lib.hid (r6Runes_any s w hs)
  have hlen := len_le s
  obtain ⟨l, hl⟩ : ∃ l, runesL s.data.toList = l := ⟨_, rfl⟩
  rw [hl] at HX h0 hlen ⊢
  obtain ⟨n, hn⟩ : ∃ n, l.length = n := ⟨_, rfl⟩
  have hn0 : 0 < n := by rw [← hn]; exact List.length_pos_iff.2 h0
  have hlim : n ≤ 1000000 := by omega
  obtain ⟨R, hR⟩ : ∃ R, chkF s.size l 0 0 3 = R := ⟨_, rfl⟩
  have HR := Lib.hid hR
  have HN := Lib.hid hn
  rw [hR]
  have hne : ((n : Int) == 0) = false := by rw [beq_eq_false_iff_ne]; omega
  have hlim' : (n : Int) ≤ 1000000 := by omega
  have hn0' : (0 : Int) < n := by omega
  obtain ⟨m, hm⟩ : ∃ m : Nat, s.size = m := ⟨_, rfl⟩
  rw [hm] at HR
  have HM := Lib.hid hm
  clear hs hl h0 hR hlen hn hm
  go_enter Tryd.func28, Tryd.ntmps28
  go_wp2_with fail
  refine HX.out.mono ?_
  rintro e w1 ⟨v, rfl, ow, b1⟩
  have AT0 := ow.lie
  obtain ⟨ao, cap, hv, hAT⟩ := AT0
  rw [HN.out] at hv
  subst hv
  have AT := Lib.hid hAT
  clear hAT ow HX
  go_wp2_with fail
  go_loopw [15] (fun x wr => ∃ i : Nat, i ≤ n ∧ i ≤ 40 ∧ x = .int .i64 i ∧ Hid (chkF m (l.drop i) (widths (l.take i)) i (lastK l i) = R) ∧ Below w1.heap.size w1 wr) (fun x _ => (n - intOf x).toNat)
  case atStart => exact ⟨0, Nat.zero_le _, Nat.zero_le _, rfl, Lib.hid (by rw [List.drop_zero]; exact HR.out), Below.refl _ _⟩
  case round =>
    obtain ⟨i, hi, hi40, rfl, HI, b2⟩ := hrel
    by_cases hlt : i < n
    · have hlt' : (i : Int) < n := by omega
      have hil : i < l.length := by rw [HN.out]; exact hlt
      obtain ⟨g, rfl, d0, d1, d2⟩ := AT.out i hil
      have HI2 := HI.out
      rw [chk_step m l i hil] at HI2
      have c0 := cell_past b2 d0
      have c1 := cell_past b2 d1
      have c2 := cell_past b2 d2
      clear d0 d1 d2 HI
      obtain ⟨c, hc⟩ : ∃ c, l[i].1 = c := ⟨_, rfl⟩
      obtain ⟨d, hd⟩ : ∃ d, l[i].2 = d := ⟨_, rfl⟩
      obtain ⟨q, hq⟩ : ∃ q, widths (l.take i) = q := ⟨_, rfl⟩
      rw [hc] at c0
      rw [hd] at c2
      rw [hq] at c1
      rw [hc, hq] at HI2
      have HK := Lib.hid (r6Kind_any (c : Int))
      have HG := Lib.hid (r6Great_any (c : Int))
      have HC := Lib.hid hc
      clear hc hd hq
      obtain ⟨K, hK⟩ : ∃ K, kind (c : Int) = K := ⟨_, rfl⟩
      obtain ⟨G, hG⟩ : ∃ G, great (c : Int) = G := ⟨_, rfl⟩
      rw [hK, hG] at HI2
      rw [hK] at HK
      rw [hG] at HG
      have HI3 := Lib.hid HI2
      clear hK hG HI2
      have b3 := b2.alloc b2.size (.cells #[.int .i64 c, .int .i64 q, .int .i64 d] 76)
      have r3 := rowAt_alloc_at wr #[.int .i64 c, .int .i64 q, .int .i64 d] 76 _ rfl
      have b4 := b1.trans (b3.mono b1.size)
      have LAST : Hid ((i = 0 ∧ lastK l i = 3) ∨ (0 < i ∧ ∃ x : Nat, (wr.alloc (.cells #[.int .i64 c, .int .i64 q, .int .i64 d] 76)).cell? ⟨g, (i - 1) * 3, none⟩ = some (.int .i64 x) ∧ lastK l i = kind (x : Int))) := Lib.hid (by
        by_cases h0 : i = 0
        · exact .inl ⟨h0, by rw [h0]; rfl⟩
        · have hi1 : i - 1 < l.length := by omega
          obtain ⟨g2, e, k0, _⟩ := AT.out (i - 1) hi1
          obtain rfl : g = g2 := by cases e; rfl
          refine .inr ⟨by omega, l[i - 1].1, cell_past b3 k0, ?_⟩
          unfold lastK
          rw [if_neg h0, List.getD_eq_getElem?_getD, List.getElem?_eq_getElem hi1]
          rfl)
      by_cases h1 : c = 65533
      · have h1' : ((c : Int) == 65533) = true := by rw [h1]; rfl
        have HE := Lib.hid (HI3.out.symm.trans (if_pos h1))
        clear h1 HI3 r3 b3
        go_wp2_with fail
        go_ret2
        exact ⟨ret_chk HE.out.symm, b4⟩
      · have h1' : ((c : Int) == 65533) = false := by rw [beq_eq_false_iff_ne]; omega
        have HE := Lib.hid (HI3.out.symm.trans (if_neg h1))
        clear h1 HI3
        by_cases h2 : i = 40
        · have h2' : (40 : Int) ≤ i := by omega
          have HE2 := Lib.hid (HE.out.trans (if_pos h2))
          clear h2 HE r3 b3
          go_wp2_with fail
          go_ret2
          exact ⟨ret_chk HE2.out.symm, b4⟩
        · have h2' : (i : Int) < 40 := by omega
          have hi41 : i + 1 ≤ 40 := by omega
          have HE2 := Lib.hid (HE.out.trans (if_neg h2))
          clear h2 HE
          go_wp2_with fail
          refine (HK.out _).mono ?_
          rintro e w2 ⟨rfl, b5⟩
          have r5 := rowAt_past b5 r3
          have b6 := below_past b4 b5 b4.size
          have b7 := below_past b3 b5 b3.size
          have e0 := cell_of_rowAt r5 0
          have e1 := cell_of_rowAt r5 1
          clear r3 b3 b4 r5 c0 c1 c2
          by_cases h3 : K = 0
          · have h3' : ((K : Int) == 0) = true := by rw [h3]; rfl
            have HE3 := Lib.hid (HE2.out.trans (if_pos (.inl h3)))
            clear h3 HE2
            go_wp2_with fail
            go_ret2
            exact ⟨ret_chk HE3.out.symm, b6⟩
          · have h3' : ((K : Int) == 0) = false := by rw [beq_eq_false_iff_ne]; omega
            cases G with
            | true =>
              have HE3 := Lib.hid (HE2.out.trans (if_pos (.inr (.inr rfl))))
              clear h3 HE2 HK
              go_wp2_with fail
              refine (HG.out _).mono ?_
              rintro e w3 ⟨rfl, b8⟩
              have b9 := below_past b6 b8 b6.size
              have e1 := cell_past b8 e1
              clear e0 b6 b7 b8
              go_wp2_with fail
              go_ret2
              exact ⟨ret_chk HE3.out.symm, b9⟩
            | false =>
              by_cases h4 : K = 3
              · subst h4
                rcases LAST.out with ⟨z1, z2⟩ | ⟨z1, x, z2, z3⟩
                · have z1' : ((i : Int) == 0) = true := by rw [z1]; rfl
                  have HE3 := Lib.hid (HE2.out.trans (if_pos (.inr (.inl ⟨rfl, z2⟩))))
                  clear h3 HE2 HK z1 z2
                  go_wp2_with fail
                  refine (HG.out _).mono ?_
                  rintro e w3 ⟨rfl, b8⟩
                  have b9 := below_past b6 b8 b6.size
                  have e1 := cell_past b8 e1
                  clear e0 b6 b7 b8
                  go_wp2_with fail
                  go_ret2
                  exact ⟨ret_chk HE3.out.symm, b9⟩
                · have z1' : ((i : Int) == 0) = false := by rw [beq_eq_false_iff_ne]; omega
                  have z1'' : (0 : Int) < i := by omega
                  have hi1 : ((i : Int) - 1).toNat = i - 1 := by omega
                  have p0 := cell_past b5 z2
                  have HK2 := Lib.hid (r6Kind_any (x : Int))
                  rw [z3] at HE2
                  have z3h := Lib.hid z3
                  obtain ⟨L, hL⟩ : ∃ L, kind (x : Int) = L := ⟨_, rfl⟩
                  rw [hL] at HE2 HK2
                  clear h3 HK z1 z2 z3 hL
                  by_cases h5 : L = 3
                  · have h5' : ((L : Int) == 3) = true := by rw [h5]; rfl
                    have HE3 := Lib.hid (HE2.out.trans (if_pos (.inr (.inl ⟨rfl, h5⟩))))
                    clear h5 HE2
                    go_wp2_with fail
                    refine (HG.out _).mono ?_
                    rintro e w3 ⟨rfl, b8⟩
                    have b9 := below_past b6 b8 b6.size
                    have e1 := cell_past b8 e1
                    have p0 := cell_past b8 p0
                    clear e0 b6 b7 b8
                    go_wp2_with fail
                    refine (HK2.out _).mono ?_
                    rintro e w4 ⟨rfl, b8⟩
                    have b6 := below_past b9 b8 b9.size
                    have e1 := cell_past b8 e1
                    clear b9 b8 p0
                    go_wp2_with fail
                    go_ret2
                    exact ⟨ret_chk HE3.out.symm, b6⟩
                  · have h5' : ((L : Int) == 3) = false := by rw [beq_eq_false_iff_ne]; omega
                    have HE3 := Lib.hid (HE2.out.trans (if_neg (by rintro (k | k | k); exact absurd k (by decide); exact h5 k.2; exact Bool.noConfusion k)))
                    clear h5 HE2
                    go_wp2_with fail
                    refine (HG.out _).mono ?_
                    rintro e w3 ⟨rfl, b8⟩
                    have b9 := below_past b7 b8 b7.size
                    have e1 := cell_past b8 e1
                    have p0 := cell_past b8 p0
                    clear e0 b6 b7 b8
                    go_wp2_with fail
                    refine (HK2.out _).mono ?_
                    rintro e w4 ⟨rfl, b8⟩
                    have b6 := below_past b9 b8 b9.size
                    clear b9 b8 p0 e1
                    go_wp2_with fail
                    exact ⟨⟨i + 1, hlt, hi41, by go_num, Lib.hid HE3.out.symm, b6⟩, by simp [intOf]; omega⟩
              · have h4' : ((K : Int) == 3) = false := by rw [beq_eq_false_iff_ne]; omega
                have HE3 := Lib.hid (HE2.out.trans (if_neg (by rintro (k | k | k); exact h3 k; exact h4 k.1; exact Bool.noConfusion k)))
                clear h3 HE2 h4 HK
                go_wp2_with fail
                refine (HG.out _).mono ?_
                rintro e w3 ⟨rfl, b8⟩
                have b9 := below_past b7 b8 b7.size
                clear e0 e1 b6 b7 b8
                go_wp2_with fail
                exact ⟨⟨i + 1, hlt, hi41, by go_num, Lib.hid HE3.out.symm, b9⟩, by simp [intOf]; omega⟩
    · obtain rfl : i = n := by omega
      have HE := HI.out
      rw [List.drop_eq_nil_of_le (Nat.le_of_eq HN.out), chkF] at HE
      obtain ⟨g, rfl, d0, d1, d2⟩ := AT.out (i - 1) (by rw [HN.out]; omega)
      have c0 := cell_past b2 d0
      obtain ⟨x, hx⟩ : ∃ x, (l[i - 1]'(by rw [HN.out]; omega)).1 = x := ⟨_, rfl⟩
      have hlk : lastK l i = kind (x : Int) := by
        unfold lastK
        rw [if_neg (by omega), List.getD_eq_getElem?_getD, List.getElem?_eq_getElem (by rw [HN.out]; omega), ← hx]
        rfl
      rw [hlk] at HE
      rw [hx] at c0
      have hi1 : ((i : Int) - 1).toNat = i - 1 := by omega
      have HK := Lib.hid (r6Kind_any (x : Int))
      obtain ⟨K, hK⟩ : ∃ K, kind (x : Int) = K := ⟨_, rfl⟩
      rw [hK] at HE HK
      have b3 := b1.trans (b2.mono b1.size)
      have MM := HM.out
      clear HI d0 d1 d2 hlk hx hK
      by_cases h : K = 3
      · have h5' : ((K : Int) == 3) = true := by rw [h]; rfl
        have HE2 := Lib.hid (HE.symm.trans (if_pos h))
        clear h HE
        go_wp2_with fail
        refine (HK.out _).mono ?_
        rintro e w2 ⟨rfl, b5⟩
        have b6 := below_past b3 b5 b3.size
        go_wp2_with fail
        go_ret2
        exact ⟨ret_chk HE2.out.symm, b6⟩
      · have h5' : ((K : Int) == 3) = false := by rw [beq_eq_false_iff_ne]; omega
        have HE2 := Lib.hid (HE.symm.trans (if_neg h))
        clear h HE
        go_wp2_with fail
        refine (HK.out _).mono ?_
        rintro e w2 ⟨rfl, b5⟩
        have b6 := below_past b3 b5 b3.size
        go_wp2_with fail
        go_ret2
        exact ⟨ret_chk HE2.out.symm, b6⟩
theorem runes_none {l : List UInt8} : runesL l = [] ↔ l = [] := by
  constructor
  · intro h
    by_cases hl : l = []
    · exact hl
    · rw [runes_cons l hl] at h
      cases h
  · intro h
    rw [h]
    rfl
theorem r6Check_any (s : ByteArray) (w : World) (hs : s.size ≤ 1000000) : Calls Tryd.prog 28 #[.string s] w fun e w' => e = .returned (ChkR (chk s.data.toList)) ∧ Below w.heap.size w w' := by
  unfold chk
  by_cases h : s.data.toList = []
  · rw [if_pos h]
    exact r6Check_empty s w hs (runes_none.2 h)
  · rw [if_neg h]
    exact r6Check_full s w hs (fun e => h (runes_none.1 e))
theorem Check_any (s : ByteArray) (w : World) (hs : s.size ≤ 1000000) : Calls Tryd.prog 24 #[.string s] w fun e w' => e = .returned (ChkR (chk s.data.toList)) ∧ Below w.heap.size w w' := by
  unfold chk
  by_cases h : s.data.toList = []
  · rw [if_pos h]
    obtain rfl : s = ⟨#[]⟩ := by
      rw [← stx_list s, h]
    exact Check_empty w
  · rw [if_neg h]
    exact Check_full s w hs (List.length_pos_iff.2 h)
end Go.Proofs.YtlldcgofjibdjaaDoor
