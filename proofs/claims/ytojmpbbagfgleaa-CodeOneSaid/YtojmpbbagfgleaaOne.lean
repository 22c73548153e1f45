/- For every text and kind the law CodeOne returns true. Conditions: none. -/
import Derived.Test.YtojmpbbagfgleaaCode8
import Derived.Test.YtojmpbbagfgleaaLaw2
import Derived.Test.YtojmpbbagfgleaaRow
import Derived.ChangeMaps5
namespace Go.Proofs.Ytojmpbbagfgleaa.one
open Go Go.ChangeShapes Go.WideShapes Go.ChangeAt Go.ChangeMaps Go.RowKit Go.Proofs.Ytojmpbbagfgleaa

/-- What Done answers of a reader. -/
def rdone (s : ByteArray) (err : Int) : Int := if err = 0 ∧ s.size ≠ 0 then 3 else err
theorem rdone_zero {s : ByteArray} {err : Int} (h : rdone s err = 0) : err = 0 ∧ s = txt [] := by
  unfold rdone at h
  split at h
  · cases h
  · rename_i k
    have hs : s.size = 0 := by
      rcases Nat.eq_zero_or_pos s.size with e | e
      · exact e
      · exact absurd ⟨h, by omega⟩ k
    refine ⟨h, ?_⟩
    obtain ⟨⟨l⟩⟩ := s
    have : l.length = 0 := hs
    rw [List.length_eq_zero_iff] at this
    subst this
    rfl
def opE (s : ByteArray) : Int := if s.size ≤ 65536 then 0 else 2
theorem opE_cases (s : ByteArray) : (opE s = 0 ∧ s.size ≤ 65536) ∨ opE s = 2 := by
  unfold opE
  split
  · exact .inl ⟨rfl, by assumption⟩
  · exact .inr rfl
theorem num_fine {s : ByteArray} (h : rdone (numS s (opE s)) (numE s (opE s)) = 0) : doneE (numW [] 0 (numV s (opE s))) (numWE 0 (numV s (opE s))) = 0 ∧ txt (doneS (numW [] 0 (numV s (opE s))) (numWE 0 (numV s (opE s)))) = s := by
  obtain ⟨h1, h2⟩ := rdone_zero h
  rcases opE_cases s with ⟨e, hs⟩ | e
  · rw [e] at h1 h2 ⊢
    obtain ⟨n, hn, hv, m, hm, hl⟩ := num_one s.data.toList h1
    rw [txt_list] at hv hm
    have : m = [] := by
      rw [hm] at h2
      exact congrArg (fun x : ByteArray => x.data.toList) h2
    subst this
    rw [List.append_nil] at hl
    have hz : (numBytes n).length ≤ 65536 := by rw [← hl]; exact hs
    rw [hv, numW, numWE, if_neg (by omega), if_neg (by omega), Int.toNat_natCast, added_le (Nat.zero_le _), List.nil_append, doneE, doneS, if_neg (by decide), if_neg (by omega), if_neg (by omega), ← hl]
    exact ⟨rfl, rfl⟩
  · rw [e, (num_err s 2 (by decide)).2.2] at h1
    cases h1
theorem text_fine {s : ByteArray} (h : rdone (textR s (opE s)) (textE s (opE s)) = 0) : doneE (textW [] 0 (textV s (opE s))) (textWE 0 (textV s (opE s))) = 0 ∧ txt (doneS (textW [] 0 (textV s (opE s))) (textWE 0 (textV s (opE s)))) = s := by
  obtain ⟨h1, h2⟩ := rdone_zero h
  rcases opE_cases s with ⟨e, hs⟩ | e
  · rw [e] at h1 h2 ⊢
    obtain ⟨t, ht, hv, m, hm, hl⟩ := text_one s.data.toList h1
    rw [txt_list] at hv hm
    have : m = [] := by
      rw [hm] at h2
      exact congrArg (fun x : ByteArray => x.data.toList) h2
    subst this
    rw [List.append_nil] at hl
    have hz : (numBytes t.length ++ t).length ≤ 65536 := by rw [← hl]; exact hs
    have hz2 : (numBytes t.length).length ≤ 65536 := by rw [List.length_append] at hz; omega
    have hts : ¬ 65536 < (txt t).size := by rw [txt_size]; omega
    have hd : (txt t).data.toList = t := rfl
    rw [hv, textW, textWE, if_neg hts, if_neg hts, hd, txt_size, added_le (bs := []) (Nat.zero_le _), List.nil_append, added_le hz2, doneE, doneS, if_neg (by decide), if_neg (by omega), if_neg (by omega), ← hl]
    exact ⟨rfl, rfl⟩
  · rw [e, (text_err s 2 (by decide)).2.2] at h1
    cases h1
theorem label_fine {s : ByteArray} (h : rdone (takeR s (opE s) 32) (takeE s (opE s) 32) = 0) : doneE (added [] 0 (labelV s (opE s)).l) 0 = 0 ∧ txt (doneS (added [] 0 (labelV s (opE s)).l) 0) = s := by
  obtain ⟨h1, h2⟩ := rdone_zero h
  rcases opE_cases s with ⟨e, hs⟩ | e
  · rw [e] at h1 h2 ⊢
    have h32 : 32 ≤ s.size := by
      rcases Nat.lt_or_ge s.size 32 with k | k
      · rw [takeE, if_pos ⟨rfl, k⟩] at h1
        cases h1
      · exact k
    have hr := takeR_list s.data.toList 32 h32
    rw [txt_list, h2] at hr
    have hd : s.data.toList.drop 32 = [] := (congrArg (fun x : ByteArray => x.data.toList) hr).symm
    have hl : (labelV s 0).l = s.data.toList := by
      rw [labelV, dif_pos ⟨rfl, h32⟩]
      conv => rhs; rw [← List.take_append_drop 32 s.data.toList, hd, List.append_nil]
    have hz : s.data.toList.length ≤ 65536 := hs
    rw [hl, added_le (Nat.zero_le _), List.nil_append, doneE, doneS, if_neg (by decide), if_neg (by omega), if_neg (by omega)]
    exact ⟨rfl, rfl⟩
  · rw [e, takeE_err _ _ _ (by decide)] at h1
    cases h1
theorem flag_fine {s : ByteArray} (h : rdone (takeR s (opE s) 1) (octE s (opE s) 1) = 0) : doneE (added [] 0 [if flagV s (opE s) then 1 else 0]) 0 = 0 ∧ txt (doneS (added [] 0 [if flagV s (opE s) then 1 else 0]) 0) = s := by
  obtain ⟨h1, h2⟩ := rdone_zero h
  rcases opE_cases s with ⟨e, hs⟩ | e
  · rw [e] at h1 h2 ⊢
    obtain ⟨⟨l⟩⟩ := s
    have hh : (⟨⟨l⟩⟩ : ByteArray) = txt l := rfl
    rw [hh] at h1 h2 ⊢
    cases l with
    | nil => rw [octE_nil] at h1; cases h1
    | cons c l =>
      have hc : (c.toNat : Int) ≤ 1 := by
        by_cases k : (c.toNat : Int) ≤ 1
        · exact k
        · rw [octE_big _ _ _ (by omega)] at h1; cases h1
      have hr := takeR_list (c :: l) 1 (by simp)
      rw [h2] at hr
      have hl : l = [] := (congrArg (fun x : ByteArray => x.data.toList) hr).symm
      subst hl
      have hf : flagV (txt [c]) 0 = (((c.toNat : Int)) == 1) := by rw [flagV, octV_cons _ _ _ hc]
      have hb : (if flagV (txt [c]) 0 then (1 : UInt8) else 0) = c := by
        rw [hf]
        apply UInt8.toNat_inj.1
        by_cases h1 : c.toNat = 1
        · simp [h1]
        · have : c.toNat = 0 := by omega
          simp [this]
      rw [hb]
      exact ⟨rfl, rfl⟩
  · rw [e, octE_err _ _ _ (by decide)] at h1
    cases h1

theorem numV_lt (s : ByteArray) (e : Int) : numV s e < 9223372036854775808 := by
  unfold numV numOk
  split
  · decide
  · split
    · decide
    · rename_i h
      have : ¬ 9223372036854775807 < beVal (numT s e).data.toList := fun k => h (decide_eq_true (.inr k))
      omega
set_option maxRecDepth 100000 in
set_option maxHeartbeats 2000000 in
theorem one1 (s : ByteArray) (w : World) : Calls Try.prog 8 #[.string s, .int .i64 1] w fun e w' => e = .returned (.bool true) ∧ Below w.heap.size w w' := by
  obtain ⟨D, hD⟩ : ∃ D, rdone (numS s (opE s)) (numE s (opE s)) = D := ⟨_, rfl⟩
  have HDD := Lib.hid hD
  unfold rdone at HDD
  by_cases h0 : D = 0
  · subst h0
    have HF := Lib.hid (num_fine hD)
    clear hD
    have HO := Lib.hid (Open_any s w)
    rw [show (if s.size ≤ 65536 then (0 : Int) else 2) = opE s from rfl] at HO
    generalize opE s = e0 at *
    go_enter Try.func8, Try.ntmps8
    go_wp2_with fail
    refine HO.out.mono ?_
    rintro e w1 ⟨rfl, k1, b1⟩
    clear HO
    go_wp2_with fail
    have a1 : Below w1.heap.size w1 (w1.alloc (.cells #[.slice none 0 0, .int .i64 0] 44)) := (Below.refl _ _).alloc (Nat.le_refl _) _
    have K1 := k1.below a1
    have hW := heap_alloc_new w1 (.cells #[.slice none 0 0, .int .i64 0] 44)
    have b2 := below_past b1 a1 b1.size
    have hs2 : w1.heap.size + 1 ≤ (w1.alloc (.cells #[.slice none 0 0, .int .i64 0] 44)).heap.size := by simp only [World.size_alloc]; omega
    have hg : w.heap.size < w1.heap.size := heap_lt k1.2
    clear k1 a1 b1
    generalize hh : w1.heap.size = h at *
    generalize hgg : w.heap.size = g at *
    generalize w1.alloc (.cells #[.slice none 0 0, .int .i64 0] 44) = W at *
    have HR := Lib.hid (RNumber_all (h + 1) g s e0 W ⟨rfl, K1.2⟩ )
    have HG := Lib.hid hgg
    clear K1 hh hgg
    refine HR.out.mono ?_
    rintro e w2 ⟨rfl, k2, n2⟩
    have hW2 := (n2.block h (Nat.lt_succ_self _) (Nat.ne_of_gt hg)).trans hW
    have KW : WriterAt (h + 1) h [] 0 w2 := ⟨none, 0, hW2, World.ownsRow_nil _ _ _ _, by simp [Value.ownBlock]⟩
    have b3 : Below g w w2 := b2.trans (n2.below (Nat.le_succ_of_le (Nat.le_of_lt hg)) (Nat.le_refl _))
    have HWR := Lib.hid (WNumber_all _ _ _ _ (numV s e0) _ KW (numV_lt s e0) (Nat.le_trans hs2 n2.size))
    have hs3 := Nat.le_trans hs2 n2.size
    clear HR hW hW2 KW b2 n2
    go_wp2_with fail
    refine HWR.out.mono ?_
    rintro e w3 ⟨rfl, k3, n3⟩
    have K3 : ReaderAt (h + 1) g _ _ w3 := ⟨rfl, (n3.block g (Nat.lt_succ_of_lt hg) (Nat.ne_of_lt hg)).trans k2.2⟩
    have b4 : Below g w w3 := b3.trans (n3.below (Nat.le_succ_of_le (Nat.le_of_lt hg)) (Nat.le_of_lt hg))
    have HD := Lib.hid (RDone_any _ _ _ _ _ K3)
    have hs4 : g ≤ w3.heap.size := Nat.le_trans (Nat.le_of_lt (Nat.lt_succ_of_lt hg)) (Nat.le_trans hs3 n3.size)
    clear HWR k2 b3 n3 K3
    rw [HDD.out] at HD
    go_wp2_with fail
    refine HD.out.mono ?_
    rintro e w4 ⟨rfl, b5⟩
    have b6 := below_past b4 b5 hs4
    have hs5 := Nat.le_trans hs4 b5.size
    have KT := Lib.hid (WDone_all _ _ _ _ _ (k3.below b5))
    clear HD b4 b5 k3 hs4
    rw [HF.out.1, HF.out.2] at KT
    go_wp2_with fail
    refine KT.out.mono ?_
    rintro e w5 ⟨rfl, b7⟩
    have b8 := below_past b6 b7 hs5
    have hs6 := Nat.le_trans hs5 b7.size
    clear KT b6 b7 hs5
    go_wp2_with fail
    refine (awake2 _).mono ?_
    rintro e w6 ⟨rfl, b7⟩
    have b9 := below_past b8 b7 hs6
    clear b8 b7
    go_wp2_with fail
    go_ret
    exact ⟨rfl, by rw [HG.out]; exact b9⟩
  · have hq : (D != 0) = true := by simpa using h0
    clear hD
    have HO := Lib.hid (Open_any s w)
    rw [show (if s.size ≤ 65536 then (0 : Int) else 2) = opE s from rfl] at HO
    generalize opE s = e0 at *
    go_enter Try.func8, Try.ntmps8
    go_wp2_with fail
    refine HO.out.mono ?_
    rintro e w1 ⟨rfl, k1, b1⟩
    clear HO
    go_wp2_with fail
    have a1 : Below w1.heap.size w1 (w1.alloc (.cells #[.slice none 0 0, .int .i64 0] 44)) := (Below.refl _ _).alloc (Nat.le_refl _) _
    have K1 := k1.below a1
    have hW := heap_alloc_new w1 (.cells #[.slice none 0 0, .int .i64 0] 44)
    have b2 := below_past b1 a1 b1.size
    have hs2 : w1.heap.size + 1 ≤ (w1.alloc (.cells #[.slice none 0 0, .int .i64 0] 44)).heap.size := by simp only [World.size_alloc]; omega
    have hg : w.heap.size < w1.heap.size := heap_lt k1.2
    clear k1 a1 b1
    generalize hh : w1.heap.size = h at *
    generalize hgg : w.heap.size = g at *
    generalize w1.alloc (.cells #[.slice none 0 0, .int .i64 0] 44) = W at *
    have HR := Lib.hid (RNumber_all (h + 1) g s e0 W ⟨rfl, K1.2⟩ )
    have HG := Lib.hid hgg
    clear K1 hh hgg
    refine HR.out.mono ?_
    rintro e w2 ⟨rfl, k2, n2⟩
    have hW2 := (n2.block h (Nat.lt_succ_self _) (Nat.ne_of_gt hg)).trans hW
    have KW : WriterAt (h + 1) h [] 0 w2 := ⟨none, 0, hW2, World.ownsRow_nil _ _ _ _, by simp [Value.ownBlock]⟩
    have b3 : Below g w w2 := b2.trans (n2.below (Nat.le_succ_of_le (Nat.le_of_lt hg)) (Nat.le_refl _))
    have HWR := Lib.hid (WNumber_all _ _ _ _ (numV s e0) _ KW (numV_lt s e0) (Nat.le_trans hs2 n2.size))
    have hs3 := Nat.le_trans hs2 n2.size
    clear HR hW hW2 KW b2 n2
    go_wp2_with fail
    refine HWR.out.mono ?_
    rintro e w3 ⟨rfl, k3, n3⟩
    have K3 : ReaderAt (h + 1) g _ _ w3 := ⟨rfl, (n3.block g (Nat.lt_succ_of_lt hg) (Nat.ne_of_lt hg)).trans k2.2⟩
    have b4 : Below g w w3 := b3.trans (n3.below (Nat.le_succ_of_le (Nat.le_of_lt hg)) (Nat.le_of_lt hg))
    have HD := Lib.hid (RDone_any _ _ _ _ _ K3)
    have hs4 : g ≤ w3.heap.size := Nat.le_trans (Nat.le_of_lt (Nat.lt_succ_of_lt hg)) (Nat.le_trans hs3 n3.size)
    clear HWR k2 b3 n3 K3
    rw [HDD.out] at HD
    go_wp2_with fail
    refine HD.out.mono ?_
    rintro e w4 ⟨rfl, b5⟩
    have b6 := below_past b4 b5 hs4
    have hs5 := Nat.le_trans hs4 b5.size
    have KT := Lib.hid (WDone_all _ _ _ _ _ (k3.below b5))
    clear HD b4 b5 k3 hs4
    clear KT
    go_wp2_with fail
    refine (awake2 _).mono ?_
    rintro e w6 ⟨rfl, b7⟩
    have b9 := below_past b6 b7 hs5
    clear b6 b7
    go_wp2_with fail
    go_ret
    exact ⟨rfl, by rw [HG.out]; exact b9⟩
set_option maxRecDepth 100000 in
set_option maxHeartbeats 2000000 in
theorem one2 (s : ByteArray) (w : World) : Calls Try.prog 8 #[.string s, .int .i64 2] w fun e w' => e = .returned (.bool true) ∧ Below w.heap.size w w' := by
  obtain ⟨D, hD⟩ : ∃ D, rdone (textR s (opE s)) (textE s (opE s)) = D := ⟨_, rfl⟩
  have HDD := Lib.hid hD
  unfold rdone at HDD
  by_cases h0 : D = 0
  · subst h0
    have HF := Lib.hid (text_fine hD)
    clear hD
    have HO := Lib.hid (Open_any s w)
    rw [show (if s.size ≤ 65536 then (0 : Int) else 2) = opE s from rfl] at HO
    generalize opE s = e0 at *
    go_enter Try.func8, Try.ntmps8
    go_wp2_with fail
    refine HO.out.mono ?_
    rintro e w1 ⟨rfl, k1, b1⟩
    clear HO
    go_wp2_with fail
    have a1 : Below w1.heap.size w1 (w1.alloc (.cells #[.slice none 0 0, .int .i64 0] 44)) := (Below.refl _ _).alloc (Nat.le_refl _) _
    have K1 := k1.below a1
    have hW := heap_alloc_new w1 (.cells #[.slice none 0 0, .int .i64 0] 44)
    have b2 := below_past b1 a1 b1.size
    have hs2 : w1.heap.size + 1 ≤ (w1.alloc (.cells #[.slice none 0 0, .int .i64 0] 44)).heap.size := by simp only [World.size_alloc]; omega
    have hg : w.heap.size < w1.heap.size := heap_lt k1.2
    clear k1 a1 b1
    generalize hh : w1.heap.size = h at *
    generalize hgg : w.heap.size = g at *
    generalize w1.alloc (.cells #[.slice none 0 0, .int .i64 0] 44) = W at *
    have HR := Lib.hid (RText_any (h + 1) g s e0 W ⟨rfl, K1.2⟩ hs2)
    have HG := Lib.hid hgg
    clear K1 hh hgg
    refine HR.out.mono ?_
    rintro e w2 ⟨rfl, k2, n2⟩
    have hW2 := (n2.block h (Nat.lt_succ_self _) (Nat.ne_of_gt hg)).trans hW
    have KW : WriterAt (h + 1) h [] 0 w2 := ⟨none, 0, hW2, World.ownsRow_nil _ _ _ _, by simp [Value.ownBlock]⟩
    have b3 : Below g w w2 := b2.trans (n2.below (Nat.le_succ_of_le (Nat.le_of_lt hg)) (Nat.le_refl _))
    have HWR := Lib.hid (WText_all _ _ _ _ (textV s e0) _ KW (Nat.le_trans hs2 n2.size))
    have hs3 := Nat.le_trans hs2 n2.size
    clear HR hW hW2 KW b2 n2
    go_wp2_with fail
    refine HWR.out.mono ?_
    rintro e w3 ⟨rfl, k3, n3⟩
    have K3 : ReaderAt (h + 1) g _ _ w3 := ⟨rfl, (n3.block g (Nat.lt_succ_of_lt hg) (Nat.ne_of_lt hg)).trans k2.2⟩
    have b4 : Below g w w3 := b3.trans (n3.below (Nat.le_succ_of_le (Nat.le_of_lt hg)) (Nat.le_of_lt hg))
    have HD := Lib.hid (RDone_any _ _ _ _ _ K3)
    have hs4 : g ≤ w3.heap.size := Nat.le_trans (Nat.le_of_lt (Nat.lt_succ_of_lt hg)) (Nat.le_trans hs3 n3.size)
    clear HWR k2 b3 n3 K3
    rw [HDD.out] at HD
    go_wp2_with fail
    refine HD.out.mono ?_
    rintro e w4 ⟨rfl, b5⟩
    have b6 := below_past b4 b5 hs4
    have hs5 := Nat.le_trans hs4 b5.size
    have KT := Lib.hid (WDone_all _ _ _ _ _ (k3.below b5))
    clear HD b4 b5 k3 hs4
    rw [HF.out.1, HF.out.2] at KT
    go_wp2_with fail
    refine KT.out.mono ?_
    rintro e w5 ⟨rfl, b7⟩
    have b8 := below_past b6 b7 hs5
    have hs6 := Nat.le_trans hs5 b7.size
    clear KT b6 b7 hs5
    go_wp2_with fail
    refine (awake2 _).mono ?_
    rintro e w6 ⟨rfl, b7⟩
    have b9 := below_past b8 b7 hs6
    clear b8 b7
    go_wp2_with fail
    go_ret
    exact ⟨rfl, by rw [HG.out]; exact b9⟩
  · have hq : (D != 0) = true := by simpa using h0
    clear hD
    have HO := Lib.hid (Open_any s w)
    rw [show (if s.size ≤ 65536 then (0 : Int) else 2) = opE s from rfl] at HO
    generalize opE s = e0 at *
    go_enter Try.func8, Try.ntmps8
    go_wp2_with fail
    refine HO.out.mono ?_
    rintro e w1 ⟨rfl, k1, b1⟩
    clear HO
    go_wp2_with fail
    have a1 : Below w1.heap.size w1 (w1.alloc (.cells #[.slice none 0 0, .int .i64 0] 44)) := (Below.refl _ _).alloc (Nat.le_refl _) _
    have K1 := k1.below a1
    have hW := heap_alloc_new w1 (.cells #[.slice none 0 0, .int .i64 0] 44)
    have b2 := below_past b1 a1 b1.size
    have hs2 : w1.heap.size + 1 ≤ (w1.alloc (.cells #[.slice none 0 0, .int .i64 0] 44)).heap.size := by simp only [World.size_alloc]; omega
    have hg : w.heap.size < w1.heap.size := heap_lt k1.2
    clear k1 a1 b1
    generalize hh : w1.heap.size = h at *
    generalize hgg : w.heap.size = g at *
    generalize w1.alloc (.cells #[.slice none 0 0, .int .i64 0] 44) = W at *
    have HR := Lib.hid (RText_any (h + 1) g s e0 W ⟨rfl, K1.2⟩ hs2)
    have HG := Lib.hid hgg
    clear K1 hh hgg
    refine HR.out.mono ?_
    rintro e w2 ⟨rfl, k2, n2⟩
    have hW2 := (n2.block h (Nat.lt_succ_self _) (Nat.ne_of_gt hg)).trans hW
    have KW : WriterAt (h + 1) h [] 0 w2 := ⟨none, 0, hW2, World.ownsRow_nil _ _ _ _, by simp [Value.ownBlock]⟩
    have b3 : Below g w w2 := b2.trans (n2.below (Nat.le_succ_of_le (Nat.le_of_lt hg)) (Nat.le_refl _))
    have HWR := Lib.hid (WText_all _ _ _ _ (textV s e0) _ KW (Nat.le_trans hs2 n2.size))
    have hs3 := Nat.le_trans hs2 n2.size
    clear HR hW hW2 KW b2 n2
    go_wp2_with fail
    refine HWR.out.mono ?_
    rintro e w3 ⟨rfl, k3, n3⟩
    have K3 : ReaderAt (h + 1) g _ _ w3 := ⟨rfl, (n3.block g (Nat.lt_succ_of_lt hg) (Nat.ne_of_lt hg)).trans k2.2⟩
    have b4 : Below g w w3 := b3.trans (n3.below (Nat.le_succ_of_le (Nat.le_of_lt hg)) (Nat.le_of_lt hg))
    have HD := Lib.hid (RDone_any _ _ _ _ _ K3)
    have hs4 : g ≤ w3.heap.size := Nat.le_trans (Nat.le_of_lt (Nat.lt_succ_of_lt hg)) (Nat.le_trans hs3 n3.size)
    clear HWR k2 b3 n3 K3
    rw [HDD.out] at HD
    go_wp2_with fail
    refine HD.out.mono ?_
    rintro e w4 ⟨rfl, b5⟩
    have b6 := below_past b4 b5 hs4
    have hs5 := Nat.le_trans hs4 b5.size
    have KT := Lib.hid (WDone_all _ _ _ _ _ (k3.below b5))
    clear HD b4 b5 k3 hs4
    clear KT
    go_wp2_with fail
    refine (awake2 _).mono ?_
    rintro e w6 ⟨rfl, b7⟩
    have b9 := below_past b6 b7 hs5
    clear b6 b7
    go_wp2_with fail
    go_ret
    exact ⟨rfl, by rw [HG.out]; exact b9⟩
set_option maxRecDepth 100000 in
set_option maxHeartbeats 2000000 in
theorem one3 (s : ByteArray) (w : World) : Calls Try.prog 8 #[.string s, .int .i64 3] w fun e w' => e = .returned (.bool true) ∧ Below w.heap.size w w' := by
  obtain ⟨D, hD⟩ : ∃ D, rdone (takeR s (opE s) 32) (takeE s (opE s) 32) = D := ⟨_, rfl⟩
  have HDD := Lib.hid hD
  unfold rdone at HDD
  by_cases h0 : D = 0
  · subst h0
    have HF := Lib.hid (label_fine hD)
    clear hD
    have HO := Lib.hid (Open_any s w)
    rw [show (if s.size ≤ 65536 then (0 : Int) else 2) = opE s from rfl] at HO
    generalize opE s = e0 at *
    go_enter Try.func8, Try.ntmps8
    go_wp2_with fail
    refine HO.out.mono ?_
    rintro e w1 ⟨rfl, k1, b1⟩
    clear HO
    go_wp2_with fail
    have a1 : Below w1.heap.size w1 (w1.alloc (.cells #[.slice none 0 0, .int .i64 0] 44)) := (Below.refl _ _).alloc (Nat.le_refl _) _
    have K1 := k1.below a1
    have hW := heap_alloc_new w1 (.cells #[.slice none 0 0, .int .i64 0] 44)
    have b2 := below_past b1 a1 b1.size
    have hs2 : w1.heap.size + 1 ≤ (w1.alloc (.cells #[.slice none 0 0, .int .i64 0] 44)).heap.size := by simp only [World.size_alloc]; omega
    have hg : w.heap.size < w1.heap.size := heap_lt k1.2
    clear k1 a1 b1
    generalize hh : w1.heap.size = h at *
    generalize hgg : w.heap.size = g at *
    generalize w1.alloc (.cells #[.slice none 0 0, .int .i64 0] 44) = W at *
    have HR := Lib.hid (RLabel_any (h + 1) g s e0 W ⟨rfl, K1.2⟩ hs2)
    have HG := Lib.hid hgg
    clear K1 hh hgg
    refine HR.out.mono ?_
    rintro e w2 ⟨rfl, k2, n2⟩
    have hW2 := (n2.block h (Nat.lt_succ_self _) (Nat.ne_of_gt hg)).trans hW
    have KW : WriterAt (h + 1) h [] 0 w2 := ⟨none, 0, hW2, World.ownsRow_nil _ _ _ _, by simp [Value.ownBlock]⟩
    have b3 : Below g w w2 := b2.trans (n2.below (Nat.le_succ_of_le (Nat.le_of_lt hg)) (Nat.le_refl _))
    have HWR := Lib.hid (Label_any _ _ _ _ (labelV s e0) _ KW (Nat.le_trans hs2 n2.size))
    have hs3 := Nat.le_trans hs2 n2.size
    clear HR hW hW2 KW b2 n2
    go_wp2_with fail
    refine HWR.out.mono ?_
    rintro e w3 ⟨rfl, k3, n3⟩
    have K3 : ReaderAt (h + 1) g _ _ w3 := ⟨rfl, (n3.block g (Nat.lt_succ_of_lt hg) (Nat.ne_of_lt hg)).trans k2.2⟩
    have b4 : Below g w w3 := b3.trans (n3.below (Nat.le_succ_of_le (Nat.le_of_lt hg)) (Nat.le_of_lt hg))
    have HD := Lib.hid (RDone_any _ _ _ _ _ K3)
    have hs4 : g ≤ w3.heap.size := Nat.le_trans (Nat.le_of_lt (Nat.lt_succ_of_lt hg)) (Nat.le_trans hs3 n3.size)
    clear HWR k2 b3 n3 K3
    rw [HDD.out] at HD
    go_wp2_with fail
    refine HD.out.mono ?_
    rintro e w4 ⟨rfl, b5⟩
    have b6 := below_past b4 b5 hs4
    have hs5 := Nat.le_trans hs4 b5.size
    have KT := Lib.hid (WDone_all _ _ _ _ _ (k3.below b5))
    clear HD b4 b5 k3 hs4
    rw [HF.out.1, HF.out.2] at KT
    go_wp2_with fail
    refine KT.out.mono ?_
    rintro e w5 ⟨rfl, b7⟩
    have b8 := below_past b6 b7 hs5
    have hs6 := Nat.le_trans hs5 b7.size
    clear KT b6 b7 hs5
    go_wp2_with fail
    refine (awake2 _).mono ?_
    rintro e w6 ⟨rfl, b7⟩
    have b9 := below_past b8 b7 hs6
    clear b8 b7
    go_wp2_with fail
    go_ret
    exact ⟨rfl, by rw [HG.out]; exact b9⟩
  · have hq : (D != 0) = true := by simpa using h0
    clear hD
    have HO := Lib.hid (Open_any s w)
    rw [show (if s.size ≤ 65536 then (0 : Int) else 2) = opE s from rfl] at HO
    generalize opE s = e0 at *
    go_enter Try.func8, Try.ntmps8
    go_wp2_with fail
    refine HO.out.mono ?_
    rintro e w1 ⟨rfl, k1, b1⟩
    clear HO
    go_wp2_with fail
    have a1 : Below w1.heap.size w1 (w1.alloc (.cells #[.slice none 0 0, .int .i64 0] 44)) := (Below.refl _ _).alloc (Nat.le_refl _) _
    have K1 := k1.below a1
    have hW := heap_alloc_new w1 (.cells #[.slice none 0 0, .int .i64 0] 44)
    have b2 := below_past b1 a1 b1.size
    have hs2 : w1.heap.size + 1 ≤ (w1.alloc (.cells #[.slice none 0 0, .int .i64 0] 44)).heap.size := by simp only [World.size_alloc]; omega
    have hg : w.heap.size < w1.heap.size := heap_lt k1.2
    clear k1 a1 b1
    generalize hh : w1.heap.size = h at *
    generalize hgg : w.heap.size = g at *
    generalize w1.alloc (.cells #[.slice none 0 0, .int .i64 0] 44) = W at *
    have HR := Lib.hid (RLabel_any (h + 1) g s e0 W ⟨rfl, K1.2⟩ hs2)
    have HG := Lib.hid hgg
    clear K1 hh hgg
    refine HR.out.mono ?_
    rintro e w2 ⟨rfl, k2, n2⟩
    have hW2 := (n2.block h (Nat.lt_succ_self _) (Nat.ne_of_gt hg)).trans hW
    have KW : WriterAt (h + 1) h [] 0 w2 := ⟨none, 0, hW2, World.ownsRow_nil _ _ _ _, by simp [Value.ownBlock]⟩
    have b3 : Below g w w2 := b2.trans (n2.below (Nat.le_succ_of_le (Nat.le_of_lt hg)) (Nat.le_refl _))
    have HWR := Lib.hid (Label_any _ _ _ _ (labelV s e0) _ KW (Nat.le_trans hs2 n2.size))
    have hs3 := Nat.le_trans hs2 n2.size
    clear HR hW hW2 KW b2 n2
    go_wp2_with fail
    refine HWR.out.mono ?_
    rintro e w3 ⟨rfl, k3, n3⟩
    have K3 : ReaderAt (h + 1) g _ _ w3 := ⟨rfl, (n3.block g (Nat.lt_succ_of_lt hg) (Nat.ne_of_lt hg)).trans k2.2⟩
    have b4 : Below g w w3 := b3.trans (n3.below (Nat.le_succ_of_le (Nat.le_of_lt hg)) (Nat.le_of_lt hg))
    have HD := Lib.hid (RDone_any _ _ _ _ _ K3)
    have hs4 : g ≤ w3.heap.size := Nat.le_trans (Nat.le_of_lt (Nat.lt_succ_of_lt hg)) (Nat.le_trans hs3 n3.size)
    clear HWR k2 b3 n3 K3
    rw [HDD.out] at HD
    go_wp2_with fail
    refine HD.out.mono ?_
    rintro e w4 ⟨rfl, b5⟩
    have b6 := below_past b4 b5 hs4
    have hs5 := Nat.le_trans hs4 b5.size
    have KT := Lib.hid (WDone_all _ _ _ _ _ (k3.below b5))
    clear HD b4 b5 k3 hs4
    clear KT
    go_wp2_with fail
    refine (awake2 _).mono ?_
    rintro e w6 ⟨rfl, b7⟩
    have b9 := below_past b6 b7 hs5
    clear b6 b7
    go_wp2_with fail
    go_ret
    exact ⟨rfl, by rw [HG.out]; exact b9⟩
set_option maxRecDepth 100000 in
set_option maxHeartbeats 2000000 in
theorem one4 (s : ByteArray) (w : World) : Calls Try.prog 8 #[.string s, .int .i64 4] w fun e w' => e = .returned (.bool true) ∧ Below w.heap.size w w' := by
  obtain ⟨D, hD⟩ : ∃ D, rdone (takeR s (opE s) 1) (octE s (opE s) 1) = D := ⟨_, rfl⟩
  have HDD := Lib.hid hD
  unfold rdone at HDD
  by_cases h0 : D = 0
  · subst h0
    have HF := Lib.hid (flag_fine hD)
    clear hD
    have HO := Lib.hid (Open_any s w)
    rw [show (if s.size ≤ 65536 then (0 : Int) else 2) = opE s from rfl] at HO
    generalize opE s = e0 at *
    go_enter Try.func8, Try.ntmps8
    go_wp2_with fail
    refine HO.out.mono ?_
    rintro e w1 ⟨rfl, k1, b1⟩
    clear HO
    go_wp2_with fail
    have a1 : Below w1.heap.size w1 (w1.alloc (.cells #[.slice none 0 0, .int .i64 0] 44)) := (Below.refl _ _).alloc (Nat.le_refl _) _
    have K1 := k1.below a1
    have hW := heap_alloc_new w1 (.cells #[.slice none 0 0, .int .i64 0] 44)
    have b2 := below_past b1 a1 b1.size
    have hs2 : w1.heap.size + 1 ≤ (w1.alloc (.cells #[.slice none 0 0, .int .i64 0] 44)).heap.size := by simp only [World.size_alloc]; omega
    have hg : w.heap.size < w1.heap.size := heap_lt k1.2
    clear k1 a1 b1
    generalize hh : w1.heap.size = h at *
    generalize hgg : w.heap.size = g at *
    generalize w1.alloc (.cells #[.slice none 0 0, .int .i64 0] 44) = W at *
    have HR := Lib.hid (RFlag_any (h + 1) g s e0 W ⟨rfl, K1.2⟩ )
    have HG := Lib.hid hgg
    clear K1 hh hgg
    refine HR.out.mono ?_
    rintro e w2 ⟨rfl, k2, n2⟩
    have hW2 := (n2.block h (Nat.lt_succ_self _) (Nat.ne_of_gt hg)).trans hW
    have KW : WriterAt (h + 1) h [] 0 w2 := ⟨none, 0, hW2, World.ownsRow_nil _ _ _ _, by simp [Value.ownBlock]⟩
    have b3 : Below g w w2 := b2.trans (n2.below (Nat.le_succ_of_le (Nat.le_of_lt hg)) (Nat.le_refl _))
    have HWR := Lib.hid (Flag_any _ _ _ _ (flagV s e0) _ KW (Nat.le_trans hs2 n2.size))
    have hs3 := Nat.le_trans hs2 n2.size
    clear HR hW hW2 KW b2 n2
    go_wp2_with fail
    refine HWR.out.mono ?_
    rintro e w3 ⟨rfl, k3, n3⟩
    have K3 : ReaderAt (h + 1) g _ _ w3 := ⟨rfl, (n3.block g (Nat.lt_succ_of_lt hg) (Nat.ne_of_lt hg)).trans k2.2⟩
    have b4 : Below g w w3 := b3.trans (n3.below (Nat.le_succ_of_le (Nat.le_of_lt hg)) (Nat.le_of_lt hg))
    have HD := Lib.hid (RDone_any _ _ _ _ _ K3)
    have hs4 : g ≤ w3.heap.size := Nat.le_trans (Nat.le_of_lt (Nat.lt_succ_of_lt hg)) (Nat.le_trans hs3 n3.size)
    clear HWR k2 b3 n3 K3
    rw [HDD.out] at HD
    go_wp2_with fail
    refine HD.out.mono ?_
    rintro e w4 ⟨rfl, b5⟩
    have b6 := below_past b4 b5 hs4
    have hs5 := Nat.le_trans hs4 b5.size
    have KT := Lib.hid (WDone_all _ _ _ _ _ (k3.below b5))
    clear HD b4 b5 k3 hs4
    rw [HF.out.1, HF.out.2] at KT
    go_wp2_with fail
    refine KT.out.mono ?_
    rintro e w5 ⟨rfl, b7⟩
    have b8 := below_past b6 b7 hs5
    have hs6 := Nat.le_trans hs5 b7.size
    clear KT b6 b7 hs5
    go_wp2_with fail
    refine (awake2 _).mono ?_
    rintro e w6 ⟨rfl, b7⟩
    have b9 := below_past b8 b7 hs6
    clear b8 b7
    go_wp2_with fail
    go_ret
    exact ⟨rfl, by rw [HG.out]; exact b9⟩
  · have hq : (D != 0) = true := by simpa using h0
    clear hD
    have HO := Lib.hid (Open_any s w)
    rw [show (if s.size ≤ 65536 then (0 : Int) else 2) = opE s from rfl] at HO
    generalize opE s = e0 at *
    go_enter Try.func8, Try.ntmps8
    go_wp2_with fail
    refine HO.out.mono ?_
    rintro e w1 ⟨rfl, k1, b1⟩
    clear HO
    go_wp2_with fail
    have a1 : Below w1.heap.size w1 (w1.alloc (.cells #[.slice none 0 0, .int .i64 0] 44)) := (Below.refl _ _).alloc (Nat.le_refl _) _
    have K1 := k1.below a1
    have hW := heap_alloc_new w1 (.cells #[.slice none 0 0, .int .i64 0] 44)
    have b2 := below_past b1 a1 b1.size
    have hs2 : w1.heap.size + 1 ≤ (w1.alloc (.cells #[.slice none 0 0, .int .i64 0] 44)).heap.size := by simp only [World.size_alloc]; omega
    have hg : w.heap.size < w1.heap.size := heap_lt k1.2
    clear k1 a1 b1
    generalize hh : w1.heap.size = h at *
    generalize hgg : w.heap.size = g at *
    generalize w1.alloc (.cells #[.slice none 0 0, .int .i64 0] 44) = W at *
    have HR := Lib.hid (RFlag_any (h + 1) g s e0 W ⟨rfl, K1.2⟩ )
    have HG := Lib.hid hgg
    clear K1 hh hgg
    refine HR.out.mono ?_
    rintro e w2 ⟨rfl, k2, n2⟩
    have hW2 := (n2.block h (Nat.lt_succ_self _) (Nat.ne_of_gt hg)).trans hW
    have KW : WriterAt (h + 1) h [] 0 w2 := ⟨none, 0, hW2, World.ownsRow_nil _ _ _ _, by simp [Value.ownBlock]⟩
    have b3 : Below g w w2 := b2.trans (n2.below (Nat.le_succ_of_le (Nat.le_of_lt hg)) (Nat.le_refl _))
    have HWR := Lib.hid (Flag_any _ _ _ _ (flagV s e0) _ KW (Nat.le_trans hs2 n2.size))
    have hs3 := Nat.le_trans hs2 n2.size
    clear HR hW hW2 KW b2 n2
    go_wp2_with fail
    refine HWR.out.mono ?_
    rintro e w3 ⟨rfl, k3, n3⟩
    have K3 : ReaderAt (h + 1) g _ _ w3 := ⟨rfl, (n3.block g (Nat.lt_succ_of_lt hg) (Nat.ne_of_lt hg)).trans k2.2⟩
    have b4 : Below g w w3 := b3.trans (n3.below (Nat.le_succ_of_le (Nat.le_of_lt hg)) (Nat.le_of_lt hg))
    have HD := Lib.hid (RDone_any _ _ _ _ _ K3)
    have hs4 : g ≤ w3.heap.size := Nat.le_trans (Nat.le_of_lt (Nat.lt_succ_of_lt hg)) (Nat.le_trans hs3 n3.size)
    clear HWR k2 b3 n3 K3
    rw [HDD.out] at HD
    go_wp2_with fail
    refine HD.out.mono ?_
    rintro e w4 ⟨rfl, b5⟩
    have b6 := below_past b4 b5 hs4
    have hs5 := Nat.le_trans hs4 b5.size
    have KT := Lib.hid (WDone_all _ _ _ _ _ (k3.below b5))
    clear HD b4 b5 k3 hs4
    clear KT
    go_wp2_with fail
    refine (awake2 _).mono ?_
    rintro e w6 ⟨rfl, b7⟩
    have b9 := below_past b6 b7 hs5
    clear b6 b7
    go_wp2_with fail
    go_ret
    exact ⟨rfl, by rw [HG.out]; exact b9⟩
set_option maxRecDepth 100000 in
theorem other (s : ByteArray) (k : Int) (w : World) (h1 : (k == 1) = false) (h2 : (k == 2) = false) (h3 : (k == 3) = false) (h4 : (k == 4) = false) : Calls Try.prog 8 #[.string s, .int .i64 k] w fun e w' => e = .returned (.bool true) ∧ Below w.heap.size w w' := by
  have HO := Lib.hid (Open_any s w)
  rw [show (if s.size ≤ 65536 then (0 : Int) else 2) = opE s from rfl] at HO
  generalize opE s = e0 at *
  go_enter Try.func8, Try.ntmps8
  go_wp2_with fail
  refine HO.out.mono ?_
  rintro e w1 ⟨rfl, k1, b1⟩
  clear HO
  go_wp2_with fail
  have a1 : Below w1.heap.size w1 (w1.alloc (.cells #[.slice none 0 0, .int .i64 0] 44)) := (Below.refl _ _).alloc (Nat.le_refl _) _
  have K1 := Lib.hid (k1.below a1)
  have b2 := below_past b1 a1 b1.size
  clear k1 a1 b1
  generalize w1.alloc (.cells #[.slice none 0 0, .int .i64 0] 44) = W at *
  have hs := b2.size
  refine (awake2 _).mono ?_
  rintro e w6 ⟨rfl, b7⟩
  have HL := Lib.hid (Left_any _ _ _ _ _ (K1.out.below b7))
  have b9 := below_past b2 b7 hs
  clear b2 b7 K1
  go_wp2_with fail
  refine HL.out.mono ?_
  rintro e w7 ⟨rfl, b7⟩
  have b10 := below_past b9 b7 b9.size
  clear HL b9 b7
  go_wp2_with fail
  go_ret
  exact ⟨rfl, b10⟩
theorem walk (s : ByteArray) (k : Int) (w : World) : Calls Try.prog 8 #[.string s, .int .i64 k] w fun e w' => e = .returned (.bool true) ∧ Below w.heap.size w w' := by
  by_cases h1 : k = 1
  · subst h1; exact one1 s w
  · by_cases h2 : k = 2
    · subst h2; exact one2 s w
    · by_cases h3 : k = 3
      · subst h3; exact one3 s w
      · by_cases h4 : k = 4
        · subst h4; exact one4 s w
        · exact other s k w (by simpa using h1) (by simpa using h2) (by simpa using h3) (by simpa using h4)

set_option maxRecDepth 100000 in
theorem lifted (os : Os) (started : os.Started) (H : Type) (enc : TypeId × Value → H) :
    ReturnsInHanded {} Try.checked os 8 .any (Rows.codeOneSpec.pre6 enc Try.prog Try.f8 Rows.codeOneRow.domain false) (Rows.codeOneSpec.post enc Try.prog Try.f8 false true false false) := by
  refine returnsInHanded_of_change (C := Try.checked) own started (by kernel_rfl) Try.func8
    (ChangeSpec.witness6 (enc := enc) (C := Try.checked) false ⟨#[], #[.string ⟨#[]⟩, .int .i64 0], []⟩ 8 (by kernel_rfl) (by kernel_rfl) (by kernel_rfl) (by kernel_rfl)) ?_
  intro W base args ds gs before hval0 hW _ _
  have hval : ∀ (j : Nat) t v, Try.f8.params[j]? = some t → args[j]? = some v → Value.okWide Try.prog W .any base t v := hval0
  clear hval0
  have hW' := hW
  obtain ⟨p, q, hA0, hV, rfl, hfz, hnd⟩ := hW
  have hA : DataW.TrodAll enc Try.prog W 0 (fun _ => true) true Try.f8.params.toList args.toList ds p := hA0
  rw [Try.params8] at hA hval
  clear hA0 hfz hnd hV
  have hr : Readable Try.f8.params.toList := by
    rw [Try.params8]
    exact readable_of_all (by kernel_rfl)
  have fin : ∀ W', Below W.heap.size W W' → Rows.codeOneSpec.post enc Try.prog Try.f8 false true false false W args (.bool true) W' := fun W' hb =>
    law_post rfl hW' hr (fun l hl => by
      rw [Try.params8] at hl
      match l, hl with
      | [d1, d2], _ => rfl) (by kernel_rfl) hb
  clear hW' hr
  obtain ⟨v0, v1, d0, d1, p0, p1, rfl, rfl, rfl, h0, h1⟩ := trodAll_two hA; obtain ⟨s, rfl, _, _, w0⟩ := open_string Try.underlying9 (hval 0 9 v0 rfl rfl) h0; obtain ⟨k, rfl, _, _, w1⟩ := open_int Try.underlying3 (hval 1 3 v1 rfl rfl) h1
  exact (walk s k W).mono fun e W' ⟨he, hb⟩ => ⟨_, he, fin W' hb⟩
theorem proved : Rows.CodeOneSaid :=
  OpenClaim.holds_of_wide 8 Try.f8 rfl rfl rfl rfl rfl rfl rfl ⟨rfl, rfl, rfl, rfl, rfl⟩ rfl rfl rfl rfl rfl (by kernel_rfl) Try.func8 (by kernel_rfl)
    (of_decide_eq_true (by kernel_rfl)) (by unfold Func.isWrapper; first | (rw [if_pos (by decide +kernel)]; kernel_rfl) | (rw [if_neg (by decide +kernel)]; exact ⟨rfl, rfl⟩))
    (fun os started H enc _ => lifted os started H enc)
end Go.Proofs.Ytojmpbbagfgleaa.one
