/- For every list of texts and every number the law BloomHas returns true. Conditions: none. -/
import Derived.Test.YthcaolinajfjpaaBloom8
import Derived.Test.YthcaolinajfjpaaRow
import Derived.ChangeMaps5
namespace Go.Proofs.Ythcaolinajfjpaa.has
open Go Go.ChangeShapes Go.WideShapes Go.ChangeAt Go.ChangeMaps Go.RowKit Go.Proofs.Ythcaolinajfjpaa
attribute [local go_sem] Oper.semAt_some

theorem strs_in {w : World} {v : Value} {K : List (List UInt8)} (h : StrsAt w v K) : InStrs w v K.length (fun i => stx (K.getD i [])) := by
  obtain ⟨ao, cap, rfl, h2⟩ := h
  refine ⟨ao, cap, rfl, fun i hi => ?_⟩
  obtain ⟨g, rfl, h3⟩ := h2 i hi
  refine ⟨_, rfl, ?_⟩
  rw [show (⟨g, 0, none⟩ : Addr).add i = ⟨g, i, none⟩ by simp [Addr.add]; exact fun e => e.symm]
  exact h3
theorem keys_of (K : List (List UInt8)) : keysL (fun i => stx (K.getD i [])) K.length = K := by
  unfold keysL
  apply List.ext_getElem
  · simp
  · intro i h1 h2
    simp [h2]
theorem txt_stx (l : List UInt8) : txt l = stx l := rfl
/-- What is written is read. -/
theorem read_back (p : Nat) (bs : List UInt8) (hg : goodB p bs.length = true) : readE (txt (encB p bs)) = 0 ∧ readP (txt (encB p bs)) = p ∧ readT (txt (encB p bs)) = txt bs := by
  have hgd := of_decide_eq_true hg
  have hL := enc_len p bs (by omega) (by omega)
  have e0 : rE0 (txt (encB p bs)) = 0 := by
    unfold rE0
    rw [if_pos (by simp [ByteArray.size]; omega)]
  obtain ⟨n1, n2, n3⟩ := num_read p (numBytes bs.length ++ bs) (by omega)
  obtain ⟨t1, t2, t3⟩ := text_read bs [] (by omega)
  rw [List.append_nil] at t1 t2 t3
  have m1 : numV (txt (encB p bs)) 0 = p := n1
  have m2 : numS (txt (encB p bs)) 0 = txt (numBytes bs.length ++ bs) := n2
  have m3 : numE (txt (encB p bs)) 0 = 0 := n3
  have hp : readP (txt (encB p bs)) = p := by rw [readP, e0, m1]
  have ht : readT (txt (encB p bs)) = txt bs := by rw [readT, e0, m2, m3, t1]
  have hd : readD (txt (encB p bs)) = 0 := by
    rw [readD, e0, m2, m3, t2, t3]
    rfl
  refine ⟨?_, hp, ht⟩
  rw [readE, if_pos hd, hp, ht, show (txt bs).size = bs.length by simp [ByteArray.size], hg]
  rfl

set_option maxRecDepth 100000 in
theorem walk_bad (v : Value) (len : Nat) (S : Nat → ByteArray) (each : Int) (w : World) (h1 : InStrs w v len S) (he : each < 1 ∨ 32 < each) :
    Calls Try.prog 12 #[v, .int .i64 each] w fun e w' => e = .returned (.bool true) ∧ Below w.heap.size w w' := by
  have HF := Lib.hid (few8_any v len S 300 w h1 (by decide))
  rw [show ((300 : Nat) : Int) = 300 from rfl] at HF
  have HM : ∀ v w, Hid (Calls Try.prog 52 #[v, .int .i64 each] w fun e w' => e = .returned (.tuple #[.agg #[.int .i64 0, .slice none 0 0], .int .i64 1]) ∧ Below w.heap.size w w') := fun v w => Lib.hid (make_err v each w he)
  have HA : ∀ w, Hid (Calls Try.prog 53 #[] w fun e w' => e = .returned (.bool true) ∧ Below w.heap.size w w') := fun w => Lib.hid (awake8 w)
  have HE := Lib.hid he
  clear h1 he
  go_enter Try.func12, Try.ntmps12
  go_wp2_with fail
  refine HF.out.mono ?_
  rintro e w1 ⟨v1, rfl, ow, b1⟩
  clear HF ow
  go_wp2_with fail
  refine (HM _ _).out.mono ?_
  rintro e w2 ⟨rfl, b2⟩
  have a2 := below_past b1 b2 b1.size
  clear HM b1 b2
  have a3 := a2.alloc a2.size (.cells #[.int .i64 0, .slice none 0 0] 84)
  go_wp2_with fail
  generalize w2.alloc (.cells #[.int .i64 0, .slice none 0 0] 84) = W3 at *
  refine (HA _).out.mono ?_
  rintro e w4 ⟨rfl, b4⟩
  have a4 := below_past a3 b4 a3.size
  clear HA a2 a3 b4
  by_cases hq : each < 1
  · have q1 : decide (each < 1) = true := decide_eq_true hq
    go_wp2_with fail
    go_ret
    exact ⟨rfl, a4⟩
  · have q1 : decide (each < 1) = false := decide_eq_false hq
    have q2 : decide (32 < each) = true := decide_eq_true (by have := HE.out; omega)
    go_wp2_with fail
    go_ret
    exact ⟨rfl, a4⟩
set_option maxRecDepth 100000 in
set_option maxHeartbeats 4000000 in
theorem walk_good (v : Value) (len : Nat) (S : Nat → ByteArray) (each : Nat) (w : World) (h1 : InStrs w v len S) (he : 1 ≤ each ∧ each ≤ 32) (hgood : goodB (probesK each) (sizeK (min len 300) each) = true) :
    Calls Try.prog 12 #[v, .int .i64 each] w fun e w' => e = .returned (.bool true) ∧ Below w.heap.size w w' := by
  obtain ⟨K, hK, hl1, hl2, ow⟩ : ∃ K : List (List UInt8), K = cutsL S 100 (min len 300) ∧ K.length ≤ 300 ∧ (∀ t ∈ K, t.length ≤ 100) ∧ True := ⟨_, rfl, by rw [cutsL_length]; omega, cutsL_short _ _ _, trivial⟩
  have HF := Lib.hid (few8_any v len S 300 w h1 (by decide))
  rw [show ((300 : Nat) : Int) = 300 from rfl, ← hK] at HF
  obtain ⟨p, hp⟩ : ∃ p, probesK each = p := ⟨_, rfl⟩
  obtain ⟨n, hn⟩ : ∃ n, sizeK K.length each = n := ⟨_, rfl⟩
  have hn1 : 0 < n := by rw [← hn]; exact sizeK_pos _ _
  have hn2 : n ≤ 8193 := by rw [← hn]; exact sizeK_le _ _ (by omega) he.2
  obtain ⟨bs, hbs⟩ : ∃ bs, makeK p n K = bs := ⟨_, rfl⟩
  have hbl : bs.length = n := by rw [← hbs, makeK_length]
  have HM : ∀ v w, StrsAt w v K → Hid (Calls Try.prog 52 #[v, .int .i64 each] w fun e w' => ∃ g cap, e = .returned (.tuple #[.agg #[.int .i64 p, .slice (some ⟨g, 0, none⟩) n cap], .int .i64 0]) ∧ BytesIn w' (some ⟨g, 0, none⟩) bs ∧ w.heap.size ≤ g ∧ Below w.heap.size w w') := fun v w h => Lib.hid (by
    have := make_full v K.length _ each w (strs_in h) (fun i hi => by
      have := hl2 _ (List.getElem_mem hi)
      simp [ByteArray.size, hi]
      omega) he (by omega) K (keys_of K) p n hp hn
    rwa [hbs] at this)
  obtain ⟨S', hS'⟩ : ∃ S' : Nat → ByteArray, (fun i => stx (K.getD i [])) = S' := ⟨_, rfl⟩
  obtain ⟨m, hm⟩ : ∃ m, K.length = m := ⟨_, rfl⟩
  have HIN : ∀ w v, StrsAt w v K → InStrs w v m S' := fun w v h => by
    rw [← hm, ← hS']
    exact strs_in h
  have HSL : ∀ w v, StrsAt w v K → ∃ ao c, v = .slice ao m c := fun w v ⟨ao, c, h, _⟩ => ⟨ao, c, by rw [← hm]; exact h⟩
  have hml : (m : Int) ≤ 300 := by omega
  have HMAY : ∀ ao cap w i, i < m → BytesIn w ao bs → Hid (Calls Try.prog 58 #[.agg #[.int .i64 p, .slice ao n cap], .string (S' i)] w fun e w' => e = .returned (.bool true) ∧ Below w.heap.size w w') := fun ao cap w i hi hB => Lib.hid (by
    rw [← hm] at hi
    rw [← hS']
    have hg : K.getD i [] = K[i] := by simp [hi]
    have := may_any p ao cap bs (stx (K.getD i [])) w (by
      have := hl2 _ (List.getElem_mem hi)
      rw [hg]
      simp [ByteArray.size]
      omega) hB
    rw [hbl] at this
    have h7 := mayF_has p n K (K.getD i []) (by rw [hg]; exact List.getElem_mem hi) hn1 (by omega)
    rw [hbs] at h7
    rwa [show mayF p bs (hashL (stx (K.getD i [])).data.toList) = true from h7] at this)
  have HA : ∀ w, Hid (Calls Try.prog 53 #[] w fun e w' => e = .returned (.bool true) ∧ Below w.heap.size w w') := fun w => Lib.hid (awake8 w)
  have hgd : goodB p bs.length = true := by rw [hbl, ← hn, ← hp, hK, cutsL_length]; exact hgood
  have HBY : ∀ ao cap w, BytesIn w ao bs → Hid (Calls Try.prog 63 #[.agg #[.int .i64 p, .slice ao n cap]] w fun e w' => e = .returned (.tuple #[.string (txt (encB p bs)), .int .i64 0]) ∧ Below w.heap.size w w') := fun ao cap w hB => Lib.hid (by
    have := bytes_good p ao cap bs w hB hgd
    rwa [hbl] at this)
  obtain ⟨r1, r2, r3⟩ := read_back p bs hgd
  have HRD : ∀ w, Hid (Calls Try.prog 62 #[.string (txt (encB p bs))] w fun e w' => ∃ g cap, e = .returned (.tuple #[.agg #[.int .i64 p, .slice (some ⟨g, 0, none⟩) n cap], .int .i64 0]) ∧ BytesIn w' (some ⟨g, 0, none⟩) bs ∧ w.heap.size ≤ g ∧ Below w.heap.size w w') := fun w => Lib.hid (by
    refine (read_any (txt (encB p bs)) w).mono ?_
    rintro e w' ⟨hb, ⟨h, _⟩ | ⟨_, g, cap, he, hB, hg⟩⟩
    · exact absurd r1 h
    · rw [r2, r3, show (txt bs).size = n by rw [← hbl]; simp [ByteArray.size]] at he
      rw [r3] at hB
      exact ⟨g, cap, he, hB, hg, hb⟩)
  generalize txt (encB p bs) = TX at *
  clear h1 he hgood hK hl1 hl2 hp hn hn1 hn2 hbs hgd r1 r2 r3 ow hbl hm hS'
  go_enter Try.func12, Try.ntmps12
  go_wp2_with fail
  refine HF.out.mono ?_
  rintro e w1 ⟨v1, rfl, ow, b1⟩
  have s1 := ow.lie
  obtain ⟨ao1, c1, rfl⟩ := HSL _ _ s1
  clear HF ow
  go_wp2_with fail
  refine (HM _ _ s1).out.mono ?_
  rintro e w2 ⟨g, cap, rfl, hB2, hg, b2⟩
  have s2 := s1.below b2
  have a2 := below_past b1 b2 b1.size
  clear HM b1 b2 s1
  go_wp2_with fail
  have x3 := World.alloc_heap_new w2 (.cells #[.int .i64 p, .slice (some ⟨g, 0, none⟩) n cap] 84)
  have b3 := (Below.refl w2.heap.size w2).alloc (Nat.le_refl _) (.cells #[.int .i64 p, .slice (some ⟨g, 0, none⟩) n cap] 84)
  generalize w2.alloc (.cells #[.int .i64 p, .slice (some ⟨g, 0, none⟩) n cap] 84) = W3 at *
  refine (HBY _ _ _ (hB2.below b3)).out.mono ?_
  rintro e w4 ⟨rfl, b4⟩
  have x4 := (b4.block _ (heap_lt x3)).trans x3
  have b24 := below_past b3 b4 b3.size
  have hf := heap_lt x3
  clear HBY x3 b3 b4
  go_wp2_with fail
  refine (HRD _).out.mono ?_
  rintro e w5 ⟨g2, cap2, rfl, hC5, hg2, b5⟩
  have x5 := (b5.block _ (heap_lt x4)).trans x4
  have b25 := below_past b24 b5 b24.size
  have hf5 := heap_lt x5
  clear HRD x4 b24 b5
  have x6 := (Below.heap_alloc w5 (.cells #[.int .i64 p, .slice (some ⟨g2, 0, none⟩) n cap2] 84) _ hf5).trans x5
  have y6 := World.alloc_heap_new w5 (.cells #[.int .i64 p, .slice (some ⟨g2, 0, none⟩) n cap2] 84)
  have b56 := (Below.refl w5.heap.size w5).alloc (Nat.le_refl _) (.cells #[.int .i64 p, .slice (some ⟨g2, 0, none⟩) n cap2] 84)
  have b26 := below_past b25 b56 b25.size
  have a6 := below_past a2 b26 a2.size
  have HS6 := Lib.hid (HIN _ _ (s2.below b26))
  have HB6 := Lib.hid (hB2.below b26)
  have HC6 := Lib.hid (hC5.below b56)
  go_wp2_with fail
  generalize w5.alloc (.cells #[.int .i64 p, .slice (some ⟨g2, 0, none⟩) n cap2] 84) = W6 at *
  clear s2 hB2 a2 b25 b56 b26 hC5 x5 HIN HSL
  generalize w2.heap.size = fb at *
  generalize w5.heap.size = hb at *
  go_loopw [58] (fun x wr => ∃ i : Nat, i ≤ m ∧ x = .int .i64 i ∧ Below W6.heap.size W6 wr) (fun x _ => (m - intOf x).toNat)
  case atStart => exact ⟨0, Nat.zero_le _, rfl, Below.refl _ _⟩
  case round =>
    obtain ⟨i, hi, rfl, b⟩ := hrel
    have x7 := (b.block _ (heap_lt x6)).trans x6
    have y7 := (b.block _ (heap_lt y6)).trans y6
    by_cases hlt : i < m
    · as_aux_lemma =>
      have hlt' : decide (i < m) = true := decide_eq_true hlt
      have hli' : (i : Int) < m := by omega
      obtain ⟨ao', c', hv, hS⟩ := HS6.out
      obtain ⟨ad, hao, hc⟩ := hS i hlt
      obtain ⟨rfl, rfl⟩ : ao1 = ao' ∧ c1 = c' := by simpa using hv
      subst hao
      have c0 := (b.cell (p := ad.add i) (cellLt hc)).trans hc
      have c1 : wr.cell? ⟨fb, 0, none⟩ = some (.int .i64 p) := (Lib.cell_of_heap x7 0).trans rfl
      have c2 : wr.cell? ⟨fb, 1, none⟩ = some (.slice (some ⟨g, 0, none⟩) n cap) := (Lib.cell_of_heap x7 1).trans rfl
      clear hS hc hv
      go_wp2_with fail
      refine (HMAY _ _ _ i hlt (HB6.out.below b)).out.mono ?_
      rintro e w8 ⟨rfl, b8⟩
      have y8 := (b8.block _ (heap_lt y7)).trans y7
      have bb := below_past b b8 b.size
      have d1 : w8.cell? ⟨hb, 0, none⟩ = some (.int .i64 p) := (Lib.cell_of_heap y8 0).trans rfl
      have d2 : w8.cell? ⟨hb, 1, none⟩ = some (.slice (some ⟨g2, 0, none⟩) n cap2) := (Lib.cell_of_heap y8 1).trans rfl
      clear c0 c1 c2 b b8
      go_wp2_with fail
      refine (HMAY _ _ _ i hlt (HC6.out.below bb)).out.mono ?_
      rintro e w9 ⟨rfl, b9⟩
      have b0 := below_past bb b9 bb.size
      clear d1 d2 bb b9 x7 y7 y8
      go_wp2_with fail
      exact ⟨⟨i + 1, hlt, by go_num, b0⟩, by simp [intOf]; omega⟩
    · have hlt' : decide (i < m) = false := decide_eq_false hlt
      have hlt2 : ¬ (i : Int) < m := by omega
      have b0 := below_past a6 b a6.size
      clear x7 y7 b
      go_wp2_with fail
      refine (HA _).out.mono ?_
      rintro e w8 ⟨rfl, b8⟩
      have b9 := below_past b0 b8 b0.size
      clear b0 b8
      go_wp2_with fail
      go_ret
      exact ⟨rfl, b9⟩
set_option maxRecDepth 100000 in
set_option maxHeartbeats 4000000 in
theorem walk_not (v : Value) (len : Nat) (S : Nat → ByteArray) (each : Nat) (w : World) (h1 : InStrs w v len S) (he : 1 ≤ each ∧ each ≤ 32) (hgood : goodB (probesK each) (sizeK (min len 300) each) = false) :
    Calls Try.prog 12 #[v, .int .i64 each] w fun e w' => e = .returned (.bool true) ∧ Below w.heap.size w w' := by
  obtain ⟨K, hK, hl1, hl2, ow⟩ : ∃ K : List (List UInt8), K = cutsL S 100 (min len 300) ∧ K.length ≤ 300 ∧ (∀ t ∈ K, t.length ≤ 100) ∧ True := ⟨_, rfl, by rw [cutsL_length]; omega, cutsL_short _ _ _, trivial⟩
  have HF := Lib.hid (few8_any v len S 300 w h1 (by decide))
  rw [show ((300 : Nat) : Int) = 300 from rfl, ← hK] at HF
  obtain ⟨p, hp⟩ : ∃ p, probesK each = p := ⟨_, rfl⟩
  obtain ⟨n, hn⟩ : ∃ n, sizeK K.length each = n := ⟨_, rfl⟩
  have hn1 : 0 < n := by rw [← hn]; exact sizeK_pos _ _
  have hn2 : n ≤ 8193 := by rw [← hn]; exact sizeK_le _ _ (by omega) he.2
  obtain ⟨bs, hbs⟩ : ∃ bs, makeK p n K = bs := ⟨_, rfl⟩
  have hbl : bs.length = n := by rw [← hbs, makeK_length]
  have HM : ∀ v w, StrsAt w v K → Hid (Calls Try.prog 52 #[v, .int .i64 each] w fun e w' => ∃ g cap, e = .returned (.tuple #[.agg #[.int .i64 p, .slice (some ⟨g, 0, none⟩) n cap], .int .i64 0]) ∧ BytesIn w' (some ⟨g, 0, none⟩) bs ∧ w.heap.size ≤ g ∧ Below w.heap.size w w') := fun v w h => Lib.hid (by
    have := make_full v K.length _ each w (strs_in h) (fun i hi => by
      have := hl2 _ (List.getElem_mem hi)
      simp [ByteArray.size, hi]
      omega) he (by omega) K (keys_of K) p n hp hn
    rwa [hbs] at this)
  obtain ⟨S', hS'⟩ : ∃ S' : Nat → ByteArray, (fun i => stx (K.getD i [])) = S' := ⟨_, rfl⟩
  obtain ⟨m, hm⟩ : ∃ m, K.length = m := ⟨_, rfl⟩
  have HIN : ∀ w v, StrsAt w v K → InStrs w v m S' := fun w v h => by
    rw [← hm, ← hS']
    exact strs_in h
  have HSL : ∀ w v, StrsAt w v K → ∃ ao c, v = .slice ao m c := fun w v ⟨ao, c, h, _⟩ => ⟨ao, c, by rw [← hm]; exact h⟩
  have hml : (m : Int) ≤ 300 := by omega
  have HMAY : ∀ ao cap w i, i < m → BytesIn w ao bs → Hid (Calls Try.prog 58 #[.agg #[.int .i64 p, .slice ao n cap], .string (S' i)] w fun e w' => e = .returned (.bool true) ∧ Below w.heap.size w w') := fun ao cap w i hi hB => Lib.hid (by
    rw [← hm] at hi
    rw [← hS']
    have hg : K.getD i [] = K[i] := by simp [hi]
    have := may_any p ao cap bs (stx (K.getD i [])) w (by
      have := hl2 _ (List.getElem_mem hi)
      rw [hg]
      simp [ByteArray.size]
      omega) hB
    rw [hbl] at this
    have h7 := mayF_has p n K (K.getD i []) (by rw [hg]; exact List.getElem_mem hi) hn1 (by omega)
    rw [hbs] at h7
    rwa [show mayF p bs (hashL (stx (K.getD i [])).data.toList) = true from h7] at this)
  have HA : ∀ w, Hid (Calls Try.prog 53 #[] w fun e w' => e = .returned (.bool true) ∧ Below w.heap.size w w') := fun w => Lib.hid (awake8 w)
  have hgd : goodB p n = false := by rw [← hn, ← hp, hK, cutsL_length]; exact hgood
  have h24 : 23 < each := by
    rcases Nat.lt_or_ge 23 each with h | h
    · exact h
    · have hh := of_decide_eq_false hgd
      refine absurd ⟨?_, ?_, ?_, ?_⟩ hh
      · rw [← hp, probesK]; omega
      · rw [← hp, probesK]; omega
      · omega
      · have h300 : K.length * each ≤ 300 * 23 := Nat.mul_le_mul hl1 h
        rw [← hn, sizeK]; omega
  have q23 : decide ((each : Int) ≤ 23) = false := decide_eq_false (by omega)
  have HBY : ∀ ao cap w, Hid (Calls Try.prog 63 #[.agg #[.int .i64 p, .slice ao n cap]] w fun e w' => e = .returned (.tuple #[.string ⟨#[]⟩, .int .i64 3]) ∧ Below w.heap.size w w') := fun ao cap w => Lib.hid (bytes_bad p ao n cap w hgd)
  obtain ⟨E, hE⟩ : ∃ E, readE ⟨#[]⟩ = E := ⟨_, rfl⟩
  have HRD : ∀ w, Hid (Calls Try.prog 62 #[.string ⟨#[]⟩] w fun e w' => e = .returned (.tuple #[.agg #[.int .i64 0, .slice none 0 0], .int .i64 E]) ∧ Below w.heap.size w w') := fun w => Lib.hid (by
    refine (read_any ⟨#[]⟩ w).mono ?_
    rintro e w' ⟨hb, ⟨_, he⟩ | ⟨h, _⟩⟩
    · rw [hE] at he
      exact ⟨he, hb⟩
    · exact absurd h (by decide +kernel))
  clear h1 he hgood hK hl1 hl2 hp hn hn1 hn2 hbs hgd ow hbl h24 hE hm hS'
  go_enter Try.func12, Try.ntmps12
  go_wp2_with fail
  refine HF.out.mono ?_
  rintro e w1 ⟨v1, rfl, ow, b1⟩
  have s1 := ow.lie
  obtain ⟨ao1, c1, rfl⟩ := HSL _ _ s1
  clear HF ow
  go_wp2_with fail
  refine (HM _ _ s1).out.mono ?_
  rintro e w2 ⟨g, cap, rfl, hB2, hg, b2⟩
  have s2 := s1.below b2
  have a2 := below_past b1 b2 b1.size
  clear HM b1 b2 s1
  go_wp2_with fail
  have x3 := World.alloc_heap_new w2 (.cells #[.int .i64 p, .slice (some ⟨g, 0, none⟩) n cap] 84)
  have b3 := (Below.refl w2.heap.size w2).alloc (Nat.le_refl _) (.cells #[.int .i64 p, .slice (some ⟨g, 0, none⟩) n cap] 84)
  generalize w2.alloc (.cells #[.int .i64 p, .slice (some ⟨g, 0, none⟩) n cap] 84) = W3 at *
  refine (HBY _ _ _).out.mono ?_
  rintro e w4 ⟨rfl, b4⟩
  have x4 := (b4.block _ (heap_lt x3)).trans x3
  have b24 := below_past b3 b4 b3.size
  have hf := heap_lt x3
  clear HBY x3 b3 b4
  go_wp2_with fail
  refine (HRD _).out.mono ?_
  rintro e w5 ⟨rfl, b5⟩
  have x5 := (b5.block _ (heap_lt x4)).trans x4
  have b25 := below_past b24 b5 b24.size
  have hf5 := heap_lt x5
  clear HRD x4 b24 b5
  have x6 := (Below.heap_alloc w5 (.cells #[.int .i64 0, .slice none 0 0] 84) _ hf5).trans x5
  have y6 := World.alloc_heap_new w5 (.cells #[.int .i64 0, .slice none 0 0] 84)
  have b56 := (Below.refl w5.heap.size w5).alloc (Nat.le_refl _) (.cells #[.int .i64 0, .slice none 0 0] 84)
  have b26 := below_past b25 b56 b25.size
  have a6 := below_past a2 b26 a2.size
  have HS6 := Lib.hid (HIN _ _ (s2.below b26))
  have HB6 := Lib.hid (hB2.below b26)
  go_wp2_with fail
  generalize w5.alloc (.cells #[.int .i64 0, .slice none 0 0] 84) = W6 at *
  clear s2 hB2 a2 b25 b56 b26 x5 HIN HSL
  generalize w2.heap.size = fb at *
  generalize w5.heap.size = hb at *
  go_loopw [58] (fun x wr => ∃ i : Nat, i ≤ m ∧ x = .int .i64 i ∧ Below W6.heap.size W6 wr) (fun x _ => (m - intOf x).toNat)
  case atStart => exact ⟨0, Nat.zero_le _, rfl, Below.refl _ _⟩
  case round =>
    obtain ⟨i, hi, rfl, b⟩ := hrel
    have x7 := (b.block _ (heap_lt x6)).trans x6
    have y7 := (b.block _ (heap_lt y6)).trans y6
    by_cases hlt : i < m
    · as_aux_lemma =>
      have hlt' : decide (i < m) = true := decide_eq_true hlt
      have hli' : (i : Int) < m := by omega
      obtain ⟨ao', c', hv, hS⟩ := HS6.out
      obtain ⟨ad, hao, hc⟩ := hS i hlt
      obtain ⟨rfl, rfl⟩ : ao1 = ao' ∧ c1 = c' := by simpa using hv
      subst hao
      have c0 := (b.cell (p := ad.add i) (cellLt hc)).trans hc
      have c1 : wr.cell? ⟨fb, 0, none⟩ = some (.int .i64 p) := (Lib.cell_of_heap x7 0).trans rfl
      have c2 : wr.cell? ⟨fb, 1, none⟩ = some (.slice (some ⟨g, 0, none⟩) n cap) := (Lib.cell_of_heap x7 1).trans rfl
      clear hS hc hv
      go_wp2_with fail
      refine (HMAY _ _ _ i hlt (HB6.out.below b)).out.mono ?_
      rintro e w8 ⟨rfl, b8⟩
      have b0 := below_past b b8 b.size
      clear c0 c1 c2 b b8 x7 y7
      go_wp2_with fail
      exact ⟨⟨i + 1, hlt, by go_num, b0⟩, by simp [intOf]; omega⟩
    · have hlt' : decide (i < m) = false := decide_eq_false hlt
      have hlt2 : ¬ (i : Int) < m := by omega
      have b0 := below_past a6 b a6.size
      clear x7 y7 b
      go_wp2_with fail
      refine (HA _).out.mono ?_
      rintro e w8 ⟨rfl, b8⟩
      have b9 := below_past b0 b8 b0.size
      clear b0 b8
      go_wp2_with fail
      go_ret
      exact ⟨rfl, b9⟩
theorem walk (v : Value) (len : Nat) (S : Nat → ByteArray) (each : Int) (w : World) (h1 : InStrs w v len S) :
    Calls Try.prog 12 #[v, .int .i64 each] w fun e w' => e = .returned (.bool true) ∧ Below w.heap.size w w' := by
  by_cases h : each < 1 ∨ 32 < each
  · exact walk_bad v len S each w h1 h
  · obtain ⟨q, rfl⟩ : ∃ q : Nat, each = q := ⟨each.toNat, by omega⟩
    cases hg : goodB (probesK q) (sizeK (min len 300) q) with
    | true => exact walk_good v len S q w h1 (by omega) hg
    | false => exact walk_not v len S q w h1 (by omega) hg
set_option maxRecDepth 100000 in
theorem lifted (os : Os) (started : os.Started) (H : Type) (enc : TypeId × Value → H) :
    ReturnsInHanded {} Try.checked os 12 .any (Rows.bloomHasSpec.pre6 enc Try.prog Try.f12 Rows.bloomHasRow.domain false) (Rows.bloomHasSpec.post enc Try.prog Try.f12 false true false false) := by
  refine returnsInHanded_of_change (C := Try.checked) own started (by kernel_rfl) Try.func12
    (ChangeSpec.witness6 (enc := enc) (C := Try.checked) false ⟨#[], #[.slice none 0 0, .int .i64 0], []⟩ 8 (by kernel_rfl) (by kernel_rfl) (by kernel_rfl) (by kernel_rfl)) ?_
  intro W base args ds gs before hval0 hW _ _
  have hval : ∀ (j : Nat) t v, Try.f12.params[j]? = some t → args[j]? = some v → Value.okWide Try.prog W .any base t v := hval0
  clear hval0
  have hW' := hW
  obtain ⟨p, q, hA0, hV, rfl, hfz, hnd⟩ := hW
  have hA : DataW.TrodAll enc Try.prog W 0 (fun _ => true) true Try.f12.params.toList args.toList ds p := hA0
  rw [Try.params12] at hA hval
  clear hA0 hfz hnd hV
  have hr : Readable Try.f12.params.toList := by
    rw [Try.params12]
    exact readable_of_all (by kernel_rfl)
  have fin : ∀ W', Below W.heap.size W W' → Rows.bloomHasSpec.post enc Try.prog Try.f12 false true false false W args (.bool true) W' := fun W' hb =>
    law_post rfl hW' hr (fun l hl => by
      rw [Try.params12] at hl
      match l, hl with
      | [d1, d2], _ => rfl) (by kernel_rfl) hb
  clear hW' hr
  obtain ⟨v0, v1, d0, d1, p0, p1, rfl, rfl, rfl, h0, h1⟩ := trodAll_two hA; obtain ⟨l1, S1, hs1⟩ := in_strs Try.underlying81 Try.underlying9 cellsOf_string (hval 0 81 v0 rfl rfl) h0; obtain ⟨n, rfl, _, _, w1⟩ := open_int Try.underlying3 (hval 1 3 v1 rfl rfl) h1
  exact (walk v0 l1 S1 n W hs1).mono fun e W' ⟨he, hb⟩ => ⟨_, he, fin W' hb⟩
theorem proved : Rows.BloomHasSaid :=
  OpenClaim.holds_of_wide 12 Try.f12 rfl rfl rfl rfl rfl rfl rfl ⟨rfl, rfl, rfl, rfl, rfl⟩ rfl rfl rfl rfl rfl (by kernel_rfl) Try.func12 (by kernel_rfl)
    (of_decide_eq_true (by kernel_rfl)) (by unfold Func.isWrapper; first | (rw [if_pos (by decide +kernel)]; kernel_rfl) | (rw [if_neg (by decide +kernel)]; exact ⟨rfl, rfl⟩))
    (fun os started H enc _ => lifted os started H enc)
end Go.Proofs.Ythcaolinajfjpaa.has
