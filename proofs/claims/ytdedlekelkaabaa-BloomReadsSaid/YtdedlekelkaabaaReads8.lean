/- For all bytes, every filter and every key the law BloomReads returns true. Conditions: none. -/
import Derived.Test.YtdedlekelkaabaaR8e
import Derived.Test.YtdedlekelkaabaaHas
import Derived.Test.YtdedlekelkaabaaRef2f
import Derived.Test.YtdedlekelkaabaaWildO
import Derived.Test.YtdedlekelkaabaaQuiet
namespace Go.Proofs.Ytdedlekelkaabaa.reads8
open Go Go.ChangeShapes Go.WideShapes Go.ChangeAt Go.ChangeMaps Go.RowKit Go.Proofs.Ytdedlekelkaabaa
attribute [local go_sem] Oper.semAt_some

theorem stx_size' (l : List UInt8) : (stx l).size = l.length := by simp [ByteArray.size]
set_option maxRecDepth 100000 in
set_option maxHeartbeats 4000000 in
theorem walk (s key : ByteArray) (p : Int) (ao : Option Addr) (cap : Nat) (bs : List UInt8) (w : World) (hB : BytesIn w ao bs) (hc : bs.length ≤ cap) (hp : -9223372036854775808 ≤ p ∧ p ≤ 9223372036854775807) :
    Calls Try.prog 4 #[.string s, .agg #[.int .i64 p, .slice ao bs.length cap], .string key] w fun e w' => e = .returned (.bool true) ∧ Below w.heap.size w w' := by
  obtain ⟨T, hT⟩ : ∃ T, stx (s.data.toList.take 500) = T := ⟨_, rfl⟩
  obtain ⟨K, hK⟩ : ∃ K, stx (key.data.toList.take 300) = K := ⟨_, rfl⟩
  have hTs : T.size ≤ 500 := by rw [← hT, stx_size', List.length_take]; omega
  have hKs : K.size ≤ 300 := by rw [← hK, stx_size', List.length_take]; omega
  have HCT : ∀ w, Hid (Calls Try.prog 9 #[.string s, .int .i64 500] w fun e w' => e = .returned (.string T) ∧ w' = w) := fun w => Lib.hid (by rw [← hT]; exact l3Cut_any s 500 w (by decide))
  have HCK : ∀ w, Hid (Calls Try.prog 9 #[.string key, .int .i64 300] w fun e w' => e = .returned (.string K) ∧ w' = w) := fun w => Lib.hid (by rw [← hK]; exact l3Cut_any key 300 w (by decide))
  have HRD : ∀ w, Hid (Calls Try.prog 16 #[.string T] w fun e w' => Below w.heap.size w w' ∧
      ((readE T ≠ 0 ∧ e = .returned (.tuple #[.agg #[.int .i64 0, .slice none 0 0], .int .i64 (readE T)])) ∨
       (readE T = 0 ∧ ∃ g cap, e = .returned (.tuple #[.agg #[.int .i64 (readP T), .slice (some ⟨g, 0, none⟩) (readT T).size cap], .int .i64 0]) ∧ BytesIn w' (some ⟨g, 0, none⟩) (readT T).data.toList ∧ w.heap.size ≤ g))) := fun w => Lib.hid (read_any T w)
  have hr0 : rE0 T = 0 := by unfold rE0; rw [if_pos (by omega)]
  have HO : ∀ w, Hid (Calls Try.prog 18 #[.string T] w fun e w' => e = .returned (curV T (atOf T T) 0) ∧ Below w.heap.size w w') := fun w => Lib.hid (by
    have := r2Open_any T w
    rwa [if_pos (by omega)] at this)
  have HN : ∀ w, Hid (Calls Try.prog 17 #[curV T (atOf T T) 0] w fun e w' => e = .returned (.tuple #[curV T (atOf T (numS T 0)) (numE T 0), .int .i64 (readP T)]) ∧ Below w.heap.size w w') := fun w => Lib.hid (by
    have := RN_all T T 0 w (suf_self T) (fun _ => by omega)
    rwa [show numV T 0 = readP T by rw [readP, hr0]] at this)
  have HTX : ∀ w, Hid (Calls Try.prog 19 #[curV T (atOf T (numS T 0)) (numE T 0)] w fun e w' => e = .returned (.tuple #[curV T (atOf T (textR (numS T 0) (numE T 0))) (textE (numS T 0) (numE T 0)), .string (readT T)]) ∧ Below w.heap.size w w') := fun w => Lib.hid (by
    have := r2Text_all T (numS T 0) (numE T 0) w (suf_num (suf_self T) 0) (fun _ => by omega)
    rwa [show textV (numS T 0) (numE T 0) = readT T by rw [readT, hr0]] at this)
  have HDN : ∀ w, Hid (Calls Try.prog 20 #[curV T (atOf T (textR (numS T 0) (numE T 0))) (textE (numS T 0) (numE T 0))] w fun e w' => e = .returned (.int .i64 (readD T)) ∧ Below w.heap.size w w') := fun w => Lib.hid (by
    have := r2Done_any T (textR (numS T 0) (numE T 0)) (textE (numS T 0) (numE T 0)) w (suf_text (suf_num (suf_self T) 0) _)
    rwa [show (if textE (numS T 0) (numE T 0) = 0 ∧ (textR (numS T 0) (numE T 0)).size ≠ 0 then (3 : Int) else textE (numS T 0) (numE T 0)) = readD T by rw [readD, hr0]] at this)
  have HE : Hid (readE T = if readD T = 0 then (if goodB (readP T) (readT T).size then 0 else 3) else readD T) := Lib.hid rfl
  have hz : (readT T).size ≤ 65536 := textV_size _ _
  have HOF : ∀ (p : Int) (ao : Option Addr) (cap : Nat) (bs : List UInt8) (w : World), BytesIn w ao bs → bs.length ≤ 100000 → Hid (Calls Try.prog 11 #[.int .i64 p, .slice ao bs.length cap] w fun e w' => ∃ bo bc, e = .returned (.agg #[.int .i64 p, .slice bo (8 * bs.length) bc]) ∧ BitsIn w' (.slice bo (8 * bs.length) bc) (bits8 bs) ∧ Below w.heap.size w w') := fun p ao cap bs w h1 h2 => Lib.hid ((r8Of_any p ao cap bs w h1 h2).mono fun e w' ⟨v, h3, h4, h5⟩ => by
    obtain ⟨bo, bc, rfl⟩ := own_shapeB h4
    refine ⟨bo, bc, h3, ?_, h5⟩
    have h6 : w'.ownsRow w.heap.size 4 1 (.slice bo (8 * bs.length) bc) (bits8 bs).length (boolCells (bits8 bs)) := by rw [bits8_length]; exact h4
    exact own_bits h6)
  have HA : ∀ w, Hid (Calls Try.prog 7 #[] w fun e w' => e = .returned (.bool true) ∧ Below w.heap.size w w') := fun w => Lib.hid (awake8 w)
  clear hT hK hr0
  unfold curV at HO HN HTX HDN
  generalize readE T = E at *
  generalize readD T = D at *
  generalize readP T = P at *
  generalize readT T = X at *
  generalize atOf T T = a0 at *
  generalize atOf T (textR (numS T 0) (numE T 0)) = a2 at *
  generalize textE (numS T 0) (numE T 0) = e2 at *
  generalize atOf T (numS T 0) = a1 at *
  generalize numE T 0 = e1 at *
  obtain ⟨XL, hXL⟩ : ∃ XL, X.data.toList = XL := ⟨_, rfl⟩
  obtain ⟨xs, hxs⟩ : ∃ xs, X.size = xs := ⟨_, rfl⟩
  have hXs : XL.length = xs := by rw [← hXL, ← hxs]; rfl
  obtain ⟨mb, hmb⟩ : ∃ mb, 8 * xs = mb := ⟨_, rfl⟩
  have hmbl : (bits8 XL).length = mb := by rw [bits8_length, hXs, hmb]
  have HOX : ∀ ao cap W, BytesIn W ao XL → Hid (Calls Try.prog 11 #[.int .i64 P, .slice ao xs cap] W fun e w' => ∃ bo bc, e = .returned (.agg #[.int .i64 P, .slice bo mb bc]) ∧ BitsIn w' (.slice bo mb bc) (bits8 XL) ∧ Below W.heap.size W w') := fun ao cap W h => by
    have := HOF P ao cap XL W h (by omega)
    rwa [hXs, hmb] at this
  have HGX : ∀ bo bc W, Hid (Calls Try.prog 15 #[.agg #[.int .i64 P, .slice bo mb bc]] W fun e w' => e = .returned (.bool (goodB P xs)) ∧ Below W.heap.size W w') := fun bo bc W => Lib.hid (by
    have := r8Good_any P bo mb bc W
    rwa [show goodR P mb = goodB P xs by
      unfold goodR goodB
      exact decide_eq_decide.2 ⟨fun h => by omega, fun h => by omega⟩] at this)
  have HSX : ∀ v1 v2 W, BitsIn W v1 (bits8 XL) → BitsIn W v2 (bits8 XL) → Hid (Calls Try.prog 10 #[.agg #[.int .i64 P, v1], .agg #[.int .i64 P, v2]] W fun e w' => e = .returned (.bool true) ∧ Below W.heap.size W w') := fun v1 v2 W h1 h2 => Lib.hid (r8Same_eq P v1 v2 (bits8 XL) W h1 h2 (by omega))
  rw [hxs] at HE HRD
  rw [hXL] at HRD
  have HXX := Lib.hid hXL
  have HXS := Lib.hid hxs
  clear hXL hxs hXs hmb hmbl hz
  have HB := Lib.hid hB
  have HC := Lib.hid hc
  have HPB := Lib.hid hp
  obtain ⟨n, hn⟩ : ∃ n, bs.length = n := ⟨_, rfl⟩
  have HL := Lib.hid hn
  rw [hn] at HC ⊢
  clear hB hc hp hn
  have x0 := World.alloc_heap_new w (.cells #[.int .i64 p, .slice ao n cap] 26)
  have b0 := (Below.refl w.heap.size w).alloc (Nat.le_refl _) (.cells #[.int .i64 p, .slice ao n cap] 26)
  by_cases hn3 : 300 < n
  · have hn3' : decide (300 < (n : Int)) = true := decide_eq_true (by omega)
    have hni : (300 : Int) < n := by omega
    have hci : (300 : Int) ≤ cap := by have := HC.out; omega
    have hcn : 300 ≤ cap := by have := HC.out; omega
    obtain ⟨bs2, hbs2⟩ : ∃ bs2, bs.take 300 = bs2 := ⟨_, rfl⟩
    have HB2 := Lib.hid (HB.out.take 300)
    rw [hbs2] at HB2
    have HL2 : Hid (bs2.length = 300) := Lib.hid (by rw [← hbs2, List.length_take, HL.out]; omega)
    clear hbs2 HB HL
    have HB := HB2
    have HL := HL2
    clear HB2 HL2
    obtain ⟨nb, hnb⟩ : ∃ nb, 8 * 300 = nb := ⟨_, rfl⟩
    obtain ⟨TB, hTB⟩ : ∃ TB, txt (encF p bs2) = TB := ⟨_, rfl⟩
    obtain ⟨EB, hEB⟩ : ∃ EB, encE p bs2 = EB := ⟨_, rfl⟩
    obtain ⟨M, hM⟩ : ∃ M, mayF p bs2 (hashL K.data.toList) = M := ⟨_, rfl⟩
    obtain ⟨G, hG0⟩ : ∃ G, goodB p 300 = G := ⟨_, rfl⟩
    have HNB := Lib.hid hnb
    have HTB := Lib.hid hTB
    have HEB := Lib.hid hEB
    have HMM := Lib.hid hM
    have HGG := Lib.hid hG0
    clear hnb hTB hEB hM hG0
    have HOB : ∀ W, Below w.heap.size w W → Hid (Calls Try.prog 11 #[.int .i64 p, .slice ao 300 cap] W fun e w' => ∃ bo bc, e = .returned (.agg #[.int .i64 p, .slice bo nb bc]) ∧ BitsIn w' (.slice bo nb bc) (bits8 bs2) ∧ Below W.heap.size W w') := fun W h => by
      have := HOF p ao cap bs2 W (HB.out.below h) (by rw [HL.out]; omega)
      rwa [HL.out, HNB.out] at this
    have HBB : ∀ W, Below w.heap.size w W → Hid (Calls Try.prog 21 #[.agg #[.int .i64 p, .slice ao 300 cap]] W fun e w' => e = .returned (.tuple #[.string TB, .int .i64 EB]) ∧ Below W.heap.size W w') := fun W h => Lib.hid (by
      have := bytes_any p ao cap bs2 W (HB.out.below h)
      rwa [HL.out, HTB.out, HEB.out] at this)
    have HM1 : ∀ W, Below w.heap.size w W → Hid (Calls Try.prog 12 #[.agg #[.int .i64 p, .slice ao 300 cap], .string K] W fun e w' => e = .returned (.bool M) ∧ Below W.heap.size W w') := fun W h => Lib.hid (by
      have := may_any p ao cap bs2 K W (by omega) (HB.out.below h)
      rwa [HL.out, HMM.out] at this)
    have HM2 : ∀ bo bc W, BitsIn W (.slice bo nb bc) (bits8 bs2) → Hid (Calls Try.prog 13 #[.agg #[.int .i64 p, .slice bo nb bc], .string K] W fun e w' => e = .returned (.bool M) ∧ Below W.heap.size W w') := fun bo bc W h => Lib.hid (by
      have := r8May_any p (.slice bo nb bc) (bits8 bs2) K W h (by omega)
      rwa [mayR_bits, HMM.out] at this)
    have HG1 : ∀ W, Hid (Calls Try.prog 14 #[.agg #[.int .i64 p, .slice ao 300 cap]] W fun e w' => e = .returned (.bool G) ∧ Below W.heap.size W w') := fun W => Lib.hid (by
      have := good_any p ao 300 cap W
      rwa [HGG.out] at this)
    have HG2 : ∀ bo bc W, Hid (Calls Try.prog 15 #[.agg #[.int .i64 p, .slice bo nb bc]] W fun e w' => e = .returned (.bool G) ∧ Below W.heap.size W w') := fun bo bc W => Lib.hid (by
      have := r8Good_any p bo nb bc W
      rwa [show goodR p nb = G by
        rw [← HGG.out, ← HNB.out]
        unfold goodR goodB
        exact decide_eq_decide.2 ⟨fun h => by omega, fun h => by omega⟩] at this)
    obtain ⟨g, o, rfl, _⟩ := HB.out 0 (by rw [HL.out]; decide)
    go_enter Try.func4, Try.ntmps4
    go_wp2_with fail
    generalize w.alloc (.cells #[.int .i64 p, .slice (some ⟨g, o, none⟩) n cap] 26) = W0 at *
    refine (HCT _).out.mono ?_
    rintro e w1 ⟨rfl, rfl⟩
    have c1 : w1.cell? ⟨w.heap.size, 1, none⟩ = some (.slice (some ⟨g, o, none⟩) n cap) := (Lib.cell_of_heap x0 1).trans rfl
    have f1 := Lib.frozen_of_heap x0 1
    have x0' : (w1.setCell ⟨w.heap.size, 1, none⟩ (.slice (some ⟨g, o, none⟩) 300 cap)).heap[w.heap.size]? = some (.cells #[.int .i64 p, .slice (some ⟨g, o, none⟩) 300 cap] 26 (0, 0)) := heap_put x0 _
    have b0' : Below w.heap.size w (w1.setCell ⟨w.heap.size, 1, none⟩ (.slice (some ⟨g, o, none⟩) 300 cap)) := b0.setCell (p := ⟨w.heap.size, 1, none⟩) (Nat.le_refl w.heap.size) _
    clear x0 b0
    have x0 := x0'
    have b0 := b0'
    clear x0' b0'
    go_wp2_with fail
    generalize w1.setCell ⟨w.heap.size, 1, none⟩ (.slice (some ⟨g, o, none⟩) 300 cap) = W1 at *
    clear c1 f1 HOF
    generalize (some (⟨g, o, none⟩ : Addr)) = ao at *
    refine (HRD _).out.mono ?_
    rintro e w2 ⟨b2, hr⟩
    obtain ⟨q, go, m, gc, rfl, HQ⟩ : ∃ (q : Int) (go : Option Addr) (m gc : Nat), e = .returned (.tuple #[.agg #[.int .i64 q, .slice go m gc], .int .i64 E]) ∧ Hid ((E ≠ 0 → q = 0 ∧ m = 0) ∧ (E = 0 → q = P ∧ m = xs ∧ BytesIn w2 go XL)) := by
      rcases hr with ⟨h1, h2⟩ | ⟨h1, g, c, h2, h3, _⟩
      · exact ⟨0, none, 0, 0, h2, Lib.hid ⟨fun _ => ⟨rfl, rfl⟩, fun h => absurd h h1⟩⟩
      · exact ⟨P, _, xs, c, by rw [h1]; exact h2, Lib.hid ⟨fun h => absurd h1 h, fun _ => ⟨rfl, rfl, h3⟩⟩⟩
    have x2 := (b2.block _ (heap_lt x0)).trans x0
    have a2' := below_past b0 b2 b0.size
    have hf2 := heap_lt x2
    clear hr x0 b0 b2 HRD
    have x3 := (Below.heap_alloc w2 (.cells #[.int .i64 q, .slice go m gc] 26) _ (heap_lt x2)).trans x2
    have y3 := World.alloc_heap_new w2 (.cells #[.int .i64 q, .slice go m gc] 26)
    have b3 := (Below.refl w2.heap.size w2).alloc (Nat.le_refl _) (.cells #[.int .i64 q, .slice go m gc] 26)
    have a3 := a2'.alloc a2'.size (.cells #[.int .i64 q, .slice go m gc] 26)
    clear x2 a2'
    go_wp2_with fail
    generalize hW3 : w2.alloc (.cells #[.int .i64 q, .slice go m gc] 26) = W3 at *
    clear hW3
    refine (HO _).out.mono ?_
    rintro e w4 ⟨rfl, b4⟩
    have x4 := (b4.block _ (heap_lt x3)).trans x3
    have y4 := (b4.block _ (heap_lt y3)).trans y3
    have k4 := below_past b3 b4 b3.size
    have a4 := below_past a3 b4 a3.size
    clear x3 y3 a3 b3 b4 HO
    go_wp2_with fail
    refine (HN _).out.mono ?_
    rintro e w5 ⟨rfl, b5⟩
    have x5 := (b5.block _ (heap_lt x4)).trans x4
    have y5 := (b5.block _ (heap_lt y4)).trans y4
    have k5 := below_past k4 b5 k4.size
    have a5 := below_past a4 b5 a4.size
    clear x4 y4 a4 k4 b5 HN
    have x6 := (Below.heap_alloc w5 (.cells #[.string T, .int .i64 a1, .int .i64 e1] 45) _ (heap_lt x5)).trans x5
    have y6 := (Below.heap_alloc w5 (.cells #[.string T, .int .i64 a1, .int .i64 e1] 45) _ (heap_lt y5)).trans y5
    have z6 := World.alloc_heap_new w5 (.cells #[.string T, .int .i64 a1, .int .i64 e1] 45)
    have k6 := k5.alloc k5.size (.cells #[.string T, .int .i64 a1, .int .i64 e1] 45)
    have a6 := a5.alloc a5.size (.cells #[.string T, .int .i64 a1, .int .i64 e1] 45)
    have hc5 : w2.heap.size < w5.heap.size := heap_lt y5
    clear x5 y5 k5 a5
    go_wp2_with fail
    generalize w5.alloc (.cells #[.string T, .int .i64 a1, .int .i64 e1] 45) = W6 at *
    refine (HTX _).out.mono ?_
    rintro e w7 ⟨rfl, b7⟩
    have x7 := (b7.block _ (heap_lt x6)).trans x6
    have y7 := (b7.block _ (heap_lt y6)).trans y6
    have z7 := (b7.block _ (heap_lt z6)).trans z6
    have k7 := below_past k6 b7 k6.size
    have a7 := below_past a6 b7 a6.size
    clear x6 y6 z6 a6 k6 b7 HTX
    generalize w5.heap.size = cb at *
    have c0 : w7.cell? ⟨cb, 0, none⟩ = some (.string T) := (Lib.cell_of_heap z7 0).trans rfl
    have c1 : w7.cell? ⟨cb, 1, none⟩ = some (.int .i64 a1) := (Lib.cell_of_heap z7 1).trans rfl
    have c2 : w7.cell? ⟨cb, 2, none⟩ = some (.int .i64 e1) := (Lib.cell_of_heap z7 2).trans rfl
    have f0 := Lib.frozen_of_heap z7 0
    have f1 := Lib.frozen_of_heap z7 1
    have f2 := Lib.frozen_of_heap z7 2
    have b8 : Below cb w7 (((w7.setCell ⟨cb, 0, none⟩ (.string T)).setCell ⟨cb, 1, none⟩ (.int .i64 a2)).setCell ⟨cb, 2, none⟩ (.int .i64 e2)) := (((Below.refl cb w7).setCell (p := ⟨cb, 0, none⟩) (Nat.le_refl cb) (.string T)).setCell (p := ⟨cb, 1, none⟩) (Nat.le_refl cb) (.int .i64 a2)).setCell (p := ⟨cb, 2, none⟩) (Nat.le_refl cb) (.int .i64 e2)
    have z8 : (((w7.setCell ⟨cb, 0, none⟩ (.string T)).setCell ⟨cb, 1, none⟩ (.int .i64 a2)).setCell ⟨cb, 2, none⟩ (.int .i64 e2)).heap[cb]? = some (.cells #[.string T, .int .i64 a2, .int .i64 e2] 45 (0, 0)) := heap_put (heap_put (heap_put z7 _) _) _
    have x8 := (b8.block _ (Nat.lt_trans hf2 hc5)).trans x7
    have y8 := (b8.block _ hc5).trans y7
    have k8 := k7.trans (b8.mono (Nat.le_of_lt hc5))
    have a8 := a7.trans (b8.mono (Nat.le_of_lt (Nat.lt_trans hf2 hc5)))
    clear x7 y7 z7 k7 a7 b8
    go_wp2_with fail
    generalize ((w7.setCell ⟨cb, 0, none⟩ (.string T)).setCell ⟨cb, 1, none⟩ (.int .i64 a2)).setCell ⟨cb, 2, none⟩ (.int .i64 e2) = W8 at *
    refine (HDN _).out.mono ?_
    rintro e w9 ⟨rfl, b9⟩
    have x9 := (b9.block _ (heap_lt x8)).trans x8
    have y9 := (b9.block _ (heap_lt y8)).trans y8
    have k9 := below_past k8 b9 k8.size
    have a9 := below_past a8 b9 a8.size
    clear x8 y8 z8 k8 a8 b9 HDN c0 c1 c2 f0 f1 f2 hc5
    have hcv := Lib.run_convert_string_bytes (P := Try.prog) w9 9 24 5 X (u := .string) Try.underlying9 Try.underlying24 Try.underlying5
    go_wp2_with fail
    have hX9 : BytesIn (Lib.bytesWorld w9 5 X) (some ⟨w9.heap.size, 0, none⟩) XL := by
      rw [← HXX.out]
      exact fun i hi => ⟨w9.heap.size, 0, rfl, by
        rw [Nat.zero_add]
        exact Lib.bytesWorld_cell w9 5 X i (by rwa [← Lib.size_eq] at hi)⟩
    have b10 := conv_world w9 X
    clear hcv
    generalize Lib.bytesWorld w9 5 X = W10 at *
    have x10 := (b10.block _ (heap_lt x9)).trans x9
    have y10 := (b10.block _ (heap_lt y9)).trans y9
    have k10 := below_past k9 b10 k9.size
    have a10 := below_past a9 b10 a9.size
    clear x9 y9 k9 a9 b10
    rw [HXS.out]
    refine (HOX _ _ _ hX9).out.mono ?_
    rintro e w11 ⟨bo, bc, rfl, hX11, b11⟩
    have x11 := (b11.block _ (heap_lt x10)).trans x10
    have y11 := (b11.block _ (heap_lt y10)).trans y10
    have k11 := below_past k10 b11 k10.size
    have a11 := below_past a10 b11 a10.size
    have b12 := (Below.refl w11.heap.size w11).alloc (Nat.le_refl _) (.cells #[.int .i64 P, .slice bo mb bc] 33)
    have x12 := (b12.block _ (heap_lt x11)).trans x11
    have y12 := (b12.block _ (heap_lt y11)).trans y11
    have z12 := World.alloc_heap_new w11 (.cells #[.int .i64 P, .slice bo mb bc] 33)
    have k12 := below_past k11 b12 k11.size
    have a12 := below_past a11 b12 a11.size
    have hX12 := hX11.below b12
    clear x10 y10 k10 a10 hX9 x11 y11 k11 a11 b11 hX11 b12
    by_cases hD : D = 0
    · subst hD
      cases hgd : goodB P xs with
      | true =>
        obtain rfl : E = 0 := by
          have := HE.out
          rwa [if_pos rfl, hgd, if_pos rfl] at this
        obtain ⟨rfl, rfl, hG⟩ := HQ.out.2 rfl
        rw [hgd] at HGX
        go_wp2_with fail
        have hz12 := heap_lt z12
        generalize w11.alloc (.cells #[.int .i64 q, .slice bo mb bc] 33) = W12 at *
        refine (HGX _ _ _).out.mono ?_
        rintro e w13 ⟨rfl, b13⟩
        have x13 := (b13.block _ (heap_lt x12)).trans x12
        have y13 := (b13.block _ (heap_lt y12)).trans y12
        have z13 := (b13.block _ hz12).trans z12
        have k13 := below_past k12 b13 k12.size
        have a13 := below_past a12 b13 a12.size
        have hX13 := hX12.below b13
        have hG13 := hG.below k13
        clear x12 y12 z12 k12 a12 hX12 b13
        go_wp2_with fail
        have c0 := fun y : Past w13 => (Lib.cell_of_heap ((y.h.block _ (heap_lt y13)).trans y13) 0).trans (rfl : _ = some (Value.int .i64 q))
        have c1 := fun y : Past w13 => (Lib.cell_of_heap ((y.h.block _ (heap_lt y13)).trans y13) 1).trans (rfl : _ = some (Value.slice go m gc))
        have d0 := fun y : Past w13 => (Lib.cell_of_heap ((y.h.block _ (heap_lt z13)).trans z13) 0).trans (rfl : _ = some (Value.int .i64 q))
        have d1 := fun y : Past w13 => (Lib.cell_of_heap ((y.h.block _ (heap_lt z13)).trans z13) 1).trans (rfl : _ = some (Value.slice bo mb bc))
        have HX13 := Lib.hid hX13
        have HG13 := Lib.hid hG13
        have HAW : Hid (∀ w, Calls Try.prog 7 #[] w fun e w' => e = .returned (.bool true) ∧ Below w.heap.size w w') := Lib.hid fun w => (HA w).out
        clear hX13 hG13 y13 z13
        refine wp_region_wildM [15] [0, 1, 2, 3, 4, 5, 6, 7, 8, 9, 10, 11, 12, 13, 14, 16, 15, 17, 18, 19, 20, 21, 22, 23, 24, 25, 26, 27, 28, 29, 30, 31, 32, 33, 34, 35] (by kernel_rfl) (by kernel_rfl) ?_
        simp only [pickO, List.getElem?_cons_zero, List.getElem?_cons_succ]
        refine wildO_call (by decide) (by kernel_rfl) (by kernel_rfl) ?_
        apply Exists.intro
        refine And.intro ?_ ?_
        focus
          intro x K hK
          go_big_quiet_op
          go_big_quiet_call (exact call_back (HAW.out _))
          rfl
        iterate 15 (refine wildO_val (by decide) (by kernel_rfl) rfl ?_; intro K hK; go_big_quiet_op; go_big_quiet_on)
        refine wildO_wild (by decide) (by kernel_rfl) ?_
        intro x K hK
        unfold wildAt
        go_simp
        refine (HOX _ _ _ (HG13.out.below x.h)).out.mono ?_
        rintro e w14 ⟨bo2, bc2, rfl, hb2, hb⟩
        refine ⟨_, rfl, hb, hK _ _ ?_⟩
        simp only [Act.put, List.setIfInBounds_toArray, List.set_cons_succ, List.set_cons_zero]
        have hbx := Below.step x.h hb
        refine wildO_call (by decide) (by kernel_rfl) (by kernel_rfl) ?_
        apply Exists.intro
        refine And.intro ?_ ?_
        focus
          intro x K hK
          go_big_quiet_op
          go_big_quiet_call (exact call_back (HSX _ _ _ (hb2.below (Past.two _)) (HX13.out.below (Below.step hbx (Past.two _)))).out)
          rfl
        iterate 7 (refine wildO_val (by decide) (by kernel_rfl) rfl ?_; intro K hK; go_big_quiet_op; go_big_quiet_on)
        refine wildO_skip (by decide) (by kernel_rfl) ?_
        simp only [Act.put, List.setIfInBounds_toArray, List.set_cons_succ, List.set_cons_zero]
        refine wildO_skip (by decide) (by kernel_rfl) ?_
        simp only [Act.put, List.setIfInBounds_toArray, List.set_cons_succ, List.set_cons_zero]
        refine wildO_skip (by decide) (by kernel_rfl) ?_
        simp only [Act.put, List.setIfInBounds_toArray, List.set_cons_succ, List.set_cons_zero]
        refine wildO_skip (by decide) (by kernel_rfl) ?_
        simp only [Act.put, List.setIfInBounds_toArray, List.set_cons_succ, List.set_cons_zero]
        refine wildO_skip (by decide) (by kernel_rfl) ?_
        simp only [Act.put, List.setIfInBounds_toArray, List.set_cons_succ, List.set_cons_zero]
        refine wildO_skip (by decide) (by kernel_rfl) ?_
        simp only [Act.put, List.setIfInBounds_toArray, List.set_cons_succ, List.set_cons_zero]
        refine wildO_skip (by decide) (by kernel_rfl) ?_
        simp only [Act.put, List.setIfInBounds_toArray, List.set_cons_succ, List.set_cons_zero]
        refine wildO_skip (by decide) (by kernel_rfl) ?_
        simp only [Act.put, List.setIfInBounds_toArray, List.set_cons_succ, List.set_cons_zero]
        refine wildO_skip (by decide) (by kernel_rfl) ?_
        simp only [Act.put, List.setIfInBounds_toArray, List.set_cons_succ, List.set_cons_zero]
        iterate 2 (refine wildO_val (by decide) (by kernel_rfl) rfl ?_; intro K hK; go_big_quiet_op; go_big_quiet_on)
        refine wildO_nil ?_
        rintro ⟨z, hz⟩
        dsimp only
        have bz := Below.step hbx hz
        have x14 := (bz.block _ (heap_lt x13)).trans x13
        have a14 := below_past a13 bz a13.size
        clear x13 a13 bz hbx hz hb2 hb c0 c1 d0 d1 HX13 HG13 HAW HGX HSX HOX
        go_wp2_with fail
        refine (HCK _).out.mono ?_
        rintro e w15 ⟨rfl, rfl⟩
        have c0 : w15.cell? ⟨w.heap.size, 0, none⟩ = some (.int .i64 p) := (Lib.cell_of_heap x14 0).trans rfl
        have c1 : w15.cell? ⟨w.heap.size, 1, none⟩ = some (.slice ao 300 cap) := (Lib.cell_of_heap x14 1).trans rfl
        go_wp2_with fail
        clear c0 c1
        refine (HOB _ a14).out.mono ?_
        rintro e w16 ⟨ro, rc, rfl, hR16, b16⟩
        have x16 := (b16.block _ (heap_lt x14)).trans x14
        have a16 := below_past a14 b16 a14.size
        have b17 := (Below.refl w16.heap.size w16).alloc (Nat.le_refl _) (.cells #[.int .i64 p, .slice ro nb rc] 33)
        have x17 := (b17.block _ (heap_lt x16)).trans x16
        have y17 := World.alloc_heap_new w16 (.cells #[.int .i64 p, .slice ro nb rc] 33)
        have a17 := below_past a16 b17 a16.size
        have hR17 := hR16.below b17
        clear x14 a14 b16 x16 a16 hR16 b17
        have c0 : (w16.alloc (.cells #[.int .i64 p, .slice ro nb rc] 33)).cell? ⟨w.heap.size, 0, none⟩ = some (.int .i64 p) := (Lib.cell_of_heap x17 0).trans rfl
        have c1 : (w16.alloc (.cells #[.int .i64 p, .slice ro nb rc] 33)).cell? ⟨w.heap.size, 1, none⟩ = some (.slice ao 300 cap) := (Lib.cell_of_heap x17 1).trans rfl
        go_wp2_with fail
        clear c0 c1
        generalize w16.alloc (.cells #[.int .i64 p, .slice ro nb rc] 33) = W17 at *
        refine (HBB _ a17).out.mono ?_
        rintro e w18 ⟨rfl, b18⟩
        have x18 := (b18.block _ (heap_lt x17)).trans x17
        have y18 := (b18.block _ (heap_lt y17)).trans y17
        have A18 := Lib.hid (below_past a17 b18 a17.size)
        have HR18 := Lib.hid (hR17.below b18)
        clear x17 y17 a17 b18 hR17
        go_wp2_with fail
        have c0 := fun y : Past w18 => (Lib.cell_of_heap ((y.h.block _ (heap_lt x18)).trans x18) 0).trans (rfl : _ = some (Value.int .i64 p))
        have c1 := fun y : Past w18 => (Lib.cell_of_heap ((y.h.block _ (heap_lt x18)).trans x18) 1).trans (rfl : _ = some (Value.slice ao 300 cap))
        have d0 := fun y : Past w18 => (Lib.cell_of_heap ((y.h.block _ (heap_lt y18)).trans y18) 0).trans (rfl : _ = some (Value.int .i64 p))
        have d1 := fun y : Past w18 => (Lib.cell_of_heap ((y.h.block _ (heap_lt y18)).trans y18) 1).trans (rfl : _ = some (Value.slice ro nb rc))
        refine wp_region_past (by kernel_rfl) (by kernel_rfl) ?_
        repeat (go_big_quiet_step (first | (go_at_call 12; exact Past.call (HM1 _ (below_past A18.out (Past.h _) A18.out.size)).out) | (go_at_call 13; exact Past.call (HM2 _ _ _ (HR18.out.below (Past.h _))).out) | (go_at_call 14; exact Past.call (HG1 _).out) | (go_at_call 15; exact Past.call (HG2 _ _ _).out)))
        refine wpQuiet_nil ?_
        intro w2 hw2
        obtain ⟨⟨wn, hn⟩, rfl⟩ := hw2
        try dsimp only
        have x19 := (hn.block _ (heap_lt x18)).trans x18
        have y19 := (hn.block _ (heap_lt y18)).trans y18
        have a19 := below_past A18.out hn A18.out.size
        clear c0 c1 d0 d1 x18 y18 A18 HR18
        have d0 := (Lib.cell_of_heap y19 0).trans (rfl : _ = some (Value.int .i64 p))
        have d1 := (Lib.cell_of_heap y19 1).trans (rfl : _ = some (Value.slice ro nb rc))
        go_wp2_with fail
        clear hn d0 d1
        refine (HG2 _ _ _).out.mono ?_
        rintro e w20 ⟨rfl, b20⟩
        have x20 := (b20.block _ (heap_lt x19)).trans x19
        have a20 := below_past a19 b20 a19.size
        clear x19 y19 a19 b20
        cases G with
        | false =>
          obtain rfl : EB = 3 := by
            rw [← HEB.out, encE, HL.out, HGG.out]
            rfl
          obtain rfl : TB = ⟨#[]⟩ := by
            rw [← HTB.out, encF, HL.out, HGG.out]
            rfl
          go_wp2_with fail
          go_ret
          exact ⟨rfl, a20⟩
        | true =>
          obtain rfl : EB = 0 := by
            rw [← HEB.out, encE, HL.out, HGG.out]
            rfl
          have hgd := of_decide_eq_true HGG.out
          obtain ⟨NU, hNU⟩ : ∃ NU, txt (numBytes p.toNat) = NU := ⟨_, rfl⟩
          obtain ⟨TT, hTT⟩ : ∃ TT, txt (numBytes 300 ++ bs2) = TT := ⟨_, rfl⟩
          have HNU : ∀ W, Hid (Calls Try.prog 22 #[.int .i64 p] W fun e w' => e = .returned (.string NU) ∧ Below W.heap.size W w') := fun W => Lib.hid (by
            have := r2Number_any p.toNat W (by omega)
            rwa [hNU, show ((p.toNat : Nat) : Int) = p by omega] at this)
          have HTT : ∀ W, Hid (Calls Try.prog 23 #[.string (txt bs2)] W fun e w' => e = .returned (.string TT) ∧ Below W.heap.size W w') := fun W => Lib.hid (by
            have hs : (txt bs2).size = 300 := by rw [← HL.out]; simp [ByteArray.size]
            have := r2Text_any (txt bs2) W (by omega)
            rwa [hs, show (txt bs2).data.toList = bs2 by simp, hTT] at this)
          have hcat : NU ++ TT = TB := by
            rw [← hNU, ← hTT, ← HTB.out, txt_append, encF, HL.out, HGG.out, if_pos rfl, encB, HL.out]
          have z1 : NU.size ≤ 9 := by
            have := numLen_le p.toNat (by omega)
            rw [← hNU, txt_size, numBytes_length]
            omega
          have z2 : TT.size ≤ 400 := by
            have := numLen_le 300 (by omega)
            rw [← hTT, txt_size, List.length_append, numBytes_length, HL.out]
            omega
          have z3 : (NU ++ TT).size ≤ 500 := by rw [ByteArray.size_append]; omega
          have z4 : TB.size ≤ 500 := by rw [← hcat]; exact z3
          have HCV : Hid (∀ y : Past w20, (convert 24 9 (.slice ao 300 cap)).run Try.prog y.w = .ok (.string (txt bs2)) y.w) := Lib.hid fun y => by
            have := conv_in y.w ao cap bs2 (by rw [HL.out]; omega) (HB.out.below (below_past a20 y.h a20.size))
            rwa [HL.out] at this
          have hcv := HCV.out
          generalize txt bs2 = TX at *
          clear hgd hNU hTT
          have c0 := fun y : Past w20 => (Lib.cell_of_heap ((y.h.block _ (heap_lt x20)).trans x20) 0).trans (rfl : _ = some (Value.int .i64 p))
          have c1 := fun y : Past w20 => (Lib.cell_of_heap ((y.h.block _ (heap_lt x20)).trans x20) 1).trans (rfl : _ = some (Value.slice ao 300 cap))
          go_wp2_with fail
          refine wp_region_past (by kernel_rfl) (by kernel_rfl) ?_
          repeat (go_big_quiet_step (first | (go_at_call 22; exact Past.call (HNU _).out) | (go_at_call 23; exact Past.call (HTT _).out)))
          refine wpQuiet_nil ?_
          intro w2 hw2
          obtain ⟨⟨wn, hn⟩, rfl⟩ := hw2
          try dsimp only
          have a21 := below_past a20 hn a20.size
          clear c0 c1 hcv
          go_wp2_with fail
          go_ret
          exact ⟨rfl, a21⟩
      | false =>
        obtain rfl : E = 3 := by
          have := HE.out
          rw [if_pos rfl, hgd] at this
          simpa using this
        obtain ⟨rfl, rfl⟩ := HQ.out.1 (by decide)
        rw [hgd] at HGX
        go_wp2_with fail
        generalize w11.alloc (.cells #[.int .i64 P, .slice bo mb bc] 33) = W12 at *
        refine (HGX _ _ _).out.mono ?_
        rintro e w13 ⟨rfl, b13⟩
        have x13 := (b13.block _ (heap_lt x12)).trans x12
        have y13 := (b13.block _ (heap_lt y12)).trans y12
        have a13 := below_past a12 b13 a12.size
        clear x12 y12 z12 k12 a12 hX12 b13 HSX HOX HGX
        go_wp2_with fail
        have c0 := fun y : Past w13 => (Lib.cell_of_heap ((y.h.block _ (heap_lt y13)).trans y13) 0).trans (rfl : _ = some (Value.int .i64 0))
        have c1 := fun y : Past w13 => (Lib.cell_of_heap ((y.h.block _ (heap_lt y13)).trans y13) 1).trans (rfl : _ = some (Value.slice go 0 gc))
        refine wp_region_past (by kernel_rfl) (by kernel_rfl) ?_
        repeat (go_big_quiet_step ((go_at_call 7; exact Past.call (HA _).out)))
        refine wpQuiet_nil ?_
        intro w2 hw2
        obtain ⟨⟨wn, hn⟩, rfl⟩ := hw2
        try dsimp only
        have x14 := (hn.block _ (heap_lt x13)).trans x13
        have a14 := below_past a13 hn a13.size
        clear c0 c1 x13 y13 a13 hn
        go_wp2_with fail
        refine (HCK _).out.mono ?_
        rintro e w15 ⟨rfl, rfl⟩
        have c0 : w15.cell? ⟨w.heap.size, 0, none⟩ = some (.int .i64 p) := (Lib.cell_of_heap x14 0).trans rfl
        have c1 : w15.cell? ⟨w.heap.size, 1, none⟩ = some (.slice ao 300 cap) := (Lib.cell_of_heap x14 1).trans rfl
        go_wp2_with fail
        clear c0 c1
        refine (HOB _ a14).out.mono ?_
        rintro e w16 ⟨ro, rc, rfl, hR16, b16⟩
        have x16 := (b16.block _ (heap_lt x14)).trans x14
        have a16 := below_past a14 b16 a14.size
        have b17 := (Below.refl w16.heap.size w16).alloc (Nat.le_refl _) (.cells #[.int .i64 p, .slice ro nb rc] 33)
        have x17 := (b17.block _ (heap_lt x16)).trans x16
        have y17 := World.alloc_heap_new w16 (.cells #[.int .i64 p, .slice ro nb rc] 33)
        have a17 := below_past a16 b17 a16.size
        have hR17 := hR16.below b17
        clear x14 a14 b16 x16 a16 hR16 b17
        have c0 : (w16.alloc (.cells #[.int .i64 p, .slice ro nb rc] 33)).cell? ⟨w.heap.size, 0, none⟩ = some (.int .i64 p) := (Lib.cell_of_heap x17 0).trans rfl
        have c1 : (w16.alloc (.cells #[.int .i64 p, .slice ro nb rc] 33)).cell? ⟨w.heap.size, 1, none⟩ = some (.slice ao 300 cap) := (Lib.cell_of_heap x17 1).trans rfl
        go_wp2_with fail
        clear c0 c1
        generalize w16.alloc (.cells #[.int .i64 p, .slice ro nb rc] 33) = W17 at *
        refine (HBB _ a17).out.mono ?_
        rintro e w18 ⟨rfl, b18⟩
        have x18 := (b18.block _ (heap_lt x17)).trans x17
        have y18 := (b18.block _ (heap_lt y17)).trans y17
        have A18 := Lib.hid (below_past a17 b18 a17.size)
        have HR18 := Lib.hid (hR17.below b18)
        clear x17 y17 a17 b18 hR17
        go_wp2_with fail
        have c0 := fun y : Past w18 => (Lib.cell_of_heap ((y.h.block _ (heap_lt x18)).trans x18) 0).trans (rfl : _ = some (Value.int .i64 p))
        have c1 := fun y : Past w18 => (Lib.cell_of_heap ((y.h.block _ (heap_lt x18)).trans x18) 1).trans (rfl : _ = some (Value.slice ao 300 cap))
        have d0 := fun y : Past w18 => (Lib.cell_of_heap ((y.h.block _ (heap_lt y18)).trans y18) 0).trans (rfl : _ = some (Value.int .i64 p))
        have d1 := fun y : Past w18 => (Lib.cell_of_heap ((y.h.block _ (heap_lt y18)).trans y18) 1).trans (rfl : _ = some (Value.slice ro nb rc))
        refine wp_region_past (by kernel_rfl) (by kernel_rfl) ?_
        repeat (go_big_quiet_step (first | (go_at_call 12; exact Past.call (HM1 _ (below_past A18.out (Past.h _) A18.out.size)).out) | (go_at_call 13; exact Past.call (HM2 _ _ _ (HR18.out.below (Past.h _))).out) | (go_at_call 14; exact Past.call (HG1 _).out) | (go_at_call 15; exact Past.call (HG2 _ _ _).out)))
        refine wpQuiet_nil ?_
        intro w2 hw2
        obtain ⟨⟨wn, hn⟩, rfl⟩ := hw2
        try dsimp only
        have x19 := (hn.block _ (heap_lt x18)).trans x18
        have y19 := (hn.block _ (heap_lt y18)).trans y18
        have a19 := below_past A18.out hn A18.out.size
        clear c0 c1 d0 d1 x18 y18 A18 HR18
        have d0 := (Lib.cell_of_heap y19 0).trans (rfl : _ = some (Value.int .i64 p))
        have d1 := (Lib.cell_of_heap y19 1).trans (rfl : _ = some (Value.slice ro nb rc))
        go_wp2_with fail
        clear hn d0 d1
        refine (HG2 _ _ _).out.mono ?_
        rintro e w20 ⟨rfl, b20⟩
        have x20 := (b20.block _ (heap_lt x19)).trans x19
        have a20 := below_past a19 b20 a19.size
        clear x19 y19 a19 b20
        cases G with
        | false =>
          obtain rfl : EB = 3 := by
            rw [← HEB.out, encE, HL.out, HGG.out]
            rfl
          obtain rfl : TB = ⟨#[]⟩ := by
            rw [← HTB.out, encF, HL.out, HGG.out]
            rfl
          go_wp2_with fail
          go_ret
          exact ⟨rfl, a20⟩
        | true =>
          obtain rfl : EB = 0 := by
            rw [← HEB.out, encE, HL.out, HGG.out]
            rfl
          have hgd := of_decide_eq_true HGG.out
          obtain ⟨NU, hNU⟩ : ∃ NU, txt (numBytes p.toNat) = NU := ⟨_, rfl⟩
          obtain ⟨TT, hTT⟩ : ∃ TT, txt (numBytes 300 ++ bs2) = TT := ⟨_, rfl⟩
          have HNU : ∀ W, Hid (Calls Try.prog 22 #[.int .i64 p] W fun e w' => e = .returned (.string NU) ∧ Below W.heap.size W w') := fun W => Lib.hid (by
            have := r2Number_any p.toNat W (by omega)
            rwa [hNU, show ((p.toNat : Nat) : Int) = p by omega] at this)
          have HTT : ∀ W, Hid (Calls Try.prog 23 #[.string (txt bs2)] W fun e w' => e = .returned (.string TT) ∧ Below W.heap.size W w') := fun W => Lib.hid (by
            have hs : (txt bs2).size = 300 := by rw [← HL.out]; simp [ByteArray.size]
            have := r2Text_any (txt bs2) W (by omega)
            rwa [hs, show (txt bs2).data.toList = bs2 by simp, hTT] at this)
          have hcat : NU ++ TT = TB := by
            rw [← hNU, ← hTT, ← HTB.out, txt_append, encF, HL.out, HGG.out, if_pos rfl, encB, HL.out]
          have z1 : NU.size ≤ 9 := by
            have := numLen_le p.toNat (by omega)
            rw [← hNU, txt_size, numBytes_length]
            omega
          have z2 : TT.size ≤ 400 := by
            have := numLen_le 300 (by omega)
            rw [← hTT, txt_size, List.length_append, numBytes_length, HL.out]
            omega
          have z3 : (NU ++ TT).size ≤ 500 := by rw [ByteArray.size_append]; omega
          have z4 : TB.size ≤ 500 := by rw [← hcat]; exact z3
          have HCV : Hid (∀ y : Past w20, (convert 24 9 (.slice ao 300 cap)).run Try.prog y.w = .ok (.string (txt bs2)) y.w) := Lib.hid fun y => by
            have := conv_in y.w ao cap bs2 (by rw [HL.out]; omega) (HB.out.below (below_past a20 y.h a20.size))
            rwa [HL.out] at this
          have hcv := HCV.out
          generalize txt bs2 = TX at *
          clear hgd hNU hTT
          have c0 := fun y : Past w20 => (Lib.cell_of_heap ((y.h.block _ (heap_lt x20)).trans x20) 0).trans (rfl : _ = some (Value.int .i64 p))
          have c1 := fun y : Past w20 => (Lib.cell_of_heap ((y.h.block _ (heap_lt x20)).trans x20) 1).trans (rfl : _ = some (Value.slice ao 300 cap))
          go_wp2_with fail
          refine wp_region_past (by kernel_rfl) (by kernel_rfl) ?_
          repeat (go_big_quiet_step (first | (go_at_call 22; exact Past.call (HNU _).out) | (go_at_call 23; exact Past.call (HTT _).out)))
          refine wpQuiet_nil ?_
          intro w2 hw2
          obtain ⟨⟨wn, hn⟩, rfl⟩ := hw2
          try dsimp only
          have a21 := below_past a20 hn a20.size
          clear c0 c1 hcv
          go_wp2_with fail
          go_ret
          exact ⟨rfl, a21⟩
    · obtain rfl : E = D := by
        have := HE.out
        rwa [if_neg hD] at this
      obtain ⟨rfl, rfl⟩ := HQ.out.1 hD
      have hD2 : (E == 0) = false := beq_eq_false_iff_ne.2 hD
      have hD3 : (E != 0) = true := by rw [bne, hD2]; rfl
      have hD4 : decide (E = 0) = false := decide_eq_false hD
      go_wp2_with fail
      generalize w11.alloc (.cells #[.int .i64 P, .slice bo mb bc] 33) = W12 at *
      clear z12 k12 hX12 HSX HOX HGX
      have c0 := fun y : Past W12 => (Lib.cell_of_heap ((y.h.block _ (heap_lt y12)).trans y12) 0).trans (rfl : _ = some (Value.int .i64 0))
      have c1 := fun y : Past W12 => (Lib.cell_of_heap ((y.h.block _ (heap_lt y12)).trans y12) 1).trans (rfl : _ = some (Value.slice go 0 gc))
      refine wp_region_past (by kernel_rfl) (by kernel_rfl) ?_
      repeat (go_big_quiet_step ((go_at_call 7; exact Past.call (HA _).out)))
      refine wpQuiet_nil ?_
      intro w2 hw2
      obtain ⟨⟨wn, hn⟩, rfl⟩ := hw2
      try dsimp only
      have x14 := (hn.block _ (heap_lt x12)).trans x12
      have a14 := below_past a12 hn a12.size
      clear c0 c1 x12 y12 a12 hn
      go_wp2_with fail
      refine (HCK _).out.mono ?_
      rintro e w15 ⟨rfl, rfl⟩
      have c0 : w15.cell? ⟨w.heap.size, 0, none⟩ = some (.int .i64 p) := (Lib.cell_of_heap x14 0).trans rfl
      have c1 : w15.cell? ⟨w.heap.size, 1, none⟩ = some (.slice ao 300 cap) := (Lib.cell_of_heap x14 1).trans rfl
      go_wp2_with fail
      clear c0 c1
      refine (HOB _ a14).out.mono ?_
      rintro e w16 ⟨ro, rc, rfl, hR16, b16⟩
      have x16 := (b16.block _ (heap_lt x14)).trans x14
      have a16 := below_past a14 b16 a14.size
      have b17 := (Below.refl w16.heap.size w16).alloc (Nat.le_refl _) (.cells #[.int .i64 p, .slice ro nb rc] 33)
      have x17 := (b17.block _ (heap_lt x16)).trans x16
      have y17 := World.alloc_heap_new w16 (.cells #[.int .i64 p, .slice ro nb rc] 33)
      have a17 := below_past a16 b17 a16.size
      have hR17 := hR16.below b17
      clear x14 a14 b16 x16 a16 hR16 b17
      have c0 : (w16.alloc (.cells #[.int .i64 p, .slice ro nb rc] 33)).cell? ⟨w.heap.size, 0, none⟩ = some (.int .i64 p) := (Lib.cell_of_heap x17 0).trans rfl
      have c1 : (w16.alloc (.cells #[.int .i64 p, .slice ro nb rc] 33)).cell? ⟨w.heap.size, 1, none⟩ = some (.slice ao 300 cap) := (Lib.cell_of_heap x17 1).trans rfl
      go_wp2_with fail
      clear c0 c1
      generalize w16.alloc (.cells #[.int .i64 p, .slice ro nb rc] 33) = W17 at *
      refine (HBB _ a17).out.mono ?_
      rintro e w18 ⟨rfl, b18⟩
      have x18 := (b18.block _ (heap_lt x17)).trans x17
      have y18 := (b18.block _ (heap_lt y17)).trans y17
      have A18 := Lib.hid (below_past a17 b18 a17.size)
      have HR18 := Lib.hid (hR17.below b18)
      clear x17 y17 a17 b18 hR17
      go_wp2_with fail
      have c0 := fun y : Past w18 => (Lib.cell_of_heap ((y.h.block _ (heap_lt x18)).trans x18) 0).trans (rfl : _ = some (Value.int .i64 p))
      have c1 := fun y : Past w18 => (Lib.cell_of_heap ((y.h.block _ (heap_lt x18)).trans x18) 1).trans (rfl : _ = some (Value.slice ao 300 cap))
      have d0 := fun y : Past w18 => (Lib.cell_of_heap ((y.h.block _ (heap_lt y18)).trans y18) 0).trans (rfl : _ = some (Value.int .i64 p))
      have d1 := fun y : Past w18 => (Lib.cell_of_heap ((y.h.block _ (heap_lt y18)).trans y18) 1).trans (rfl : _ = some (Value.slice ro nb rc))
      refine wp_region_past (by kernel_rfl) (by kernel_rfl) ?_
      repeat (go_big_quiet_step (first | (go_at_call 12; exact Past.call (HM1 _ (below_past A18.out (Past.h _) A18.out.size)).out) | (go_at_call 13; exact Past.call (HM2 _ _ _ (HR18.out.below (Past.h _))).out) | (go_at_call 14; exact Past.call (HG1 _).out) | (go_at_call 15; exact Past.call (HG2 _ _ _).out)))
      refine wpQuiet_nil ?_
      intro w2 hw2
      obtain ⟨⟨wn, hn⟩, rfl⟩ := hw2
      try dsimp only
      have x19 := (hn.block _ (heap_lt x18)).trans x18
      have y19 := (hn.block _ (heap_lt y18)).trans y18
      have a19 := below_past A18.out hn A18.out.size
      clear c0 c1 d0 d1 x18 y18 A18 HR18
      have d0 := (Lib.cell_of_heap y19 0).trans (rfl : _ = some (Value.int .i64 p))
      have d1 := (Lib.cell_of_heap y19 1).trans (rfl : _ = some (Value.slice ro nb rc))
      go_wp2_with fail
      clear hn d0 d1
      refine (HG2 _ _ _).out.mono ?_
      rintro e w20 ⟨rfl, b20⟩
      have x20 := (b20.block _ (heap_lt x19)).trans x19
      have a20 := below_past a19 b20 a19.size
      clear x19 y19 a19 b20
      cases G with
      | false =>
        obtain rfl : EB = 3 := by
          rw [← HEB.out, encE, HL.out, HGG.out]
          rfl
        obtain rfl : TB = ⟨#[]⟩ := by
          rw [← HTB.out, encF, HL.out, HGG.out]
          rfl
        go_wp2_with fail
        go_ret
        exact ⟨rfl, a20⟩
      | true =>
        obtain rfl : EB = 0 := by
          rw [← HEB.out, encE, HL.out, HGG.out]
          rfl
        have hgd := of_decide_eq_true HGG.out
        obtain ⟨NU, hNU⟩ : ∃ NU, txt (numBytes p.toNat) = NU := ⟨_, rfl⟩
        obtain ⟨TT, hTT⟩ : ∃ TT, txt (numBytes 300 ++ bs2) = TT := ⟨_, rfl⟩
        have HNU : ∀ W, Hid (Calls Try.prog 22 #[.int .i64 p] W fun e w' => e = .returned (.string NU) ∧ Below W.heap.size W w') := fun W => Lib.hid (by
          have := r2Number_any p.toNat W (by omega)
          rwa [hNU, show ((p.toNat : Nat) : Int) = p by omega] at this)
        have HTT : ∀ W, Hid (Calls Try.prog 23 #[.string (txt bs2)] W fun e w' => e = .returned (.string TT) ∧ Below W.heap.size W w') := fun W => Lib.hid (by
          have hs : (txt bs2).size = 300 := by rw [← HL.out]; simp [ByteArray.size]
          have := r2Text_any (txt bs2) W (by omega)
          rwa [hs, show (txt bs2).data.toList = bs2 by simp, hTT] at this)
        have hcat : NU ++ TT = TB := by
          rw [← hNU, ← hTT, ← HTB.out, txt_append, encF, HL.out, HGG.out, if_pos rfl, encB, HL.out]
        have z1 : NU.size ≤ 9 := by
          have := numLen_le p.toNat (by omega)
          rw [← hNU, txt_size, numBytes_length]
          omega
        have z2 : TT.size ≤ 400 := by
          have := numLen_le 300 (by omega)
          rw [← hTT, txt_size, List.length_append, numBytes_length, HL.out]
          omega
        have z3 : (NU ++ TT).size ≤ 500 := by rw [ByteArray.size_append]; omega
        have z4 : TB.size ≤ 500 := by rw [← hcat]; exact z3
        have HCV : Hid (∀ y : Past w20, (convert 24 9 (.slice ao 300 cap)).run Try.prog y.w = .ok (.string (txt bs2)) y.w) := Lib.hid fun y => by
          have := conv_in y.w ao cap bs2 (by rw [HL.out]; omega) (HB.out.below (below_past a20 y.h a20.size))
          rwa [HL.out] at this
        have hcv := HCV.out
        generalize txt bs2 = TX at *
        clear hgd hNU hTT
        have c0 := fun y : Past w20 => (Lib.cell_of_heap ((y.h.block _ (heap_lt x20)).trans x20) 0).trans (rfl : _ = some (Value.int .i64 p))
        have c1 := fun y : Past w20 => (Lib.cell_of_heap ((y.h.block _ (heap_lt x20)).trans x20) 1).trans (rfl : _ = some (Value.slice ao 300 cap))
        go_wp2_with fail
        refine wp_region_past (by kernel_rfl) (by kernel_rfl) ?_
        repeat (go_big_quiet_step (first | (go_at_call 22; exact Past.call (HNU _).out) | (go_at_call 23; exact Past.call (HTT _).out)))
        refine wpQuiet_nil ?_
        intro w2 hw2
        obtain ⟨⟨wn, hn⟩, rfl⟩ := hw2
        try dsimp only
        have a21 := below_past a20 hn a20.size
        clear c0 c1 hcv
        go_wp2_with fail
        go_ret
        exact ⟨rfl, a21⟩
  · have hn3' : decide (300 < (n : Int)) = false := decide_eq_false (by omega)
    obtain ⟨nb, hnb⟩ : ∃ nb, 8 * n = nb := ⟨_, rfl⟩
    obtain ⟨TB, hTB⟩ : ∃ TB, txt (encF p bs) = TB := ⟨_, rfl⟩
    obtain ⟨EB, hEB⟩ : ∃ EB, encE p bs = EB := ⟨_, rfl⟩
    obtain ⟨M, hM⟩ : ∃ M, mayF p bs (hashL K.data.toList) = M := ⟨_, rfl⟩
    obtain ⟨G, hG0⟩ : ∃ G, goodB p n = G := ⟨_, rfl⟩
    have HNB := Lib.hid hnb
    have HTB := Lib.hid hTB
    have HEB := Lib.hid hEB
    have HMM := Lib.hid hM
    have HGG := Lib.hid hG0
    clear hnb hTB hEB hM hG0
    have HOB : ∀ W, Below w.heap.size w W → Hid (Calls Try.prog 11 #[.int .i64 p, .slice ao n cap] W fun e w' => ∃ bo bc, e = .returned (.agg #[.int .i64 p, .slice bo nb bc]) ∧ BitsIn w' (.slice bo nb bc) (bits8 bs) ∧ Below W.heap.size W w') := fun W h => by
      have := HOF p ao cap bs W (HB.out.below h) (by rw [HL.out]; omega)
      rwa [HL.out, HNB.out] at this
    have HBB : ∀ W, Below w.heap.size w W → Hid (Calls Try.prog 21 #[.agg #[.int .i64 p, .slice ao n cap]] W fun e w' => e = .returned (.tuple #[.string TB, .int .i64 EB]) ∧ Below W.heap.size W w') := fun W h => Lib.hid (by
      have := bytes_any p ao cap bs W (HB.out.below h)
      rwa [HL.out, HTB.out, HEB.out] at this)
    have HM1 : ∀ W, Below w.heap.size w W → Hid (Calls Try.prog 12 #[.agg #[.int .i64 p, .slice ao n cap], .string K] W fun e w' => e = .returned (.bool M) ∧ Below W.heap.size W w') := fun W h => Lib.hid (by
      have := may_any p ao cap bs K W (by omega) (HB.out.below h)
      rwa [HL.out, HMM.out] at this)
    have HM2 : ∀ bo bc W, BitsIn W (.slice bo nb bc) (bits8 bs) → Hid (Calls Try.prog 13 #[.agg #[.int .i64 p, .slice bo nb bc], .string K] W fun e w' => e = .returned (.bool M) ∧ Below W.heap.size W w') := fun bo bc W h => Lib.hid (by
      have := r8May_any p (.slice bo nb bc) (bits8 bs) K W h (by omega)
      rwa [mayR_bits, HMM.out] at this)
    have HG1 : ∀ W, Hid (Calls Try.prog 14 #[.agg #[.int .i64 p, .slice ao n cap]] W fun e w' => e = .returned (.bool G) ∧ Below W.heap.size W w') := fun W => Lib.hid (by
      have := good_any p ao n cap W
      rwa [HGG.out] at this)
    have HG2 : ∀ bo bc W, Hid (Calls Try.prog 15 #[.agg #[.int .i64 p, .slice bo nb bc]] W fun e w' => e = .returned (.bool G) ∧ Below W.heap.size W w') := fun bo bc W => Lib.hid (by
      have := r8Good_any p bo nb bc W
      rwa [show goodR p nb = G by
        rw [← HGG.out, ← HNB.out]
        unfold goodR goodB
        exact decide_eq_decide.2 ⟨fun h => by omega, fun h => by omega⟩] at this)
    go_enter Try.func4, Try.ntmps4
    go_wp2_with fail
    generalize w.alloc (.cells #[.int .i64 p, .slice ao n cap] 26) = W0 at *
    refine (HCT _).out.mono ?_
    rintro e w1 ⟨rfl, rfl⟩
    have c1 : w1.cell? ⟨w.heap.size, 1, none⟩ = some (.slice ao n cap) := (Lib.cell_of_heap x0 1).trans rfl
    go_wp2_with fail
    clear c1 HOF
    refine (HRD _).out.mono ?_
    rintro e w2 ⟨b2, hr⟩
    obtain ⟨q, go, m, gc, rfl, HQ⟩ : ∃ (q : Int) (go : Option Addr) (m gc : Nat), e = .returned (.tuple #[.agg #[.int .i64 q, .slice go m gc], .int .i64 E]) ∧ Hid ((E ≠ 0 → q = 0 ∧ m = 0) ∧ (E = 0 → q = P ∧ m = xs ∧ BytesIn w2 go XL)) := by
      rcases hr with ⟨h1, h2⟩ | ⟨h1, g, c, h2, h3, _⟩
      · exact ⟨0, none, 0, 0, h2, Lib.hid ⟨fun _ => ⟨rfl, rfl⟩, fun h => absurd h h1⟩⟩
      · exact ⟨P, _, xs, c, by rw [h1]; exact h2, Lib.hid ⟨fun h => absurd h1 h, fun _ => ⟨rfl, rfl, h3⟩⟩⟩
    have x2 := (b2.block _ (heap_lt x0)).trans x0
    have a2' := below_past b0 b2 b0.size
    have hf2 := heap_lt x2
    clear hr x0 b0 b2 HRD
    have x3 := (Below.heap_alloc w2 (.cells #[.int .i64 q, .slice go m gc] 26) _ (heap_lt x2)).trans x2
    have y3 := World.alloc_heap_new w2 (.cells #[.int .i64 q, .slice go m gc] 26)
    have b3 := (Below.refl w2.heap.size w2).alloc (Nat.le_refl _) (.cells #[.int .i64 q, .slice go m gc] 26)
    have a3 := a2'.alloc a2'.size (.cells #[.int .i64 q, .slice go m gc] 26)
    clear x2 a2'
    go_wp2_with fail
    generalize hW3 : w2.alloc (.cells #[.int .i64 q, .slice go m gc] 26) = W3 at *
    clear hW3
    refine (HO _).out.mono ?_
    rintro e w4 ⟨rfl, b4⟩
    have x4 := (b4.block _ (heap_lt x3)).trans x3
    have y4 := (b4.block _ (heap_lt y3)).trans y3
    have k4 := below_past b3 b4 b3.size
    have a4 := below_past a3 b4 a3.size
    clear x3 y3 a3 b3 b4 HO
    go_wp2_with fail
    refine (HN _).out.mono ?_
    rintro e w5 ⟨rfl, b5⟩
    have x5 := (b5.block _ (heap_lt x4)).trans x4
    have y5 := (b5.block _ (heap_lt y4)).trans y4
    have k5 := below_past k4 b5 k4.size
    have a5 := below_past a4 b5 a4.size
    clear x4 y4 a4 k4 b5 HN
    have x6 := (Below.heap_alloc w5 (.cells #[.string T, .int .i64 a1, .int .i64 e1] 45) _ (heap_lt x5)).trans x5
    have y6 := (Below.heap_alloc w5 (.cells #[.string T, .int .i64 a1, .int .i64 e1] 45) _ (heap_lt y5)).trans y5
    have z6 := World.alloc_heap_new w5 (.cells #[.string T, .int .i64 a1, .int .i64 e1] 45)
    have k6 := k5.alloc k5.size (.cells #[.string T, .int .i64 a1, .int .i64 e1] 45)
    have a6 := a5.alloc a5.size (.cells #[.string T, .int .i64 a1, .int .i64 e1] 45)
    have hc5 : w2.heap.size < w5.heap.size := heap_lt y5
    clear x5 y5 k5 a5
    go_wp2_with fail
    generalize w5.alloc (.cells #[.string T, .int .i64 a1, .int .i64 e1] 45) = W6 at *
    refine (HTX _).out.mono ?_
    rintro e w7 ⟨rfl, b7⟩
    have x7 := (b7.block _ (heap_lt x6)).trans x6
    have y7 := (b7.block _ (heap_lt y6)).trans y6
    have z7 := (b7.block _ (heap_lt z6)).trans z6
    have k7 := below_past k6 b7 k6.size
    have a7 := below_past a6 b7 a6.size
    clear x6 y6 z6 a6 k6 b7 HTX
    generalize w5.heap.size = cb at *
    have c0 : w7.cell? ⟨cb, 0, none⟩ = some (.string T) := (Lib.cell_of_heap z7 0).trans rfl
    have c1 : w7.cell? ⟨cb, 1, none⟩ = some (.int .i64 a1) := (Lib.cell_of_heap z7 1).trans rfl
    have c2 : w7.cell? ⟨cb, 2, none⟩ = some (.int .i64 e1) := (Lib.cell_of_heap z7 2).trans rfl
    have f0 := Lib.frozen_of_heap z7 0
    have f1 := Lib.frozen_of_heap z7 1
    have f2 := Lib.frozen_of_heap z7 2
    have b8 : Below cb w7 (((w7.setCell ⟨cb, 0, none⟩ (.string T)).setCell ⟨cb, 1, none⟩ (.int .i64 a2)).setCell ⟨cb, 2, none⟩ (.int .i64 e2)) := (((Below.refl cb w7).setCell (p := ⟨cb, 0, none⟩) (Nat.le_refl cb) (.string T)).setCell (p := ⟨cb, 1, none⟩) (Nat.le_refl cb) (.int .i64 a2)).setCell (p := ⟨cb, 2, none⟩) (Nat.le_refl cb) (.int .i64 e2)
    have z8 : (((w7.setCell ⟨cb, 0, none⟩ (.string T)).setCell ⟨cb, 1, none⟩ (.int .i64 a2)).setCell ⟨cb, 2, none⟩ (.int .i64 e2)).heap[cb]? = some (.cells #[.string T, .int .i64 a2, .int .i64 e2] 45 (0, 0)) := heap_put (heap_put (heap_put z7 _) _) _
    have x8 := (b8.block _ (Nat.lt_trans hf2 hc5)).trans x7
    have y8 := (b8.block _ hc5).trans y7
    have k8 := k7.trans (b8.mono (Nat.le_of_lt hc5))
    have a8 := a7.trans (b8.mono (Nat.le_of_lt (Nat.lt_trans hf2 hc5)))
    clear x7 y7 z7 k7 a7 b8
    go_wp2_with fail
    generalize ((w7.setCell ⟨cb, 0, none⟩ (.string T)).setCell ⟨cb, 1, none⟩ (.int .i64 a2)).setCell ⟨cb, 2, none⟩ (.int .i64 e2) = W8 at *
    refine (HDN _).out.mono ?_
    rintro e w9 ⟨rfl, b9⟩
    have x9 := (b9.block _ (heap_lt x8)).trans x8
    have y9 := (b9.block _ (heap_lt y8)).trans y8
    have k9 := below_past k8 b9 k8.size
    have a9 := below_past a8 b9 a8.size
    clear x8 y8 z8 k8 a8 b9 HDN c0 c1 c2 f0 f1 f2 hc5
    have hcv := Lib.run_convert_string_bytes (P := Try.prog) w9 9 24 5 X (u := .string) Try.underlying9 Try.underlying24 Try.underlying5
    go_wp2_with fail
    have hX9 : BytesIn (Lib.bytesWorld w9 5 X) (some ⟨w9.heap.size, 0, none⟩) XL := by
      rw [← HXX.out]
      exact fun i hi => ⟨w9.heap.size, 0, rfl, by
        rw [Nat.zero_add]
        exact Lib.bytesWorld_cell w9 5 X i (by rwa [← Lib.size_eq] at hi)⟩
    have b10 := conv_world w9 X
    clear hcv
    generalize Lib.bytesWorld w9 5 X = W10 at *
    have x10 := (b10.block _ (heap_lt x9)).trans x9
    have y10 := (b10.block _ (heap_lt y9)).trans y9
    have k10 := below_past k9 b10 k9.size
    have a10 := below_past a9 b10 a9.size
    clear x9 y9 k9 a9 b10
    rw [HXS.out]
    refine (HOX _ _ _ hX9).out.mono ?_
    rintro e w11 ⟨bo, bc, rfl, hX11, b11⟩
    have x11 := (b11.block _ (heap_lt x10)).trans x10
    have y11 := (b11.block _ (heap_lt y10)).trans y10
    have k11 := below_past k10 b11 k10.size
    have a11 := below_past a10 b11 a10.size
    have b12 := (Below.refl w11.heap.size w11).alloc (Nat.le_refl _) (.cells #[.int .i64 P, .slice bo mb bc] 33)
    have x12 := (b12.block _ (heap_lt x11)).trans x11
    have y12 := (b12.block _ (heap_lt y11)).trans y11
    have z12 := World.alloc_heap_new w11 (.cells #[.int .i64 P, .slice bo mb bc] 33)
    have k12 := below_past k11 b12 k11.size
    have a12 := below_past a11 b12 a11.size
    have hX12 := hX11.below b12
    clear x10 y10 k10 a10 hX9 x11 y11 k11 a11 b11 hX11 b12
    by_cases hD : D = 0
    · subst hD
      cases hgd : goodB P xs with
      | true =>
        obtain rfl : E = 0 := by
          have := HE.out
          rwa [if_pos rfl, hgd, if_pos rfl] at this
        obtain ⟨rfl, rfl, hG⟩ := HQ.out.2 rfl
        rw [hgd] at HGX
        go_wp2_with fail
        have hz12 := heap_lt z12
        generalize w11.alloc (.cells #[.int .i64 q, .slice bo mb bc] 33) = W12 at *
        refine (HGX _ _ _).out.mono ?_
        rintro e w13 ⟨rfl, b13⟩
        have x13 := (b13.block _ (heap_lt x12)).trans x12
        have y13 := (b13.block _ (heap_lt y12)).trans y12
        have z13 := (b13.block _ hz12).trans z12
        have k13 := below_past k12 b13 k12.size
        have a13 := below_past a12 b13 a12.size
        have hX13 := hX12.below b13
        have hG13 := hG.below k13
        clear x12 y12 z12 k12 a12 hX12 b13
        go_wp2_with fail
        have c0 := fun y : Past w13 => (Lib.cell_of_heap ((y.h.block _ (heap_lt y13)).trans y13) 0).trans (rfl : _ = some (Value.int .i64 q))
        have c1 := fun y : Past w13 => (Lib.cell_of_heap ((y.h.block _ (heap_lt y13)).trans y13) 1).trans (rfl : _ = some (Value.slice go m gc))
        have d0 := fun y : Past w13 => (Lib.cell_of_heap ((y.h.block _ (heap_lt z13)).trans z13) 0).trans (rfl : _ = some (Value.int .i64 q))
        have d1 := fun y : Past w13 => (Lib.cell_of_heap ((y.h.block _ (heap_lt z13)).trans z13) 1).trans (rfl : _ = some (Value.slice bo mb bc))
        have HX13 := Lib.hid hX13
        have HG13 := Lib.hid hG13
        have HAW : Hid (∀ w, Calls Try.prog 7 #[] w fun e w' => e = .returned (.bool true) ∧ Below w.heap.size w w') := Lib.hid fun w => (HA w).out
        clear hX13 hG13 y13 z13
        refine wp_region_wildM [15] [0, 1, 2, 3, 4, 5, 6, 7, 8, 9, 10, 11, 12, 13, 14, 16, 15, 17, 18, 19, 20, 21, 22, 23, 24, 25, 26, 27, 28, 29, 30, 31, 32, 33, 34, 35] (by kernel_rfl) (by kernel_rfl) ?_
        simp only [pickO, List.getElem?_cons_zero, List.getElem?_cons_succ]
        refine wildO_call (by decide) (by kernel_rfl) (by kernel_rfl) ?_
        apply Exists.intro
        refine And.intro ?_ ?_
        focus
          intro x K hK
          go_big_quiet_op
          go_big_quiet_call (exact call_back (HAW.out _))
          rfl
        iterate 15 (refine wildO_val (by decide) (by kernel_rfl) rfl ?_; intro K hK; go_big_quiet_op; go_big_quiet_on)
        refine wildO_wild (by decide) (by kernel_rfl) ?_
        intro x K hK
        unfold wildAt
        go_simp
        refine (HOX _ _ _ (HG13.out.below x.h)).out.mono ?_
        rintro e w14 ⟨bo2, bc2, rfl, hb2, hb⟩
        refine ⟨_, rfl, hb, hK _ _ ?_⟩
        simp only [Act.put, List.setIfInBounds_toArray, List.set_cons_succ, List.set_cons_zero]
        have hbx := Below.step x.h hb
        refine wildO_call (by decide) (by kernel_rfl) (by kernel_rfl) ?_
        apply Exists.intro
        refine And.intro ?_ ?_
        focus
          intro x K hK
          go_big_quiet_op
          go_big_quiet_call (exact call_back (HSX _ _ _ (hb2.below (Past.two _)) (HX13.out.below (Below.step hbx (Past.two _)))).out)
          rfl
        iterate 7 (refine wildO_val (by decide) (by kernel_rfl) rfl ?_; intro K hK; go_big_quiet_op; go_big_quiet_on)
        refine wildO_skip (by decide) (by kernel_rfl) ?_
        simp only [Act.put, List.setIfInBounds_toArray, List.set_cons_succ, List.set_cons_zero]
        refine wildO_skip (by decide) (by kernel_rfl) ?_
        simp only [Act.put, List.setIfInBounds_toArray, List.set_cons_succ, List.set_cons_zero]
        refine wildO_skip (by decide) (by kernel_rfl) ?_
        simp only [Act.put, List.setIfInBounds_toArray, List.set_cons_succ, List.set_cons_zero]
        refine wildO_skip (by decide) (by kernel_rfl) ?_
        simp only [Act.put, List.setIfInBounds_toArray, List.set_cons_succ, List.set_cons_zero]
        refine wildO_skip (by decide) (by kernel_rfl) ?_
        simp only [Act.put, List.setIfInBounds_toArray, List.set_cons_succ, List.set_cons_zero]
        refine wildO_skip (by decide) (by kernel_rfl) ?_
        simp only [Act.put, List.setIfInBounds_toArray, List.set_cons_succ, List.set_cons_zero]
        refine wildO_skip (by decide) (by kernel_rfl) ?_
        simp only [Act.put, List.setIfInBounds_toArray, List.set_cons_succ, List.set_cons_zero]
        refine wildO_skip (by decide) (by kernel_rfl) ?_
        simp only [Act.put, List.setIfInBounds_toArray, List.set_cons_succ, List.set_cons_zero]
        refine wildO_skip (by decide) (by kernel_rfl) ?_
        simp only [Act.put, List.setIfInBounds_toArray, List.set_cons_succ, List.set_cons_zero]
        iterate 2 (refine wildO_val (by decide) (by kernel_rfl) rfl ?_; intro K hK; go_big_quiet_op; go_big_quiet_on)
        refine wildO_nil ?_
        rintro ⟨z, hz⟩
        dsimp only
        have bz := Below.step hbx hz
        have x14 := (bz.block _ (heap_lt x13)).trans x13
        have a14 := below_past a13 bz a13.size
        clear x13 a13 bz hbx hz hb2 hb c0 c1 d0 d1 HX13 HG13 HAW HGX HSX HOX
        go_wp2_with fail
        refine (HCK _).out.mono ?_
        rintro e w15 ⟨rfl, rfl⟩
        have c0 : w15.cell? ⟨w.heap.size, 0, none⟩ = some (.int .i64 p) := (Lib.cell_of_heap x14 0).trans rfl
        have c1 : w15.cell? ⟨w.heap.size, 1, none⟩ = some (.slice ao n cap) := (Lib.cell_of_heap x14 1).trans rfl
        go_wp2_with fail
        clear c0 c1
        refine (HOB _ a14).out.mono ?_
        rintro e w16 ⟨ro, rc, rfl, hR16, b16⟩
        have x16 := (b16.block _ (heap_lt x14)).trans x14
        have a16 := below_past a14 b16 a14.size
        have b17 := (Below.refl w16.heap.size w16).alloc (Nat.le_refl _) (.cells #[.int .i64 p, .slice ro nb rc] 33)
        have x17 := (b17.block _ (heap_lt x16)).trans x16
        have y17 := World.alloc_heap_new w16 (.cells #[.int .i64 p, .slice ro nb rc] 33)
        have a17 := below_past a16 b17 a16.size
        have hR17 := hR16.below b17
        clear x14 a14 b16 x16 a16 hR16 b17
        have c0 : (w16.alloc (.cells #[.int .i64 p, .slice ro nb rc] 33)).cell? ⟨w.heap.size, 0, none⟩ = some (.int .i64 p) := (Lib.cell_of_heap x17 0).trans rfl
        have c1 : (w16.alloc (.cells #[.int .i64 p, .slice ro nb rc] 33)).cell? ⟨w.heap.size, 1, none⟩ = some (.slice ao n cap) := (Lib.cell_of_heap x17 1).trans rfl
        go_wp2_with fail
        clear c0 c1
        generalize w16.alloc (.cells #[.int .i64 p, .slice ro nb rc] 33) = W17 at *
        refine (HBB _ a17).out.mono ?_
        rintro e w18 ⟨rfl, b18⟩
        have x18 := (b18.block _ (heap_lt x17)).trans x17
        have y18 := (b18.block _ (heap_lt y17)).trans y17
        have A18 := Lib.hid (below_past a17 b18 a17.size)
        have HR18 := Lib.hid (hR17.below b18)
        clear x17 y17 a17 b18 hR17
        go_wp2_with fail
        have c0 := fun y : Past w18 => (Lib.cell_of_heap ((y.h.block _ (heap_lt x18)).trans x18) 0).trans (rfl : _ = some (Value.int .i64 p))
        have c1 := fun y : Past w18 => (Lib.cell_of_heap ((y.h.block _ (heap_lt x18)).trans x18) 1).trans (rfl : _ = some (Value.slice ao n cap))
        have d0 := fun y : Past w18 => (Lib.cell_of_heap ((y.h.block _ (heap_lt y18)).trans y18) 0).trans (rfl : _ = some (Value.int .i64 p))
        have d1 := fun y : Past w18 => (Lib.cell_of_heap ((y.h.block _ (heap_lt y18)).trans y18) 1).trans (rfl : _ = some (Value.slice ro nb rc))
        refine wp_region_past (by kernel_rfl) (by kernel_rfl) ?_
        repeat (go_big_quiet_step (first | (go_at_call 12; exact Past.call (HM1 _ (below_past A18.out (Past.h _) A18.out.size)).out) | (go_at_call 13; exact Past.call (HM2 _ _ _ (HR18.out.below (Past.h _))).out) | (go_at_call 14; exact Past.call (HG1 _).out) | (go_at_call 15; exact Past.call (HG2 _ _ _).out)))
        refine wpQuiet_nil ?_
        intro w2 hw2
        obtain ⟨⟨wn, hn⟩, rfl⟩ := hw2
        try dsimp only
        have x19 := (hn.block _ (heap_lt x18)).trans x18
        have y19 := (hn.block _ (heap_lt y18)).trans y18
        have a19 := below_past A18.out hn A18.out.size
        clear c0 c1 d0 d1 x18 y18 A18 HR18
        have d0 := (Lib.cell_of_heap y19 0).trans (rfl : _ = some (Value.int .i64 p))
        have d1 := (Lib.cell_of_heap y19 1).trans (rfl : _ = some (Value.slice ro nb rc))
        go_wp2_with fail
        clear hn d0 d1
        refine (HG2 _ _ _).out.mono ?_
        rintro e w20 ⟨rfl, b20⟩
        have x20 := (b20.block _ (heap_lt x19)).trans x19
        have a20 := below_past a19 b20 a19.size
        clear x19 y19 a19 b20
        cases G with
        | false =>
          obtain rfl : EB = 3 := by
            rw [← HEB.out, encE, HL.out, HGG.out]
            rfl
          obtain rfl : TB = ⟨#[]⟩ := by
            rw [← HTB.out, encF, HL.out, HGG.out]
            rfl
          go_wp2_with fail
          go_ret
          exact ⟨rfl, a20⟩
        | true =>
          obtain rfl : EB = 0 := by
            rw [← HEB.out, encE, HL.out, HGG.out]
            rfl
          have hgd := of_decide_eq_true HGG.out
          obtain ⟨NU, hNU⟩ : ∃ NU, txt (numBytes p.toNat) = NU := ⟨_, rfl⟩
          obtain ⟨TT, hTT⟩ : ∃ TT, txt (numBytes n ++ bs) = TT := ⟨_, rfl⟩
          have HNU : ∀ W, Hid (Calls Try.prog 22 #[.int .i64 p] W fun e w' => e = .returned (.string NU) ∧ Below W.heap.size W w') := fun W => Lib.hid (by
            have := r2Number_any p.toNat W (by omega)
            rwa [hNU, show ((p.toNat : Nat) : Int) = p by omega] at this)
          have HTT : ∀ W, Hid (Calls Try.prog 23 #[.string (txt bs)] W fun e w' => e = .returned (.string TT) ∧ Below W.heap.size W w') := fun W => Lib.hid (by
            have hs : (txt bs).size = n := by rw [← HL.out]; simp [ByteArray.size]
            have := r2Text_any (txt bs) W (by omega)
            rwa [hs, show (txt bs).data.toList = bs by simp, hTT] at this)
          have hcat : NU ++ TT = TB := by
            rw [← hNU, ← hTT, ← HTB.out, txt_append, encF, HL.out, HGG.out, if_pos rfl, encB, HL.out]
          have z1 : NU.size ≤ 9 := by
            have := numLen_le p.toNat (by omega)
            rw [← hNU, txt_size, numBytes_length]
            omega
          have z2 : TT.size ≤ 400 := by
            have := numLen_le n (by omega)
            rw [← hTT, txt_size, List.length_append, numBytes_length, HL.out]
            omega
          have z3 : (NU ++ TT).size ≤ 500 := by rw [ByteArray.size_append]; omega
          have z4 : TB.size ≤ 500 := by rw [← hcat]; exact z3
          have HCV : Hid (∀ y : Past w20, (convert 24 9 (.slice ao n cap)).run Try.prog y.w = .ok (.string (txt bs)) y.w) := Lib.hid fun y => by
            have := conv_in y.w ao cap bs (by rw [HL.out]; omega) (HB.out.below (below_past a20 y.h a20.size))
            rwa [HL.out] at this
          have hcv := HCV.out
          generalize txt bs = TX at *
          clear hgd hNU hTT
          have c0 := fun y : Past w20 => (Lib.cell_of_heap ((y.h.block _ (heap_lt x20)).trans x20) 0).trans (rfl : _ = some (Value.int .i64 p))
          have c1 := fun y : Past w20 => (Lib.cell_of_heap ((y.h.block _ (heap_lt x20)).trans x20) 1).trans (rfl : _ = some (Value.slice ao n cap))
          go_wp2_with fail
          refine wp_region_past (by kernel_rfl) (by kernel_rfl) ?_
          repeat (go_big_quiet_step (first | (go_at_call 22; exact Past.call (HNU _).out) | (go_at_call 23; exact Past.call (HTT _).out)))
          refine wpQuiet_nil ?_
          intro w2 hw2
          obtain ⟨⟨wn, hn⟩, rfl⟩ := hw2
          try dsimp only
          have a21 := below_past a20 hn a20.size
          clear c0 c1 hcv
          go_wp2_with fail
          go_ret
          exact ⟨rfl, a21⟩
      | false =>
        obtain rfl : E = 3 := by
          have := HE.out
          rw [if_pos rfl, hgd] at this
          simpa using this
        obtain ⟨rfl, rfl⟩ := HQ.out.1 (by decide)
        rw [hgd] at HGX
        go_wp2_with fail
        generalize w11.alloc (.cells #[.int .i64 P, .slice bo mb bc] 33) = W12 at *
        refine (HGX _ _ _).out.mono ?_
        rintro e w13 ⟨rfl, b13⟩
        have x13 := (b13.block _ (heap_lt x12)).trans x12
        have y13 := (b13.block _ (heap_lt y12)).trans y12
        have a13 := below_past a12 b13 a12.size
        clear x12 y12 z12 k12 a12 hX12 b13 HSX HOX HGX
        go_wp2_with fail
        have c0 := fun y : Past w13 => (Lib.cell_of_heap ((y.h.block _ (heap_lt y13)).trans y13) 0).trans (rfl : _ = some (Value.int .i64 0))
        have c1 := fun y : Past w13 => (Lib.cell_of_heap ((y.h.block _ (heap_lt y13)).trans y13) 1).trans (rfl : _ = some (Value.slice go 0 gc))
        refine wp_region_past (by kernel_rfl) (by kernel_rfl) ?_
        repeat (go_big_quiet_step ((go_at_call 7; exact Past.call (HA _).out)))
        refine wpQuiet_nil ?_
        intro w2 hw2
        obtain ⟨⟨wn, hn⟩, rfl⟩ := hw2
        try dsimp only
        have x14 := (hn.block _ (heap_lt x13)).trans x13
        have a14 := below_past a13 hn a13.size
        clear c0 c1 x13 y13 a13 hn
        go_wp2_with fail
        refine (HCK _).out.mono ?_
        rintro e w15 ⟨rfl, rfl⟩
        have c0 : w15.cell? ⟨w.heap.size, 0, none⟩ = some (.int .i64 p) := (Lib.cell_of_heap x14 0).trans rfl
        have c1 : w15.cell? ⟨w.heap.size, 1, none⟩ = some (.slice ao n cap) := (Lib.cell_of_heap x14 1).trans rfl
        go_wp2_with fail
        clear c0 c1
        refine (HOB _ a14).out.mono ?_
        rintro e w16 ⟨ro, rc, rfl, hR16, b16⟩
        have x16 := (b16.block _ (heap_lt x14)).trans x14
        have a16 := below_past a14 b16 a14.size
        have b17 := (Below.refl w16.heap.size w16).alloc (Nat.le_refl _) (.cells #[.int .i64 p, .slice ro nb rc] 33)
        have x17 := (b17.block _ (heap_lt x16)).trans x16
        have y17 := World.alloc_heap_new w16 (.cells #[.int .i64 p, .slice ro nb rc] 33)
        have a17 := below_past a16 b17 a16.size
        have hR17 := hR16.below b17
        clear x14 a14 b16 x16 a16 hR16 b17
        have c0 : (w16.alloc (.cells #[.int .i64 p, .slice ro nb rc] 33)).cell? ⟨w.heap.size, 0, none⟩ = some (.int .i64 p) := (Lib.cell_of_heap x17 0).trans rfl
        have c1 : (w16.alloc (.cells #[.int .i64 p, .slice ro nb rc] 33)).cell? ⟨w.heap.size, 1, none⟩ = some (.slice ao n cap) := (Lib.cell_of_heap x17 1).trans rfl
        go_wp2_with fail
        clear c0 c1
        generalize w16.alloc (.cells #[.int .i64 p, .slice ro nb rc] 33) = W17 at *
        refine (HBB _ a17).out.mono ?_
        rintro e w18 ⟨rfl, b18⟩
        have x18 := (b18.block _ (heap_lt x17)).trans x17
        have y18 := (b18.block _ (heap_lt y17)).trans y17
        have A18 := Lib.hid (below_past a17 b18 a17.size)
        have HR18 := Lib.hid (hR17.below b18)
        clear x17 y17 a17 b18 hR17
        go_wp2_with fail
        have c0 := fun y : Past w18 => (Lib.cell_of_heap ((y.h.block _ (heap_lt x18)).trans x18) 0).trans (rfl : _ = some (Value.int .i64 p))
        have c1 := fun y : Past w18 => (Lib.cell_of_heap ((y.h.block _ (heap_lt x18)).trans x18) 1).trans (rfl : _ = some (Value.slice ao n cap))
        have d0 := fun y : Past w18 => (Lib.cell_of_heap ((y.h.block _ (heap_lt y18)).trans y18) 0).trans (rfl : _ = some (Value.int .i64 p))
        have d1 := fun y : Past w18 => (Lib.cell_of_heap ((y.h.block _ (heap_lt y18)).trans y18) 1).trans (rfl : _ = some (Value.slice ro nb rc))
        refine wp_region_past (by kernel_rfl) (by kernel_rfl) ?_
        repeat (go_big_quiet_step (first | (go_at_call 12; exact Past.call (HM1 _ (below_past A18.out (Past.h _) A18.out.size)).out) | (go_at_call 13; exact Past.call (HM2 _ _ _ (HR18.out.below (Past.h _))).out) | (go_at_call 14; exact Past.call (HG1 _).out) | (go_at_call 15; exact Past.call (HG2 _ _ _).out)))
        refine wpQuiet_nil ?_
        intro w2 hw2
        obtain ⟨⟨wn, hn⟩, rfl⟩ := hw2
        try dsimp only
        have x19 := (hn.block _ (heap_lt x18)).trans x18
        have y19 := (hn.block _ (heap_lt y18)).trans y18
        have a19 := below_past A18.out hn A18.out.size
        clear c0 c1 d0 d1 x18 y18 A18 HR18
        have d0 := (Lib.cell_of_heap y19 0).trans (rfl : _ = some (Value.int .i64 p))
        have d1 := (Lib.cell_of_heap y19 1).trans (rfl : _ = some (Value.slice ro nb rc))
        go_wp2_with fail
        clear hn d0 d1
        refine (HG2 _ _ _).out.mono ?_
        rintro e w20 ⟨rfl, b20⟩
        have x20 := (b20.block _ (heap_lt x19)).trans x19
        have a20 := below_past a19 b20 a19.size
        clear x19 y19 a19 b20
        cases G with
        | false =>
          obtain rfl : EB = 3 := by
            rw [← HEB.out, encE, HL.out, HGG.out]
            rfl
          obtain rfl : TB = ⟨#[]⟩ := by
            rw [← HTB.out, encF, HL.out, HGG.out]
            rfl
          go_wp2_with fail
          go_ret
          exact ⟨rfl, a20⟩
        | true =>
          obtain rfl : EB = 0 := by
            rw [← HEB.out, encE, HL.out, HGG.out]
            rfl
          have hgd := of_decide_eq_true HGG.out
          obtain ⟨NU, hNU⟩ : ∃ NU, txt (numBytes p.toNat) = NU := ⟨_, rfl⟩
          obtain ⟨TT, hTT⟩ : ∃ TT, txt (numBytes n ++ bs) = TT := ⟨_, rfl⟩
          have HNU : ∀ W, Hid (Calls Try.prog 22 #[.int .i64 p] W fun e w' => e = .returned (.string NU) ∧ Below W.heap.size W w') := fun W => Lib.hid (by
            have := r2Number_any p.toNat W (by omega)
            rwa [hNU, show ((p.toNat : Nat) : Int) = p by omega] at this)
          have HTT : ∀ W, Hid (Calls Try.prog 23 #[.string (txt bs)] W fun e w' => e = .returned (.string TT) ∧ Below W.heap.size W w') := fun W => Lib.hid (by
            have hs : (txt bs).size = n := by rw [← HL.out]; simp [ByteArray.size]
            have := r2Text_any (txt bs) W (by omega)
            rwa [hs, show (txt bs).data.toList = bs by simp, hTT] at this)
          have hcat : NU ++ TT = TB := by
            rw [← hNU, ← hTT, ← HTB.out, txt_append, encF, HL.out, HGG.out, if_pos rfl, encB, HL.out]
          have z1 : NU.size ≤ 9 := by
            have := numLen_le p.toNat (by omega)
            rw [← hNU, txt_size, numBytes_length]
            omega
          have z2 : TT.size ≤ 400 := by
            have := numLen_le n (by omega)
            rw [← hTT, txt_size, List.length_append, numBytes_length, HL.out]
            omega
          have z3 : (NU ++ TT).size ≤ 500 := by rw [ByteArray.size_append]; omega
          have z4 : TB.size ≤ 500 := by rw [← hcat]; exact z3
          have HCV : Hid (∀ y : Past w20, (convert 24 9 (.slice ao n cap)).run Try.prog y.w = .ok (.string (txt bs)) y.w) := Lib.hid fun y => by
            have := conv_in y.w ao cap bs (by rw [HL.out]; omega) (HB.out.below (below_past a20 y.h a20.size))
            rwa [HL.out] at this
          have hcv := HCV.out
          generalize txt bs = TX at *
          clear hgd hNU hTT
          have c0 := fun y : Past w20 => (Lib.cell_of_heap ((y.h.block _ (heap_lt x20)).trans x20) 0).trans (rfl : _ = some (Value.int .i64 p))
          have c1 := fun y : Past w20 => (Lib.cell_of_heap ((y.h.block _ (heap_lt x20)).trans x20) 1).trans (rfl : _ = some (Value.slice ao n cap))
          go_wp2_with fail
          refine wp_region_past (by kernel_rfl) (by kernel_rfl) ?_
          repeat (go_big_quiet_step (first | (go_at_call 22; exact Past.call (HNU _).out) | (go_at_call 23; exact Past.call (HTT _).out)))
          refine wpQuiet_nil ?_
          intro w2 hw2
          obtain ⟨⟨wn, hn⟩, rfl⟩ := hw2
          try dsimp only
          have a21 := below_past a20 hn a20.size
          clear c0 c1 hcv
          go_wp2_with fail
          go_ret
          exact ⟨rfl, a21⟩
    · obtain rfl : E = D := by
        have := HE.out
        rwa [if_neg hD] at this
      obtain ⟨rfl, rfl⟩ := HQ.out.1 hD
      have hD2 : (E == 0) = false := beq_eq_false_iff_ne.2 hD
      have hD3 : (E != 0) = true := by rw [bne, hD2]; rfl
      have hD4 : decide (E = 0) = false := decide_eq_false hD
      go_wp2_with fail
      generalize w11.alloc (.cells #[.int .i64 P, .slice bo mb bc] 33) = W12 at *
      clear z12 k12 hX12 HSX HOX HGX
      have c0 := fun y : Past W12 => (Lib.cell_of_heap ((y.h.block _ (heap_lt y12)).trans y12) 0).trans (rfl : _ = some (Value.int .i64 0))
      have c1 := fun y : Past W12 => (Lib.cell_of_heap ((y.h.block _ (heap_lt y12)).trans y12) 1).trans (rfl : _ = some (Value.slice go 0 gc))
      refine wp_region_past (by kernel_rfl) (by kernel_rfl) ?_
      repeat (go_big_quiet_step ((go_at_call 7; exact Past.call (HA _).out)))
      refine wpQuiet_nil ?_
      intro w2 hw2
      obtain ⟨⟨wn, hn⟩, rfl⟩ := hw2
      try dsimp only
      have x14 := (hn.block _ (heap_lt x12)).trans x12
      have a14 := below_past a12 hn a12.size
      clear c0 c1 x12 y12 a12 hn
      go_wp2_with fail
      refine (HCK _).out.mono ?_
      rintro e w15 ⟨rfl, rfl⟩
      have c0 : w15.cell? ⟨w.heap.size, 0, none⟩ = some (.int .i64 p) := (Lib.cell_of_heap x14 0).trans rfl
      have c1 : w15.cell? ⟨w.heap.size, 1, none⟩ = some (.slice ao n cap) := (Lib.cell_of_heap x14 1).trans rfl
      go_wp2_with fail
      clear c0 c1
      refine (HOB _ a14).out.mono ?_
      rintro e w16 ⟨ro, rc, rfl, hR16, b16⟩
      have x16 := (b16.block _ (heap_lt x14)).trans x14
      have a16 := below_past a14 b16 a14.size
      have b17 := (Below.refl w16.heap.size w16).alloc (Nat.le_refl _) (.cells #[.int .i64 p, .slice ro nb rc] 33)
      have x17 := (b17.block _ (heap_lt x16)).trans x16
      have y17 := World.alloc_heap_new w16 (.cells #[.int .i64 p, .slice ro nb rc] 33)
      have a17 := below_past a16 b17 a16.size
      have hR17 := hR16.below b17
      clear x14 a14 b16 x16 a16 hR16 b17
      have c0 : (w16.alloc (.cells #[.int .i64 p, .slice ro nb rc] 33)).cell? ⟨w.heap.size, 0, none⟩ = some (.int .i64 p) := (Lib.cell_of_heap x17 0).trans rfl
      have c1 : (w16.alloc (.cells #[.int .i64 p, .slice ro nb rc] 33)).cell? ⟨w.heap.size, 1, none⟩ = some (.slice ao n cap) := (Lib.cell_of_heap x17 1).trans rfl
      go_wp2_with fail
      clear c0 c1
      generalize w16.alloc (.cells #[.int .i64 p, .slice ro nb rc] 33) = W17 at *
      refine (HBB _ a17).out.mono ?_
      rintro e w18 ⟨rfl, b18⟩
      have x18 := (b18.block _ (heap_lt x17)).trans x17
      have y18 := (b18.block _ (heap_lt y17)).trans y17
      have A18 := Lib.hid (below_past a17 b18 a17.size)
      have HR18 := Lib.hid (hR17.below b18)
      clear x17 y17 a17 b18 hR17
      go_wp2_with fail
      have c0 := fun y : Past w18 => (Lib.cell_of_heap ((y.h.block _ (heap_lt x18)).trans x18) 0).trans (rfl : _ = some (Value.int .i64 p))
      have c1 := fun y : Past w18 => (Lib.cell_of_heap ((y.h.block _ (heap_lt x18)).trans x18) 1).trans (rfl : _ = some (Value.slice ao n cap))
      have d0 := fun y : Past w18 => (Lib.cell_of_heap ((y.h.block _ (heap_lt y18)).trans y18) 0).trans (rfl : _ = some (Value.int .i64 p))
      have d1 := fun y : Past w18 => (Lib.cell_of_heap ((y.h.block _ (heap_lt y18)).trans y18) 1).trans (rfl : _ = some (Value.slice ro nb rc))
      refine wp_region_past (by kernel_rfl) (by kernel_rfl) ?_
      repeat (go_big_quiet_step (first | (go_at_call 12; exact Past.call (HM1 _ (below_past A18.out (Past.h _) A18.out.size)).out) | (go_at_call 13; exact Past.call (HM2 _ _ _ (HR18.out.below (Past.h _))).out) | (go_at_call 14; exact Past.call (HG1 _).out) | (go_at_call 15; exact Past.call (HG2 _ _ _).out)))
      refine wpQuiet_nil ?_
      intro w2 hw2
      obtain ⟨⟨wn, hn⟩, rfl⟩ := hw2
      try dsimp only
      have x19 := (hn.block _ (heap_lt x18)).trans x18
      have y19 := (hn.block _ (heap_lt y18)).trans y18
      have a19 := below_past A18.out hn A18.out.size
      clear c0 c1 d0 d1 x18 y18 A18 HR18
      have d0 := (Lib.cell_of_heap y19 0).trans (rfl : _ = some (Value.int .i64 p))
      have d1 := (Lib.cell_of_heap y19 1).trans (rfl : _ = some (Value.slice ro nb rc))
      go_wp2_with fail
      clear hn d0 d1
      refine (HG2 _ _ _).out.mono ?_
      rintro e w20 ⟨rfl, b20⟩
      have x20 := (b20.block _ (heap_lt x19)).trans x19
      have a20 := below_past a19 b20 a19.size
      clear x19 y19 a19 b20
      cases G with
      | false =>
        obtain rfl : EB = 3 := by
          rw [← HEB.out, encE, HL.out, HGG.out]
          rfl
        obtain rfl : TB = ⟨#[]⟩ := by
          rw [← HTB.out, encF, HL.out, HGG.out]
          rfl
        go_wp2_with fail
        go_ret
        exact ⟨rfl, a20⟩
      | true =>
        obtain rfl : EB = 0 := by
          rw [← HEB.out, encE, HL.out, HGG.out]
          rfl
        have hgd := of_decide_eq_true HGG.out
        obtain ⟨NU, hNU⟩ : ∃ NU, txt (numBytes p.toNat) = NU := ⟨_, rfl⟩
        obtain ⟨TT, hTT⟩ : ∃ TT, txt (numBytes n ++ bs) = TT := ⟨_, rfl⟩
        have HNU : ∀ W, Hid (Calls Try.prog 22 #[.int .i64 p] W fun e w' => e = .returned (.string NU) ∧ Below W.heap.size W w') := fun W => Lib.hid (by
          have := r2Number_any p.toNat W (by omega)
          rwa [hNU, show ((p.toNat : Nat) : Int) = p by omega] at this)
        have HTT : ∀ W, Hid (Calls Try.prog 23 #[.string (txt bs)] W fun e w' => e = .returned (.string TT) ∧ Below W.heap.size W w') := fun W => Lib.hid (by
          have hs : (txt bs).size = n := by rw [← HL.out]; simp [ByteArray.size]
          have := r2Text_any (txt bs) W (by omega)
          rwa [hs, show (txt bs).data.toList = bs by simp, hTT] at this)
        have hcat : NU ++ TT = TB := by
          rw [← hNU, ← hTT, ← HTB.out, txt_append, encF, HL.out, HGG.out, if_pos rfl, encB, HL.out]
        have z1 : NU.size ≤ 9 := by
          have := numLen_le p.toNat (by omega)
          rw [← hNU, txt_size, numBytes_length]
          omega
        have z2 : TT.size ≤ 400 := by
          have := numLen_le n (by omega)
          rw [← hTT, txt_size, List.length_append, numBytes_length, HL.out]
          omega
        have z3 : (NU ++ TT).size ≤ 500 := by rw [ByteArray.size_append]; omega
        have z4 : TB.size ≤ 500 := by rw [← hcat]; exact z3
        have HCV : Hid (∀ y : Past w20, (convert 24 9 (.slice ao n cap)).run Try.prog y.w = .ok (.string (txt bs)) y.w) := Lib.hid fun y => by
          have := conv_in y.w ao cap bs (by rw [HL.out]; omega) (HB.out.below (below_past a20 y.h a20.size))
          rwa [HL.out] at this
        have hcv := HCV.out
        generalize txt bs = TX at *
        clear hgd hNU hTT
        have c0 := fun y : Past w20 => (Lib.cell_of_heap ((y.h.block _ (heap_lt x20)).trans x20) 0).trans (rfl : _ = some (Value.int .i64 p))
        have c1 := fun y : Past w20 => (Lib.cell_of_heap ((y.h.block _ (heap_lt x20)).trans x20) 1).trans (rfl : _ = some (Value.slice ao n cap))
        go_wp2_with fail
        refine wp_region_past (by kernel_rfl) (by kernel_rfl) ?_
        repeat (go_big_quiet_step (first | (go_at_call 22; exact Past.call (HNU _).out) | (go_at_call 23; exact Past.call (HTT _).out)))
        refine wpQuiet_nil ?_
        intro w2 hw2
        obtain ⟨⟨wn, hn⟩, rfl⟩ := hw2
        try dsimp only
        have a21 := below_past a20 hn a20.size
        clear c0 c1 hcv
        go_wp2_with fail
        go_ret
        exact ⟨rfl, a21⟩
set_option maxRecDepth 100000 in
theorem lifted (os : Os) (started : os.Started) (H : Type) (enc : TypeId × Value → H) :
    ReturnsInHanded {} Try.checked os 4 .any (Rows.bloomReadsSpec.pre6 enc Try.prog Try.f4 Rows.bloomReadsRow.domain false) (Rows.bloomReadsSpec.post enc Try.prog Try.f4 false true false false) := by
  refine returnsInHanded_of_change (C := Try.checked) own started (by kernel_rfl) Try.func4
    (ChangeSpec.witness6 (enc := enc) (C := Try.checked) false ⟨#[], #[.string ⟨#[]⟩, .agg #[.int .i64 0, .slice none 0 0], .string ⟨#[]⟩], []⟩ 8 (by kernel_rfl) (by kernel_rfl) (by kernel_rfl) (by kernel_rfl)) ?_
  intro W base args ds gs before hval0 hW _ _
  have hval : ∀ (j : Nat) t v, Try.f4.params[j]? = some t → args[j]? = some v → Value.okWide Try.prog W .any base t v := hval0
  clear hval0
  have hW' := hW
  obtain ⟨p, q, hA0, hV, rfl, hfz, hnd⟩ := hW
  have hA : DataW.TrodAll enc Try.prog W 0 (fun _ => true) true Try.f4.params.toList args.toList ds p := hA0
  rw [Try.params4] at hA hval
  clear hA0 hfz hnd hV
  have hr : Readable Try.f4.params.toList := by
    rw [Try.params4]
    exact readable_of_all (by kernel_rfl)
  have fin : ∀ W', Below W.heap.size W W' → Rows.bloomReadsSpec.post enc Try.prog Try.f4 false true false false W args (.bool true) W' := fun W' hb =>
    law_post rfl hW' hr (fun l hl => by
      rw [Try.params4] at hl
      match l, hl with
      | [d1, d2, d3], _ => rfl) (by kernel_rfl) hb
  clear hW' hr
  obtain ⟨v0, v1, v2, d0, d1, d2, p0, p1, p2, rfl, rfl, rfl, h0, h1, h2⟩ := trodAll_three hA; obtain ⟨s, rfl, _, _, w0⟩ := open_string Try.underlying9 (hval 0 9 v0 rfl rfl) h0; obtain ⟨n, ao, cap, bs, rfl, hB, hc, hw⟩ := in_filter (hval 1 26 v1 rfl rfl) h1; obtain ⟨t, rfl, _, _, w2⟩ := open_string Try.underlying9 (hval 2 9 v2 rfl rfl) h2
  exact (walk s t n ao cap bs W hB hc (wf_i64 hw)).mono fun e W' ⟨he, hb⟩ => ⟨_, he, fin W' hb⟩
theorem proved : Rows.BloomReadsSaid :=
  OpenClaim.holds_of_wide 4 Try.f4 rfl rfl rfl rfl rfl rfl rfl ⟨rfl, rfl, rfl, rfl, rfl⟩ rfl rfl rfl rfl rfl (by kernel_rfl) Try.func4 (by kernel_rfl)
    (of_decide_eq_true (by kernel_rfl)) (by unfold Func.isWrapper; first | (rw [if_pos (by decide +kernel)]; kernel_rfl) | (rw [if_neg (by decide +kernel)]; exact ⟨rfl, rfl⟩))
    (fun os started H enc _ => lifted os started H enc)
end Go.Proofs.Ytdedlekelkaabaa.reads8
