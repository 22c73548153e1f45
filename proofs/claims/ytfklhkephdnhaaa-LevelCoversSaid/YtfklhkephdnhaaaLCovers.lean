/- For any state, limits and key the law LevelCovers returns true. Conditions: none. -/
import Derived.Test.YtfklhkephdnhaaaLevel19
import Derived.Test.YtfklhkephdnhaaaLvlMath4
import Derived.Test.YtfklhkephdnhaaaLvlIn
import Derived.Test.YtfklhkephdnhaaaLvlSteps
namespace Go.Proofs.Ytfklhkephdnhaaa.lcovers
open Go Go.ChangeShapes Go.WideShapes Go.ChangeAt Go.ChangeMaps Go.RowKit Go.Maps Go.Proofs.Ytfklhkephdnhaaa

/-- A key that the law has met among a job's tables. -/
def HitP (L : List Fl) (inn : List Int) (n : Int) (key : List UInt8) : Prop := ∃ f ∈ L, ¬ key < f.first ∧ ¬ f.last < key ∧ calledB inn f = true ∧ f.lev = n
/-- What the law keeps beside its loops. -/
def LW (B : Nat) (w : World) (bj : Nat) (jl : Int) (L : List Fl) (v u : Value) (I : List Int) (wr : World) : Prop :=
  Below B w wr ∧ B ≤ wr.heap.size ∧ FlsAt wr v L ∧ NsAt wr u I ∧ wr.cell? ⟨B, 2, none⟩ = some v ∧ wr.cell? ⟨bj, 0, none⟩ = some (.int .i64 jl)
theorem LW.below {B : Nat} {w : World} {bj : Nat} {jl : Int} {L : List Fl} {v u : Value} {I : List Int} {wr w' : World} (h : LW B w bj jl L v u I wr) (k : Below wr.heap.size wr w') : LW B w bj jl L v u I w' := by
  obtain ⟨h1, h2, h3, h4, h5, h6⟩ := h
  exact ⟨h1.trans (k.mono h2), Nat.le_trans h2 k.size, h3.below k, h4.below k, (k.cell (p := ⟨B, 2, none⟩) (cellLt h5)).trans h5, (k.cell (p := ⟨bj, 0, none⟩) (cellLt h6)).trans h6⟩
set_option maxRecDepth 100000 in
set_option maxHeartbeats 4000000 in
theorem walk (next log count size : Int) (v : Value) (es : List Fl) (key : ByteArray) (w : World) (hin : InFls w v es) (h1 : in64 next) (h2 : in64 log) (hnums : ∀ f ∈ es, FlNums f) :
    Calls Try.prog 6 #[stV next log v, .agg #[.int .i64 count, .int .i64 size], .string key] w fun e w' => e = .returned (.bool true) ∧ Below w.heap.size w w' := by
  obtain ⟨w0, hw0⟩ : ∃ w0, w.alloc (.cells #[.int .i64 next, .int .i64 log, v] 24) = w0 := ⟨_, rfl⟩
  have hs0 : w0.heap.size = w.heap.size + 1 := by rw [← hw0]; simp
  have a0 : Below w.heap.size w w0 := by rw [← hw0]; exact (Below.refl _ _).alloc (Nat.le_refl _) _
  have r0 : w0.heap[w.heap.size]? = some (.cells #[.int .i64 next, .int .i64 log, v] 24 (0, 0)) := by rw [← hw0]; exact heap_alloc_new w _
  have a1 : Below w0.heap.size w0 (w0.alloc (.cells #[.int .i64 count, .int .i64 size] 42)) := (Below.refl _ _).alloc (Nat.le_refl _) _
  have r1 := (a1.block w.heap.size (by omega)).trans r0
  have d0 : (w0.alloc (.cells #[.int .i64 count, .int .i64 size] 42)).cell? ⟨w.heap.size + 1, 0, none⟩ = some (.int .i64 count) := by rw [← hs0]; exact cell_new _ _ _ 0
  have d1 : (w0.alloc (.cells #[.int .i64 count, .int .i64 size] 42)).cell? ⟨w.heap.size + 1, 1, none⟩ = some (.int .i64 size) := by rw [← hs0]; exact cell_new _ _ _ 1
  have b1 := a0.trans (a1.mono (by omega))
  have HOF := Lib.hid (l11Of_any next log v es _ (hin.below b1))
  have HN := Lib.hid hnums
  have H1 := Lib.hid h1
  have H2 := Lib.hid h2
  obtain ⟨aoi, capi, rfl, _⟩ := hin
  unfold stV at HOF ⊢
  clear a0 a1 r0 hnums h1 h2
  go_enter Try.func6, Try.ntmps6
  have c0 : (w0.alloc (.cells #[.int .i64 count, .int .i64 size] 42)).cell? ⟨w.heap.size, 0, none⟩ = some (.int .i64 next) := (Lib.cell_of_heap r1 0).trans rfl
  have c1 : (w0.alloc (.cells #[.int .i64 count, .int .i64 size] 42)).cell? ⟨w.heap.size, 1, none⟩ = some (.int .i64 log) := (Lib.cell_of_heap r1 1).trans rfl
  have c2 : (w0.alloc (.cells #[.int .i64 count, .int .i64 size] 42)).cell? ⟨w.heap.size, 2, none⟩ = some (.slice aoi es.length capi) := (Lib.cell_of_heap r1 2).trans rfl
  go_wp2_with fail
  generalize w0.alloc (.cells #[.int .i64 count, .int .i64 size] 42) = W1 at *
  clear hw0 hs0 c0 c1 c2
  generalize hB : w.heap.size = B at *
  have HB := Lib.hid hB
  clear hB
  have hs1 : B ≤ W1.heap.size := by rw [← HB.out] at b1 ⊢; exact b1.size
  refine HOF.out.mono ?_
  rintro e w2 ⟨v2, rfl, o2, b2⟩
  have R2 := Lib.hid ((b2.block _ (Array.getElem?_eq_some_iff.1 r1).1).trans r1)
  have B2 := b1.trans (b2.mono hs1)
  have hs2 := Nat.le_trans hs1 b2.size
  have x0 := (b2.cell (p := ⟨B + 1, 0, none⟩) (cellLt d0)).trans d0
  have x1 := (b2.cell (p := ⟨B + 1, 1, none⟩) (cellLt d1)).trans d1
  have m0 : w2.cell? ⟨B, 0, none⟩ = some (.int .i64 next) := (Lib.cell_of_heap R2.out 0).trans rfl
  have m1 : w2.cell? ⟨B, 1, none⟩ = some (.int .i64 log) := (Lib.cell_of_heap R2.out 1).trans rfl
  have m2 : w2.cell? ⟨B, 2, none⟩ = some (.slice aoi es.length capi) := (Lib.cell_of_heap R2.out 2).trans rfl
  have f0 := Lib.frozen_of_heap R2.out 0
  have f1 := Lib.frozen_of_heap R2.out 1
  have f2 := Lib.frozen_of_heap R2.out 2
  obtain ⟨ao2, cap2, rfl⟩ := o2.shape
  have HOK := Lib.hid (fewF_ok 40 es HN.out)
  have hl40 : (fewF 40 es).length ≤ 40 := by rw [fewF_length]; exact Nat.min_le_left _ _
  generalize fewF 40 es = L at *
  obtain ⟨n, hn⟩ : ∃ n, L.length = n := ⟨_, rfl⟩
  have HL := Lib.hid hn
  rw [hn] at hl40 o2 ⊢
  have G := grown_three w2 B (.int .i64 next) (.int .i64 log) (.slice ao2 n cap2)
  have O3 := Lib.hid ((o2.aside G (o2.apart R2.out (by decide))).lie)
  have R3 := heap_three R2.out rfl (.int .i64 next) (.int .i64 log) (.slice ao2 n cap2)
  have B3 := Lib.hid (B2.grown G hs2 (fun k e => by cases e; exact Nat.le_refl _))
  have hs3 := Nat.le_trans hs2 G.size
  have y0 := cell_kept G (fun e => by have := Option.some.inj e; omega) x0
  have y1 := cell_kept G (fun e => by have := Option.some.inj e; omega) x1
  clear HOF b1 b2 hs1 d0 d1 r1 hn B2 hs2 o2 G
  go_upto_region 2 with fail
  clear m0 m1 m2 f0 f1 f2 x0 x1 R2
  generalize ((w2.setCell ⟨B, 0, none⟩ (.int .i64 next)).setCell ⟨B, 1, none⟩ (.int .i64 log)).setCell ⟨B, 2, none⟩ (.slice ao2 n cap2) = W3 at *
  have q0 : W3.cell? ⟨B, 0, none⟩ = some (.int .i64 next) := (Lib.cell_of_heap R3 0).trans rfl
  have q1 : W3.cell? ⟨B, 1, none⟩ = some (.int .i64 log) := (Lib.cell_of_heap R3 1).trans rfl
  have q2 : W3.cell? ⟨B, 2, none⟩ = some (.slice ao2 n cap2) := (Lib.cell_of_heap R3 2).trans rfl
  have HP := Lib.hid (lPick_any next log count size _ L W3 O3.out (by rw [HL.out]; omega) H1.out H2.out HOK.out)
  unfold stV at HP
  clear R3
  go_wp2_with fail
  refine HP.out.mono ?_
  rintro e w4 ⟨va, vb, rfl, o4, o5, b4⟩
  have HAW : Hid (∀ x, Calls Try.prog 14 #[] x fun e w' => e = .returned (.bool true) ∧ Below x.heap.size x w') := Lib.hid awake11
  have B4 := Lib.hid (B3.out.trans (b4.mono hs3))
  have hs4 := Nat.le_trans hs3 b4.size
  have O4 := Lib.hid (O3.out.below b4)
  have z0 := (b4.cell (p := ⟨B, 0, none⟩) (cellLt q0)).trans q0
  have z1 := (b4.cell (p := ⟨B, 1, none⟩) (cellLt q1)).trans q1
  have z2 := (b4.cell (p := ⟨B, 2, none⟩) (cellLt q2)).trans q2
  cases hP : pickF ⟨next, log, L⟩ count size with
  | none =>
    rw [hP] at o4 o5
    dsimp only [Option.getD_none, Option.isSome_none]
    obtain ⟨ao4, cap4, rfl⟩ := o4.shape
    obtain ⟨ao5, cap5, rfl⟩ := o5.shape
    clear HP b4 B3 hs3 y0 y1 q0 q1 q2 O3 o4 o5 hP
    have a5 : Below w4.heap.size w4 (w4.alloc (.cells #[.int .i64 noJob.lev, .slice ao4 noJob.fr.length cap4, .slice ao5 noJob.to.length cap5] 44)) := (Below.refl _ _).alloc (Nat.le_refl _) _
    have B5 := Lib.hid (B4.out.trans (a5.mono hs4))
    have hs5 := Nat.le_trans hs4 a5.size
    clear a5
    go_wp2_with fail
    refine (HAW.out _).mono ?_
    rintro e w6 ⟨rfl, b6⟩
    have B6 := Lib.hid (B5.out.trans (b6.mono hs5))
    clear b6 B5 hs5
    go_wp2_with fail
    go_ret
    exact ⟨rfl, by rw [HB.out]; exact B6.out⟩
  | some j =>
    rw [hP] at o4 o5
    dsimp only [Option.getD_some, Option.isSome_some] at o4 o5 ⊢
    have HPK := Lib.hid hP
    obtain ⟨n1, n2, n3, n4, n5, n6⟩ := pick_nums hP
    have N1 := Lib.hid (o4.lie (fun k hk => by
      obtain ⟨f, hf, e⟩ := n1 k hk
      rw [← e]
      exact (HOK.out f hf).num))
    have N2 := Lib.hid (o5.lie (fun k hk => by
      obtain ⟨f, hf, e⟩ := n2 k hk
      rw [← e]
      exact (HOK.out f hf).num))
    obtain ⟨ao4, cap4, rfl⟩ := o4.shape
    obtain ⟨ao5, cap5, rfl⟩ := o5.shape
    dsimp only at n3 n4
    rw [HL.out] at n3 n4
    obtain ⟨p, hp⟩ : ∃ p, j.fr.length = p := ⟨_, rfl⟩
    obtain ⟨q, hq⟩ : ∃ q, j.to.length = q := ⟨_, rfl⟩
    have HPL := Lib.hid hp
    have HQL := Lib.hid hq
    have HIN := Lib.hid (show ∀ k ∈ j.fr ++ j.to, in64 k from fun k hk => by
      rcases List.mem_append.1 hk with hk | hk
      · obtain ⟨f, hf, e⟩ := n1 k hk
        rw [← e]
        exact (HOK.out f hf).num
      · obtain ⟨f, hf, e⟩ := n2 k hk
        rw [← e]
        exact (HOK.out f hf).num)
    rw [hp] at N1 n3 ⊢
    rw [hq] at N2 n4 ⊢
    clear HP b4 B3 hs3 y0 y1 q0 q1 q2 O3 o4 o5 hP n1 n2 hp hq
    have a5 : Below w4.heap.size w4 (w4.alloc (.cells #[.int .i64 j.lev, .slice ao4 p cap4, .slice ao5 q cap5] 44)) := (Below.refl _ _).alloc (Nat.le_refl _) _
    have B5 := Lib.hid (B4.out.trans (a5.mono hs4))
    have hs5 := Nat.le_trans hs4 a5.size
    have O5 := Lib.hid (O4.out.below a5)
    have N3 := Lib.hid (N1.out.below a5)
    have N4 := Lib.hid (N2.out.below a5)
    have u0 := (a5.cell (p := ⟨B, 0, none⟩) (cellLt z0)).trans z0
    have u1 := (a5.cell (p := ⟨B, 1, none⟩) (cellLt z1)).trans z1
    have u2 := (a5.cell (p := ⟨B, 2, none⟩) (cellLt z2)).trans z2
    have j0 : (w4.alloc (.cells #[.int .i64 j.lev, .slice ao4 p cap4, .slice ao5 q cap5] 44)).cell? ⟨w4.heap.size, 0, none⟩ = some (.int .i64 j.lev) := cell_new _ _ _ 0
    have j1 : (w4.alloc (.cells #[.int .i64 j.lev, .slice ao4 p cap4, .slice ao5 q cap5] 44)).cell? ⟨w4.heap.size, 1, none⟩ = some (.slice ao4 p cap4) := cell_new _ _ _ 1
    have j2 : (w4.alloc (.cells #[.int .i64 j.lev, .slice ao4 p cap4, .slice ao5 q cap5] 44)).cell? ⟨w4.heap.size, 2, none⟩ = some (.slice ao5 q cap5) := cell_new _ _ _ 2
    clear a5 z0 z1 z2 N1 N2 O4 B4
    go_upto_region 3 with fail
    generalize w4.alloc (.cells #[.int .i64 j.lev, .slice ao4 p cap4, .slice ao5 q cap5] 44) = W5 at *
    generalize w4.heap.size = bj at *
    by_cases hk : 200 < key.size
    · have hk1 : (200 : Int) < key.size := by omega
      have hk2 : decide ((200 : Int) < key.size) = true := decide_eq_true hk1
      have hk3 : decide (200 < key.size) = true := decide_eq_true hk
      go_wp2_with fail
      refine (HAW.out _).mono ?_
      rintro e w6 ⟨rfl, b6⟩
      have B6 := Lib.hid (B5.out.trans (b6.mono hs5))
      clear b6 B5 hs5
      go_wp2_with fail
      go_ret
      exact ⟨rfl, by rw [HB.out]; exact B6.out⟩
    · have hk1 : ¬ (200 : Int) < key.size := by omega
      have hk2 : decide ((200 : Int) < key.size) = false := decide_eq_false hk1
      have hk3 : decide (200 < key.size) = false := decide_eq_false hk
      go_upto_region 5 with fail
      have LA1 : j.fr.length ≤ 1000000 := by rw [HPL.out]; omega
      have LA2 := HPL.out
      have LA3 : j.to.length ≤ 1000000 := by rw [HQL.out]; omega
      have LA4 := HQL.out
      refine wp_two (fun a x1 c1 x2 c2 => (((((((a.put (some 31) (.slice (some ⟨W5.heap.size, 0, none⟩) 0 0)).put (some 32) (.pointer (some ⟨bj, 1, none⟩))).put (some 33) (.slice ao4 p cap4)).put (some 34) (.slice x1 p c1)).put (some 35) (.pointer (some ⟨bj, 2, none⟩))).put (some 36) (.slice ao5 q cap5)).put (some 37) (.slice x2 (p + q) c2)).put (some 9) (.slice x2 (p + q) c2)) (p + q) (j.fr ++ j.to) ?_ ?_
      focus
        intro HQ1
        have bA : Below W5.heap.size W5 (W5.drew.alloc (.cells #[] 3)) := (Below.refl _ _).drew.alloc (Nat.le_refl _) _
        have OA : OwnNs (W5.drew.alloc (.cells #[] 3)) W5.heap.size (.slice (some ⟨W5.heap.size, 0, none⟩) 0 0) [] := ownNs_new W5.drew W5.heap.size W5.heap.size rfl (Nat.le_refl _)
        have QA : W5.heap.size ≤ (W5.drew.alloc (.cells #[] 3)).heap.size := bA.size
        have PA := N3.out.below bA
        have PB := N4.out.below bA
        have jA1 := cell_old j1 (.cells #[] 3)
        have jA2 := cell_old j2 (.cells #[] 3)
        go_region_law (first | (refine step_putsN rfl (.tmp 31) (.tmp 33) (by rfl) W5.heap.size _ [] (by rfl) OA _ j.fr (by rfl) PA QA (Nat.zero_le _) LA1 0 p rfl LA2 ?_; intro ao6 cap6 w6 uA1 uA2; have bB := bA.grown uA2 QA (fun k e => (OA.block e).1); have uB : OwnNs w6 W5.heap.size (.slice ao6 p cap6) j.fr := (by simpa using uA1); have QB := bB.size; have PC := N4.out.below bB; have jB2 := ((bB.cell (p := ⟨bj, 2, none⟩) (cellLt j2)).trans j2); clear uA1 uA2 OA PA PB bA QA jA1 jA2) | (refine step_putsN rfl (.tmp 34) (.tmp 36) (by rfl) W5.heap.size _ j.fr (by rfl) uB _ j.to (by rfl) PC QB LA1 LA3 p q LA2 LA4 ?_; intro ao8 cap8 w8 oC yC; have bC := bB.grown yC QB (fun k e => (uB.block e).1); clear yC uB PC bB QB jB2))
        all_goals
          have hq1 := HQ1.out ao6 cap6 ao8 cap8 _ oC bC
          simp only [List.getElem_toArray, List.getElem_cons_succ, List.getElem_cons_zero, Act.put, List.setIfInBounds_toArray, List.set_cons_succ, List.set_cons_zero] at hq1 ⊢
          exact hq1
      intro ao6 cap6 ao8 cap8 w8 oC bC
      simp only [Act.put, List.setIfInBounds_toArray, List.set_cons_succ, List.set_cons_zero]
      have B8 := Lib.hid (B5.out.trans (bC.mono hs5))
      have hs8 := Nat.le_trans hs5 bC.size
      have O8 := Lib.hid (O5.out.below bC)
      have N8 := Lib.hid (oC.lie HIN.out)
      have k2 := (bC.cell (p := ⟨B, 2, none⟩) (cellLt u2)).trans u2
      have k0 := (bC.cell (p := ⟨bj, 0, none⟩) (cellLt j0)).trans j0
      have HCV : Hid (∀ f ∈ L, ¬ f.last < key.data.toList → ¬ key.data.toList < f.first → calledB (j.fr ++ j.to) f = false → (f.lev = j.lev + 1 ∨ f.lev = 0 ∧ j.lev = 0) → HitP L (j.fr ++ j.to) j.lev key.data.toList → False) := Lib.hid fun g hg q1 q2 q3 q4 ⟨f, hf, p1, p2, p3, p4⟩ => covers HPK.out hf p1 p2 p3 p4 hg q2 q1 q3 q4
      obtain ⟨I, hI⟩ : ∃ I, j.fr ++ j.to = I := ⟨_, rfl⟩
      rw [hI] at N8 HCV
      obtain ⟨pq, hpq⟩ : ∃ pq, p + q = pq := ⟨_, rfl⟩
      rw [hpq] at N8 ⊢
      generalize j.lev = jl at *
      clear B5 hs5 O5 N3 N4 u0 u1 u2 j0 j1 j2 LA1 LA2 LA3 LA4 oC bC HIN hI hpq HPL HQL HPK
      have hli : (n : Int) ≤ 1000 := by omega
      obtain ⟨kl, hkl⟩ : ∃ kl, key.data.toList = kl := ⟨_, rfl⟩
      obtain rfl : key = stx kl := by rw [← hkl]
      rw [hkl] at HCV
      clear hkl
      go_wp2_with fail
      have HI0 := Lib.hid (show LW B w bj jl L (.slice ao2 n cap2) (.slice ao8 pq cap8) I w8 from ⟨B8.out, hs8, O8.out, N8.out, k2, k0⟩)
      clear B8 hs8 O8 N8 k2 k0
      go_loopw [10, 41] (fun u x wr => ∃ i : Nat, i ≤ n ∧ x = .int .i64 i ∧ (∃ hb : Bool, u = .bool hb ∧ Hid (hb = true → HitP L I jl kl)) ∧ Hid (LW B w bj jl L (.slice ao2 n cap2) (.slice ao8 pq cap8) I wr)) (fun _ x _ => (n - intOf x).toNat)
      case atStart => exact ⟨0, Nat.zero_le _, rfl, ⟨false, rfl, Lib.hid fun h => absurd h (by decide)⟩, HI0⟩
      case round =>
        clear HI0
        obtain ⟨i, hi, rfl, ⟨hb, rfl, HH⟩, HLW⟩ := hrel
        obtain ⟨B8, hs8, O8, N8, k2, k0⟩ := HLW.out
        by_cases hlt : i < n
        · have hlt' : (i : Int) < n := by omega
          obtain ⟨ao, cap, ev, _, _, l3⟩ := id O8
          injection ev with e1 e2 e3
          obtain ⟨f, hx⟩ : ∃ f, L[i]? = some f := ⟨_, List.getElem?_eq_getElem (by rw [HL.out]; exact hlt)⟩
          obtain ⟨g, o, hA, hat⟩ := l3 i f hx
          subst e1
          subst hA
          obtain ⟨c0, c1, c2, c3, c4⟩ := hat
          have HX := Lib.hid (List.mem_of_getElem? hx)
          have a4 : Below wr.heap.size wr (wr.alloc (.cells #[.int .i64 f.num, .int .i64 f.lev, .int .i64 f.size, .string (stx f.first), .string (stx f.last)] 58)) := (Below.refl _ _).alloc (Nat.le_refl _) _
          have HLW4 := Lib.hid (HLW.out.below a4)
          have k04 := (a4.cell (p := ⟨bj, 0, none⟩) (cellLt k0)).trans k0
          have FL := Lib.hid (flAt_new wr f 58 _ rfl)
          have HAM := Lib.hid (l11among_any _ I f.num (wr.alloc (.cells #[.int .i64 f.num, .int .i64 f.lev, .int .i64 f.size, .string (stx f.first), .string (stx f.last)] 58)) (N8.below a4))
          have h1 := leq_k f.first kl
          have h2 := leq_k kl f.last
          have HP : Hid (∀ x1 x2 x3 x4 : Bool, (!decide (kl < f.first)) = x1 → (!decide (f.last < kl)) = x2 → amongB I f.num = x3 → (f.lev == jl) = x4 → (x1 && x2 && x3 && x4) = true → HitP L I jl kl) := Lib.hid fun x1 x2 x3 x4 q1 q2 q3 q4 hq => by
            simp only [Bool.and_eq_true] at hq
            obtain ⟨⟨⟨r1, r2⟩, r3⟩, r4⟩ := hq
            rw [r1] at q1
            rw [r2] at q2
            rw [r3] at q3
            rw [r4] at q4
            exact ⟨f, HX.out, by simpa using q1, by simpa using q2, q3, by simpa using q4⟩
          clear a4 hx l3 e2 e3 B8 hs8 O8 N8 k2 HLW
          go_upto_region 10 with fail
          clear c0 c1 c2 c3 c4 k0
          generalize wr.alloc (.cells #[.int .i64 f.num, .int .i64 f.lev, .int .i64 f.size, .string (stx f.first), .string (stx f.last)] 58) = W9 at *
          generalize wr.heap.size = bf at *
          obtain ⟨d0, d1, d2, d3, d4⟩ := FL.out
          cases q1 : !decide (kl < f.first) with
          | false =>
            rw [q1] at h1
            clear q1
            go_wp2_with fail
            exact ⟨⟨i + 1, hlt, by go_num, ⟨_, rfl, HH⟩, HLW4⟩, by simp [intOf]; omega⟩
          | true =>
            have Q1 := Lib.hid q1
            rw [q1] at h1
            clear q1
            cases q2 : !decide (f.last < kl) with
            | false =>
              rw [q2] at h2
              clear q2
              go_wp2_with fail
              exact ⟨⟨i + 1, hlt, by go_num, ⟨_, rfl, HH⟩, HLW4⟩, by simp [intOf]; omega⟩
            | true =>
              have Q2 := Lib.hid q2
              rw [q2] at h2
              clear q2
              cases q3 : amongB I f.num with
              | false =>
                rw [q3] at HAM
                clear q3
                go_wp2_with fail
                refine HAM.out.mono ?_
                rintro e w5 ⟨rfl, hw5⟩
                rw [hw5]
                clear hw5 HAM
                go_wp2_with fail
                exact ⟨⟨i + 1, hlt, by go_num, ⟨_, rfl, HH⟩, HLW4⟩, by simp [intOf]; omega⟩
              | true =>
                have Q3 := Lib.hid q3
                rw [q3] at HAM
                clear q3
                go_wp2_with fail
                refine HAM.out.mono ?_
                rintro e w5 ⟨rfl, hw5⟩
                rw [hw5]
                clear hw5 HAM
                cases q4 : f.lev == jl with
                | false =>
                  go_wp2_with fail
                  exact ⟨⟨i + 1, hlt, by go_num, ⟨_, rfl, HH⟩, HLW4⟩, by simp [intOf]; omega⟩
                | true =>
                  have HH2 : Hid (HitP L I jl kl) := Lib.hid (HP.out true true true true Q1.out Q2.out Q3.out q4 rfl)
                  clear HP
                  go_wp2_with fail
                  exact ⟨⟨i + 1, hlt, by go_num, ⟨_, rfl, Lib.hid fun _ => HH2.out⟩, HLW4⟩, by simp [intOf]; omega⟩
        · obtain rfl : i = n := by omega
          clear B8 hs8 O8 N8
          go_wp2_with fail
          have HLW0 := HLW
          have hw1 : IntKind.i64.wrap (jl + 1) = jl + 1 := by rw [IntKind.wrap_i64]; omega
          clear HLW k2 k0
          go_loopw [72] (fun x wr => ∃ t : Nat, t ≤ i ∧ x = .int .i64 t ∧ Hid (LW B w bj jl L (.slice ao2 i cap2) (.slice ao8 pq cap8) I wr)) (fun x _ => (i - intOf x).toNat)
          case atStart => exact ⟨0, Nat.zero_le _, rfl, HLW0⟩
          case round =>
            clear HLW0
            obtain ⟨t, ht, rfl, HLW⟩ := hrel
            obtain ⟨B8, hs8, O8, N8, k2, k0⟩ := HLW.out
            by_cases hlt : t < i
            · have hlt' : (t : Int) < i := by omega
              obtain ⟨ao, cap, ev, _, _, l3⟩ := id O8
              injection ev with e1 e2 e3
              obtain ⟨f, hx⟩ : ∃ f, L[t]? = some f := ⟨_, List.getElem?_eq_getElem (by rw [HL.out]; exact hlt)⟩
              obtain ⟨g, o, hA, hat⟩ := l3 t f hx
              subst e1
              subst hA
              obtain ⟨c0, c1, c2, c3, c4⟩ := hat
              have HX := Lib.hid (List.mem_of_getElem? hx)
              have a4 : Below wr.heap.size wr (wr.alloc (.cells #[.int .i64 f.num, .int .i64 f.lev, .int .i64 f.size, .string (stx f.first), .string (stx f.last)] 58)) := (Below.refl _ _).alloc (Nat.le_refl _) _
              have HLW4 := Lib.hid (HLW.out.below a4)
              have k04 := (a4.cell (p := ⟨bj, 0, none⟩) (cellLt k0)).trans k0
              have FL := Lib.hid (flAt_new wr f 58 _ rfl)
              have HAM := Lib.hid (l11among_any _ I f.num (wr.alloc (.cells #[.int .i64 f.num, .int .i64 f.lev, .int .i64 f.size, .string (stx f.first), .string (stx f.last)] 58)) (N8.below a4))
              have h1 := leq_k f.first kl
              have h2 := leq_k kl f.last
              clear a4 hx l3 e2 e3 B8 hs8 O8 N8 k2 HLW
              go_upto_region 16 with fail
              clear c0 c1 c2 c3 c4 k0
              generalize wr.alloc (.cells #[.int .i64 f.num, .int .i64 f.lev, .int .i64 f.size, .string (stx f.first), .string (stx f.last)] 58) = W9 at *
              generalize wr.heap.size = bf at *
              obtain ⟨d0, d1, d2, d3, d4⟩ := FL.out
              cases hb with
              | false =>
                go_wp2_with fail
                exact ⟨⟨t + 1, hlt, by go_num, HLW4⟩, by simp [intOf]; omega⟩
              | true =>
                cases q1 : !decide (kl < f.first) with
                | false =>
                  rw [q1] at h1
                  clear q1
                  go_wp2_with fail
                  exact ⟨⟨t + 1, hlt, by go_num, HLW4⟩, by simp [intOf]; omega⟩
                | true =>
                  have Q1 := Lib.hid q1
                  rw [q1] at h1
                  clear q1
                  cases q2 : !decide (f.last < kl) with
                  | false =>
                    rw [q2] at h2
                    clear q2
                    go_wp2_with fail
                    exact ⟨⟨t + 1, hlt, by go_num, HLW4⟩, by simp [intOf]; omega⟩
                  | true =>
                    have Q2 := Lib.hid q2
                    rw [q2] at h2
                    clear q2
                    cases q3 : amongB I f.num with
                    | true =>
                      rw [q3] at HAM
                      clear q3
                      go_wp2_with fail
                      refine HAM.out.mono ?_
                      rintro e w5 ⟨rfl, hw5⟩
                      rw [hw5]
                      clear hw5 HAM
                      go_wp2_with fail
                      exact ⟨⟨t + 1, hlt, by go_num, HLW4⟩, by simp [intOf]; omega⟩
                    | false =>
                      have Q3 := Lib.hid q3
                      rw [q3] at HAM
                      clear q3
                      have HF := Lib.hid (fun q => HCV.out f HX.out (by simpa using Q2.out) (by simpa using Q1.out) Q3.out q (HH.out rfl))
                      have n1 : (f.lev == jl + 1) = false := beq_eq_false_iff_ne.2 fun e => HF.out (.inl e)
                      cases n2 : f.lev == 0 with
                      | false =>
                        go_wp2_with fail
                        refine HAM.out.mono ?_
                        rintro e w5 ⟨rfl, hw5⟩
                        rw [hw5]
                        clear hw5 HAM
                        go_wp2_with fail
                        exact ⟨⟨t + 1, hlt, by go_num, HLW4⟩, by simp [intOf]; omega⟩
                      | true =>
                        have n3' : (jl == 0) = false := beq_eq_false_iff_ne.2 fun e => HF.out (.inr ⟨by simpa using n2, e⟩)
                        go_wp2_with fail
                        refine HAM.out.mono ?_
                        rintro e w5 ⟨rfl, hw5⟩
                        rw [hw5]
                        clear hw5 HAM
                        go_wp2_with fail
                        exact ⟨⟨t + 1, hlt, by go_num, HLW4⟩, by simp [intOf]; omega⟩
            · obtain rfl : t = i := by omega
              clear k2 k0 O8 N8
              go_wp2_with fail
              refine (HAW.out _).mono ?_
              rintro e w6 ⟨rfl, b6⟩
              have B9 := B8.trans (b6.mono hs8)
              clear b6 B8
              go_wp2_with fail
              go_ret
              exact ⟨rfl, by rw [HB.out]; exact B9⟩
set_option maxRecDepth 100000 in
theorem lifted (os : Os) (started : os.Started) (H : Type) (enc : TypeId × Value → H) :
    ReturnsInHanded {} Try.checked os 6 .any (Rows.levelCoversSpec.pre6 enc Try.prog Try.f6 Rows.levelCoversRow.domain false) (Rows.levelCoversSpec.post enc Try.prog Try.f6 false true false false) := by
  refine returnsInHanded_of_change (C := Try.checked) own started (by kernel_rfl) Try.func6
    (ChangeSpec.witness6 (enc := enc) (C := Try.checked) false ⟨#[], #[.agg #[.int .i64 0, .int .i64 0, .slice none 0 0], .agg #[.int .i64 0, .int .i64 0], .string ⟨#[]⟩], []⟩ 8 (by kernel_rfl) (by kernel_rfl) (by kernel_rfl) (by kernel_rfl)) ?_
  intro W base args ds gs before hval0 hW _ _
  have hval : ∀ (j : Nat) t v, Try.f6.params[j]? = some t → args[j]? = some v → Value.okWide Try.prog W .any base t v := hval0
  clear hval0
  have hW' := hW
  obtain ⟨p, q, hA0, hV, rfl, hfz, hnd⟩ := hW
  have hA : DataW.TrodAll enc Try.prog W 0 (fun _ => true) true Try.f6.params.toList args.toList ds p := hA0
  rw [Try.params6] at hA hval
  clear hA0 hfz hnd hV
  have hr : Readable Try.f6.params.toList := by
    rw [Try.params6]
    exact readable_of_all (by kernel_rfl)
  have fin : ∀ W', Below W.heap.size W W' → Rows.levelCoversSpec.post enc Try.prog Try.f6 false true false false W args (.bool true) W' := fun W' hb =>
    law_post rfl hW' hr (fun l hl => by
      rw [Try.params6] at hl
      match l, hl with
      | [d1, d2, d3], _ => rfl) (by kernel_rfl) hb
  clear hW' hr
  obtain ⟨v0, v1, v2, d0, d1, d2, p0, p1, p2, rfl, rfl, rfl, h0, h1, h2⟩ := trodAll_three hA; obtain ⟨st1, st2, stu, stl, rfl, sth1, sth2, sth3, sth4⟩ := in_state_of Try.underlying24 (by kernel_rfl) rfl rfl rfl rfl rfl rfl (by kernel_rfl) Try.underlying22 Try.underlying58 (by kernel_rfl) rfl rfl rfl rfl rfl rfl rfl rfl rfl rfl Try.underlying3 (by kernel_rfl) Try.underlying9 (by kernel_rfl) (hval 0 24 v0 rfl rfl) h0; obtain ⟨lm1, lm2, rfl, lmh1, lmh2⟩ := in_two_of Try.underlying42 (by kernel_rfl) rfl rfl rfl rfl Try.underlying3 (by kernel_rfl) (hval 1 42 v1 rfl rfl) h1; obtain ⟨s, rfl, _, _, w2⟩ := open_string Try.underlying9 (hval 2 9 v2 rfl rfl) h2
  exact (walk st1 st2 lm1 lm2 stu stl s W sth3 sth1 sth2 sth4).mono fun e W' ⟨he, hb⟩ => ⟨_, he, fin W' hb⟩
theorem proved : Rows.LevelCoversSaid :=
  OpenClaim.holds_of_wide 6 Try.f6 rfl rfl rfl rfl rfl rfl rfl ⟨rfl, rfl, rfl, rfl, rfl⟩ rfl rfl rfl rfl rfl (by kernel_rfl) Try.func6 (by kernel_rfl)
    (of_decide_eq_true (by kernel_rfl)) (by unfold Func.isWrapper; first | (rw [if_pos (by decide +kernel)]; kernel_rfl) | (rw [if_neg (by decide +kernel)]; exact ⟨rfl, rfl⟩))
    (fun os started H enc _ => lifted os started H enc)
end Go.Proofs.Ytfklhkephdnhaaa.lcovers
