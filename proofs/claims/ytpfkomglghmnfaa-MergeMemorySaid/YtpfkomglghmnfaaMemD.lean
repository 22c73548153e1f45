/- Entries in memory: what lies there, and the small calls. Conditions: at most 500 entries. -/
import Derived.Test.YtpfkomglghmnfaaMemC
import Derived.Test.YtpfkomglghmnfaaSplit2
import Derived.Test.YtpfkomglghmnfaaWild
namespace Go.Proofs.Ytpfkomglghmnfaa
open Go Go.RowKit
attribute [local go_sem] Oper.semAt_some

/-- Entries in memory, with the blocks that hold them. -/
def MemAt (w : World) (B m : Nat) (bs : List Nat) (l : List Ent) : Prop :=
  ∃ lv, rowAt w m = some #[lv, .int .i64 (costs l)] ∧ B ≤ m ∧
    ((l = [] ∧ lv = .slice none 0 0 ∧ bs = [m]) ∨
      ∃ b2 g cap, lv = .slice (some ⟨b2, 0, none⟩) 1 1 ∧ rowAt w b2 = some #[.slice (some ⟨g, 0, none⟩) l.length cap] ∧ B ≤ b2 ∧ OwnEnts w B (.slice (some ⟨g, 0, none⟩) l.length cap) l ∧ 0 < l.length ∧ m ≠ b2 ∧ g ≠ m ∧ g ≠ b2 ∧ bs = [m, b2, g])
theorem rowAt_same {w w' : World} {b : Nat} (h : w'.heap[b]? = w.heap[b]?) : rowAt w' b = rowAt w b := by
  unfold rowAt
  rw [h]
theorem MemAt.lt {w : World} {B m : Nat} {bs : List Nat} {l : List Ent} (h : MemAt w B m bs l) : ∀ k ∈ bs, B ≤ k ∧ k < w.heap.size := by
  obtain ⟨lv, h1, h2, ⟨rfl, rfl, rfl⟩ | ⟨b2, g, cap, rfl, k1, k2, k3, k4, k5, k6, k7, rfl⟩⟩ := h
  · intro k hk
    obtain rfl : k = m := by simpa using hk
    exact ⟨h2, lt_of_rowAt h1⟩
  · intro k hk
    simp only [List.mem_cons, List.mem_nil_iff, or_false] at hk
    rcases hk with rfl | rfl | rfl
    · exact ⟨h2, lt_of_rowAt h1⟩
    · exact ⟨k2, lt_of_rowAt k1⟩
    · exact World.ownsRow.lt k3 k rfl
theorem own_same {w w' : World} {B g n cap : Nat} {l : List Ent} (h : OwnEnts w B (.slice (some ⟨g, 0, none⟩) n cap) l) (hg : w'.heap[g]? = w.heap[g]?) : OwnEnts w' B (.slice (some ⟨g, 0, none⟩) n cap) l := by
  refine ⟨h.1, ?_⟩
  rcases h.2 with ⟨e, _⟩ | ⟨g', cap', cur, e, h1, h2, h3⟩
  · cases e
  · obtain ⟨rfl, -, -⟩ : g = g' ∧ n = l.length ∧ cap = cap' := by simpa using e
    exact .inr ⟨g, cap', cur, e, h1, hg.trans h2, h3⟩
theorem MemAt.kept {w w' : World} {B m : Nat} {bs : List Nat} {l : List Ent} (h : MemAt w B m bs l) (hk : ∀ k ∈ bs, w'.heap[k]? = w.heap[k]?) : MemAt w' B m bs l := by
  obtain ⟨lv, h1, h2, ⟨rfl, rfl, rfl⟩ | ⟨b2, g, cap, rfl, k1, k2, k3, k4, k5, k6, k7, rfl⟩⟩ := h
  · exact ⟨_, (rowAt_same (hk m (by simp))).trans h1, h2, .inl ⟨rfl, rfl, rfl⟩⟩
  · exact ⟨_, (rowAt_same (hk m (by simp))).trans h1, h2, .inr ⟨b2, g, cap, rfl, (rowAt_same (hk b2 (by simp))).trans k1, k2, own_same k3 (hk g (by simp)), k4, k5, k6, k7, rfl⟩⟩
theorem MemAt.below {w w' : World} {B m : Nat} {bs : List Nat} {l : List Ent} (h : MemAt w B m bs l) (k : Below w.heap.size w w') : MemAt w' B m bs l :=
  h.kept fun b hb => k.block b (h.lt b hb).2
theorem MemAt.size {w : World} {B m : Nat} {bs : List Nat} {l : List Ent} (h : MemAt w B m bs l) : w.cell? ⟨m, 1, none⟩ = some (.int .i64 (costs l)) := by
  obtain ⟨lv, h1, _⟩ := h
  exact cell_of_rowAt h1 1
/-- The lists, as lists that lie in memory. -/
theorem MemAt.lists {w : World} {B m : Nat} {bs : List Nat} {l : List Ent} (h : MemAt w B m bs l) : ∃ lv ls, w.cell? ⟨m, 0, none⟩ = some lv ∧ EntssAt w lv ls ∧ ls.flatten = l ∧ ls.length ≤ 1 ∧ sumE ls = l.length ∧ ∀ x ∈ ls, x = l := by
  obtain ⟨lv, h1, h2, ⟨rfl, rfl, rfl⟩ | ⟨b2, g, cap, rfl, k1, k2, k3, k4, k5, k6, k7, rfl⟩⟩ := h
  · exact ⟨_, [], cell_of_rowAt h1 0, ⟨none, 0, rfl, Nat.le_refl _, Nat.zero_le _, fun i f hi => by simp at hi⟩, rfl, by simp, by simp [sumE], fun x hx => by simp at hx⟩
  · refine ⟨_, [l], cell_of_rowAt h1 0, ⟨_, 1, rfl, Nat.le_refl _, by decide, fun i x hi => ?_⟩, by simp, by simp, by simp [sumE], fun x hx => by simpa using hx⟩
    have h0 : i = 0 := by
      have := (List.getElem?_eq_some_iff.1 hi).1
      simp at this
      exact this
    subst h0
    obtain rfl : l = x := by simpa using hi
    exact ⟨b2, 0, _, rfl, cell_of_rowAt k1 0, k3.lie⟩
set_option maxRecDepth 100000 in
theorem memSize_any (B m : Nat) (bs : List Nat) (l : List Ent) (w : World) (h : MemAt w B m bs l) : Calls Try.prog 11 #[.pointer (some ⟨m, 0, none⟩)] w fun e w' => e = .returned (.int .i64 (costs l)) ∧ Below w.heap.size w w' := by
  have h1 := h.size
  clear h
  have b0 := Below.refl w.heap.size w
  generalize costs l = c at *
  go_enter Try.func11, Try.ntmps11
  go_wp2_with fail
  go_ret
  exact ⟨rfl, b0⟩
set_option maxRecDepth 100000 in
theorem memAll_any (B m : Nat) (bs : List Nat) (l : List Ent) (w : World) (h : MemAt w B m bs l) (hn : l.length ≤ 1000000) (hs : ∀ x ∈ l, smallE x) : Calls Try.prog 14 #[.pointer (some ⟨m, 0, none⟩)] w fun e w' => ∃ v', e = .returned v' ∧ OwnEnts w' w.heap.size v' l ∧ Below w.heap.size w w' := by
  obtain ⟨lv, ls, h1, h2, h3, h4, h5, h6⟩ := h.lists
  have HO := Lib.hid (mOwned_any lv ls w h2 (by omega) (by omega) (fun x hx => by rw [h6 x hx]; exact hs))
  rw [h3] at HO
  clear h h2 h3 h4 h5 h6 hs
  go_enter Try.func14, Try.ntmps14
  go_wp2_with fail
  refine HO.out.mono ?_
  rintro e w1 ⟨v', rfl, ow, b1⟩
  clear HO h1
  go_wp2_with fail
  go_ret
  exact ⟨v', rfl, ow, b1⟩
set_option maxRecDepth 100000 in
set_option maxHeartbeats 1000000 in
theorem memClear_any (B m : Nat) (bs : List Nat) (l : List Ent) (w : World) (h : MemAt w B m bs l) : Calls Try.prog 6 #[.pointer (some ⟨m, 0, none⟩)] w fun e w' => e = .returned (.tuple #[]) ∧ MemAt w' B m [m] [] ∧ w.grownBy w' (some m) := by
  obtain ⟨lv, h1, h2, -⟩ := h
  have c0 := cell_of_rowAt h1 0
  have c1 := cell_of_rowAt h1 1
  have f0 := frozen_of_rowAt h1 0
  have f1 := frozen_of_rowAt h1 1
  have HR := Lib.hid h1
  obtain ⟨ty, hh⟩ := heap_of_rowAt h1
  have HH := Lib.hid hh
  simp at c0 c1
  clear h1 hh
  go_enter Try.func6, Try.ntmps6
  go_wp2_with fail
  go_end0
  have r1 := rowAt_setCell_same HR.out 0 (.slice none 0 0)
  have r2 := rowAt_setCell_same r1 1 (.int .i64 0)
  refine ⟨rfl, ⟨_, r2, h2, .inl ⟨rfl, rfl, rfl⟩⟩, ?_⟩
  exact ⟨rfl, rfl, rfl, by simp [World.setCell], fun k _ hk => by
    have hkm : ¬ m = k := fun e => hk (by rw [e])
    simp [World.setCell, Array.getElem?_modify, hkm]⟩
set_option maxRecDepth 100000 in
set_option maxHeartbeats 2000000 in
theorem searchP_any (n : Nat) (p : Nat → Bool) (A B : Value) (w : World) (hn : n ≤ 1000000)
    (hf : ∀ W, Below w.heap.size w W → ∀ i, i < n → Calls Try.prog 30 #[.int .i64 i, A, B] W fun e w' => e = .returned (.bool (p i)) ∧ Below W.heap.size W w')
    (hm : ∀ a b, a ≤ b → b < n → p a = true → p b = true) :
    Calls Try.prog 29 #[.int .i64 n, .func (.func 30) #[] #[A, B]] w fun e w' => (∃ c : Nat, e = .returned (.int .i64 c) ∧ c ≤ n ∧ (∀ t, t < c → p t = false) ∧ (∀ t, c ≤ t → t < n → p t = true)) ∧ Below w.heap.size w w' := by
  have HF := Lib.hid hf
  have HM := Lib.hid hm
  have hn1 : (n : Int) ≤ 1000000 := by omega
  clear hf hm
  go_enter Try.func29, Try.ntmps29
  go_wp2_with fail
  go_loopw [5, 6] (fun x y wr => ∃ i j : Nat, x = .int .i64 i ∧ y = .int .i64 j ∧ i ≤ j ∧ j ≤ n ∧ Hid ((∀ t, t < i → p t = false) ∧ (∀ t, j ≤ t → t < n → p t = true)) ∧ Below w.heap.size w wr) (fun x y _ => (intOf y - intOf x).toNat)
  case atStart => exact ⟨0, n, rfl, rfl, Nat.zero_le _, Nat.le_refl _, Lib.hid ⟨fun t h => absurd h (Nat.not_lt_zero _), fun t h1 h2 => by omega⟩, Below.refl _ _⟩
  case round =>
    obtain ⟨i, j, rfl, rfl, hij, hj, HI, b1⟩ := hrel
    by_cases hlt : i < j
    · have h1 : (i : Int) < j := by omega
      have h2 : (i : Int) + j ≤ 2000000 := by omega
      have h0 : (0 : Int) ≤ (i : Int) + j := by omega
      obtain ⟨m, hm⟩ : ∃ m, (i + j) / 2 = m := ⟨_, rfl⟩
      have hm1 : ((i : Int) + j) / 2 = m := by omega
      have hmi : i ≤ m := by omega
      have hmj : m < j := by omega
      have hm2 : (m : Int) ≤ 1000000 := by omega
      have HFM := Lib.hid (HF.out wr b1 m (by omega))
      clear hm
      go_wp2_with fail
      refine HFM.out.mono ?_
      rintro e w1 ⟨rfl, b2⟩
      have b3 := below_past b1 b2 b1.size
      clear HFM b1 b2
      cases hp : p m with
      | false =>
        have HI2 : Hid ((∀ t, t < m + 1 → p t = false) ∧ (∀ t, j ≤ t → t < n → p t = true)) := Lib.hid ⟨(fun t ht => by
          cases h : p t with
          | false => rfl
          | true =>
            have := HM.out t m (by omega) (by omega) h
            rw [hp] at this
            cases this), HI.out.2⟩
        clear hp
        go_wp2_with fail
        exact ⟨⟨m + 1, j, by go_num, rfl, by omega, hj, HI2, b3⟩, by simp [intOf]; omega⟩
      | true =>
        have HI2 : Hid ((∀ t, t < i → p t = false) ∧ (∀ t, m ≤ t → t < n → p t = true)) := Lib.hid ⟨HI.out.1, fun t h1 h2 => HM.out m t h1 h2 hp⟩
        clear hp
        go_wp2_with fail
        exact ⟨⟨i, m, rfl, rfl, hmi, by omega, HI2, b3⟩, by simp [intOf]; omega⟩
    · obtain rfl : i = j := by omega
      go_wp2_with fail
      go_ret
      exact ⟨⟨i, rfl, hj, HI.out.1, HI.out.2⟩, b1⟩
set_option maxRecDepth 100000 in
set_option maxHeartbeats 1000000 in
theorem memPlace1_any (ba bb m b2 g n cap : Nat) (sx sk : ByteArray) (W : World) (ha : W.cell? ⟨ba, 0, none⟩ = some (.pointer (some ⟨m, 0, none⟩))) (hb : W.cell? ⟨bb, 0, none⟩ = some (.string sk)) (h1 : W.cell? ⟨m, 0, none⟩ = some (.slice (some ⟨b2, 0, none⟩) 1 1)) (h2 : W.cell? ⟨b2, 0, none⟩ = some (.slice (some ⟨g, 0, none⟩) n cap)) (h3 : W.cell? ⟨g, 0, none⟩ = some (.string sx)) (hn : 0 < n) :
    Calls Try.prog 30 #[.int .i64 0, .pointer (some ⟨ba, 0, none⟩), .pointer (some ⟨bb, 0, none⟩)] W fun e w' => e = .returned (.bool (!Go.Op.bytesLess sx.toList sk.toList && !sx.toList == sk.toList)) ∧ Below W.heap.size W w' := by
  have y0 := fun y : Past W => (y.h.cell (p := ⟨ba, 0, none⟩) (cellLt ha)).trans ha
  have y1 := fun y : Past W => (y.h.cell (p := ⟨bb, 0, none⟩) (cellLt hb)).trans hb
  have y2 := fun y : Past W => (y.h.cell (p := ⟨m, 0, none⟩) (cellLt h1)).trans h1
  have y3 := fun y : Past W => (y.h.cell (p := ⟨b2, 0, none⟩) (cellLt h2)).trans h2
  have y4 := fun y : Past W => (y.h.cell (p := ⟨g, 0, none⟩) (cellLt h3)).trans h3
  have hni : (0 : Int) < n := by omega
  clear ha hb h1 h2 h3
  go_enter Try.func30, Try.ntmps30
  go_upto_region 1 with fail
  refine wp_region_past (by kernel_rfl) (by kernel_rfl) ?_
  repeat (go_big_quiet_step (fail))
  refine wpQuiet_nil ?_
  intro w2 hw2
  obtain ⟨⟨wn, hn⟩, rfl⟩ := hw2
  try dsimp only
  clear y0 y1 y2 y3 y4
  go_wp2_with fail
  go_ret
  exact ⟨rfl, hn⟩
set_option maxRecDepth 100000 in
set_option maxHeartbeats 1000000 in
theorem memPlace_any (B m : Nat) (bs : List Nat) (l : List Ent) (k : List UInt8) (w : World) (h : MemAt w B m bs l) (hn : 0 < l.length) : Calls Try.prog 21 #[.pointer (some ⟨m, 0, none⟩), .string (stx k)] w fun e w' => e = .returned (.int .i64 0) ∧ Below w.heap.size w w' := by
  have b1 : Below w.heap.size w ((w.alloc (.cells #[.pointer (some ⟨m, 0, none⟩)] 44)).alloc (.cells #[.string (stx k)] 9)) := ((Below.refl _ _).alloc (Nat.le_refl _) _).alloc (by simp only [World.size_alloc]; omega) _
  have c0 : ((w.alloc (.cells #[.pointer (some ⟨m, 0, none⟩)] 44)).alloc (.cells #[.string (stx k)] 9)).cell? ⟨w.heap.size, 0, none⟩ = some (.pointer (some ⟨m, 0, none⟩)) := cell_of_rowAt ((rowAt_alloc_past _ _ _ (by simp only [World.size_alloc]; omega)).trans (rowAt_alloc_at _ _ _ _ rfl)) 0
  have c1 : ((w.alloc (.cells #[.pointer (some ⟨m, 0, none⟩)] 44)).alloc (.cells #[.string (stx k)] 9)).cell? ⟨w.heap.size + 1, 0, none⟩ = some (.string (stx k)) := cell_of_rowAt (rowAt_alloc_at _ _ _ _ (by simp only [World.size_alloc])) 0
  have hm := h.below b1
  obtain ⟨lv, h1, h2, ⟨rfl, rfl, rfl⟩ | ⟨b2, g, cap, rfl, k1, k2, k3, k4, k5, k6, k7, rfl⟩⟩ := hm
  · simp at hn
  obtain ⟨x, hx⟩ : ∃ x, l[0]? = some x := ⟨_, List.getElem?_eq_getElem hn⟩
  obtain ⟨ao', cap', e1, e2, e3, e4⟩ := k3.lie
  obtain ⟨g', o', rfl, e5⟩ := e4 0 x hx
  obtain ⟨⟨rfl, rfl⟩, -, rfl⟩ : (g = g' ∧ 0 = o') ∧ l.length = l.length ∧ cap = cap' := by simpa using e1
  have q1 := cell_of_rowAt h1 0
  have q2 := cell_of_rowAt k1 0
  have q3 := e5.1
  simp only [Nat.zero_mul, Nat.add_zero] at q3
  have HS := Lib.hid (searchP_any 1 (fun _ => (!Go.Op.bytesLess (stx x.key).toList (stx k).toList && !(stx x.key).toList == (stx k).toList)) (.pointer (some ⟨w.heap.size, 0, none⟩)) (.pointer (some ⟨w.heap.size + 1, 0, none⟩)) _ (by decide) (fun W hW i hi => by
    obtain rfl : i = 0 := by omega
    exact memPlace1_any _ _ m b2 g l.length cap (stx x.key) (stx k) W ((hW.cell (p := ⟨w.heap.size, 0, none⟩) (cellLt c0)).trans c0) ((hW.cell (p := ⟨w.heap.size + 1, 0, none⟩) (cellLt c1)).trans c1) ((hW.cell (p := ⟨m, 0, none⟩) (cellLt q1)).trans q1) ((hW.cell (p := ⟨b2, 0, none⟩) (cellLt q2)).trans q2) ((hW.cell (p := ⟨g, 0, none⟩) (cellLt q3)).trans q3) hn) (fun a b _ hb hp => hp))
  have q1' := q1
  clear h h1 h2 k1 k2 k3 k4 k5 k6 k7 q2 q3 e2 e3 e4 e5 hx e1
  go_enter Try.func21, Try.ntmps21
  go_wp2_with fail
  refine HS.out.mono ?_
  rintro e w1 ⟨⟨c, rfl, q4, q5, q6⟩, b2'⟩
  have b3 := below_past b1 b2' b1.size
  clear HS q5 q6 b1 b2' c0 c1 q1 q1'
  have hci : (c : Int) ≤ 1 := by omega
  have hmax : max ((c : Int) - 1) 0 = 0 := by omega
  go_wp2_with fail
  go_ret
  exact ⟨rfl, b3⟩
set_option maxRecDepth 100000 in
theorem memHalve_any (B m : Nat) (bs : List Nat) (l : List Ent) (w : World) (h : MemAt w B m bs l) (hn : 0 < l.length) (hl : l.length ≤ 512) : Calls Try.prog 24 #[.pointer (some ⟨m, 0, none⟩), .int .i64 0] w fun e w' => e = .returned (.tuple #[]) ∧ Below w.heap.size w w' := by
  obtain ⟨lv, h1, h2, ⟨rfl, rfl, rfl⟩ | ⟨b2, g, cap, rfl, k1, k2, k3, k4, k5, k6, k7, rfl⟩⟩ := h
  · simp at hn
  have q1 := cell_of_rowAt h1 0
  have q2 := cell_of_rowAt k1 0
  have b0 := Below.refl w.heap.size w
  obtain ⟨n, hnn⟩ : ∃ n, l.length = n := ⟨_, rfl⟩
  rw [hnn] at q2 hl
  have hli : (n : Int) ≤ 512 := by omega
  simp at q1 q2
  clear h1 k1 k2 k3 k4 k5 k6 k7 hn hl hnn
  go_enter Try.func24, Try.ntmps24
  go_wp2_with fail
  exact bodyPost_ret (results_none rfl _ _ _) rfl ⟨rfl, b0⟩
set_option maxRecDepth 100000 in
set_option maxHeartbeats 2000000 in
theorem memGet_any (B m : Nat) (bs : List Nat) (l : List Ent) (k : List UInt8) (w : World) (h : MemAt w B m bs l) (hr : rising l) (hl : l.length ≤ 1000000) (hs : smallB l) : Calls Try.prog 9 #[.pointer (some ⟨m, 0, none⟩), .string (stx k)] w fun e w' => e = .returned (FindR (look l k)) ∧ Below w.heap.size w w' := by
  have b0 : Below w.heap.size w (w.alloc (.cells #[.string ⟨#[]⟩, .string ⟨#[]⟩, .bool false] 28)) := (Below.refl _ _).alloc (Nat.le_refl _) _
  have hx0 : (w.alloc (.cells #[.string ⟨#[]⟩, .string ⟨#[]⟩, .bool false] 28)).heap[w.heap.size]? = some (.cells #[.string ⟨#[]⟩, .string ⟨#[]⟩, .bool false] 28) := heap_alloc_new w _
  have hm := h.below b0
  obtain ⟨R, hR⟩ : ∃ R, look l k = R := ⟨_, rfl⟩
  rw [hR]
  obtain ⟨lv, h1, h2, ⟨rfl, rfl, rfl⟩ | ⟨b2, g, cap, rfl, k1, k2, k3, k4, k5, k6, k7, rfl⟩⟩ := id hm
  · rw [look_nil] at hR
    subst hR
    have q1 := cell_of_rowAt h1 0
    simp at q1
    clear h h1 h2 hr hs hm
    have a0 := (Lib.cell_of_heap hx0 0).trans (rfl : _ = some (Value.string ⟨#[]⟩))
    have a1 := (Lib.cell_of_heap hx0 1).trans (rfl : _ = some (Value.string ⟨#[]⟩))
    have a2 := (Lib.cell_of_heap hx0 2).trans (rfl : _ = some (Value.bool false))
    have f0 := Lib.frozen_of_heap hx0 0
    have f1 := Lib.frozen_of_heap hx0 1
    have f2 := Lib.frozen_of_heap hx0 2
    go_enter Try.func9, Try.ntmps9
    go_wp2_with fail
    exact row_ent_tmp rfl rfl rfl rfl (rowAt_of_heap hx0) rfl ⟨rfl, b0⟩
  · have q1 := cell_of_rowAt h1 0
    have q2 := cell_of_rowAt k1 0
    have HP : Hid (∀ y : World, Below (w.alloc (.cells #[.string ⟨#[]⟩, .string ⟨#[]⟩, .bool false] 28)).heap.size (w.alloc (.cells #[.string ⟨#[]⟩, .string ⟨#[]⟩, .bool false] 28)) y → Calls Try.prog 21 #[.pointer (some ⟨m, 0, none⟩), .string (stx k)] y fun e w' => e = .returned (.int .i64 0) ∧ Below y.heap.size y w') := Lib.hid fun y hy => memPlace_any B m [m, b2, g] l k y (hm.below hy) k4
    have HF : Hid (∀ y : World, Below (w.alloc (.cells #[.string ⟨#[]⟩, .string ⟨#[]⟩, .bool false] 28)).heap.size (w.alloc (.cells #[.string ⟨#[]⟩, .string ⟨#[]⟩, .bool false] 28)) y → Calls Try.prog 25 #[.slice (some ⟨g, 0, none⟩) l.length cap, .string (stx k)] y fun e w' => e = .returned (FindR R) ∧ Below y.heap.size y w') := Lib.hid fun y hy => by rw [← hR]; exact kFind_any _ l k y (k3.lie.below hy) hr hl hs
    obtain ⟨n, hnn⟩ : ∃ n, l.length = n := ⟨_, rfl⟩
    rw [hnn] at q2 HF
    simp at q1 q2
    have HR2 : ∃ a b, FindR R = .tuple #[a, b] ∧ (∃ c0 c1 c2, a = .agg #[.string c0, .string c1, .bool c2]) := by
      cases R with
      | none => exact ⟨_, _, rfl, _, _, _, rfl⟩
      | some x => exact ⟨_, _, rfl, _, _, _, rfl⟩
    obtain ⟨ra, rb, hra, c0, c1, c2, rfl⟩ := HR2
    rw [hra] at HF ⊢
    have y1 := fun y : Past (w.alloc (.cells #[.string ⟨#[]⟩, .string ⟨#[]⟩, .bool false] 28)) => (y.h.cell (p := ⟨m, 0, none⟩) (cellLt q1)).trans q1
    have y2 := fun y : Past (w.alloc (.cells #[.string ⟨#[]⟩, .string ⟨#[]⟩, .bool false] 28)) => (y.h.cell (p := ⟨b2, 0, none⟩) (cellLt q2)).trans q2
    clear h h1 k1 k2 k3 k4 k5 k6 k7 hr hs hnn hm h2 hR hl hra
    go_enter Try.func9, Try.ntmps9
    go_upto_region 3 with fail
    generalize (w.alloc (.cells #[.string ⟨#[]⟩, .string ⟨#[]⟩, .bool false] 28)) = W at *
    clear q1 q2
    refine wp_region_wildL [] 13 (by kernel_rfl) (by kernel_rfl) ?_
    simp only [List.take_succ_cons, List.take_zero]
    iterate 6 (refine wildL_val (by decide) (by kernel_rfl) rfl ?_; intro K hK; go_big_quiet_op; go_big_quiet_on)
    refine wildL_call (by decide) (by kernel_rfl) (by kernel_rfl) ?_
    apply Exists.intro
    refine And.intro ?_ ?_
    focus
      intro x K hK
      go_big_quiet_op
      go_big_quiet_call (exact call_back (HP.out _ (Past.two _)))
      rfl
    iterate 3 (refine wildL_val (by decide) (by kernel_rfl) rfl ?_; intro K hK; go_big_quiet_op; go_big_quiet_on)
    refine wildL_call (by decide) (by kernel_rfl) (by kernel_rfl) ?_
    apply Exists.intro
    refine And.intro ?_ ?_
    focus
      intro x K hK
      go_big_quiet_op
      go_big_quiet_call (exact call_back (HF.out _ (Past.two _)))
      rfl
    iterate 2 (refine wildL_val (by decide) (by kernel_rfl) rfl ?_; intro K hK; go_big_quiet_op; go_big_quiet_on)
    refine wildL_nil ?_
    simp only [List.drop_succ_cons, List.drop_zero]
    rintro ⟨z, hz⟩
    dsimp only
    have hx3 := (hz.block _ (heap_ltF hx0)).trans hx0
    have b4 := below_past b0 hz b0.size
    have a0 := (Lib.cell_of_heap hx3 0).trans (rfl : _ = some (Value.string ⟨#[]⟩))
    have a1 := (Lib.cell_of_heap hx3 1).trans (rfl : _ = some (Value.string ⟨#[]⟩))
    have a2 := (Lib.cell_of_heap hx3 2).trans (rfl : _ = some (Value.bool false))
    have f0 := Lib.frozen_of_heap hx3 0
    have f1 := Lib.frozen_of_heap hx3 1
    have f2 := Lib.frozen_of_heap hx3 2
    clear y1 y2 hx0 b0 hz HP HF
    go_wp2_with fail
    refine row_ent_tmp rfl rfl rfl rfl (rowAt_of_heap (heap_putF (heap_putF (heap_putF hx3 _) _) _)) rfl ⟨?_, ((b4.setCell (p := ⟨w.heap.size, 0, none⟩) (Nat.le_refl w.heap.size) _).setCell (p := ⟨w.heap.size, 1, none⟩) (Nat.le_refl w.heap.size) _).setCell (p := ⟨w.heap.size, 2, none⟩) (Nat.le_refl w.heap.size) _⟩
    rfl
end Go.Proofs.Ytpfkomglghmnfaa
