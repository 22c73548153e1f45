/- May a key be in a filter? Conditions: none. -/
import Derived.Test.YtdedlekelkaabaaBloom2
import Derived.RangeFuncFrom
namespace Go.Proofs.Ytdedlekelkaabaa
open Go Go.RowKit Go.Shelf
attribute [local go_sem] Oper.semAt_some

def goodB (p : Int) (n : Nat) : Bool := decide (1 ≤ p ∧ p ≤ 16 ∧ 1 ≤ n ∧ n ≤ 8192)
set_option maxRecDepth 100000 in
theorem good_any (p : Int) (ao : Option Addr) (n cap : Nat) (w : World) :
    Calls Try.prog 14 #[.agg #[.int .i64 p, .slice ao n cap]] w fun e w' => e = .returned (.bool (goodB p n)) ∧ Below w.heap.size w w' := by
  by_cases h : 1 ≤ p
  · have q1 : decide (1 ≤ p) = true := decide_eq_true h
    by_cases h2 : p ≤ 16
    · have q2 : decide (p ≤ 16) = true := decide_eq_true h2
      by_cases h3 : 1 ≤ n
      · have q3 : decide ((1 : Int) ≤ n) = true := decide_eq_true (by omega)
        by_cases h4 : n ≤ 8192
        · have q4 : decide ((n : Int) ≤ 8192) = true := decide_eq_true (by omega)
          have hg : goodB p n = true := decide_eq_true ⟨h, h2, h3, h4⟩
          clear h2 h3 h4
          rw [hg]
          clear h
          go_enter Try.func14, Try.ntmps14
          go_wp2_with fail
          go_ret
          exact ⟨rfl, (Below.refl _ _).alloc (Nat.le_refl _) _⟩
        · have q4 : decide ((n : Int) ≤ 8192) = false := decide_eq_false (by omega)
          have hg : goodB p n = false := decide_eq_false (fun e => h4 e.2.2.2)
          clear h2 h3 h4
          rw [hg]
          clear h
          go_enter Try.func14, Try.ntmps14
          go_wp2_with fail
          go_ret
          exact ⟨rfl, (Below.refl _ _).alloc (Nat.le_refl _) _⟩
      · have q3 : decide ((1 : Int) ≤ n) = false := decide_eq_false (by omega)
        have hg : goodB p n = false := decide_eq_false (fun e => h3 e.2.2.1)
        clear h2 h3
        rw [hg]
        clear h
        go_enter Try.func14, Try.ntmps14
        go_wp2_with fail
        go_ret
        exact ⟨rfl, (Below.refl _ _).alloc (Nat.le_refl _) _⟩
    · have q2 : decide (p ≤ 16) = false := decide_eq_false h2
      have hg : goodB p n = false := decide_eq_false (fun e => h2 e.2.1)
      clear h2
      rw [hg]
      clear h
      go_enter Try.func14, Try.ntmps14
      go_wp2_with fail
      go_ret
      exact ⟨rfl, (Below.refl _ _).alloc (Nat.le_refl _) _⟩
  · have q1 : decide (1 ≤ p) = false := decide_eq_false h
    have hg : goodB p n = false := decide_eq_false (fun e => h e.1)
    rw [hg]
    clear h
    go_enter Try.func14, Try.ntmps14
    go_wp2_with fail
    go_ret
    exact ⟨rfl, (Below.refl _ _).alloc (Nat.le_refl _) _⟩

/-- Bytes that lie in a row. -/
def BytesIn (w : World) (ao : Option Addr) (bs : List UInt8) : Prop := ∀ i, i < bs.length → ∃ g o, ao = some ⟨g, o, none⟩ ∧ w.cell? ⟨g, o + i, none⟩ = some (.int .u8 ((bs.getD i 0).toNat : Int))
def bitK (bs : List UInt8) (k : Nat) : Bool := (bs.getD (k / 8) 0).toNat / 2 ^ (k % 8) % 2 == 1
def mayB (bs : List UInt8) (H : UInt64) (p : Nat) : Bool := (List.range p).all fun i => bitK bs (plQ H (8 * bs.length) i).toNat
def mayF (p : Int) (bs : List UInt8) (H : UInt64) : Bool := !goodB p bs.length || mayB bs H p.toNat

theorem bit_and : ∀ (c : Fin 256) (j : Fin 8), bits .and .u8 ((c.val : Int) / 2 ^ j.val) 1 = ((c.val / 2 ^ j.val % 2 : Nat) : Int) := by decide +kernel
theorem byte_bit (c : UInt8) (k : Nat) : bits .and .u8 ((c.toNat : Int) / 2 ^ (k % 8)) 1 = ((c.toNat / 2 ^ (k % 8) % 2 : Nat) : Int) :=
  bit_and ⟨c.toNat, c.toNat_lt⟩ ⟨k % 8, Nat.mod_lt _ (by decide)⟩
theorem own_heap {β : Type} (b : Nat) (cs : Array Value) (T : TypeId) (fr : Nat × Nat) : Own (fun (_ : β) (W : World) => W.heap[b]? = some (.cells cs T fr)) := by
  intro s W W' row hs hg hr
  have hlt := (Array.getElem?_eq_some_iff.1 hs).1
  refine (hg.block b hlt fun e => ?_).trans hs
  obtain ⟨o, ho, hc⟩ := hr b e.symm
  rw [hs] at ho
  obtain rfl := Option.some.inj ho
  cases hc

set_option maxRecDepth 100000 in
set_option maxHeartbeats 4000000 in
theorem may_good (p : Nat) (ao : Option Addr) (cap : Nat) (bs : List UInt8) (key : ByteArray) (w : World) (hs : key.size ≤ 281474976710656) (hB : BytesIn w ao bs) (hg : goodB p bs.length = true) :
    Calls Try.prog 12 #[.agg #[.int .i64 p, .slice ao bs.length cap], .string key] w fun e w' => e = .returned (.bool (mayB bs (hashL key.data.toList) p)) ∧ Below w.heap.size w w' := by
  have hgd := of_decide_eq_true hg
  have HG : ∀ w, Hid (Calls Try.prog 14 #[.agg #[.int .i64 p, .slice ao bs.length cap]] w fun e w' => e = .returned (.bool true) ∧ Below w.heap.size w w') := fun w => Lib.hid (by
    have := good_any p ao bs.length cap w
    rwa [hg] at this)
  have HP : ∀ w, Hid (Calls Try.prog 24 #[.agg #[.int .i64 p, .slice ao bs.length cap], .string key] w fun e w' => e = .returned (.func (.func 36) #[] #[.pointer (some ⟨w.heap.size, 0, none⟩), .pointer (some ⟨w.heap.size + 1, 0, none⟩), .pointer (some ⟨w.heap.size + 1 + 1, 0, none⟩)]) ∧
      w' = ((w.alloc (.cells #[.int .i64 p, .slice ao bs.length cap] 26)).alloc (.cells #[.int .u64 (qv (hashL key.data.toList))] 60)).alloc (.cells #[.int .u64 (qv (strideQ (hashL key.data.toList)))] 60)) := fun w => Lib.hid (places_any p _ key w hs)
  generalize hashL key.data.toList = H at *
  obtain ⟨n, hn⟩ : ∃ n, bs.length = n := ⟨_, rfl⟩
  rw [hn] at hgd
  have HN := Lib.hid hn
  have HB := Lib.hid hB
  have hn1 : 0 < n := by omega
  have hn2 : n ≤ 8192 := hgd.2.2.2
  have hp1 : p ≤ 16 := by have := hgd.2.1; omega
  rw [hn] at HG HP ⊢
  clear hs hB hg hgd hn
  have h3 : Fence.wide.fn 12 := trivial
  refine (callsIn_wide (n := 6)).1 ?_
  refine callsIn_of_wp_marks Try.func12 rfl h3 ?_ rfl
  simp only [Try.ntmps12, List.size_toArray, List.length_cons, List.length_nil, Nat.reduceAdd, Nat.reduceSub, Array.replicate_succ, Array.replicate_zero, List.push_toArray, List.append_toArray, List.nil_append, List.cons_append]
  gi_wp2
  have a1 : Below w.heap.size w ((w.alloc (.cells #[.int .i64 p, .slice ao n cap] 26)).alloc (.cells #[.bool false] 4)) := ((Below.refl _ _).alloc (Nat.le_refl _) _).alloc (by simp only [World.size_alloc]; omega) _
  have x0 : ((w.alloc (.cells #[.int .i64 p, .slice ao n cap] 26)).alloc (.cells #[.bool false] 4)).heap[w.heap.size]? = some (.cells #[.int .i64 p, .slice ao n cap] 26 (0, 0)) := (Below.heap_alloc _ _ _ (by simp)).trans (World.alloc_heap_new w _)
  have x1 : ((w.alloc (.cells #[.int .i64 p, .slice ao n cap] 26)).alloc (.cells #[.bool false] 4)).heap[w.heap.size + 1]? = some (.cells #[.bool false] 4 (0, 0)) := by
    have := World.alloc_heap_new (w.alloc (.cells #[.int .i64 p, .slice ao n cap] 26)) (.cells #[.bool false] 4)
    rwa [World.size_alloc] at this
  generalize ((w.alloc (.cells #[.int .i64 p, .slice ao n cap] 26)).alloc (.cells #[.bool false] 4)) = W0 at *
  have hW0 : w.heap.size + 1 < W0.heap.size := (Array.getElem?_eq_some_iff.1 x1).1
  refine ⟨trivial, ?_⟩
  refine (callsIn_wide.2 (HG _).out).mono ?_
  rintro e w1 ⟨rfl, b1⟩
  have y0 := (b1.block _ (by omega)).trans x0
  have y1 := (b1.block _ hW0).trans x1
  have a2 := below_past a1 b1 a1.size
  have hw1 := Nat.lt_of_lt_of_le hW0 b1.size
  clear HG x0 x1 a1 b1 hW0
  have c0 : w1.cell? ⟨w.heap.size, 0, none⟩ = some (.int .i64 p) := (Lib.cell_of_heap y0 0).trans rfl
  have c1 : w1.cell? ⟨w.heap.size, 1, none⟩ = some (.slice ao n cap) := (Lib.cell_of_heap y0 1).trans rfl
  gi_wp2
  refine ⟨trivial, ?_⟩
  refine (callsIn_wide.2 (HP _).out).mono ?_
  rintro e w2 ⟨rfl, rfl⟩
  have a3 : Below w1.heap.size w1 (((w1.alloc (.cells #[.int .i64 p, .slice ao n cap] 26)).alloc (.cells #[.int .u64 (qv H)] 60)).alloc (.cells #[.int .u64 (qv (strideQ H))] 60)) := (((Below.refl _ _).alloc (Nat.le_refl _) _).alloc (by simp only [World.size_alloc]; omega) _).alloc (by simp only [World.size_alloc]; omega) _
  have t1 : TakenQ (((w1.alloc (.cells #[.int .i64 p, .slice ao n cap] 26)).alloc (.cells #[.int .u64 (qv H)] 60)).alloc (.cells #[.int .u64 (qv (strideQ H))] 60)) w1.heap.size p (.slice ao n cap) H := by
    refine ⟨(Below.heap_alloc _ _ _ (by simp; omega)).trans ((Below.heap_alloc _ _ _ (by simp)).trans (World.alloc_heap_new w1 _)), (Below.heap_alloc _ _ _ (by simp)).trans ?_, ?_⟩
    · have := World.alloc_heap_new (w1.alloc (.cells #[.int .i64 p, .slice ao n cap] 26)) (.cells #[.int .u64 (qv H)] 60)
      rwa [World.size_alloc] at this
    · have := World.alloc_heap_new ((w1.alloc (.cells #[.int .i64 p, .slice ao n cap] 26)).alloc (.cells #[.int .u64 (qv H)] 60)) (.cells #[.int .u64 (qv (strideQ H))] 60)
      rwa [World.size_alloc, World.size_alloc] at this
  have hz2 : (((w1.alloc (.cells #[.int .i64 p, .slice ao n cap] 26)).alloc (.cells #[.int .u64 (qv H)] 60)).alloc (.cells #[.int .u64 (qv (strideQ H))] 60)).heap.size = w1.heap.size + 3 := by simp
  gi_wp2
  generalize (((w1.alloc (.cells #[.int .i64 p, .slice ao n cap] 26)).alloc (.cells #[.int .u64 (qv H)] 60)).alloc (.cells #[.int .u64 (qv (strideQ H))] 60)) = W2 at *
  have z0 := (a3.block _ (by omega)).trans y0
  have z1 := (a3.block _ hw1).trans y1
  have a4 := below_past a2 a3 a2.size
  clear y0 y1 a2 a3 c0 c1 HP
  have hm : 0 < 8 * n ∧ 8 * n < 2 ^ 64 := ⟨by omega, by omega⟩
  obtain ⟨g, o, hgo, _⟩ := HB.out 0 (by rw [HN.out]; exact hn1)
  subst hgo
  have HC : Hid (∀ W, Below w.heap.size w W → ∀ i, i < n → W.cell? ⟨g, o + i, none⟩ = some (.int .u8 ((bs.getD i 0).toNat : Int))) := Lib.hid fun W hW i hi => by
    obtain ⟨g', o', h1, h2⟩ := HB.out i (by rw [HN.out]; exact hi)
    obtain ⟨rfl, rfl⟩ : g = g' ∧ o = o' := by simpa using h1
    exact (hW.cell (p := ⟨g, o + i, none⟩) (cellLt h2)).trans h2
  refine wpIn_rangeFunc_ownF (F := Fence.wide) (n := 6) rfl (by decide) (gf := 36) (lb := #[.pointer (some ⟨w1.heap.size, 0, none⟩), .pointer (some ⟨w1.heap.size + 1, 0, none⟩), .pointer (some ⟨w1.heap.size + 1 + 1, 0, none⟩)]) rfl trivial (enters_of Try.func36 (by kernel_rfl) rfl)
    (iter_stops Fence.wide 5 trivial rfl (by decide) w1.heap.size p n cap (some ⟨g, o, none⟩) H (by omega) hn1 (by omega) hm W2 t1) keepQ_t (keepQ_b (by omega)) (Below.refl _ _) (fun _ => rfl)
    (fun pre W => ((W.heap[w.heap.size]? = some (.cells #[.int .i64 p, .slice (some ⟨g, o, none⟩) n cap] 26 (0, 0)) ∧ W.heap[w.heap.size + 1]? = some (.cells #[.bool false] 4 (0, 0))) ∧ Below w.heap.size w W) ∧ ∀ x ∈ pre, bitK bs x.1.toNat = true)
    (fun c pre W => ((W.heap[w.heap.size + 1]? = some (.cells #[.bool false] 4 (0, 0))) ∧ Below w.heap.size w W) ∧ c = .ret ∧ ∃ x ∈ pre, bitK bs x.1.toNat = false)
    (fun s A B row hs hg hr => ⟨⟨⟨own_heap _ _ _ _ s A B row hs.1.1.1 hg (fun r e => (hr r e).2), own_heap _ _ _ _ s A B row hs.1.1.2 hg (fun r e => (hr r e).2)⟩, ownFrom_below (B := W2.heap.size) (Nat.le_refl _) (by omega) s A B row hs.1.2 hg hr⟩, hs.2⟩)
    (fun c s A B row hs hg hr => ⟨⟨own_heap _ _ _ _ s A B row hs.1.1 hg (fun r e => (hr r e).2), ownFrom_below (B := W2.heap.size) (Nat.le_refl _) (by omega) s A B row hs.1.2 hg hr⟩, hs.2⟩)
    ⟨⟨⟨z0, z1⟩, a4⟩, fun x hx => by cases hx⟩
    (fun x => { tmps := #[.agg #[.int .i64 p, .slice (some ⟨g, o, none⟩) n cap], .string key, .pointer (some ⟨w.heap.size, 0, none⟩), undef, .pointer (some ⟨w.heap.size + 1, 0, none⟩), .int .u64 (qv x.1), .agg #[.int .i64 p, .slice (some ⟨g, o, none⟩) n cap], .bool true, .bool false, .agg #[.int .i64 p, .slice (some ⟨g, o, none⟩) n cap], .string key, .func (.func 36) #[] #[.pointer (some ⟨w1.heap.size, 0, none⟩), .pointer (some ⟨w1.heap.size + 1, 0, none⟩), .pointer (some ⟨w1.heap.size + 1 + 1, 0, none⟩)], .int .u64 (qv x.1), undef, undef, undef, undef, undef, undef, undef, undef, undef, undef, undef], defers := [] }) ?assign ?body ?done ?stop
  case assign =>
    intro l x W K hK
    gi_wp2
    exact hK
  case body =>
    rintro l pre ⟨x, hx⟩ W ⟨⟨⟨i0, i1⟩, i2⟩, i3⟩ _
    have c1 : W.cell? ⟨w.heap.size, 1, none⟩ = some (.slice (some ⟨g, o, none⟩) n cap) := (Lib.cell_of_heap i0 1).trans rfl
    have c2 : W.cell? ⟨w.heap.size + 1, 0, none⟩ = some (.bool false) := (Lib.cell_of_heap i1 0).trans rfl
    have f2 := Lib.frozen_of_heap i1 0
    obtain ⟨k, hk⟩ : ∃ k, x.toNat = k := ⟨_, rfl⟩
    have hkv : qv x = (k : Int) := by rw [← hk]; rfl
    have c3 := HC.out W i2 (k / 8) (by omega)
    obtain ⟨c, hc⟩ : ∃ c, bs.getD (k / 8) 0 = c := ⟨_, rfl⟩
    rw [hc] at c3
    have hk1 : (k : Int) / 8 < n := by omega
    have hk2 : (0 : Int) ≤ k := by omega
    have hcb : (c.toNat : Int) < 256 := by have := c.toNat_lt; omega
    have hand := byte_bit c (k : Nat)
    have hbk : bitK bs k = (c.toNat / 2 ^ (k % 8) % 2 == 1) := by rw [bitK, hc]
    dsimp only
    rw [hkv]
    by_cases hb : c.toNat / 2 ^ (k % 8) % 2 = 1
    · rw [hb] at hand hbk
      have hbk2 : bitK bs k = true := hbk
      clear hb hbk
      gi_wp2
      exact ⟨KeepsOthers.refl _, fun _ _ _ => rfl, ⟨⟨i0, i1⟩, i2⟩, fun y hy => by
        rcases List.mem_append.1 hy with hy | hy
        · exact i3 y hy
        · obtain rfl : y = ⟨x, hx⟩ := by simpa using hy
          show bitK bs x.toNat = true
          rw [hk]
          exact hbk2⟩
    · have hb0 : c.toNat / 2 ^ (k % 8) % 2 = 0 := by omega
      rw [hb0] at hand hbk
      have hbk2 : bitK bs k = false := hbk
      clear hb hb0 hbk
      gi_wp2
      exact ⟨KeepsOthers.setCell _ _ _, ⟨(heap_put i1 (.bool false)).trans rfl, i2.setCell (p := ⟨w.heap.size + 1, 0, none⟩) (Nat.le_succ _) _⟩, rfl, ⟨x, hx⟩, by simp, by show bitK bs x.toNat = false; rw [hk]; exact hbk2⟩
  case done =>
    rintro D ys W hD rfl ⟨⟨⟨i0, i1⟩, i2⟩, i3⟩ hK
    have hmay : mayB bs H p = true := by
      unfold mayB
      rw [List.all_eq_true, HN.out]
      intro i hi
      exact i3 (plT H (8 * n) hm i) (List.mem_map.2 ⟨i, hi, rfl⟩)
    have c2 : W.cell? ⟨w.heap.size + 1, 0, none⟩ = some (.bool false) := (Lib.cell_of_heap i1 0).trans rfl
    have f2 := Lib.frozen_of_heap i1 0
    have HMAY := Lib.hid hmay
    clear hmay
    gi_wp2
    have hK' := (KeepsOthers.setCell W ⟨w.heap.size + 1, 0, none⟩ (.bool true)).same D _ hK rfl
    have hx1 := heap_put (j := 0) i1 (.bool true)
    refine ⟨by simp, .inl ⟨_, _, rfl, run_takeDeferred hK', ?_⟩⟩
    have hc5 := cell_kept ((Lib.cell_of_heap hx1 0).trans rfl) (grownBy_putObj' _ D (.deferred none)) (fun r e => by cases e; exact ⟨_, hK', rfl⟩)
    refine ⟨.bool true, ?_, by rw [HMAY.out], (i2.setCell (p := ⟨w.heap.size + 1, 0, none⟩) (Nat.le_succ _) _).trans (belowK_b (w := w) (Nat.le_refl _) _ D _ _ (by omega) hK' rfl rfl)⟩
    simp [results, Try.f12, go_sem, hc5]
  case stop =>
    rintro D c pre W hD hp ⟨⟨i1, i2⟩, rfl, x, hx, hbx⟩ hK
    have hmay : mayB bs H p = false := by
      unfold mayB
      rw [HN.out]
      have hx2 := hp.subset hx
      unfold plsT at hx2
      obtain ⟨i, hi, rfl⟩ := List.mem_map.1 hx2
      cases hq : (List.range p).all fun i => bitK bs (plQ H (8 * n) i).toNat with
      | false => rfl
      | true =>
        have := List.all_eq_true.1 hq i hi
        rw [show (plT H (8 * n) hm i).1 = plQ H (8 * n) i from rfl, this] at hbx
        cases hbx
    have HMAY := Lib.hid hmay
    clear hmay hp hx hbx
    gi_wp2
    refine ⟨by simp, .inl ⟨_, _, rfl, run_takeDeferred hK, ?_⟩⟩
    have hc5 := cell_kept ((Lib.cell_of_heap i1 0).trans rfl) (grownBy_putObj' _ D (.deferred none)) (fun r e => by cases e; exact ⟨_, hK, rfl⟩)
    refine ⟨.bool false, ?_, by rw [HMAY.out], i2.trans (belowK_b (w := w) (Nat.le_refl _) _ D _ _ (by omega) hK rfl rfl)⟩
    simp [results, Try.f12, go_sem, hc5]
set_option maxRecDepth 100000 in
theorem may_bad (p : Int) (ao : Option Addr) (n cap : Nat) (key : ByteArray) (w : World) (hg : goodB p n = false) :
    Calls Try.prog 12 #[.agg #[.int .i64 p, .slice ao n cap], .string key] w fun e w' => e = .returned (.bool true) ∧ Below w.heap.size w w' := by
  have HG : ∀ w, Hid (Calls Try.prog 14 #[.agg #[.int .i64 p, .slice ao n cap]] w fun e w' => e = .returned (.bool false) ∧ Below w.heap.size w w') := fun w => Lib.hid (by
    have := good_any p ao n cap w
    rwa [hg] at this)
  have a1 : Below w.heap.size w ((w.alloc (.cells #[.int .i64 p, .slice ao n cap] 26)).alloc (.cells #[.bool false] 4)) := ((Below.refl _ _).alloc (Nat.le_refl _) _).alloc (by simp only [World.size_alloc]; omega) _
  have r1 : rowAt ((w.alloc (.cells #[.int .i64 p, .slice ao n cap] 26)).alloc (.cells #[.bool false] 4)) (w.heap.size + 1) = some #[.bool false] := rowAt_alloc_at _ _ _ _ (by simp only [World.size_alloc])
  clear hg
  go_enter Try.func12, Try.ntmps12
  go_wp2_with fail
  generalize ((w.alloc (.cells #[.int .i64 p, .slice ao n cap] 26)).alloc (.cells #[.bool false] 4)) = W0 at *
  refine (HG _).out.mono ?_
  rintro e w1 ⟨rfl, b1⟩
  have r2 := rowAt_past b1 r1
  have a2 := below_past a1 b1 a1.size
  have c2 := cell_of_rowAt r2 0
  have f2 := frozen_of_rowAt r2 0
  clear HG r1 a1 b1 r2
  go_wp2_with fail
  exact bodyPost_ret (v := .bool true) (by simp [results, Try.f12, go_sem, c2]) rfl ⟨rfl, a2.setCell (p := ⟨w.heap.size + 1, 0, none⟩) (Nat.le_succ _) _⟩
theorem may_any (p : Int) (ao : Option Addr) (cap : Nat) (bs : List UInt8) (key : ByteArray) (w : World) (hs : key.size ≤ 281474976710656) (hB : BytesIn w ao bs) :
    Calls Try.prog 12 #[.agg #[.int .i64 p, .slice ao bs.length cap], .string key] w fun e w' => e = .returned (.bool (mayF p bs (hashL key.data.toList))) ∧ Below w.heap.size w w' := by
  unfold mayF
  cases hg : goodB p bs.length with
  | false => exact may_bad p ao bs.length cap key w hg
  | true =>
    have h1 := (of_decide_eq_true hg).1
    obtain ⟨q, rfl⟩ : ∃ q : Nat, p = q := ⟨p.toNat, by omega⟩
    rw [Int.toNat_natCast]
    exact may_good q ao cap bs key w hs hB hg
end Go.Proofs.Ytdedlekelkaabaa
