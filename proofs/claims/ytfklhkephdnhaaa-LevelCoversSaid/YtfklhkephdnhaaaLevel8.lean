/- Levels: the numbers and the size of tables; those of which all that is asked is so. Conditions: none. -/
import Derived.Test.YtfklhkephdnhaaaLevel7
namespace Go.Proofs.Ytfklhkephdnhaaa
open Go Go.RowKit Go.Maps

theorem map_take_succ {α β : Type} (f : α → β) {L : List α} {i : Nat} {x : α} (h : L[i]? = some x) : (L.take (i + 1)).map f = (L.take i).map f ++ [f x] := by
  rw [List.take_add_one, h]
  simp
set_option maxRecDepth 100000 in
set_option maxHeartbeats 2000000 in
theorem lNumbers_any (v : Value) (L : List Fl) (w : World) (h : FlsAt w v L) (hl : L.length ≤ 1000000) :
    Calls Try.prog 32 #[v] w fun e w' => ∃ v', e = .returned v' ∧ OwnNs w' w.heap.size v' (L.map Fl.num) ∧ Below w.heap.size w w' := by
  obtain ⟨ao, cap, rfl, l1, l2, l3⟩ := h
  obtain ⟨n, hn⟩ : ∃ n, L.length = n := ⟨_, rfl⟩
  have HN := Lib.hid hn
  have L3 := Lib.hid l3
  rw [hn] at l1 hl ⊢
  have hli : (n : Int) ≤ 1000000 := by omega
  clear l1 l2 l3 hn
  go_enter Try.func32, Try.ntmps32
  go_wp2_with fail
  generalize hB : w.heap.size = B at *
  have HB := Lib.hid hB
  clear hB
  go_loopw [3, 8] (fun u x wr => ∃ i : Nat, i ≤ n ∧ x = .int .i64 i ∧ OwnNs wr B u ((L.take i).map Fl.num) ∧ Below B w wr) (fun _ x _ => (n - intOf x).toNat)
  case atStart => exact ⟨0, Nat.zero_le _, rfl, ownNs_nil _ _, by rw [← HB.out]; exact Below.refl _ _⟩
  case round =>
    obtain ⟨i, hi, rfl, ow, b1⟩ := hrel
    by_cases hlt : i < n
    · have hlt' : (i : Int) < n := by omega
      obtain ⟨f, hx⟩ : ∃ f, L[i]? = some f := ⟨_, List.getElem?_eq_getElem (by rw [HN.out]; exact hlt)⟩
      obtain ⟨g, o, rfl, hat⟩ := L3.out i f hx
      have hat2 := hat.below (by rw [HB.out]; exact b1)
      obtain ⟨c0, c1, c2, c3, c4⟩ := hat2
      have HX := Lib.hid hx
      have hBr : B ≤ wr.heap.size := by have := b1.size; rw [HB.out] at this; exact this
      clear hat hx
      have b2 := b1.alloc hBr (.cells #[.int .i64 f.num, .int .i64 f.lev, .int .i64 f.size, .string (stx f.first), .string (stx f.last)] 58)
      have hs2 : wr.heap.size + 1 = (wr.alloc (.cells #[.int .i64 f.num, .int .i64 f.lev, .int .i64 f.size, .string (stx f.first), .string (stx f.last)] 58)).heap.size := by simp
      have b3 := b2.alloc (by omega) (.cells #[.int .i64 f.num] 3)
      have ow2 : OwnNs ((wr.alloc (.cells #[.int .i64 f.num, .int .i64 f.lev, .int .i64 f.size, .string (stx f.first), .string (stx f.last)] 58)).alloc (.cells #[.int .i64 f.num] 3)) B _ ((L.take i).map Fl.num) := World.ownsRow.alloc (World.ownsRow.alloc ow _) _
      have k0 : ((wr.alloc (.cells #[.int .i64 f.num, .int .i64 f.lev, .int .i64 f.size, .string (stx f.first), .string (stx f.last)] 58)).alloc (.cells #[.int .i64 f.num] 3)).cell? ⟨wr.heap.size + 1, 0, none⟩ = some (.int .i64 f.num) := by rw [hs2]; exact cell_new _ _ _ 0
      have hB3 : B ≤ ((wr.alloc (.cells #[.int .i64 f.num, .int .i64 f.lev, .int .i64 f.size, .string (stx f.first), .string (stx f.last)] 58)).alloc (.cells #[.int .i64 f.num] 3)).heap.size := by simp; omega
      have hlen : ((L.take i).map Fl.num).length ≤ 1000000 := by rw [List.length_map, List.length_take]; omega
      clear ow b1 b2 hs2
      go_wp2_with (at_builtin; refine wpList_putN rfl _ _ rfl B _ _ rfl ow2 f.num ⟨wr.heap.size + 1, 0, none⟩ 1 rfl k0 hB3 hlen ?_)
      intro v5 w5 hown5 hgrow5 _
      have b5 := ow2.grown hgrow5 b3 hB3
      clear hgrow5 ow2 b3 k0 hB3 hlen
      go_wp2_with fail
      exact ⟨⟨i + 1, hlt, by go_num, by rw [map_take_succ _ HX.out, List.map_take]; exact hown5, b5⟩, by simp [intOf]; omega⟩
    · obtain rfl : i = n := by omega
      go_wp2_with fail
      go_ret
      exact ⟨_, rfl, by rw [HB.out]; rwa [List.take_of_length_le (by rw [HN.out]; exact Nat.le_refl _)] at ow, by rw [HB.out]; exact b1⟩

theorem size_take {L : List Fl} {i : Nat} {f : Fl} (h : L[i]? = some f) : sizeF (L.take (i + 1)) = sizeF (L.take i) + f.size := by
  unfold sizeF
  rw [map_take_succ _ h, List.sum_append]
  simp
theorem size_bound {L : List Fl} (h : ∀ f ∈ L, 0 ≤ f.size ∧ f.size ≤ 1073741824) : 0 ≤ sizeF L ∧ sizeF L ≤ L.length * 1073741824 := by
  induction L with
  | nil => exact ⟨Int.le_refl _, Int.le_refl _⟩
  | cons a r ih =>
    obtain ⟨h1, h2⟩ := ih (fun f hf => h f (List.mem_cons_of_mem _ hf))
    obtain ⟨h3, h4⟩ := h a (by simp)
    have e : sizeF (a :: r) = a.size + sizeF r := by simp [sizeF]
    rw [e, List.length_cons]
    omega
set_option maxRecDepth 100000 in
set_option maxHeartbeats 2000000 in
theorem lSize_any (v : Value) (L : List Fl) (w : World) (h : FlsAt w v L) (hl : L.length ≤ 1000) (hs : ∀ f ∈ L, 0 ≤ f.size ∧ f.size ≤ 1073741824) :
    Calls Try.prog 47 #[v] w fun e w' => e = .returned (.int .i64 (sizeF L)) ∧ Below w.heap.size w w' := by
  have HS := Lib.hid hs
  clear hs
  obtain ⟨ao, cap, rfl, l1, l2, l3⟩ := h
  obtain ⟨n, hn⟩ : ∃ n, L.length = n := ⟨_, rfl⟩
  have HN := Lib.hid hn
  have L3 := Lib.hid l3
  rw [hn] at l1 hl ⊢
  have hli : (n : Int) ≤ 1000000 := by omega
  clear l1 l2 l3 hn
  go_enter Try.func47, Try.ntmps47
  go_wp2_with fail
  generalize hB : w.heap.size = B at *
  have HB := Lib.hid hB
  clear hB
  go_loopw [3, 8] (fun u x wr => ∃ i : Nat, i ≤ n ∧ x = .int .i64 i ∧ u = .int .i64 (sizeF (L.take i)) ∧ Below B w wr) (fun _ x _ => (n - intOf x).toNat)
  case atStart => exact ⟨0, Nat.zero_le _, rfl, rfl, by rw [← HB.out]; exact Below.refl _ _⟩
  case round =>
    obtain ⟨i, hi, rfl, rfl, b1⟩ := hrel
    by_cases hlt : i < n
    · have hlt' : (i : Int) < n := by omega
      obtain ⟨f, hx⟩ : ∃ f, L[i]? = some f := ⟨_, List.getElem?_eq_getElem (by rw [HN.out]; exact hlt)⟩
      obtain ⟨g, o, rfl, hat⟩ := L3.out i f hx
      have hat2 := hat.below (by rw [HB.out]; exact b1)
      obtain ⟨c0, c1, c2, c3, c4⟩ := hat2
      have HX := Lib.hid hx
      have hBr : B ≤ wr.heap.size := by have := b1.size; rw [HB.out] at this; exact this
      clear hat hx
      have b2 := b1.alloc hBr (.cells #[.int .i64 f.num, .int .i64 f.lev, .int .i64 f.size, .string (stx f.first), .string (stx f.last)] 58)
      have hst := size_take HX.out
      have hb1 := size_bound (L := L.take i) fun x hx => HS.out x (List.mem_of_mem_take hx)
      have hb2 := HS.out f (List.mem_of_getElem? HX.out)
      rw [List.length_take, HN.out, Nat.min_eq_left hi] at hb1
      obtain ⟨q1, q2⟩ := hb1
      obtain ⟨q3, q4⟩ := hb2
      have HST := Lib.hid hst
      generalize sizeF (L.take i) = U at *
      have q5 : IntKind.i64.wrap (U + f.size) = U + f.size := by rw [IntKind.wrap_i64]; omega
      clear b1 hst q1 q2 q3 q4
      go_wp2_with fail
      exact ⟨⟨i + 1, hlt, by go_num, by rw [HST.out], b2⟩, by simp [intOf]; omega⟩
    · obtain rfl : i = n := by omega
      go_wp2_with fail
      go_ret
      exact ⟨by rw [List.take_of_length_le (by rw [HN.out]; exact Nat.le_refl _)]; rfl, by rw [HB.out]; exact b1⟩
end Go.Proofs.Ytfklhkephdnhaaa
