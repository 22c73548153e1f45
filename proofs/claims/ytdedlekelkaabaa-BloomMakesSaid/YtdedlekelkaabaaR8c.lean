/- The document's filter: bytes as bits. Conditions: none. -/
import Derived.Test.YtdedlekelkaabaaR8b
import Derived.Deep.AppendLies
import Derived.Deep.RegionLaw
import Derived.BigRegion
namespace Go.Proofs.Ytdedlekelkaabaa
open Go Go.RowKit Go.Shelf
attribute [local go_sem] Oper.semAt_some

theorem boolCells_append (l : List Bool) (b : Bool) : boolCells l ++ [.bool b] = boolCells (l ++ [b]) := by simp [boolCells]
/-- The bits that have been laid: the answer's block, the filter's, its row. -/
structure OfIn (C : Nat) (p : Int) (bs : List UInt8) (n : Nat) (v : Value) (w0 wr : World) : Prop where
  rC : rowAt wr C = some #[.int .i64 0, .slice none 0 0]
  rF : rowAt wr (C + 1) = some #[.int .i64 p, v]
  own : wr.ownsRow (C + 2) 4 1 v n (boolCells (bitsTo bs n))
  below : Below C w0 wr
theorem OfIn.far {C : Nat} {p : Int} {bs : List UInt8} {n : Nat} {v : Value} {w0 wr : World} (h : OfIn C p bs n v w0 wr) (k : Nat) (hk : k < C + 2) : v.ownBlock = none ∨ ∃ g, v.ownBlock = some g ∧ g ≠ k := by
  cases hv : v.ownBlock with
  | none => exact .inl rfl
  | some g => exact .inr ⟨g, rfl, fun e => by have := (h.own.lt g hv).1; omega⟩
theorem OfIn.step {C : Nat} {p : Int} {bs : List UInt8} {n : Nat} {v : Value} {w0 wr w1 : World} (h : OfIn C p bs n v w0 wr) (b : Bool) (hb : bitK bs n = b) (o : Obj) {v' : Value}
    (hown : w1.ownsRow (C + 2) 4 1 v' (n + 1) (boolCells (bitsTo bs n) ++ [.bool b])) (hg : (wr.drew.alloc o).grownBy w1 v.ownBlock) :
    rowAt w1 (C + 1) = some #[.int .i64 p, v] ∧ OfIn C p bs (n + 1) v' w0 (w1.setCell ⟨C + 1, 1, none⟩ v') := by
  have hCl : C + 1 < wr.heap.size := lt_of_rowAt h.rF
  have hne : ∀ k, k < C + 2 → some k ≠ v.ownBlock := fun k hk e => by
    rcases h.far k hk with h1 | ⟨g, h1, h2⟩
    · rw [h1] at e; cases e
    · rw [h1] at e; exact h2 (Option.some.inj e).symm
  have hrow : ∀ k, k < C + 2 → k < wr.heap.size → rowAt w1 k = rowAt wr k := fun k hk hl => by
    unfold rowAt
    rw [hg.block k (by simp only [World.size_alloc]; show k < wr.heap.size + 1; omega) (hne k hk), Below.heap_alloc _ _ _ (show k < wr.drew.heap.size from hl)]
    rfl
  have hF : rowAt w1 (C + 1) = some #[.int .i64 p, v] := (hrow _ (by omega) hCl).trans h.rF
  refine ⟨hF, ?_, ?_, ?_, ?_⟩
  · rw [rowAt_setCell_other _ _ _ _ (by simp)]
    exact (hrow _ (by omega) (by omega)).trans h.rC
  · rw [rowAt_setCell_same hF]
    rfl
  · rw [boolCells_append, ← hb, ← bitsTo_succ] at hown
    refine ⟨hown.1, ?_⟩
    rcases hown.2 with h1 | ⟨g, cap, cur, h1, h2, h3, h4⟩
    · exact .inl h1
    · refine .inr ⟨g, cap, cur, h1, h2, ?_, h4⟩
      rw [heap_setCell_other _ _ _ _ (by show g ≠ C + 1; omega)]
      exact h3
  · have b1 : Below C w0 (wr.drew.alloc o) := h.below.drew.alloc (by show C ≤ wr.heap.size; omega) o
    have b2 : Below C w0 w1 := b1.grown hg (by simp only [World.size_alloc]; show C ≤ wr.heap.size + 1; omega) (fun k hk => by have := (h.own.lt k hk).1; omega)
    exact b2.setCell (by show C ≤ C + 1; omega) v'
theorem own_shapeB {w : World} {B e s n : Nat} {v : Value} {xs : List Value} (h : w.ownsRow B e s v n xs) : ∃ ao cap, v = .slice ao n cap := by
  rcases h.2 with ⟨h1, h2⟩ | ⟨g, cap, cur, h1, _⟩
  · exact ⟨none, 0, by rw [h1, h2]⟩
  · exact ⟨_, _, h1⟩
theorem bit_at (bs : List UInt8) (i k : Nat) (hk : k < 8) : (bits .and .u8 (((bs.getD i 0).toNat : Int) / 2 ^ k) 1 == 1) = bitK bs (8 * i + k) := by
  have h := byte_bit (bs.getD i 0) k
  rw [Nat.mod_eq_of_lt hk] at h
  rw [h, bitK, show (8 * i + k) / 8 = i by omega, show (8 * i + k) % 8 = k by omega]
  by_cases h2 : (bs.getD i 0).toNat / 2 ^ k % 2 = 1
  · rw [h2]; rfl
  · have : ¬ (((bs.getD i 0).toNat / 2 ^ k % 2 : Nat) : Int) = 1 := by omega
    rw [beq_eq_false_iff_ne.2 this]
    exact (beq_eq_false_iff_ne.2 h2).symm
theorem own_monoB {w : World} {B B' e s n : Nat} {v : Value} {xs : List Value} (h : w.ownsRow B e s v n xs) (hb : B' ≤ B) : w.ownsRow B' e s v n xs :=
  ⟨h.1, h.2.imp id fun ⟨g, cap, cur, h1, h2, h3⟩ => ⟨g, cap, cur, h1, Nat.le_trans hb h2, h3⟩⟩
theorem own_set_far {w : World} {B e s n : Nat} {v : Value} {xs : List Value} (h : w.ownsRow B e s v n xs) (a : Addr) (ha : a.block < B) (u : Value) : (w.setCell a u).ownsRow B e s v n xs := by
  refine ⟨h.1, ?_⟩
  rcases h.2 with h1 | ⟨g, cap, cur, h1, h2, h3, h4⟩
  · exact .inl h1
  · exact .inr ⟨g, cap, cur, h1, h2, (by rw [heap_setCell_other _ _ _ _ (by omega)]; exact h3), h4⟩
set_option maxRecDepth 100000 in
set_option maxHeartbeats 2000000 in
theorem r8Of_any (p : Int) (ao : Option Addr) (cap : Nat) (bs : List UInt8) (w : World) (hB : BytesIn w ao bs) (hl : bs.length ≤ 100000) :
    Calls Try.prog 11 #[.int .i64 p, .slice ao bs.length cap] w fun e w' => ∃ v, e = .returned (.agg #[.int .i64 p, v]) ∧ w'.ownsRow w.heap.size 4 1 v (8 * bs.length) (boolCells (bits8 bs)) ∧ Below w.heap.size w w' := by
  obtain ⟨ib, hi, hz, hs1, hs2⟩ := info_bool
  obtain ⟨n, hn⟩ : ∃ n, bs.length = n := ⟨_, rfl⟩
  have HN := Lib.hid hn
  have HB := Lib.hid hB
  rw [hn] at hl ⊢
  have hli : (n : Int) ≤ 100000 := by omega
  clear hn hB
  have b0 : Below w.heap.size w ((w.alloc (.cells #[.int .i64 0, .slice none 0 0] 33)).alloc (.cells #[.int .i64 p, .slice none 0 0] 33)) := ((Below.refl _ _).alloc (Nat.le_refl _) _).alloc (by simp only [World.size_alloc]; omega) _
  have r0 : rowAt ((w.alloc (.cells #[.int .i64 0, .slice none 0 0] 33)).alloc (.cells #[.int .i64 p, .slice none 0 0] 33)) w.heap.size = some #[.int .i64 0, .slice none 0 0] := (rowAt_alloc_past _ _ _ (by simp only [World.size_alloc]; omega)).trans (rowAt_alloc_at _ _ _ _ rfl)
  have r1 : rowAt ((w.alloc (.cells #[.int .i64 0, .slice none 0 0] 33)).alloc (.cells #[.int .i64 p, .slice none 0 0] 33)) (w.heap.size + 1) = some #[.int .i64 p, .slice none 0 0] := rowAt_alloc_at _ _ _ _ (by simp only [World.size_alloc])
  go_enter Try.func11, Try.ntmps11
  go_wp2_with fail
  generalize (w.alloc (.cells #[.int .i64 0, .slice none 0 0] 33)).alloc (.cells #[.int .i64 p, .slice none 0 0] 33) = W at *
  have s0 : OfIn w.heap.size p bs 0 (.slice none 0 0) w W := ⟨r0, r1, World.ownsRow_nil _ _ _ _, b0⟩
  clear b0 r0 r1
  go_loopw [13] (fun x wr => ∃ (i : Nat) (v : Value), i ≤ n ∧ x = .int .i64 i ∧ OfIn w.heap.size p bs (8 * i) v w wr) (fun x _ => (n - intOf x).toNat)
  case atStart => exact ⟨0, _, Nat.zero_le _, rfl, s0⟩
  case round =>
    obtain ⟨i, v, hi2, rfl, s1⟩ := hrel
    clear s0
    by_cases hlt : i < n
    · have hlt' : (i : Int) < n := by omega
      obtain ⟨g, o, rfl, hc⟩ := HB.out i (by rw [HN.out]; exact hlt)
      have hc2 := (s1.below.cell (p := ⟨g, o + i, none⟩) (cellLt hc)).trans hc
      have HBIT : Hid (∀ k, k < 8 → (bits .and .u8 (((bs.getD i 0).toNat : Int) / 2 ^ k) 1 == 1) = bitK bs (8 * i + k)) := Lib.hid fun k hk => bit_at bs i k hk
      have hcl := (bs.getD i 0).toNat_lt
      generalize (bs.getD i 0).toNat = c at *
      have hci : (c : Int) < 256 := by omega
      clear hc
      go_wp2_with fail
      have hc1 := hc2
      go_loopw [8] (fun x wr => ∃ (k : Nat) (v : Value), k ≤ 8 ∧ x = .int .i64 k ∧ OfIn w.heap.size p bs (8 * i + k) v w wr) (fun x _ => (8 - intOf x).toNat)
      case atStart => exact ⟨0, _, Nat.zero_le _, rfl, s1⟩
      case round =>
        rename_i wq
        obtain ⟨k, v, hk, rfl, s2⟩ := hrel
        clear s1
        by_cases hlk : k < 8
        · have hlk' : (k : Int) < 8 := by omega
          have hb := HBIT.out k hlk
          obtain ⟨b, hbb⟩ : ∃ b, bitK bs (8 * i + k) = b := ⟨_, rfl⟩
          rw [hbb] at hb
          have c0 := (cell_of_rowAt s2.rF 1).trans (rfl : _ = some v)
          have hlt2 : 8 * i + k ≤ 1000000 := by omega
          have hmn : 8 * i + (k + 1) = 8 * i + k + 1 := by omega
          have HMN := Lib.hid hmn
          clear hmn hc2
          generalize 8 * i + k = m at *
          obtain ⟨av, cv, rfl⟩ := own_shapeB s2.own
          have S2 := Lib.hid s2
          have HBB := Lib.hid hbb
          have hown0 : (wr.drew.alloc (.cells #[.bool b] 4)).ownsRow (w.heap.size + 2) 4 1 (.slice av m cv) m (boolCells (bitsTo bs m)) := World.ownsRow.alloc (w := wr.drew) s2.own _
          have hnews0 := World.news_of_block (heap_alloc_new wr.drew (.cells #[.bool b] 4))
          have h1c : ∀ u ∈ [Value.bool b], u.oneCell' = true := by intro u hu; rw [List.mem_singleton.1 hu]; rfl
          have hCw : w.heap.size + 2 ≤ wr.heap.size + 1 := by have := lt_of_rowAt s2.rF; omega
          have h63 : m + 1 ≤ maxLen := by unfold maxLen; omega
          have c0b : (wr.alloc (.cells #[.bool b] 4)).cell? ⟨w.heap.size + 1, 1, none⟩ = some (.slice av m cv) := (cell_of_rowAt ((rowAt_alloc_past _ _ _ (lt_of_rowAt s2.rF)).trans s2.rF) 1).trans rfl
          clear s2 hbb
          go_wp2_with fail
          go_region_law ((refine step_append_lies _ rfl (.tmp 22) (.tmp 28) 31 (by rfl) (w.heap.size + 2) 4 ib (.bool false) 1 1 Try.underlying31 hi hz hs1 hs2 rfl (by decide) (.slice av m cv) m (boolCells (bitsTo bs m)) (by rfl) hown0 ⟨wr.heap.size, 0, none⟩ 1 1 [.bool b] (by rfl) (by rfl) hnews0 h1c (by decide) h63 (by omega) (by first | exact hCw | (simp; omega)) _ rfl ?_; intro g1 cap1 w1 hown1 hgrow1 _ _; obtain ⟨hF1, hS1⟩ := OfIn.step S2.out b HBB.out _ hown1 hgrow1; have cF := (cell_of_rowAt hF1 1).trans (rfl : _ = some (Value.slice av m cv)); have fF := frozen_of_rowAt hF1 1))
          all_goals go_wp2_with fail
          all_goals exact ⟨⟨k + 1, _, hlk, by go_num, by rw [HMN.out]; exact hS1⟩, by simp [intOf]; omega⟩
        · obtain rfl : k = 8 := by omega
          go_wp2_with fail
          exact ⟨⟨i + 1, _, hlt, by go_num, s2⟩, by simp [intOf]; omega⟩
    · obtain rfl : i = n := by omega
      have c0 := (cell_of_rowAt s1.rF 0).trans (rfl : _ = some (Value.int .i64 p))
      have c1 := (cell_of_rowAt s1.rF 1).trans (rfl : _ = some v)
      have d0 := (cell_of_rowAt s1.rC 0).trans (rfl : _ = some (Value.int .i64 0))
      have d1 := (cell_of_rowAt s1.rC 1).trans (rfl : _ = some (Value.slice none 0 0))
      have f0 := frozen_of_rowAt s1.rC 0
      have f1 := frozen_of_rowAt s1.rC 1
      obtain ⟨av, cv, rfl⟩ := own_shapeB s1.own
      have S1 := Lib.hid s1
      have hbits : bitsTo bs (8 * i) = bits8 bs := by rw [← HN.out]; rfl
      clear s1
      go_wp2_with fail
      have o1 := own_set_far (own_set_far S1.out.own ⟨w.heap.size, 0, none⟩ (by show w.heap.size < w.heap.size + 2; omega) (.int .i64 p)) ⟨w.heap.size, 1, none⟩ (by show w.heap.size < w.heap.size + 2; omega) (.slice av (8 * i) cv)
      rw [hbits] at o1
      have rr : rowAt ((wr.setCell ⟨w.heap.size, 0, none⟩ (.int .i64 p)).setCell ⟨w.heap.size, 1, none⟩ (.slice av (8 * i) cv)) w.heap.size = some #[.int .i64 p, .slice av (8 * i) cv] := rowAt_setCell_same (rowAt_setCell_same S1.out.rC 0 (.int .i64 p)) 1 _
      refine bodyPost_ret (results_row rfl _ _ _ _ _ rfl rr Try.underlying33 rfl (by kernel_rfl)) rfl ?_
      exact ⟨_, rfl, own_monoB o1 (by omega), (S1.out.below.setCell (Nat.le_refl _) _).setCell (Nat.le_refl _) _⟩
end Go.Proofs.Ytdedlekelkaabaa
