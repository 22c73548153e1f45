/- Texts that the next ones stand on: R8a, R8b, R8c, R8d, R8f, TabR2, SealBits, SealRef, Ref2a, Block8. -/
import Derived.Test.YtgegipijappfhaaDoorBM8
import Derived.Maps.AppendAt
import Derived.Deep.AppendLies
import Derived.Deep.RegionLaw
import Derived.BigRegion
namespace Go.Proofs.YtgegipijappfhaaDoor
open Go Go.RowKit Go.Shelf

/-- The bits of bytes, one by one. -/
def bits8 (bs : List UInt8) : List Bool := (List.range (8 * bs.length)).map (bitK bs)
theorem bits8_length (bs : List UInt8) : (bits8 bs).length = 8 * bs.length := by simp [bits8]
theorem bits8_get (bs : List UInt8) (k : Nat) (h : k < 8 * bs.length) : (bits8 bs).getD k false = bitK bs k := by
  simp [bits8, List.getD_eq_getElem?_getD, h]
theorem bits8_set (bs : List UInt8) (k : Nat) (h : k < 8 * bs.length) : bits8 (setK bs k) = (bits8 bs).set k true := by
  apply List.ext_getElem
  · simp [bits8, setK_length]
  · intro i h1 h2
    have hi : i < 8 * bs.length := by simpa [bits8] using h2
    rw [List.getElem_set]
    simp only [bits8, List.getElem_map, List.getElem_range]
    rw [bitK_setK bs k i h]
    by_cases e : k = i
    · rw [if_pos e]; simp [e]
    · rw [if_neg e]
      have : ¬ i = k := fun q => e q.symm
      simp [this]
theorem bits8_zero (n : Nat) : bits8 (List.replicate n 0) = List.replicate (8 * n) false := by
  apply List.ext_getElem
  · simp [bits8]
  · intro i h1 h2
    simp [bits8, bitK_zero]
theorem bitK_take (bs : List UInt8) (c : Nat) (k : Nat) (h : k < 8 * c) : bitK (bs.take c) k = bitK bs k := by
  unfold bitK
  rw [List.getD_eq_getElem?_getD, List.getElem?_take, if_pos (by omega), ← List.getD_eq_getElem?_getD]
/-- The first bits: those of c bytes and k more. -/
def bitsTo (bs : List UInt8) (m : Nat) : List Bool := (List.range m).map (bitK bs)
theorem bitsTo_succ (bs : List UInt8) (m : Nat) : bitsTo bs (m + 1) = bitsTo bs m ++ [bitK bs m] := by simp [bitsTo, List.range_succ]
theorem bitsTo_all (bs : List UInt8) : bitsTo bs (8 * bs.length) = bits8 bs := rfl
theorem bitsTo_length (bs : List UInt8) (m : Nat) : (bitsTo bs m).length = m := by simp [bitsTo]
theorem stride_even (H : UInt64) (h : (H >>> UInt64.ofNat 32).toNat % 2 = 0) : (H >>> UInt64.ofNat 32) + 1 = strideQ H := by
  unfold strideQ
  generalize H >>> UInt64.ofNat 32 = x at *
  apply UInt64.toNat_inj.1
  rw [UInt64.toNat_add, UInt64.toNat_or]
  have h1 : (1 : UInt64).toNat = 1 := rfl
  have hx := x.toNat_lt
  rw [h1, Nat.mod_eq_of_lt (by omega)]
  apply Nat.eq_of_testBit_eq
  intro i
  rw [Nat.testBit_or]
  rcases i with _ | i
  · simp only [Nat.testBit_zero]
    have : (x.toNat + 1) % 2 = 1 := by omega
    simp [this]
  · rw [Nat.testBit_succ, Nat.testBit_succ, Nat.testBit_succ, show (x.toNat + 1) / 2 = x.toNat / 2 by omega]
    simp
theorem stride_odd (H : UInt64) (h : (H >>> UInt64.ofNat 32).toNat % 2 = 1) : (H >>> UInt64.ofNat 32) = strideQ H := by
  unfold strideQ
  generalize H >>> UInt64.ofNat 32 = x at *
  apply UInt64.toNat_inj.1
  rw [UInt64.toNat_or]
  have h1 : (1 : UInt64).toNat = 1 := rfl
  rw [h1]
  apply Nat.eq_of_testBit_eq
  intro i
  rw [Nat.testBit_or]
  rcases i with _ | i
  · simp [Nat.testBit_zero, h]
  · rw [Nat.testBit_succ, Nat.testBit_succ]
    simp
/-- The step behind k others. -/
def walkQ (H : UInt64) (k : Nat) : UInt64 := H + UInt64.ofNat k * strideQ H
theorem walkQ_zero (H : UInt64) : walkQ H 0 = H := by
  unfold walkQ
  rw [show UInt64.ofNat 0 = 0 from rfl, UInt64.zero_mul, UInt64.add_zero]
theorem walkQ_succ (H : UInt64) (k : Nat) : walkQ H k + strideQ H = walkQ H (k + 1) := by
  unfold walkQ
  rw [UInt64.ofNat_add, UInt64.add_mul, show UInt64.ofNat 1 = 1 from rfl, UInt64.one_mul, UInt64.add_assoc]
theorem plQ_walk (H : UInt64) (m i : Nat) : walkQ H i % UInt64.ofNat m = plQ H m i := rfl
end Go.Proofs.YtgegipijappfhaaDoor
namespace Go.Proofs.YtgegipijappfhaaDoor
open Go Go.RowKit Go.Shelf
attribute [local go_sem] Oper.semAt_some

theorem shr32 (H : UInt64) : qv H / 4294967296 = qv (H >>> UInt64.ofNat 32) := by
  have := q_shr H 32 (by decide)
  rwa [show ((2 ^ 32 : Nat) : Int) = 4294967296 from rfl] at this
theorem shr_small (H : UInt64) : qv (H >>> UInt64.ofNat 32) < 4294967296 := by
  rw [← shr32]
  have := q_lt H
  omega
set_option maxRecDepth 100000 in
set_option maxHeartbeats 1000000 in
theorem r8Place_any (key : ByteArray) (i n : Nat) (w : World) (hs : key.size ≤ 281474976710656) (hi : i ≤ 1000) (hn : 0 < n ∧ n ≤ 1000000000) :
    Calls Tryd.prog 87 #[.string key, .int .i64 i, .int .i64 n] w fun e w' => e = .returned (.int .i64 ((plQ (hashL key.data.toList) n i).toNat : Int)) ∧ w' = w := by
  have HH := Lib.hid (r8Hash_any key w hs)
  generalize hashL key.data.toList = H at *
  have e1 := shr32 H
  have e2 := shr_small H
  have g1 := q_ge H
  have g2 := q_ge (H >>> UInt64.ofNat 32)
  have hpl : (plQ H n i).toNat < n := plQ_lt H n i ⟨hn.1, by omega⟩
  have hpw : qv (walkQ H i) % (n : Int) = ((plQ H n i).toNat : Int) := by
    have := place_q2 H (UInt64.ofNat i * strideQ H) n (by omega)
    exact this
  have hii : (i : Int) ≤ 1000 := by omega
  have hni : (n : Int) ≤ 1000000000 := by omega
  have hn0 : (0 : Int) < n := by omega
  have HPW := Lib.hid hpw
  have HPL := Lib.hid hpl
  have hpli : ((plQ H n i).toNat : Int) < n := by omega
  have hpl0 : (0 : Int) ≤ ((plQ H n i).toNat : Int) := Int.natCast_nonneg _
  obtain ⟨P, hP⟩ : ∃ P : Int, ((plQ H n i).toNat : Int) = P := ⟨_, rfl⟩
  rw [hP] at hpw hpli hpl0 ⊢
  have HWZ := Lib.hid (walkQ_zero H)
  clear hs hi hn hpl HPL hP HPW
  obtain ⟨G, hG⟩ : ∃ G, strideQ H = G := ⟨_, rfl⟩
  have HWS : Hid (∀ k, walkQ H k + G = walkQ H (k + 1)) := Lib.hid fun k => by rw [← hG]; exact walkQ_succ H k
  have hw0 : qv H = qv (walkQ H 0) := by rw [walkQ_zero]
  have HW0 := Lib.hid hw0
  clear hw0
  by_cases hev : (H >>> UInt64.ofNat 32).toNat % 2 = 0
  · have hst := stride_even H hev
    rw [hG] at hst
    have q1 : qv (H >>> UInt64.ofNat 32) % 2 = 0 := by unfold qv; omega
    have e3 : IntKind.u64.wrap (qv (H >>> UInt64.ofNat 32) + 1) = qv G := by
      rw [show (1 : Int) = qv 1 from rfl, q_addw, hst]
    have e3b : qv (H >>> UInt64.ofNat 32) + 1 = qv G := by
      rw [← e3]
      show _ = (qv (H >>> UInt64.ofNat 32) + 1) % 2 ^ IntKind.u64.bits
      rw [show (2 : Int) ^ IntKind.u64.bits = 18446744073709551616 from rfl]
      omega
    generalize H >>> UInt64.ofNat 32 = Y at *
    clear hev hst hG
    go_enter Tryd.func87, Tryd.ntmps87
    go_wp2_with fail
    refine HH.out.mono ?_
    rintro e w1 ⟨rfl, rfl⟩
    go_wp2_with fail
    rw [HW0.out]
    go_loop [9, 10] (fun x y => ∃ k : Nat, k ≤ i ∧ y = .int .i64 k ∧ x = .int .u64 (qv (walkQ H k))) (fun _ y => (i - intOf y).toNat)
    case atStart => exact ⟨0, Nat.zero_le _, rfl, rfl⟩
    case round =>
      obtain ⟨k, hk, rfl, rfl⟩ := hrel
      by_cases hlt : k < i
      · have hlt' : (k : Int) < i := by omega
        have a1 := q_addw (walkQ H k) G
        rw [HWS.out] at a1
        clear hpw
        go_wp2_with fail
        exact ⟨⟨k + 1, hlt, by go_num, rfl⟩, by simp [intOf]; omega⟩
      · obtain rfl : k = i := by omega
        have g5 := q_ge (walkQ H k)
        go_wp2_with fail
        go_ret
        exact ⟨rfl, rfl⟩
  · have hod : (H >>> UInt64.ofNat 32).toNat % 2 = 1 := by omega
    have hst := stride_odd H hod
    rw [hG] at hst
    have q1 : qv (H >>> UInt64.ofNat 32) % 2 = 1 := by unfold qv; omega
    rw [hst] at q1 e1 e2 g2
    clear hev hod hst hG
    go_enter Tryd.func87, Tryd.ntmps87
    go_wp2_with fail
    refine HH.out.mono ?_
    rintro e w1 ⟨rfl, rfl⟩
    go_wp2_with fail
    rw [HW0.out]
    go_loop [9, 10] (fun x y => ∃ k : Nat, k ≤ i ∧ y = .int .i64 k ∧ x = .int .u64 (qv (walkQ H k))) (fun _ y => (i - intOf y).toNat)
    case atStart => exact ⟨0, Nat.zero_le _, rfl, rfl⟩
    case round =>
      obtain ⟨k, hk, rfl, rfl⟩ := hrel
      by_cases hlt : k < i
      · have hlt' : (k : Int) < i := by omega
        have a1 := q_addw (walkQ H k) G
        rw [HWS.out] at a1
        clear hpw
        go_wp2_with fail
        exact ⟨⟨k + 1, hlt, by go_num, rfl⟩, by simp [intOf]; omega⟩
      · obtain rfl : k = i := by omega
        have g5 := q_ge (walkQ H k)
        go_wp2_with fail
        go_ret
        exact ⟨rfl, rfl⟩

def goodR (p : Int) (m : Nat) : Bool := decide (0 < p ∧ p < 17 ∧ 0 < m ∧ m ≤ 65536)
/-- Bits in memory. -/
def BitsIn (w : World) (v : Value) (bl : List Bool) : Prop := ∃ ao cap, v = .slice ao bl.length cap ∧ ∀ i, i < bl.length → ∃ g, ao = some ⟨g, 0, none⟩ ∧ w.cell? ⟨g, i, none⟩ = some (.bool (bl.getD i false))
theorem BitsIn.below {w W : World} {v : Value} {bl : List Bool} (h : BitsIn w v bl) (hb : Below w.heap.size w W) : BitsIn W v bl := by
  obtain ⟨ao, cap, h1, h2⟩ := h
  refine ⟨ao, cap, h1, fun i hi => ?_⟩
  obtain ⟨g, h3, h4⟩ := h2 i hi
  exact ⟨g, h3, (hb.cell (p := ⟨g, i, none⟩) (cellLt h4)).trans h4⟩
def boolCells (bl : List Bool) : List Value := bl.map Value.bool
theorem own_bits {w : World} {B : Nat} {v : Value} {bl : List Bool} (h : w.ownsRow B 4 1 v bl.length (boolCells bl)) : BitsIn w v bl := by
  rcases h.2 with ⟨rfl, h0⟩ | ⟨g, cap, cur, rfl, hb, hg, h1, h2, h3, h4⟩
  · exact ⟨none, 0, by rw [h0], fun i hi => absurd hi (by omega)⟩
  · refine ⟨_, cap, rfl, fun i hi => ⟨g, rfl, ?_⟩⟩
    rw [Lib.cell_of_heap hg i]
    have : (cur.toList.take (bl.length * 1))[i]? = (boolCells bl)[i]? := by rw [h4]
    rw [List.getElem?_take, if_pos (by omega)] at this
    simp only [Array.getElem?_toList] at this
    rw [this]
    simp [boolCells, hi]
theorem info_bool : ∃ i : TypeInfo, Tryd.prog.info? 4 = some i ∧ i.zero = some (.bool false) ∧ i.size = 1 ∧ i.bytes = 1 := by
  have h : (Tryd.prog.info? 4).map (fun i => (i.zero, i.size, i.bytes)) = some (some (.bool false), 1, 1) := by kernel_rfl
  cases hq : Tryd.prog.info? 4 with
  | none => rw [hq] at h; cases h
  | some i =>
    rw [hq] at h
    simp only [Option.map_some, Option.some.injEq, Prod.mk.injEq] at h
    exact ⟨i, rfl, h.1, h.2.1, h.2.2⟩
end Go.Proofs.YtgegipijappfhaaDoor
namespace Go.Proofs.YtgegipijappfhaaDoor
open Go Go.RowKit Go.Shelf
attribute [local go_sem] Oper.semAt_some

theorem boolCells_append (l : List Bool) (b : Bool) : boolCells l ++ [.bool b] = boolCells (l ++ [b]) := by simp [boolCells]
/-- The bits that have been laid: the answer's block, the filter's, its row. -/
structure OfIn (C : Nat) (p : Int) (bs : List UInt8) (n : Nat) (v : Value) (w0 wr : World) : Prop where
  rC : rowAt wr C = some #[.int .i64 0, .slice none 0 0]
  rF : rowAt wr (C + 1) = some #[.int .i64 p, v]
  own : wr.ownsRow (C + 2) 4 1 v n (boolCells (bitsTo bs n))
  below : Below C w0 wr
theorem OfIn.far {C : Nat} {p : Int} {bs : List UInt8} {n : Nat} {v : Value} {w0 wr : World} (h : OfIn C p bs n v w0 wr) (k : Nat) (hk : k < C + 2) : v.ownBlock = none ∨ ∃ g, v.ownBlock = some g ∧ g ≠ k := by
  cases hv : v.ownBlock with
  | none => exact .inl rfl
  | some g => exact .inr ⟨g, rfl, fun e => by have := (h.own.lt g hv).1; omega⟩
theorem OfIn.step {C : Nat} {p : Int} {bs : List UInt8} {n : Nat} {v : Value} {w0 wr w1 : World} (h : OfIn C p bs n v w0 wr) (b : Bool) (hb : bitK bs n = b) (o : Obj) {v' : Value}
    (hown : w1.ownsRow (C + 2) 4 1 v' (n + 1) (boolCells (bitsTo bs n) ++ [.bool b])) (hg : (wr.drew.alloc o).grownBy w1 v.ownBlock) :
    rowAt w1 (C + 1) = some #[.int .i64 p, v] ∧ OfIn C p bs (n + 1) v' w0 (w1.setCell ⟨C + 1, 1, none⟩ v') := by
  have hCl : C + 1 < wr.heap.size := lt_of_rowAt h.rF
  have hne : ∀ k, k < C + 2 → some k ≠ v.ownBlock := fun k hk e => by
    rcases h.far k hk with h1 | ⟨g, h1, h2⟩
    · rw [h1] at e; cases e
    · rw [h1] at e; exact h2 (Option.some.inj e).symm
  have hrow : ∀ k, k < C + 2 → k < wr.heap.size → rowAt w1 k = rowAt wr k := fun k hk hl => by
    unfold rowAt
    rw [hg.block k (by simp only [World.size_alloc]; show k < wr.heap.size + 1; omega) (hne k hk), Below.heap_alloc _ _ _ (show k < wr.drew.heap.size from hl)]
    rfl
  have hF : rowAt w1 (C + 1) = some #[.int .i64 p, v] := (hrow _ (by omega) hCl).trans h.rF
  refine ⟨hF, ?_, ?_, ?_, ?_⟩
  · rw [rowAt_setCell_other _ _ _ _ (by simp)]
    exact (hrow _ (by omega) (by omega)).trans h.rC
  · rw [rowAt_setCell_same hF]
    rfl
  · rw [boolCells_append, ← hb, ← bitsTo_succ] at hown
    refine ⟨hown.1, ?_⟩
    rcases hown.2 with h1 | ⟨g, cap, cur, h1, h2, h3, h4⟩
    · exact .inl h1
    · refine .inr ⟨g, cap, cur, h1, h2, ?_, h4⟩
      rw [heap_setCell_other _ _ _ _ (by show g ≠ C + 1; omega)]
      exact h3
  · have b1 : Below C w0 (wr.drew.alloc o) := h.below.drew.alloc (by show C ≤ wr.heap.size; omega) o
    have b2 : Below C w0 w1 := b1.grown hg (by simp only [World.size_alloc]; show C ≤ wr.heap.size + 1; omega) (fun k hk => by have := (h.own.lt k hk).1; omega)
    exact b2.setCell (by show C ≤ C + 1; omega) v'
theorem own_shapeB {w : World} {B e s n : Nat} {v : Value} {xs : List Value} (h : w.ownsRow B e s v n xs) : ∃ ao cap, v = .slice ao n cap := by
  rcases h.2 with ⟨h1, h2⟩ | ⟨g, cap, cur, h1, _⟩
  · exact ⟨none, 0, by rw [h1, h2]⟩
  · exact ⟨_, _, h1⟩
theorem bit_at (bs : List UInt8) (i k : Nat) (hk : k < 8) : (bits .and .u8 (((bs.getD i 0).toNat : Int) / 2 ^ k) 1 == 1) = bitK bs (8 * i + k) := by
  have h := byte_bit (bs.getD i 0) k
  rw [Nat.mod_eq_of_lt hk] at h
  rw [h, bitK, show (8 * i + k) / 8 = i by omega, show (8 * i + k) % 8 = k by omega]
  by_cases h2 : (bs.getD i 0).toNat / 2 ^ k % 2 = 1
  · rw [h2]; rfl
  · have : ¬ (((bs.getD i 0).toNat / 2 ^ k % 2 : Nat) : Int) = 1 := by omega
    rw [beq_eq_false_iff_ne.2 this]
    exact (beq_eq_false_iff_ne.2 h2).symm
theorem own_monoB {w : World} {B B' e s n : Nat} {v : Value} {xs : List Value} (h : w.ownsRow B e s v n xs) (hb : B' ≤ B) : w.ownsRow B' e s v n xs :=
  ⟨h.1, h.2.imp id fun ⟨g, cap, cur, h1, h2, h3⟩ => ⟨g, cap, cur, h1, Nat.le_trans hb h2, h3⟩⟩
theorem own_set_far {w : World} {B e s n : Nat} {v : Value} {xs : List Value} (h : w.ownsRow B e s v n xs) (a : Addr) (ha : a.block < B) (u : Value) : (w.setCell a u).ownsRow B e s v n xs := by
  refine ⟨h.1, ?_⟩
  rcases h.2 with h1 | ⟨g, cap, cur, h1, h2, h3, h4⟩
  · exact .inl h1
  · exact .inr ⟨g, cap, cur, h1, h2, (by rw [heap_setCell_other _ _ _ _ (by omega)]; exact h3), h4⟩
end Go.Proofs.YtgegipijappfhaaDoor
namespace Go.Proofs.YtgegipijappfhaaDoor
open Go Go.RowKit Go.Shelf
attribute [local go_sem] Oper.semAt_some

/-- May a key be there, by the document. -/
def mayR (p : Int) (bl : List Bool) (H : UInt64) : Bool := !goodR p bl.length || (List.range p.toNat).all fun i => bl.getD (plQ H bl.length i).toNat false
theorem mayR_bits (p : Int) (bs : List UInt8) (H : UInt64) : mayR p (bits8 bs) H = mayF p bs H := by
  have hg : goodR p (bits8 bs).length = goodB p bs.length := by
    rw [bits8_length]
    unfold goodR goodB
    exact decide_eq_decide.2 ⟨fun h => by omega, fun h => by omega⟩
  unfold mayR mayF
  rw [hg]
  cases h : goodB p bs.length with
  | false => rfl
  | true =>
    have hgd := of_decide_eq_true h
    rw [mayB, bits8_length]
    refine congrArg (!true || ·) (List.all_congr rfl fun i => ?_)
    exact bits8_get bs _ (plQ_lt H (8 * bs.length) i ⟨by omega, by omega⟩)
end Go.Proofs.YtgegipijappfhaaDoor
namespace Go.Proofs.YtgegipijappfhaaDoor
open Go Go.RowKit Go.Shelf
attribute [local go_sem] Oper.semAt_some

def bcells (bs : List UInt8) : Array Value := (boolCells (bits8 bs)).toArray
theorem bcells_set (bs : List UInt8) (k : Nat) (h : k < 8 * bs.length) : (bcells bs).setIfInBounds k (.bool true) = bcells (setK bs k) := by
  rw [bcells, bcells, bits8_set bs k h]
  simp [boolCells, List.map_set]
theorem bcells_get (bs : List UInt8) (k : Nat) (h : k < 8 * bs.length) : (bcells bs)[k]? = some (.bool (bitK bs k)) := by
  simp [bcells, boolCells, bits8, h]
theorem made_false (n : Nat) : madeCells (Value.bool false).cells (8 * n * 1) = bcells (List.replicate n 0) := by
  rw [bcells, bits8_zero]
  apply Array.ext
  · simp [madeCells, boolCells]
  · intro i h1 h2
    simp [madeCells, boolCells, Value.cells, Nat.mod_one]
theorem make_bools (n nb : Nat) (hnb : 8 * n = nb) (hn : nb ≤ 100000) (w : World) : (Instr.makeSlice 111 (.int .i64 nb) (.int .i64 nb)).run Tryd.prog w = .ok (.slice (some ⟨w.heap.size, 0, none⟩) nb nb) (w.alloc (.cells (bcells (List.replicate n 0)) 4)) := by
  obtain ⟨i0, hi, hz0, hz1, hz2⟩ := info_bool
  have := run_make (P := Tryd.prog) w 111 4 i0 (.bool false) Tryd.underlying111 hi hz0 .i64 .i64 nb nb (by omega) (Int.le_refl _) (by rw [hz2]; omega) (by omega)
  rw [hz1, Int.toNat_natCast, ← hnb, made_false] at this
  rw [← hnb]
  exact this
theorem putKey_zero (b : List UInt8) (key : List UInt8) : putKey 0 b key = b := rfl
theorem putKey_succ (i : Nat) (b : List UInt8) (key : List UInt8) : putKey (i + 1) b key = setK (putKey i b key) (plQ (hashL key) (8 * b.length) i).toNat := by
  unfold putKey
  rw [List.range_succ, List.foldl_append]
  rfl
set_option maxRecDepth 100000 in
set_option maxHeartbeats 4000000 in
theorem r8Make_any (v : Value) (len : Nat) (S : Nat → ByteArray) (each : Nat) (w : World) (h1 : InStrs w v len S) (hs : ∀ i, i < len → (S i).size ≤ 1000000) (he : 1 ≤ each ∧ each ≤ 32) (hl : len ≤ 2048) (P N NB : Nat) (hP : probesK each = P) (hN : sizeK len each = N) (h8 : 8 * N = NB) :
    Calls Tryd.prog 60 #[v, .int .i64 each] w fun e w' => ∃ ao cap, e = .returned (.agg #[.int .i64 P, .slice ao NB cap]) ∧ BitsIn w' (.slice ao NB cap) (bits8 (bsK P N S len)) ∧ Below w.heap.size w w' := by
  obtain ⟨ao1, cap1, rfl, hS1⟩ := h1
  have HS1 := Lib.hid hS1
  have HSZ := Lib.hid hs
  have hee1 : (1 : Int) ≤ each := by omega
  have hee2 : (each : Int) ≤ 32 := by omega
  have hll : (len : Int) ≤ 2048 := by omega
  have hle : len * each ≤ 65536 := Nat.le_trans (Nat.mul_le_mul hl he.2) (by decide)
  have hP2 : P ≤ 22 := by rw [← hP, probesK]; omega
  have hP1 : 1 ≤ P := by rw [← hP, probesK]; omega
  have HP2 := Lib.hid hP2
  have hN1 : 0 < N := by rw [← hN, sizeK]; omega
  have hN2 : N ≤ 8193 := by rw [← hN, sizeK]; omega
  have HNB : Hid (0 < NB ∧ NB ≤ 1000000000) := Lib.hid (by omega)
  obtain ⟨M, hM⟩ : ∃ M, len * each = M := ⟨_, rfl⟩
  have hmul : (len : Int) * (each : Int) = (M : Int) := by rw [← hM]; exact (Int.natCast_mul _ _).symm
  have hM2 : (M : Int) ≤ 65536 := by omega
  have hM0 : (0 : Int) ≤ M := by omega
  have hNM : ((M : Int) + 7) / 8 * 8 + 8 = NB := by rw [← h8, ← hN, sizeK, hM]; omega
  have hmk := fun w => make_bools N NB h8 (by omega) w
  have H8 := Lib.hid h8
  have hNBi : (NB : Int) ≤ 100000 := by omega
  have hNB0 : (0 : Int) < NB := by omega
  have hPi : (P : Int) ≤ 22 := by omega
  obtain ⟨C, hC⟩ : ∃ C, w.heap.size = C := ⟨_, rfl⟩
  have HCW := Lib.hid hC
  have x0 : ∀ p0, (((w.alloc (.cells #[.int .i64 0, .slice none 0 0] 113)).alloc (.cells (bcells (List.replicate N 0)) 4)).alloc (.cells #[.int .i64 p0, .slice (some ⟨C + 1, 0, none⟩) NB NB] 113)).heap[C]? = some (.cells #[.int .i64 0, .slice none 0 0] 113 (0, 0)) := fun p0 => by
    rw [← hC]
    exact (Below.heap_alloc _ _ _ (by simp; omega)).trans ((Below.heap_alloc _ _ _ (by simp)).trans (World.alloc_heap_new w _))
  have x1 : ∀ p0, (((w.alloc (.cells #[.int .i64 0, .slice none 0 0] 113)).alloc (.cells (bcells (List.replicate N 0)) 4)).alloc (.cells #[.int .i64 p0, .slice (some ⟨C + 1, 0, none⟩) NB NB] 113)).heap[C + 1]? = some (.cells (bcells (List.replicate N 0)) 4 (0, 0)) := fun p0 => by
    rw [← hC]
    refine (Below.heap_alloc _ _ _ (by simp)).trans ?_
    have := World.alloc_heap_new (w.alloc (.cells #[.int .i64 0, .slice none 0 0] 113)) (.cells (bcells (List.replicate N 0)) 4)
    rwa [World.size_alloc] at this
  have x2 : ∀ p0, (((w.alloc (.cells #[.int .i64 0, .slice none 0 0] 113)).alloc (.cells (bcells (List.replicate N 0)) 4)).alloc (.cells #[.int .i64 p0, .slice (some ⟨C + 1, 0, none⟩) NB NB] 113)).heap[C + 1 + 1]? = some (.cells #[.int .i64 p0, .slice (some ⟨C + 1, 0, none⟩) NB NB] 113 (0, 0)) := fun p0 => by
    have := World.alloc_heap_new ((w.alloc (.cells #[.int .i64 0, .slice none 0 0] 113)).alloc (.cells (bcells (List.replicate N 0)) 4)) (.cells #[.int .i64 p0, .slice (some ⟨C + 1, 0, none⟩) NB NB] 113)
    rwa [World.size_alloc, World.size_alloc, hC] at this
  have a0 : ∀ p0, Below C w (((w.alloc (.cells #[.int .i64 0, .slice none 0 0] 113)).alloc (.cells (bcells (List.replicate N 0)) 4)).alloc (.cells #[.int .i64 p0, .slice (some ⟨C + 1, 0, none⟩) NB NB] 113)) := fun p0 => by
    rw [← hC]
    exact (((Below.refl _ _).alloc (Nat.le_refl _) _).alloc (by simp only [World.size_alloc]; omega) _).alloc (by simp only [World.size_alloc]; omega) _
  rw [hC]
  have hz : bsK P N S 0 = List.replicate N 0 := rfl
  rw [← hz] at x0 x1 x2 a0 hmk
  clear hs hS1 hle hM hN hl h8 hN1 hN2 hz
  by_cases h0 : each * 7 / 10 = 0
  · have hP1' : P = 1 := by rw [← hP, probesK, h0]; rfl
    have e1 : (1 : Int) = (P : Int) := by omega
    have E1 := Lib.hid e1
    have h0i : (each : Int) * 7 / 10 = 0 := by omega
    replace x0 := x0 1
    replace x1 := x1 1
    replace x2 := x2 1
    replace a0 := a0 1
    clear h0 hP he hP1' e1
    go_enter Tryd.func60, Tryd.ntmps60
    go_wp2_with fail
    generalize ((w.alloc (.cells #[.int .i64 0, .slice none 0 0] 113)).alloc (.cells (bcells (bsK P N S 0)) 4)).alloc (.cells #[.int .i64 1, .slice (some ⟨C + 1, 0, none⟩) NB NB] 113) = W0 at *
    rw [E1.out] at x2
    clear h0i
    go_loopw [30] (fun x wr => ∃ j : Nat, j ≤ len ∧ x = .int .i64 j ∧ wr.heap[C]? = some (.cells #[.int .i64 0, .slice none 0 0] 113 (0, 0)) ∧ wr.heap[C + 1]? = some (.cells (bcells (bsK P N S j)) 4 (0, 0)) ∧ wr.heap[C + 1 + 1]? = some (.cells #[.int .i64 P, .slice (some ⟨C + 1, 0, none⟩) NB NB] 113 (0, 0)) ∧ Below C w wr) (fun x _ => (len - intOf x).toNat)
    case atStart => exact ⟨0, Nat.zero_le _, rfl, x0, x1, x2, a0⟩
    case round =>
      obtain ⟨j, hj, rfl, y0, y1, y2, a1⟩ := hrel
      clear x0 x1 x2 a0
      by_cases hlt : j < len
      · have hlt' : (j : Int) < len := by omega
        obtain ⟨ad, hao, hc⟩ := HS1.out j hlt
        subst hao
        have c2 := ((a1.mono (Nat.le_of_eq HCW.out)).cell (p := ad.add j) (cellLt hc)).trans hc
        have HPI : Hid (∀ (i : Nat) (w : World), i ≤ 1000 → Calls Tryd.prog 87 #[.string (S j), .int .i64 i, .int .i64 NB] w fun e w' => e = .returned (.int .i64 ((plQ (hashL (S j).data.toList) NB i).toNat : Int)) ∧ Below w.heap.size w w') := Lib.hid fun i w hi => (r8Place_any (S j) i NB w (Nat.le_trans (HSZ.out j hlt) (by decide)) hi HNB.out).mono fun e w' ⟨h1, h2⟩ => ⟨h1, by rw [h2]; exact Below.refl _ _⟩
        have HBS : Hid (bsK P N S (j + 1) = putKey P (bsK P N S j) (S j).data.toList) := Lib.hid (bsK_succ P N S j)
        have HBL : Hid ((bsK P N S j).length = N) := Lib.hid (bsK_length P N S j)
        obtain ⟨b0, hb0⟩ : ∃ b0, bsK P N S j = b0 := ⟨_, rfl⟩
        rw [hb0] at HBS HBL y1
        rw [show b0 = putKey 0 b0 (S j).data.toList from rfl] at y1
        clear hb0 hc
        generalize S j = key at *
        go_wp2_with fail
        go_loopw [9] (fun x wr => ∃ i : Nat, i ≤ P ∧ x = .int .i64 i ∧ wr.heap[C]? = some (.cells #[.int .i64 0, .slice none 0 0] 113 (0, 0)) ∧ wr.heap[C + 1]? = some (.cells (bcells (putKey i b0 key.data.toList)) 4 (0, 0)) ∧ wr.heap[C + 1 + 1]? = some (.cells #[.int .i64 P, .slice (some ⟨C + 1, 0, none⟩) NB NB] 113 (0, 0)) ∧ Below C w wr) (fun x _ => (P - intOf x).toNat)
        case atStart => exact ⟨0, Nat.zero_le _, rfl, y0, y1, y2, a1⟩
        case round =>
          obtain ⟨i, hi, rfl, z0, z1, z2, a2⟩ := hrel
          clear y0 y1 y2 a1
          have c0 : wr.cell? ⟨C + 1 + 1, 0, none⟩ = some (.int .i64 P) := (Lib.cell_of_heap z2 0).trans rfl
          by_cases hli : i < P
          · have hli' : (i : Int) < P := by omega
            have hpl : (plQ (hashL key.data.toList) NB i).toNat < NB := plQ_lt _ NB i ⟨HNB.out.1, by have := HNB.out.2; omega⟩
            have HPC : Hid (∀ w : World, Calls Tryd.prog 87 #[.string key, .int .i64 i, .int .i64 NB] w fun e w' => e = .returned (.int .i64 ((plQ (hashL key.data.toList) NB i).toNat : Int)) ∧ Below w.heap.size w w') := Lib.hid fun w => HPI.out i w (by have := HP2.out; omega)
            have hsl : (putKey i b0 key.data.toList).length = N := by rw [putKey_length, HBL.out]
            have HPS : Hid (putKey (i + 1) b0 key.data.toList = setK (putKey i b0 key.data.toList) (plQ (hashL key.data.toList) NB i).toNat) := Lib.hid (by rw [putKey_succ, HBL.out, H8.out])
            obtain ⟨q, hq⟩ : ∃ q, (plQ (hashL key.data.toList) NB i).toNat = q := ⟨_, rfl⟩
            rw [hq] at hpl HPC HPS
            have HST := Lib.hid (bcells_set (putKey i b0 key.data.toList) q (by rw [hsl, H8.out]; exact hpl))
            have hgt := bcells_get (putKey i b0 key.data.toList) q (by rw [hsl, H8.out]; exact hpl)
            rw [← HPS.out] at HST
            clear hq hsl HPS
            generalize hpk : putKey i b0 key.data.toList = b1 at *
            clear hpk
            have hpli : (q : Int) < NB := by omega
            have ca := fun y : Past wr => (Lib.cell_of_heap ((y.h.block _ (heap_lt z2)).trans z2) 1).trans (rfl : _ = some (Value.slice (some ⟨C + 1, 0, none⟩) NB NB))
            have Z0 := Lib.hid z0
            have Z1 := Lib.hid z1
            have Z2 := Lib.hid z2
            have A2 := Lib.hid a2
            clear z0 z1 z2 a2
            go_wp2_with fail
            refine wp_region_wildL [] 7 (by kernel_rfl) (by kernel_rfl) ?_
            simp only [List.take_succ_cons, List.take_zero]
            iterate 5 (refine wildL_val (by decide) (by kernel_rfl) rfl ?_; intro K hK; go_big_quiet_op; go_big_quiet_on)
            refine wildL_call (by decide) (by kernel_rfl) (by kernel_rfl) ?_
            apply Exists.intro
            refine And.intro ?_ ?_
            focus
              intro x K hK
              go_big_quiet_op
              go_big_quiet_call (exact call_back (HPC.out _))
              rfl
            iterate 1 (refine wildL_val (by decide) (by kernel_rfl) rfl ?_; intro K hK; go_big_quiet_op; go_big_quiet_on)
            refine wildL_nil ?_
            simp only [List.drop_succ_cons, List.drop_zero]
            rintro ⟨z, hz⟩
            change wpList _ _ _ _ _ z
            have v0 := (hz.block _ (heap_lt Z0.out)).trans Z0.out
            have v1 := (hz.block _ (heap_lt Z1.out)).trans Z1.out
            have v2 := (hz.block _ (heap_lt Z2.out)).trans Z2.out
            have a3 := below_past A2.out hz (Nat.le_trans (Nat.le_of_eq HCW.out.symm) A2.out.size)
            have d0 : z.cell? ⟨C + 1, q, none⟩ = some (.bool (bitK b1 q)) := (Lib.cell_of_heap v1 q).trans hgt
            have f0 := Lib.frozen_of_heap v1 q
            have u0 : (z.setCell ⟨C + 1, q, none⟩ (.bool true)).heap[C]? = some (.cells #[.int .i64 0, .slice none 0 0] 113 (0, 0)) := (heap_setCell_other _ _ _ _ (by show C ≠ C + 1; omega)).trans v0
            have u1 : (z.setCell ⟨C + 1, q, none⟩ (.bool true)).heap[C + 1]? = some (.cells (bcells (putKey (i + 1) b0 key.data.toList)) 4 (0, 0)) := by
              rw [← HST.out]
              exact heap_put v1 _
            have u2 : (z.setCell ⟨C + 1, q, none⟩ (.bool true)).heap[C + 1 + 1]? = some (.cells #[.int .i64 P, .slice (some ⟨C + 1, 0, none⟩) NB NB] 113 (0, 0)) := (heap_setCell_other _ _ _ _ (by show C + 1 + 1 ≠ C + 1; omega)).trans v2
            have a4 : Below C w (z.setCell ⟨C + 1, q, none⟩ (.bool true)) := a3.setCell (p := ⟨C + 1, q, none⟩) (Nat.le_succ C) _
            clear v0 v1 v2 a3 ca hgt
            go_wp2_with fail
            exact ⟨⟨i + 1, hli, by go_num, u0, u1, u2, a4⟩, by simp [intOf]; omega⟩
          · obtain rfl : i = P := by omega
            rw [← HBS.out] at z1
            go_wp2_with fail
            exact ⟨⟨j + 1, hlt, by go_num, z0, z1, z2, a2⟩, by simp [intOf]; omega⟩
      · obtain rfl : j = len := by omega
        have c0 : wr.cell? ⟨C + 1 + 1, 0, none⟩ = some (.int .i64 P) := (Lib.cell_of_heap y2 0).trans rfl
        have c1 : wr.cell? ⟨C + 1 + 1, 1, none⟩ = some (.slice (some ⟨C + 1, 0, none⟩) NB NB) := (Lib.cell_of_heap y2 1).trans rfl
        have d0 : wr.cell? ⟨C, 0, none⟩ = some (.int .i64 0) := (Lib.cell_of_heap y0 0).trans rfl
        have d1 : wr.cell? ⟨C, 1, none⟩ = some (.slice none 0 0) := (Lib.cell_of_heap y0 1).trans rfl
        have f0 := Lib.frozen_of_heap y0 0
        have f1 := Lib.frozen_of_heap y0 1
        have u1 : ((wr.setCell ⟨C, 0, none⟩ (.int .i64 P)).setCell ⟨C, 1, none⟩ (.slice (some ⟨C + 1, 0, none⟩) NB NB)).heap[C + 1]? = some (.cells (bcells (bsK P N S j)) 4 (0, 0)) := (heap_setCell_other _ _ _ _ (by show C + 1 ≠ C; omega)).trans ((heap_setCell_other _ _ _ _ (by show C + 1 ≠ C; omega)).trans y1)
        have a4 : Below C w ((wr.setCell ⟨C, 0, none⟩ (.int .i64 P)).setCell ⟨C, 1, none⟩ (.slice (some ⟨C + 1, 0, none⟩) NB NB)) := (a1.setCell (p := ⟨C, 0, none⟩) (Nat.le_refl C) _).setCell (p := ⟨C, 1, none⟩) (Nat.le_refl C) _
        have rr : rowAt ((wr.setCell ⟨C, 0, none⟩ (.int .i64 P)).setCell ⟨C, 1, none⟩ (.slice (some ⟨C + 1, 0, none⟩) NB NB)) C = some #[.int .i64 P, .slice (some ⟨C + 1, 0, none⟩) NB NB] := rowAt_setCell_same (rowAt_setCell_same (rowAt_of_heap y0) 0 (.int .i64 P)) 1 _
        have HBL : (bsK P N S j).length = N := bsK_length P N S j
        clear y1 a1
        go_wp2_with fail
        refine bodyPost_ret (results_row rfl _ _ _ _ _ rfl rr Tryd.underlying113 rfl (by kernel_rfl)) rfl ?_
        refine ⟨some ⟨C + 1, 0, none⟩, NB, rfl, ⟨some ⟨C + 1, 0, none⟩, NB, by rw [bits8_length, HBL, H8.out], fun k hk => ⟨C + 1, rfl, ?_⟩⟩, a4⟩
        rw [bits8_length] at hk
        refine (Lib.cell_of_heap u1 k).trans ?_
        rw [bits8_get _ _ hk]
        exact bcells_get _ k hk
  · obtain ⟨P', hP'⟩ : ∃ P', P = P' := ⟨_, rfl⟩
    have h0i : (each : Int) * 7 / 10 = P := by rw [← hP, probesK]; omega
    have hP0 : ¬ (P : Int) = 0 := by omega
    replace x0 := x0 P
    replace x1 := x1 P
    replace x2 := x2 P
    replace a0 := a0 P
    clear h0 hP he hP'
    go_enter Tryd.func60, Tryd.ntmps60
    go_wp2_with fail
    generalize ((w.alloc (.cells #[.int .i64 0, .slice none 0 0] 113)).alloc (.cells (bcells (bsK P N S 0)) 4)).alloc (.cells #[.int .i64 P, .slice (some ⟨C + 1, 0, none⟩) NB NB] 113) = W0 at *
    clear h0i hP0
    go_loopw [30] (fun x wr => ∃ j : Nat, j ≤ len ∧ x = .int .i64 j ∧ wr.heap[C]? = some (.cells #[.int .i64 0, .slice none 0 0] 113 (0, 0)) ∧ wr.heap[C + 1]? = some (.cells (bcells (bsK P N S j)) 4 (0, 0)) ∧ wr.heap[C + 1 + 1]? = some (.cells #[.int .i64 P, .slice (some ⟨C + 1, 0, none⟩) NB NB] 113 (0, 0)) ∧ Below C w wr) (fun x _ => (len - intOf x).toNat)
    case atStart => exact ⟨0, Nat.zero_le _, rfl, x0, x1, x2, a0⟩
    case round =>
      obtain ⟨j, hj, rfl, y0, y1, y2, a1⟩ := hrel
      clear x0 x1 x2 a0
      by_cases hlt : j < len
      · have hlt' : (j : Int) < len := by omega
        obtain ⟨ad, hao, hc⟩ := HS1.out j hlt
        subst hao
        have c2 := ((a1.mono (Nat.le_of_eq HCW.out)).cell (p := ad.add j) (cellLt hc)).trans hc
        have HPI : Hid (∀ (i : Nat) (w : World), i ≤ 1000 → Calls Tryd.prog 87 #[.string (S j), .int .i64 i, .int .i64 NB] w fun e w' => e = .returned (.int .i64 ((plQ (hashL (S j).data.toList) NB i).toNat : Int)) ∧ Below w.heap.size w w') := Lib.hid fun i w hi => (r8Place_any (S j) i NB w (Nat.le_trans (HSZ.out j hlt) (by decide)) hi HNB.out).mono fun e w' ⟨h1, h2⟩ => ⟨h1, by rw [h2]; exact Below.refl _ _⟩
        have HBS : Hid (bsK P N S (j + 1) = putKey P (bsK P N S j) (S j).data.toList) := Lib.hid (bsK_succ P N S j)
        have HBL : Hid ((bsK P N S j).length = N) := Lib.hid (bsK_length P N S j)
        obtain ⟨b0, hb0⟩ : ∃ b0, bsK P N S j = b0 := ⟨_, rfl⟩
        rw [hb0] at HBS HBL y1
        rw [show b0 = putKey 0 b0 (S j).data.toList from rfl] at y1
        clear hb0 hc
        generalize S j = key at *
        go_wp2_with fail
        go_loopw [9] (fun x wr => ∃ i : Nat, i ≤ P ∧ x = .int .i64 i ∧ wr.heap[C]? = some (.cells #[.int .i64 0, .slice none 0 0] 113 (0, 0)) ∧ wr.heap[C + 1]? = some (.cells (bcells (putKey i b0 key.data.toList)) 4 (0, 0)) ∧ wr.heap[C + 1 + 1]? = some (.cells #[.int .i64 P, .slice (some ⟨C + 1, 0, none⟩) NB NB] 113 (0, 0)) ∧ Below C w wr) (fun x _ => (P - intOf x).toNat)
        case atStart => exact ⟨0, Nat.zero_le _, rfl, y0, y1, y2, a1⟩
        case round =>
          obtain ⟨i, hi, rfl, z0, z1, z2, a2⟩ := hrel
          clear y0 y1 y2 a1
          have c0 : wr.cell? ⟨C + 1 + 1, 0, none⟩ = some (.int .i64 P) := (Lib.cell_of_heap z2 0).trans rfl
          by_cases hli : i < P
          · have hli' : (i : Int) < P := by omega
            have hpl : (plQ (hashL key.data.toList) NB i).toNat < NB := plQ_lt _ NB i ⟨HNB.out.1, by have := HNB.out.2; omega⟩
            have HPC : Hid (∀ w : World, Calls Tryd.prog 87 #[.string key, .int .i64 i, .int .i64 NB] w fun e w' => e = .returned (.int .i64 ((plQ (hashL key.data.toList) NB i).toNat : Int)) ∧ Below w.heap.size w w') := Lib.hid fun w => HPI.out i w (by have := HP2.out; omega)
            have hsl : (putKey i b0 key.data.toList).length = N := by rw [putKey_length, HBL.out]
            have HPS : Hid (putKey (i + 1) b0 key.data.toList = setK (putKey i b0 key.data.toList) (plQ (hashL key.data.toList) NB i).toNat) := Lib.hid (by rw [putKey_succ, HBL.out, H8.out])
            obtain ⟨q, hq⟩ : ∃ q, (plQ (hashL key.data.toList) NB i).toNat = q := ⟨_, rfl⟩
            rw [hq] at hpl HPC HPS
            have HST := Lib.hid (bcells_set (putKey i b0 key.data.toList) q (by rw [hsl, H8.out]; exact hpl))
            have hgt := bcells_get (putKey i b0 key.data.toList) q (by rw [hsl, H8.out]; exact hpl)
            rw [← HPS.out] at HST
            clear hq hsl HPS
            generalize hpk : putKey i b0 key.data.toList = b1 at *
            clear hpk
            have hpli : (q : Int) < NB := by omega
            have ca := fun y : Past wr => (Lib.cell_of_heap ((y.h.block _ (heap_lt z2)).trans z2) 1).trans (rfl : _ = some (Value.slice (some ⟨C + 1, 0, none⟩) NB NB))
            have Z0 := Lib.hid z0
            have Z1 := Lib.hid z1
            have Z2 := Lib.hid z2
            have A2 := Lib.hid a2
            clear z0 z1 z2 a2
            go_wp2_with fail
            refine wp_region_wildL [] 7 (by kernel_rfl) (by kernel_rfl) ?_
            simp only [List.take_succ_cons, List.take_zero]
            iterate 5 (refine wildL_val (by decide) (by kernel_rfl) rfl ?_; intro K hK; go_big_quiet_op; go_big_quiet_on)
            refine wildL_call (by decide) (by kernel_rfl) (by kernel_rfl) ?_
            apply Exists.intro
            refine And.intro ?_ ?_
            focus
              intro x K hK
              go_big_quiet_op
              go_big_quiet_call (exact call_back (HPC.out _))
              rfl
            iterate 1 (refine wildL_val (by decide) (by kernel_rfl) rfl ?_; intro K hK; go_big_quiet_op; go_big_quiet_on)
            refine wildL_nil ?_
            simp only [List.drop_succ_cons, List.drop_zero]
            rintro ⟨z, hz⟩
            change wpList _ _ _ _ _ z
            have v0 := (hz.block _ (heap_lt Z0.out)).trans Z0.out
            have v1 := (hz.block _ (heap_lt Z1.out)).trans Z1.out
            have v2 := (hz.block _ (heap_lt Z2.out)).trans Z2.out
            have a3 := below_past A2.out hz (Nat.le_trans (Nat.le_of_eq HCW.out.symm) A2.out.size)
            have d0 : z.cell? ⟨C + 1, q, none⟩ = some (.bool (bitK b1 q)) := (Lib.cell_of_heap v1 q).trans hgt
            have f0 := Lib.frozen_of_heap v1 q
            have u0 : (z.setCell ⟨C + 1, q, none⟩ (.bool true)).heap[C]? = some (.cells #[.int .i64 0, .slice none 0 0] 113 (0, 0)) := (heap_setCell_other _ _ _ _ (by show C ≠ C + 1; omega)).trans v0
            have u1 : (z.setCell ⟨C + 1, q, none⟩ (.bool true)).heap[C + 1]? = some (.cells (bcells (putKey (i + 1) b0 key.data.toList)) 4 (0, 0)) := by
              rw [← HST.out]
              exact heap_put v1 _
            have u2 : (z.setCell ⟨C + 1, q, none⟩ (.bool true)).heap[C + 1 + 1]? = some (.cells #[.int .i64 P, .slice (some ⟨C + 1, 0, none⟩) NB NB] 113 (0, 0)) := (heap_setCell_other _ _ _ _ (by show C + 1 + 1 ≠ C + 1; omega)).trans v2
            have a4 : Below C w (z.setCell ⟨C + 1, q, none⟩ (.bool true)) := a3.setCell (p := ⟨C + 1, q, none⟩) (Nat.le_succ C) _
            clear v0 v1 v2 a3 ca hgt
            go_wp2_with fail
            exact ⟨⟨i + 1, hli, by go_num, u0, u1, u2, a4⟩, by simp [intOf]; omega⟩
          · obtain rfl : i = P := by omega
            rw [← HBS.out] at z1
            go_wp2_with fail
            exact ⟨⟨j + 1, hlt, by go_num, z0, z1, z2, a2⟩, by simp [intOf]; omega⟩
      · obtain rfl : j = len := by omega
        have c0 : wr.cell? ⟨C + 1 + 1, 0, none⟩ = some (.int .i64 P) := (Lib.cell_of_heap y2 0).trans rfl
        have c1 : wr.cell? ⟨C + 1 + 1, 1, none⟩ = some (.slice (some ⟨C + 1, 0, none⟩) NB NB) := (Lib.cell_of_heap y2 1).trans rfl
        have d0 : wr.cell? ⟨C, 0, none⟩ = some (.int .i64 0) := (Lib.cell_of_heap y0 0).trans rfl
        have d1 : wr.cell? ⟨C, 1, none⟩ = some (.slice none 0 0) := (Lib.cell_of_heap y0 1).trans rfl
        have f0 := Lib.frozen_of_heap y0 0
        have f1 := Lib.frozen_of_heap y0 1
        have u1 : ((wr.setCell ⟨C, 0, none⟩ (.int .i64 P)).setCell ⟨C, 1, none⟩ (.slice (some ⟨C + 1, 0, none⟩) NB NB)).heap[C + 1]? = some (.cells (bcells (bsK P N S j)) 4 (0, 0)) := (heap_setCell_other _ _ _ _ (by show C + 1 ≠ C; omega)).trans ((heap_setCell_other _ _ _ _ (by show C + 1 ≠ C; omega)).trans y1)
        have a4 : Below C w ((wr.setCell ⟨C, 0, none⟩ (.int .i64 P)).setCell ⟨C, 1, none⟩ (.slice (some ⟨C + 1, 0, none⟩) NB NB)) := (a1.setCell (p := ⟨C, 0, none⟩) (Nat.le_refl C) _).setCell (p := ⟨C, 1, none⟩) (Nat.le_refl C) _
        have rr : rowAt ((wr.setCell ⟨C, 0, none⟩ (.int .i64 P)).setCell ⟨C, 1, none⟩ (.slice (some ⟨C + 1, 0, none⟩) NB NB)) C = some #[.int .i64 P, .slice (some ⟨C + 1, 0, none⟩) NB NB] := rowAt_setCell_same (rowAt_setCell_same (rowAt_of_heap y0) 0 (.int .i64 P)) 1 _
        have HBL : (bsK P N S j).length = N := bsK_length P N S j
        clear y1 a1
        go_wp2_with fail
        refine bodyPost_ret (results_row rfl _ _ _ _ _ rfl rr Tryd.underlying113 rfl (by kernel_rfl)) rfl ?_
        refine ⟨some ⟨C + 1, 0, none⟩, NB, rfl, ⟨some ⟨C + 1, 0, none⟩, NB, by rw [bits8_length, HBL, H8.out], fun k hk => ⟨C + 1, rfl, ?_⟩⟩, a4⟩
        rw [bits8_length] at hk
        refine (Lib.cell_of_heap u1 k).trans ?_
        rw [bits8_get _ _ hk]
        exact bcells_get _ k hk
end Go.Proofs.YtgegipijappfhaaDoor
namespace Go.Proofs.YtgegipijappfhaaDoor
open Go Go.RowKit
attribute [local go_sem] Oper.semAt_some

/-- Bytes, as far as their first bits are laid. -/
def setTo (bs : List UInt8) (k : Nat) : List UInt8 := (List.range k).foldl (fun b j => if bitK bs j then setK b j else b) (List.replicate bs.length 0)
theorem setTo_succ (bs : List UInt8) (k : Nat) : setTo bs (k + 1) = if bitK bs k then setK (setTo bs k) k else setTo bs k := by
  unfold setTo
  rw [List.range_succ, List.foldl_append]
  rfl
theorem setTo_length (bs : List UInt8) (k : Nat) : (setTo bs k).length = bs.length := by
  induction k with
  | zero => simp [setTo]
  | succ k ih =>
    rw [setTo_succ]
    split
    · rw [setK_length, ih]
    · exact ih
theorem setTo_bit (bs : List UInt8) (k j : Nat) (hk : k ≤ 8 * bs.length) : bitK (setTo bs k) j = (decide (j < k) && bitK bs j) := by
  induction k with
  | zero =>
    have := bitK_zero bs.length j
    simp [setTo, this]
  | succ k ih =>
    have ih := ih (by omega)
    rw [setTo_succ]
    by_cases hb : bitK bs k = true
    · rw [if_pos hb, bitK_setK _ _ _ (by rw [setTo_length]; omega), ih]
      by_cases e : j = k
      · subst e
        simp [hb]
      · by_cases h1 : j < k
        · simp [e, h1, Nat.lt_succ_of_lt h1]
        · have : ¬ j < k + 1 := by omega
          simp [e, h1, this]
    · rw [if_neg hb, ih]
      by_cases e : j = k
      · subst e
        simp [hb]
      · by_cases h1 : j < k
        · simp [h1, Nat.lt_succ_of_lt h1]
        · have : ¬ j < k + 1 := by omega
          simp [h1, this]
theorem byte_bits : ∀ c d : Fin 256, (∀ b : Fin 8, (c.val / 2 ^ b.val % 2 == 1) = (d.val / 2 ^ b.val % 2 == 1)) → c = d := by
  have key : ∀ c : Fin 256, c.val = ((if (c.val / 2 ^ 0 % 2 == 1) = true then 1 else 0) + (if (c.val / 2 ^ 1 % 2 == 1) = true then 2 else 0) + (if (c.val / 2 ^ 2 % 2 == 1) = true then 4 else 0) + (if (c.val / 2 ^ 3 % 2 == 1) = true then 8 else 0) + (if (c.val / 2 ^ 4 % 2 == 1) = true then 16 else 0) + (if (c.val / 2 ^ 5 % 2 == 1) = true then 32 else 0) + (if (c.val / 2 ^ 6 % 2 == 1) = true then 64 else 0) + (if (c.val / 2 ^ 7 % 2 == 1) = true then 128 else 0)) := by decide +kernel
  intro c d h
  apply Fin.ext
  have e : ∀ b : Fin 8, (c.val / 2 ^ b.val % 2 == 1) = (d.val / 2 ^ b.val % 2 == 1) := h
  rw [key c, key d]
  have e0 := e 0
  have e1 := e 1
  have e2 := e 2
  have e3 := e 3
  have e4 := e 4
  have e5 := e 5
  have e6 := e 6
  have e7 := e 7
  simp only [Fin.isValue, Fin.val_zero, Fin.val_one] at e0 e1
  rw [show (2 : Fin 8).val = 2 from rfl] at e2
  rw [show (3 : Fin 8).val = 3 from rfl] at e3
  rw [show (4 : Fin 8).val = 4 from rfl] at e4
  rw [show (5 : Fin 8).val = 5 from rfl] at e5
  rw [show (6 : Fin 8).val = 6 from rfl] at e6
  rw [show (7 : Fin 8).val = 7 from rfl] at e7
  rw [e0, e1, e2, e3, e4, e5, e6, e7]
theorem bits_ext {a b : List UInt8} (hl : a.length = b.length) (h : ∀ k, k < 8 * a.length → bitK a k = bitK b k) : a = b := by
  apply List.ext_getElem hl
  intro i h1 h2
  apply UInt8.toNat_inj.1
  have := byte_bits ⟨a[i].toNat, a[i].toNat_lt⟩ ⟨b[i].toNat, b[i].toNat_lt⟩ (fun j => by
    have hk := h (8 * i + j.val) (by have := j.isLt; omega)
    unfold bitK at hk
    rw [show (8 * i + j.val) / 8 = i by have := j.isLt; omega, show (8 * i + j.val) % 8 = j.val by have := j.isLt; omega, List.getD_eq_getElem?_getD, List.getD_eq_getElem?_getD, List.getElem?_eq_getElem h1, List.getElem?_eq_getElem h2] at hk
    exact hk)
  exact congrArg Fin.val this
theorem setTo_all (bs : List UInt8) : setTo bs (8 * bs.length) = bs := by
  refine bits_ext (setTo_length _ _) fun k hk => ?_
  rw [setTo_length] at hk
  rw [setTo_bit bs _ k (Nat.le_refl _), decide_eq_true hk, Bool.true_and]
theorem ownStrs_made (w : World) (B n : Nat) (hn : n = w.heap.size) (hB : B ≤ n) : OwnStrs (w.alloc (.cells #[] 9)) B (.slice (some ⟨n, 0, none⟩) 0 0) [] := by
  subst hn
  exact ⟨rfl, .inr ⟨w.heap.size, 0, #[], rfl, hB, heap_alloc_new w _, Nat.le_refl _, Nat.zero_le _, rfl, rfl⟩⟩
set_option maxRecDepth 100000 in
set_option maxHeartbeats 4000000 in
theorem r10Filter_any (v : Value) (l : List Ent) (w : World) (h : EntsAt w v l) (hs : smallB l) (hl : l.length ≤ 2048) :
    Calls Tryd.prog 29 #[v] w fun e w' => e = .returned (.string (stx (encBl 7 (bloomT l)))) ∧ Below w.heap.size w w' := by
  obtain ⟨ao, cap, rfl, hc1, hc2, h3⟩ := h
  have H3 := Lib.hid h3
  have HS := Lib.hid hs
  have HGD := Lib.hid (bloomT_good l hl)
  obtain ⟨n, hn⟩ : ∃ n, l.length = n := ⟨_, rfl⟩
  have HN := Lib.hid hn
  have HL := Lib.hid hl
  rw [hn] at hl ⊢
  have hni : (n : Int) ≤ 2048 := by omega
  obtain ⟨i0, hi, hz0, hz1, hz2⟩ := info_str
  have b0 : Below w.heap.size w (w.alloc (.cells #[] 9)) := (Below.refl _ _).alloc (Nat.le_refl _) _
  have o0 := ownStrs_made w w.heap.size w.heap.size rfl (Nat.le_refl _)
  have HK0 : Hid (keysOf (l.take 0) = []) := Lib.hid rfl
  clear h3 hs hn hc1 hc2
  go_enter Tryd.func29, Tryd.ntmps29
  go_wp2_with fail
  generalize (w.alloc (.cells #[] 9)) = W0 at *
  go_loopw [3, 13] (fun u x wr => ∃ (i : Nat) (K : List (List UInt8)), i ≤ n ∧ x = .int .i64 i ∧ Hid (keysOf (l.take i) = K ∧ K.length = i) ∧ OwnStrs wr w.heap.size u K ∧ Below w.heap.size w wr) (fun _ x _ => (n - intOf x).toNat)
  case atStart => exact ⟨0, [], Nat.zero_le _, rfl, Lib.hid ⟨rfl, rfl⟩, o0, b0⟩
  case round =>
    obtain ⟨i, K, hin, rfl, HK, ow, b1⟩ := hrel
    clear b0 o0
    by_cases hlt : i < n
    · have hlt' : (i : Int) < n := by omega
      obtain ⟨x, hx⟩ : ∃ x, l[i]? = some x := ⟨_, List.getElem?_eq_getElem (by rw [HN.out]; exact hlt)⟩
      obtain ⟨g, o, rfl, hat⟩ := H3.out i x hx
      obtain ⟨c0, c1, c2⟩ := hat.below b1
      have HK2 : Hid (keysOf (l.take (i + 1)) = K ++ [x.key] ∧ (K ++ [x.key]).length = i + 1) := Lib.hid ⟨by rw [← HK.out.1, keysOf, keysOf, List.take_add_one, hx]; simp, by rw [List.length_append, HK.out.2]; rfl⟩
      have bq : Below wr.heap.size wr (wr.alloc (.cells #[.string (stx x.key), .string (stx x.val), .bool x.gone] 36)) := (Below.refl _ _).alloc (Nat.le_refl _) _
      have r2 := rowAt_alloc_at wr #[.string (stx x.key), .string (stx x.val), .bool x.gone] 36 _ rfl
      have d0 := cell_of_rowAt r2 0
      have ow2 := ow.below bq
      have b2 := below_past b1 bq b1.size
      have hkl : K.length ≤ 2048 := by rw [HK.out.2]; omega
      clear hx hat bq b1 ow r2 HK
      go_upto_region 5 with fail
      generalize hC : wr.heap.size = C at *
      generalize (wr.alloc (.cells #[.string (stx x.key), .string (stx x.val), .bool x.gone] 36)) = W2 at *
      clear c0 c1 c2
      have bq : Below W2.heap.size W2 (W2.alloc (.cells #[.string (stx x.key)] 9)) := (Below.refl _ _).alloc (Nat.le_refl _) _
      have ow4 : (W2.alloc (.cells #[.string (stx x.key)] 9)).ownsRow w.heap.size 9 1 u3 K.length (strCells K) := ow2.below bq
      have b5 := below_past b2 bq b2.size
      clear bq ow2
      go_wp2_with (at_builtin; refine wpList_append_own _ rfl _ _ 107 rfl w.heap.size 9 i0 (.string ⟨#[]⟩) 1 16 Tryd.underlying107 hi hz0 hz1 hz2 rfl (by decide) _ _ _ rfl ow4 ⟨W2.heap.size, 0, none⟩ 1 1 [.string (stx x.key)] rfl rfl ?c1 ?c2 ?c3 ?c4 ?c5 ?_)
      case c1 =>
        intro j u hu
        have hj : j = 0 := by
          have := (List.getElem?_eq_some_iff.1 hu).1
          simpa using this
        subst hj
        have hu2 : Value.string (stx x.key) = u := by simpa using hu
        rw [← hu2, show (⟨W2.heap.size, 0, none⟩ : Addr).add 0 = ⟨W2.heap.size, 0, none⟩ by simp [Addr.add]]
        exact cell_of_rowAt (rowAt_alloc_at W2 #[.string (stx x.key)] 9 _ rfl) 0
      case c2 =>
        intro u hu
        have hu2 : u = Value.string (stx x.key) := by simpa using hu
        rw [hu2]
        rfl
      case c3 => unfold maxLen; omega
      case c4 => omega
      case c5 => exact b5.size
      intro v' w' hown hgrow hnil
      have b6 := b5.grown hgrow b5.size (fun k hk => (World.ownsRow.lt ow4 k hk).1)
      have hown2 : OwnStrs w' w.heap.size v' (K ++ [x.key]) := by
        show w'.ownsRow w.heap.size 9 1 v' (K ++ [x.key]).length (strCells (K ++ [x.key]))
        rw [List.length_append, ← strCells_put]
        exact hown
      clear hown hgrow hnil ow4 b5 d0 hkl
      go_wp2_with fail
      exact ⟨⟨i + 1, K ++ [x.key], hlt, by go_num, HK2, hown2, b6⟩, by simp [intOf]; omega⟩
    · obtain rfl : i = n := by omega
      have hKK : K = keysOf l := by rw [← HK.out.1, List.take_of_length_le (by rw [HN.out]; exact Nat.le_refl _)]
      subst hKK
      have hIN := strs_in ow.lie
      rw [HK.out.2] at hIN
      have HM := Lib.hid (r8Make_any _ i _ 10 wr hIN (fun j hj => by
        rw [stx_size, keysOf, List.getD_eq_getElem?_getD, List.getElem?_map, List.getElem?_eq_getElem (by rw [HN.out]; exact hj)]
        exact (HS.out _ (List.getElem_mem _)).1) ⟨by decide, by decide⟩ hl 7 (sizeK i 10) (8 * sizeK i 10) (by decide) rfl rfl)
      obtain ⟨NB, hNB⟩ : ∃ NB, 8 * sizeK i 10 = NB := ⟨_, rfl⟩
      rw [hNB, show ((10 : Nat) : Int) = 10 from rfl, show ((7 : Nat) : Int) = 7 from rfl] at HM
      have hbs : bsK 7 (sizeK i 10) (fun j => stx ((keysOf l).getD j [])) i = bloomT l := by
        have hk := keys_of (keysOf l)
        rw [HK.out.2] at hk
        show makeK 7 _ (keysL (fun j => stx ((keysOf l).getD j [])) i) = _
        rw [hk, bloomT, HN.out]
      have hbl : (bloomT l).length = sizeK i 10 := by rw [bloomT, makeK_length, HN.out]
      have hgd := of_decide_eq_true HGD.out
      rw [hbs] at HM
      obtain ⟨F, hF⟩ : ∃ F, bloomT l = F := ⟨_, rfl⟩
      have HFF := Lib.hid hF
      rw [hF] at HM hbl hgd
      rw [hbl] at hgd
      have HFL := Lib.hid hbl
      generalize sizeK i 10 = N at *
      have hN1 : 1 ≤ N := by omega
      have hN2 : N ≤ 8192 := by omega
      clear hIN hbs hbl hgd hF HGD HK ow
      go_wp2_with fail
      refine HM.out.mono ?_
      rintro e w2 ⟨bo, bc, rfl, hbi, b2⟩
      have b3 := below_past b1 b2 b1.size
      have hNB1 : (NB : Int) / 8 = N := by omega
      have hNBi : (NB : Int) ≤ 65536 := by omega
      have HNB := Lib.hid hNB
      have hmk := fun w => make_bytes N (by omega) w
      have bq : Below w2.heap.size w2 ((w2.alloc (.cells #[.int .i64 7, .slice bo NB bc] 113)).alloc (.cells (cellsB8 (List.replicate N 0)) 5)) := ((Below.refl _ _).alloc (Nat.le_refl _) _).alloc (by simp only [World.size_alloc]; omega) _
      have hx3 : ((w2.alloc (.cells #[.int .i64 7, .slice bo NB bc] 113)).alloc (.cells (cellsB8 (List.replicate N 0)) 5)).heap[w2.heap.size]? = some (.cells #[.int .i64 7, .slice bo NB bc] 113) := (Below.heap_alloc _ _ _ (by simp)).trans (heap_alloc_new w2 _)
      have hy3 : ((w2.alloc (.cells #[.int .i64 7, .slice bo NB bc] 113)).alloc (.cells (cellsB8 (List.replicate N 0)) 5)).heap[w2.heap.size + 1]? = some (.cells (cellsB8 (List.replicate N 0)) 5) := by
        have := heap_alloc_new (w2.alloc (.cells #[.int .i64 7, .slice bo NB bc] 113)) (.cells (cellsB8 (List.replicate N 0)) 5)
        rwa [World.size_alloc] at this
      have hbi3 := hbi.below bq
      have b4 := below_past b3 bq b3.size
      have hbb : ∀ g, bo = some ⟨g, 0, none⟩ → 0 < NB → g < w2.heap.size := fun g hg h0 => by
        obtain ⟨ao, cap, e1, e2⟩ := hbi
        obtain ⟨e3, e4, _⟩ : bo = ao ∧ NB = (bits8 F).length ∧ bc = cap := by simpa using e1
        obtain ⟨g', e5, e6⟩ := e2 0 (by omega)
        rw [← e3, hg] at e5
        obtain rfl : g = g' := by simpa using e5
        exact cellLt e6
      have HB3 := Lib.hid (fun i hi => by
        obtain ⟨ao, cap, e1, e2⟩ := hbi
        obtain ⟨e3, e4, _⟩ : bo = ao ∧ NB = (bits8 F).length ∧ bc = cap := by simpa using e1
        obtain ⟨g', e5, e6⟩ := e2 i (by omega)
        refine (⟨g', e3.trans e5, ?_⟩ : ∃ g, bo = some ⟨g, 0, none⟩ ∧ w2.cell? ⟨g, i, none⟩ = some (.bool (bitK F i)))
        rw [e6, bits8_get _ _ (by rw [bits8_length] at e4; omega)] : ∀ i, i < NB → ∃ g, bo = some ⟨g, 0, none⟩ ∧ w2.cell? ⟨g, i, none⟩ = some (.bool (bitK F i)))
      clear HM hbi b1 b2 hNB hbb hbi3
      go_wp2_with fail
      generalize hC : w2.heap.size = C at *
      generalize ((w2.alloc (.cells #[.int .i64 7, .slice bo NB bc] 113)).alloc (.cells (cellsB8 (List.replicate N 0)) 5)) = W3 at *
      have HBQ := Lib.hid bq
      have HC := Lib.hid hC
      clear hC hmk
      go_loopw [33] (fun x wr => ∃ (k : Nat), k ≤ NB ∧ x = .int .i64 k ∧ wr.heap[C]? = some (.cells #[.int .i64 7, .slice bo NB bc] 113) ∧ wr.heap[C + 1]? = some (.cells (cellsB8 (setTo F k)) 5) ∧ Below C w2 wr ∧ Below w.heap.size w wr) (fun x _ => (NB - intOf x).toNat)
      case atStart => exact ⟨0, Nat.zero_le _, rfl, hx3, by rw [hy3, show setTo F 0 = List.replicate N 0 by rw [← HFL.out]; rfl], HBQ.out, b4⟩
      case round =>
        obtain ⟨k, hk, rfl, hx, hy, b5, b6⟩ := hrel
        clear hx3 hy3 b4
        have hwC : w.heap.size ≤ C + 1 := by rw [← HC.out]; have := b3.size; omega
        by_cases hlt2 : k < NB
        · have hlt2' : (k : Int) < NB := by omega
          obtain ⟨g, rfl, hcg⟩ := HB3.out k hlt2
          have z0 := (b5.cell (p := ⟨g, k, none⟩) (by have := cellLt hcg; rw [HC.out] at this; exact this)).trans hcg
          have hs1 := setTo_succ F k
          have hk8 : k / 8 < N := by have := HNB.out; omega
          have hk80 : k / 8 < (setTo F k).length := by rw [setTo_length, HFL.out]; exact hk8
          have hx1 := hx
          clear hcg
          cases hb : bitK F k with
          | false =>
            rw [hb] at hs1 z0
            rw [if_neg (by simp)] at hs1
            have HS1 := Lib.hid hs1
            clear hs1 hx1 hk80
            go_wp2_with fail
            exact ⟨⟨k + 1, hlt2, by go_num, hx, by rw [HS1.out]; exact hy, b5, b6⟩, by simp [intOf]; omega⟩
          | true =>
            rw [hb] at hs1 z0
            rw [if_pos rfl] at hs1
            obtain ⟨c, hc⟩ : ∃ c, (setTo F k).getD (k / 8) 0 = c := ⟨_, rfl⟩
            have d1 := (Lib.cell_of_heap hy (k / 8)).trans (cellsB8_get (setTo F k) (k / 8) hk80)
            rw [hc] at d1
            have f1 := Lib.frozen_of_heap hy (k / 8)
            have hsk : Hid (setTo F (k + 1) = (setTo F k).set (k / 8) (UInt8.ofNat (c.toNat ||| 2 ^ (k % 8)))) := Lib.hid (by rw [hs1, setK, hc])
            have hk81 : (k : Int) / 8 < N := by omega
            have hcb : (c.toNat : Int) < 256 := by have := c.toNat_lt; omega
            have HY := Lib.hid hy
            have HX := Lib.hid hx
            clear hs1 hc hk80 hx hy hx1 hb
            go_upto_region 13 with fail
            go_region
            go_wp2_with fail
            refine ⟨⟨k + 1, hlt2, by go_num, (Below.heap_setCell _ _ _ _ (by dsimp only; omega)).trans HX.out, ?_, (b5.setCell (p := ⟨C + 1, k / 8, none⟩) (Nat.le_succ C) _).drew, (b6.setCell (p := ⟨C + 1, k / 8, none⟩) hwC _).drew⟩, by simp [intOf]; omega⟩
            refine (heap_put (j := k / 8) HY.out _).trans ?_
            rw [hsk.out, or_byte8, cellsB8_set]
        · obtain rfl : k = NB := by omega
          have hall : setTo F k = F := by rw [← HNB.out, ← HFL.out]; exact setTo_all F
          rw [hall] at hy
          have hby : BytesIn wr (some ⟨C + 1, 0, none⟩) F := fun j hj => ⟨C + 1, 0, rfl, by rw [Nat.zero_add]; exact (Lib.cell_of_heap hy j).trans (cellsB8_get F j hj)⟩
          have HBY := Lib.hid hby
          have c0 := (Lib.cell_of_heap hx 0).trans (rfl : _ = some (Value.int .i64 7))
          clear hall hy hx hby hlt2
          go_upto_region 15 with fail
          have y0 := fun y : Past wr => (y.h.cell (p := ⟨C, 0, none⟩) (cellLt c0)).trans c0
          have HCV : ∀ y : Past wr, (convert 54 9 (.slice (some ⟨C + 1, 0, none⟩) N N)).run Tryd.prog y.w = .ok (.string (txt F)) y.w := fun y => by
            have := conv_in y.w (some ⟨C + 1, 0, none⟩) N F (by rw [HFL.out]; omega) (HBY.out.below y.h)
            rwa [HFL.out] at this
          have HNM := Lib.hid (fun w => r2Number_any 7 w (by decide))
          have HTX := Lib.hid (fun w => r2Text_any (txt F) w (by rw [txt_size, HFL.out]; omega))
          have hs1 : (txt (numBytes 7)).size = 2 := by decide
          obtain ⟨q9, hq9⟩ : ∃ q9, (txt (numBytes (txt F).size ++ (txt F).data.toList)).size = q9 := ⟨_, rfl⟩
          have hq91 : (q9 : Int) ≤ 9000 := by
            have := enc_len 7 F (by decide) (by rw [HFL.out]; omega)
            unfold encBl at this
            rw [List.length_append] at this
            rw [← hq9, txt_size, txt_size]
            show ((numBytes F.length ++ F).length : Int) ≤ 9000
            omega
          have HRES : Hid (txt (numBytes 7) ++ txt (numBytes (txt F).size ++ (txt F).data.toList) = stx (encBl 7 F)) := Lib.hid (by
            rw [txt_append, txt_size]
            rfl)
          generalize txt (numBytes 7) = T7 at *
          generalize txt (numBytes (txt F).size ++ (txt F).data.toList) = TX at *
          generalize txt F = TF at *
          clear c0 HBY
          refine wp_region_wildL [] 8 (by kernel_rfl) (by kernel_rfl) ?_
          simp only [List.take_succ_cons, List.take_zero]
          iterate 2 (refine wildL_val (by decide) (by kernel_rfl) rfl ?_; intro K hK; go_big_quiet_op; go_big_quiet_on)
          refine wildL_call (by decide) (by kernel_rfl) (by kernel_rfl) ?_
          apply Exists.intro
          refine And.intro ?_ ?_
          focus
            intro x K hK
            go_big_quiet_op
            go_big_quiet_call (exact call_back (HNM.out _))
            rfl
          iterate 2 (refine wildL_val (by decide) (by kernel_rfl) rfl ?_; intro K hK; go_big_quiet_op; go_big_quiet_on)
          refine wildL_call (by decide) (by kernel_rfl) (by kernel_rfl) ?_
          apply Exists.intro
          refine And.intro ?_ ?_
          focus
            intro x K hK
            go_big_quiet_op
            go_big_quiet_call (exact call_back (HTX.out _))
            rfl
          iterate 2 (refine wildL_val (by decide) (by kernel_rfl) rfl ?_; intro K hK; go_big_quiet_op; go_big_quiet_on)
          refine wildL_nil ?_
          simp only [List.drop_succ_cons, List.drop_nil]
          rintro ⟨z, hz⟩
          dsimp only
          have b7 := below_past b6 hz b6.size
          clear hz y0 HCV HNM HTX
          go_wp2_with fail
          go_ret
          exact ⟨by rw [HFF.out, ← HRES.out]; rfl, b7⟩
end Go.Proofs.YtgegipijappfhaaDoor
namespace Go.Proofs.YtgegipijappfhaaDoor
open Go

/-- One bit goes out. -/
def out1 (x : Nat) : Nat := if x % 2 = 1 then x / 2 ^^^ 3988292384 else x / 2
def outN : Nat → Nat → Nat
  | 0, x => x
  | k + 1, x => out1 (outN k x)
theorem xor_mod2 (x y : Nat) : (x ^^^ y) % 2 = (x % 2 + y % 2) % 2 := by
  have h := Nat.testBit_xor (x := x) (y := y) (i := 0)
  simp only [Nat.testBit_zero] at h
  have hx := Nat.mod_two_eq_zero_or_one x
  have hy := Nat.mod_two_eq_zero_or_one y
  have hz := Nat.mod_two_eq_zero_or_one (x ^^^ y)
  rcases hx with hx | hx <;> rcases hy with hy | hy <;> rcases hz with hz | hz <;> simp_all
theorem out1_xor (x y : Nat) : out1 (x ^^^ y) = out1 x ^^^ out1 y := by
  unfold out1
  rw [Nat.xor_div_two, xor_mod2]
  have hx := Nat.mod_two_eq_zero_or_one x
  have hy := Nat.mod_two_eq_zero_or_one y
  rcases hx with hx | hx <;> rcases hy with hy | hy
  · rw [if_neg (by omega), if_neg (by omega), if_neg (by omega)]
  · rw [if_pos (by omega), if_neg (by omega), if_pos (by omega), Nat.xor_assoc]
  · rw [if_pos (by omega), if_pos (by omega), if_neg (by omega), Nat.xor_assoc, Nat.xor_assoc, Nat.xor_comm (y / 2)]
  · rw [if_neg (by omega), if_pos (by omega), if_pos (by omega), Nat.xor_assoc, ← Nat.xor_assoc 3988292384, Nat.xor_comm 3988292384, Nat.xor_assoc (y / 2), Nat.xor_self, Nat.xor_zero]
theorem outN_xor (k x y : Nat) : outN k (x ^^^ y) = outN k x ^^^ outN k y := by
  induction k with
  | zero => rfl
  | succ k ih => rw [outN, outN, outN, ih, out1_xor]
theorem outN_add (k j x : Nat) : outN (k + j) x = outN k (outN j x) := by
  induction k with
  | zero => rw [Nat.zero_add]; rfl
  | succ k ih => rw [show k + 1 + j = (k + j) + 1 by omega, outN, outN, ih]
theorem out1_twice (z : Nat) : out1 (2 * z) = z := by
  rw [out1, if_neg (by omega)]
  omega
theorem outN_pow (k z : Nat) : outN k (2 ^ k * z) = z := by
  induction k generalizing z with
  | zero => show 1 * z = z; omega
  | succ k ih =>
    rw [outN, show 2 ^ (k + 1) * z = 2 ^ k * (2 * z) by rw [Nat.pow_succ, Nat.mul_assoc], ih, out1_twice]
theorem out1_lt (x : Nat) (h : x < 4294967296) : out1 x < 4294967296 := by
  unfold out1
  split
  · exact Nat.xor_lt_two_pow (n := 32) (by omega) (by decide)
  · omega
theorem outN_lt (k x : Nat) (h : x < 4294967296) : outN k x < 4294967296 := by
  induction k with
  | zero => exact h
  | succ k ih => exact out1_lt _ ih
theorem xor_cancel {a b c : Nat} (h : a ^^^ c = b ^^^ c) : a = b := by
  have := congrArg (· ^^^ c) h
  simpa [Nat.xor_assoc] using this
theorem high_bit (x : Nat) (h : x < 2147483648) : 2147483648 ≤ x ^^^ 3988292384 := by
  have h1 : (x ^^^ 3988292384).testBit 31 = true := by
    rw [Nat.testBit_xor, Nat.testBit_lt_two_pow (show x < 2 ^ 31 from h)]
    decide +kernel
  exact Nat.ge_two_pow_of_testBit h1
theorem out1_inj {x y : Nat} (hx : x < 4294967296) (hy : y < 4294967296) (h : out1 x = out1 y) : x = y := by
  unfold out1 at h
  rcases Nat.mod_two_eq_zero_or_one x with ex | ex <;> rcases Nat.mod_two_eq_zero_or_one y with ey | ey
  · rw [if_neg (by omega), if_neg (by omega)] at h
    omega
  · rw [if_neg (by omega), if_pos ey] at h
    have := high_bit (y / 2) (by omega)
    omega
  · rw [if_pos ex, if_neg (by omega)] at h
    have := high_bit (x / 2) (by omega)
    omega
  · rw [if_pos ex, if_pos ey] at h
    have := xor_cancel h
    omega
theorem outN_inj {k x y : Nat} (hx : x < 4294967296) (hy : y < 4294967296) (h : outN k x = outN k y) : x = y := by
  induction k with
  | zero => exact h
  | succ k ih => exact ih (out1_inj (outN_lt k x hx) (outN_lt k y hy) h)
theorem tabs_out : ∀ o : Fin 256, outN 8 o.val = lowT (o.val % 16) ^^^ highT (o.val / 16) := by decide +kernel
theorem split_xor (a b : Nat) (h : b < 256) : 256 * a ^^^ b = 256 * a + b := by
  have h1 := Nat.shiftLeft_add_eq_or_of_lt (i := 8) h a
  rw [Nat.shiftLeft_eq, Nat.mul_comm] at h1
  rw [show (256 : Nat) = 2 ^ 8 from rfl, h1]
  apply Nat.eq_of_testBit_eq
  intro i
  rw [Nat.testBit_xor, Nat.testBit_or, Nat.testBit_two_pow_mul]
  by_cases hi : 8 ≤ i
  · rw [Nat.testBit_lt_two_pow (show b < 2 ^ i from Nat.lt_of_lt_of_le (show b < 2 ^ 8 from h) (Nat.pow_le_pow_right (show 0 < 2 by decide) hi))]
    simp
  · simp [hi]
/-- A byte goes in bit by bit as by the tables. -/
theorem stepC_out (c : Nat) (b : UInt8) : stepC c b = outN 8 (c ^^^ b.toNat) := by
  have hb := b.toNat_lt
  have ho := outB_lt c b
  have e : c ^^^ b.toNat = 256 * (c / 256) ^^^ outB c b := by
    rw [outB, ← Nat.xor_assoc, split_xor (c / 256) (c % 256) (Nat.mod_lt c (by decide))]
    congr 1
    omega
  rw [e, outN_xor, outN_pow 8 (c / 256), tabs_out ⟨outB c b, ho⟩, stepC, Nat.xor_assoc]
def refB (c b : Nat) : Nat → Nat
  | 0 => c
  | k + 1 => if (refB c b k ^^^ b / 2 ^ k) % 2 = 1 then refB c b k / 2 ^^^ 3988292384 else refB c b k / 2
theorem refB_out (c b k : Nat) : refB c b k = outN k (c ^^^ b) ^^^ b / 2 ^ k := by
  induction k with
  | zero =>
    show c = c ^^^ b ^^^ b / 1
    rw [Nat.div_one, Nat.xor_assoc, Nat.xor_self, Nat.xor_zero]
  | succ k ih =>
    have e1 : refB c b k ^^^ b / 2 ^ k = outN k (c ^^^ b) := by rw [ih, Nat.xor_assoc, Nat.xor_self, Nat.xor_zero]
    have e2 : refB c b k / 2 = outN k (c ^^^ b) / 2 ^^^ b / 2 ^ (k + 1) := by rw [ih, Nat.xor_div_two, Nat.div_div_eq_div_mul, ← Nat.pow_succ]
    rw [refB, e1, e2, outN, out1]
    split
    · rw [Nat.xor_assoc, Nat.xor_comm (b / 2 ^ (k + 1)), ← Nat.xor_assoc]
    · rfl
theorem refB_step (c : Nat) (b : UInt8) : refB c b.toNat 8 = stepC c b := by
  have hb := b.toNat_lt
  rw [refB_out, stepC_out, show b.toNat / 2 ^ 8 = 0 by omega, Nat.xor_zero]
theorem refB_lt (c b : Nat) (h : c < 4294967296) (k : Nat) : refB c b k < 4294967296 := by
  induction k with
  | zero => exact h
  | succ k ih =>
    rw [refB]
    split
    · exact Nat.xor_lt_two_pow (n := 32) (by omega) (by decide)
    · omega

/-- The sum of unlike bytes behind like ones is unlike. -/
theorem stepC_inj {c d : Nat} (b : UInt8) (hc : c < 4294967296) (hd : d < 4294967296) (h : stepC c b = stepC d b) : c = d := by
  have hb := b.toNat_lt
  rw [stepC_out, stepC_out] at h
  have := outN_inj (Nat.xor_lt_two_pow (n := 32) (by omega) (by omega)) (Nat.xor_lt_two_pow (n := 32) (by omega) (by omega)) h
  exact xor_cancel this
theorem crcF_inj {c d : Nat} (l : List UInt8) (hc : c < 4294967296) (hd : d < 4294967296) (h : crcF c l = crcF d l) : c = d := by
  induction l generalizing c d with
  | nil => exact h
  | cons b l ih => exact stepC_inj b hc hd (ih (stepC_lt c b hc) (stepC_lt d b hd) h)
/-- A few bytes as a number, the lowest first. -/
def leV : List UInt8 → Nat
  | [] => 0
  | b :: l => b.toNat + 256 * leV l
theorem leV_lt (l : List UInt8) : leV l < 256 ^ l.length := by
  induction l with
  | nil => decide
  | cons b l ih =>
    have := b.toNat_lt
    rw [leV, List.length_cons, Nat.pow_succ]
    omega
theorem leV_inj : ∀ (l m : List UInt8), l.length = m.length → leV l = leV m → l = m
  | [], [], _, _ => rfl
  | a :: l, b :: m, hl, h => by
    have ha := a.toNat_lt
    have hb := b.toNat_lt
    rw [leV, leV] at h
    have h1 : a = b := UInt8.toNat_inj.1 (by omega)
    have h2 := leV_inj l m (by simpa using hl) (by omega)
    rw [h1, h2]
theorem crcF_le (c : Nat) (l : List UInt8) : crcF c l = outN (8 * l.length) (c ^^^ leV l) := by
  induction l generalizing c with
  | nil => rw [leV, Nat.xor_zero]; rfl
  | cons b l ih =>
    have hb := b.toNat_lt
    rw [show crcF c (b :: l) = crcF (stepC c b) l from rfl, ih, List.length_cons, show 8 * (l.length + 1) = 8 * l.length + 8 by omega, outN_add, stepC_out]
    congr 1
    have : b.toNat + 256 * leV l = b.toNat ^^^ 2 ^ 8 * leV l := by
      rw [Nat.xor_comm, show (2 : Nat) ^ 8 = 256 from rfl, split_xor _ _ hb]
      omega
    rw [leV, this, ← Nat.xor_assoc, outN_xor 8 (c ^^^ b.toNat), outN_pow 8]
theorem crcF_few {c : Nat} (l m : List UInt8) (hc : c < 4294967296) (hl : l.length = m.length) (h4 : l.length ≤ 4) (h : crcF c l = crcF c m) : l = m := by
  rw [crcF_le, crcF_le, ← hl] at h
  have p : 256 ^ l.length ≤ 256 ^ 4 := Nat.pow_le_pow_right (by decide) h4
  have h1 := leV_lt l
  have h2 := leV_lt m
  rw [← hl] at h2
  have := outN_inj (Nat.xor_lt_two_pow (n := 32) hc (by omega)) (Nat.xor_lt_two_pow (n := 32) hc (by omega)) h
  rw [Nat.xor_comm c, Nat.xor_comm c] at this
  exact leV_inj l m hl (xor_cancel this)
/-- Texts that are unlike in at most four bytes one behind the other have unlike sums. -/
theorem crc_few (a x y b : List UInt8) (hl : x.length = y.length) (h4 : x.length ≤ 4) (h : crc (a ++ x ++ b) = crc (a ++ y ++ b)) : x = y := by
  unfold crc at h
  have l1 := crcF_lt 4294967295 (a ++ x ++ b) (by decide)
  have l2 := crcF_lt 4294967295 (a ++ y ++ b) (by decide)
  have h2 : crcF 4294967295 (a ++ x ++ b) = crcF 4294967295 (a ++ y ++ b) := by omega
  rw [crcF_append, crcF_append, crcF_append, crcF_append] at h2
  have la := crcF_lt 4294967295 a (by decide)
  have := crcF_inj b (crcF_lt _ x la) (crcF_lt _ y la) h2
  exact crcF_few x y la hl h4 this
end Go.Proofs.YtgegipijappfhaaDoor
namespace Go.Proofs.YtgegipijappfhaaDoor
open Go Go.RowKit

set_option maxRecDepth 100000 in
theorem four_any (n : Nat) (w : World) (hn : n < 4294967296) :
    Calls Tryd.prog 61 #[.int .u32 n] w fun e w' => e = .returned (.string (stx (be4 n))) ∧ Below w.heap.size w w' := by
  have hc := cells_be4 n w
  have b0 : Below w.heap.size w (w.alloc (.cells #[.int .u8 ((n : Int) / 16777216), .int .u8 ((n : Int) / 65536 % 256), .int .u8 ((n : Int) / 256 % 256), .int .u8 ((n : Int) % 256)] 5)) := (Below.refl _ _).alloc (Nat.le_refl _) _
  go_enter Tryd.func61, Tryd.ntmps61
  go_wp2_with fail
  try rw [hc hn]
  try simp only [Result.andThen]
  try rw [Oper.upon_value]
  go_wp2_with fail
  go_ret
  exact ⟨rfl, b0⟩

theorem refB_bit (c b k : Nat) (hc : c < 4294967296) (hb : b < 256) : bits .and .u32 (bits .xor .u32 (c : Int) ((b / 2 ^ k : Nat) : Int)) 1 = (((c ^^^ b / 2 ^ k) % 2 : Nat) : Int) := by
  have hd : b / 2 ^ k < 4294967296 := Nat.lt_of_le_of_lt (Nat.div_le_self _ _) (by omega)
  rw [u32_xor_nat _ _ hc hd]
  have h := u32_and_nat (c ^^^ b / 2 ^ k) 1 (Nat.xor_lt_two_pow (n := 32) hc hd) (by decide)
  rw [show ((1 : Nat) : Int) = 1 from rfl] at h
  rw [h, Nat.and_one_is_mod]
set_option maxRecDepth 100000 in
set_option maxHeartbeats 1000000 in
theorem r4Check_any (s : ByteArray) (w : World) (hs : s.size ≤ 1000000) :
    Calls Tryd.prog 62 #[.string s] w fun e w' => e = .returned (.int .u32 (crc s.data.toList)) ∧ w' = w := by
  have hs' : (s.size : Int) ≤ 1000000 := by omega
  clear hs
  go_enter Tryd.func62, Tryd.ntmps62
  go_wp2_with fail
  go_loop [3, 4] (fun x t => ∃ i : Nat, i ≤ s.size ∧ t = .int .i64 i ∧ Hid (x = .int .u32 (crcF 4294967295 (s.data.toList.take i)))) (fun _ t => (s.size - intOf t).toNat)
  case atStart => exact ⟨0, Nat.zero_le _, rfl, Lib.hid rfl⟩
  case round =>
    obtain ⟨i, hi, rfl, HX⟩ := hrel
    obtain ⟨n, hn⟩ : ∃ n, crcF 4294967295 (s.data.toList.take i) = n := ⟨_, rfl⟩
    have hx := HX.out
    rw [hn] at hx
    subst hx
    have hn32 : n < 4294967296 := by rw [← hn]; exact crcF_lt _ _ (by decide)
    by_cases hlt : i < s.size
    · have hlt' : (i : Int) < s.size := by omega
      have hat := atB_get s i hlt
      obtain ⟨y, hy⟩ : ∃ y, atB s i = y := ⟨_, rfl⟩
      rw [hy] at hat
      have hyb := y.toNat_lt
      have HS : Hid (crcF 4294967295 (s.data.toList.take (i + 1)) = refB n y.toNat 8) := Lib.hid (by
        have hl : i < s.data.toList.length := hlt
        have hy2 : s.data.toList[i] = y := by
          rw [← hy, atB, List.getD_eq_getElem?_getD, List.getElem?_eq_getElem hl]
          rfl
        rw [List.take_succ_eq_append_getElem hl, crcF_put, hn, hy2, refB_step])
      clear hn hy HX
      go_wp2_with fail
      go_loop [3, 5] (fun x t => ∃ k : Nat, k ≤ 8 ∧ t = .int .i64 k ∧ Hid (x = .int .u32 (refB n y.toNat k))) (fun _ t => (8 - intOf t).toNat)
      case atStart => exact ⟨0, Nat.zero_le _, rfl, Lib.hid rfl⟩
      case round =>
        obtain ⟨k, hk, rfl, HY⟩ := hrel
        obtain ⟨c, hc⟩ : ∃ c, refB n y.toNat k = c := ⟨_, rfl⟩
        have hx := HY.out
        rw [hc] at hx
        subst hx
        have hc32 : c < 4294967296 := by rw [← hc]; exact refB_lt _ _ hn32 k
        by_cases hlt3 : k < 8
        · have hlt3' : (k : Int) < 8 := by omega
          have hdv : (y.toNat : Int) / 2 ^ k = ((y.toNat / 2 ^ k : Nat) : Int) := by
            rw [Int.natCast_ediv, Int.natCast_pow]
            rfl
          have hand := refB_bit c y.toNat k hc32 hyb
          rw [← hdv] at hand
          have hxp : bits .xor .u32 ((c : Int) / 2) 3988292384 = ((c / 2 ^^^ 3988292384 : Nat) : Int) := by
            have h := u32_xor_nat (c / 2) 3988292384 (by omega) (by decide)
            rw [show ((3988292384 : Nat) : Int) = 3988292384 from rfl, show ((c / 2 : Nat) : Int) = (c : Int) / 2 by omega] at h
            exact h
          rcases Nat.mod_two_eq_zero_or_one (c ^^^ y.toNat / 2 ^ k) with hm | hm
          · rw [hm, show ((0 : Nat) : Int) = 0 from rfl] at hand
            have HS2 : Hid (refB n y.toNat (k + 1) = c / 2) := Lib.hid (by rw [refB, hc, if_neg (by omega)])
            clear hm hdv hxp hc HY
            go_wp2_with fail
            exact ⟨⟨k + 1, hlt3, by go_num, Lib.hid (by rw [HS2.out]; rfl)⟩, by simp [intOf]; omega⟩
          · rw [hm, show ((1 : Nat) : Int) = 1 from rfl] at hand
            have HS2 : Hid (refB n y.toNat (k + 1) = c / 2 ^^^ 3988292384) := Lib.hid (by rw [refB, hc, if_pos hm])
            clear hm hdv hc HY
            generalize c / 2 ^^^ 3988292384 = d at *
            go_wp2_with fail
            exact ⟨⟨k + 1, hlt3, by go_num, Lib.hid (by rw [HS2.out])⟩, by simp [intOf]; omega⟩
        · obtain rfl : k = 8 := by omega
          have HS3 : Hid (crcF 4294967295 (s.data.toList.take (i + 1)) = c) := Lib.hid (by rw [HS.out, hc])
          clear hc HY
          go_wp2_with fail
          exact ⟨⟨i + 1, hlt, by go_num, Lib.hid (by rw [HS3.out])⟩, by simp [intOf]; omega⟩
    · obtain rfl : i = s.size := by omega
      have HN : Hid (crc s.data.toList = 4294967295 - n) := Lib.hid (by rw [crc, ← hn, List.take_of_length_le (show s.data.toList.length ≤ s.size from Nat.le_refl _)])
      clear hn HX
      go_wp2_with fail
      go_ret
      exact ⟨by rw [HN.out, show ((4294967295 - n : Nat) : Int) = 4294967295 - (n : Int) by omega]; rfl, rfl⟩

theorem sizeB_eq (n : Nat) (h : n ≤ 65536) : stx [94] ++ (stx (be4 n)).extract 1 4 = stx (sizeB n) := by
  rw [stx_extract, stx_append]
  congr 2
  show (94 :: (be4 n).drop 1) = be4 (1577058304 + n)
  rw [be4, be4]
  have h1 : UInt8.ofNat ((1577058304 + n) / 16777216) = 94 := by apply UInt8.toNat_inj.1; rw [UInt8.toNat_ofNat']; show _ = 94; omega
  have h2 : UInt8.ofNat ((1577058304 + n) / 65536) = UInt8.ofNat (n / 65536) := by apply UInt8.toNat_inj.1; rw [UInt8.toNat_ofNat', UInt8.toNat_ofNat']; omega
  have h3 : UInt8.ofNat ((1577058304 + n) / 256) = UInt8.ofNat (n / 256) := by apply UInt8.toNat_inj.1; rw [UInt8.toNat_ofNat', UInt8.toNat_ofNat']; omega
  have h4 : UInt8.ofNat (1577058304 + n) = UInt8.ofNat n := by apply UInt8.toNat_inj.1; rw [UInt8.toNat_ofNat', UInt8.toNat_ofNat']; omega
  rw [h1, h2, h3, h4]
  rfl
set_option maxRecDepth 100000 in
theorem r4Wrap_any (s : ByteArray) (w : World) (hs : s.size ≤ 65536) :
    Calls Tryd.prog 30 #[.string s] w fun e w' => e = .returned (.string (stx (frame s.data.toList))) ∧ Below w.heap.size w w' := by
  obtain ⟨n, hn⟩ : ∃ n, s.size = n := ⟨_, rfl⟩
  have hl : s.data.toList.length = n := hn
  have hn1 : (n : Int) ≤ 65536 := by omega
  have H1 := Lib.hid (four_any n w (by omega))
  have hx := sizeB_eq n (by omega)
  have z0 : (stx (be4 n)).size = 4 := by rw [stx_size]; rfl
  have z1 : (stx (sizeB n)).size = 4 := by rw [stx_size]; rfl
  have z1b : ((stx (be4 n)).extract 1 4).size = 3 := by rw [stx_extract, stx_size]; rfl
  have H2 : Hid (∀ w, Calls Tryd.prog 62 #[.string (stx (sizeB n ++ s.data.toList))] w fun e w' => e = .returned (.int .u32 (crc (sizeB n ++ s.data.toList))) ∧ w' = w) := Lib.hid fun w => r4Check_any (stx (sizeB n ++ s.data.toList)) w (by rw [stx_size, List.length_append, hl]; show 4 + n ≤ _; omega)
  have H3 : Hid (∀ w, Calls Tryd.prog 61 #[.int .u32 (crc (sizeB n ++ s.data.toList))] w fun e w' => e = .returned (.string (stx (be4 (crc (sizeB n ++ s.data.toList))))) ∧ Below w.heap.size w w') := Lib.hid fun w => four_any _ w (crc_lt _)
  have HF : Hid (stx (sizeB n) ++ stx (be4 (crc (sizeB n ++ s.data.toList))) ++ s = stx (frame s.data.toList)) := Lib.hid (by
    rw [show s = stx s.data.toList from rfl, stx_append, stx_append, frame, List.append_assoc]
    rw [show s.data.toList.length = s.size from rfl, hn])
  have HC : Hid (stx (sizeB n) ++ s = stx (sizeB n ++ s.data.toList)) := Lib.hid (stx_append (sizeB n) s.data.toList)
  have z2 : (stx (be4 (crc (sizeB n ++ s.data.toList)))).size = 4 := by rw [stx_size]; rfl
  generalize crc (sizeB n ++ s.data.toList) = k at *
  generalize stx (sizeB n ++ s.data.toList) = C at *
  generalize stx (be4 k) = B at *
  generalize stx (sizeB n) = A at *
  generalize stx (be4 n) = D at *
  have HX := Lib.hid hx
  clear hs hl hx
  go_enter Tryd.func30, Tryd.ntmps30
  go_wp2_with fail
  refine H1.out.mono ?_
  rintro e w1 ⟨rfl, b1⟩
  go_wp2_with fail
  rw [show (⟨#[94]⟩ : ByteArray) ++ D.extract 1 4 = A from HX.out, HC.out]
  refine (H2.out _).mono ?_
  rintro e w2 ⟨rfl, rfl⟩
  go_wp2_with fail
  refine (H3.out _).mono ?_
  rintro e w3 ⟨rfl, b2⟩
  have b3 := below_past b1 b2 b1.size
  have hz : (A ++ B).size = 8 := by rw [ByteArray.size_append, z1, z2]
  have hz2 : (A ++ B ++ s).size = 8 + n := by rw [ByteArray.size_append, hz, hn]
  clear b1 b2
  go_wp2_with fail
  go_ret
  exact ⟨by rw [← HF.out]; rfl, b3⟩
end Go.Proofs.YtgegipijappfhaaDoor
namespace Go.Proofs.YtgegipijappfhaaDoor
open Go Go.RowKit

theorem be4_num4 (l : List UInt8) (h : 4 ≤ l.length) : l.take 4 = be4 (num4 l) := by
  match l, h with
  | a :: b :: c :: d :: r, _ =>
    have ha := a.toNat_lt
    have hb := b.toNat_lt
    have hc := c.toNat_lt
    have hd := d.toNat_lt
    show [a, b, c, d] = be4 (a.toNat * 16777216 + b.toNat * 65536 + c.toNat * 256 + d.toNat)
    have h1 : UInt8.ofNat ((a.toNat * 16777216 + b.toNat * 65536 + c.toNat * 256 + d.toNat) / 16777216) = a := by apply UInt8.toNat_inj.1; rw [UInt8.toNat_ofNat']; omega
    have h2 : UInt8.ofNat ((a.toNat * 16777216 + b.toNat * 65536 + c.toNat * 256 + d.toNat) / 65536) = b := by apply UInt8.toNat_inj.1; rw [UInt8.toNat_ofNat']; omega
    have h3 : UInt8.ofNat ((a.toNat * 16777216 + b.toNat * 65536 + c.toNat * 256 + d.toNat) / 256) = c := by apply UInt8.toNat_inj.1; rw [UInt8.toNat_ofNat']; omega
    have h4 : UInt8.ofNat (a.toNat * 16777216 + b.toNat * 65536 + c.toNat * 256 + d.toNat) = d := by apply UInt8.toNat_inj.1; rw [UInt8.toNat_ofNat']; omega
    rw [be4, h1, h2, h3, h4]
theorem be4_inj {a b : Nat} (ha : a < 4294967296) (hb : b < 4294967296) (h : be4 a = be4 b) : a = b := by
  have h1 := num4_be4 a ha []
  have h2 := num4_be4 b hb []
  rw [← h1, ← h2, h]
end Go.Proofs.YtgegipijappfhaaDoor
namespace Go.Proofs.YtgegipijappfhaaDoor
open Go Go.RowKit

set_option maxRecDepth 100000 in
theorem r2Flag_any (v : Bool) (w : World) :
    Calls Tryd.prog 86 #[.bool v] w fun e w' => e = .returned (.string (txt [if v then 1 else 0])) ∧ Below w.heap.size w w' := by
  cases v
  · go_enter Tryd.func86, Tryd.ntmps86
    go_wp2_with fail
    go_ret
    exact ⟨rfl, Below.refl _ _⟩
  · go_enter Tryd.func86, Tryd.ntmps86
    go_wp2_with fail
    go_ret
    exact ⟨rfl, Below.refl _ _⟩
end Go.Proofs.YtgegipijappfhaaDoor
namespace Go.Proofs.YtgegipijappfhaaDoor
open Go Go.RowKit

set_option maxRecDepth 100000 in
set_option maxHeartbeats 2000000 in
theorem r9Common_any (a b : List UInt8) (w : World) (ha : a.length ≤ 2000000) (hb : b.length ≤ 2000000) : Calls Tryd.prog 85 #[.string (stx a), .string (stx b)] w fun e w' => e = .returned (.int .i64 (commonB a b)) ∧ Below w.heap.size w w' := by
  obtain ⟨n, hn⟩ : ∃ n, a.length = n := ⟨_, rfl⟩
  obtain ⟨m, hm⟩ : ∃ m, b.length = m := ⟨_, rfl⟩
  have hz1 : (stx a).size = n := by rw [stx_size, hn]
  have hz2 : (stx b).size = m := by rw [stx_size, hm]
  obtain ⟨R, hR⟩ : ∃ R, commonB a b = R := ⟨_, rfl⟩
  have HL : Hid (R ≤ n ∧ R ≤ m) := Lib.hid (by rw [← hn, ← hm, ← hR]; exact commonB_le a b)
  have HGE : Hid (∀ k, k ≤ n → k ≤ m → a.take k = b.take k → k ≤ R) := Lib.hid fun k h1 h2 h3 => by rw [← hR]; exact commonB_ge k a b (by omega) (by omega) h3
  have HPT : Hid (∀ k, k < n → k < m → at_ (stx a) k ≠ at_ (stx b) k → R ≤ k) := Lib.hid fun k h1 h2 h3 => by rw [← hR]; exact commonB_part k a b (by omega) (by omega) h3
  have HST : Hid (∀ k, k < n → k < m → a.take k = b.take k → at_ (stx a) k = at_ (stx b) k → a.take (k + 1) = b.take (k + 1)) := Lib.hid fun k h1 h2 h3 h4 => take_getD k a b (by omega) (by omega) h3 h4
  rw [hR]
  rw [hn] at ha
  rw [hm] at hb
  have hA : (n : Int) ≤ 2000000 := by omega
  have hB : (m : Int) ≤ 2000000 := by omega
  clear hR hn hm
  generalize stx a = sa at *
  generalize stx b = sb at *
  go_enter Tryd.func85, Tryd.ntmps85
  go_wp2_with fail
  go_loopw [5, 6] (fun y x wr => ∃ k j : Nat, k ≤ n ∧ k ≤ m ∧ x = .int .i64 k ∧ y = .int .i64 j ∧ Hid ((j = k ∧ a.take k = b.take k) ∨ (j + 1 = k ∧ R = j)) ∧ Below w.heap.size w wr) (fun _ x _ => (n - intOf x).toNat)
  case atStart => exact ⟨0, 0, Nat.zero_le _, Nat.zero_le _, rfl, rfl, Lib.hid (.inl ⟨rfl, rfl⟩), Below.refl _ _⟩
  case round =>
    obtain ⟨k, j, hk1, hk2, rfl, rfl, HE, b1⟩ := hrel
    by_cases h1 : k < n
    · have i1 : (k : Int) < n := by omega
      have j1 : decide (k < n) = true := decide_eq_true h1
      by_cases h2 : k < m
      · have i2 : (k : Int) < m := by omega
        have j2 : decide (k < m) = true := decide_eq_true h2
        by_cases h4 : j = k
        · subst h4
          have hE2 : a.take j = b.take j := by
            rcases HE.out with h | h
            · exact h.2
            · omega
          have HE2 := Lib.hid hE2
          have g1 := get_at sa j (by omega)
          have g2 := get_at sb j (by omega)
          by_cases h3 : at_ sa j = at_ sb j
          · have HE3 := Lib.hid (HST.out j h1 h2 HE2.out h3)
            rw [h3] at g1
            have q3 : ((at_ sb j).toNat == (at_ sb j).toNat) = true := beq_self_eq_true _
            have q4 : (((at_ sb j).toNat : Int) == ((at_ sb j).toNat : Int)) = true := beq_self_eq_true _
            clear HE h3 hE2 HE2
            generalize at_ sb j = c at *
            go_upto_region 5 with fail
            refine wp_region_past (by kernel_rfl) (by kernel_rfl) ?_
            repeat (go_big_quiet_step (fail))
            refine wpQuiet_nil ?_
            intro w2 hw2
            obtain ⟨⟨wn, hn⟩, rfl⟩ := hw2
            try dsimp only
            have b2 := below_past b1 hn b1.size
            go_wp2_with fail
            exact ⟨⟨j + 1, j + 1, h1, h2, by go_num, by go_num, Lib.hid (.inl ⟨rfl, HE3.out⟩), b2⟩, by simp [intOf]; omega⟩
          · have hRk : R = j := by
              have := HPT.out j h1 h2 h3
              have := HGE.out j hk1 hk2 HE2.out
              omega
            have q3 : ((at_ sa j).toNat == (at_ sb j).toNat) = false := by rw [beq_eq_false_iff_ne]; exact fun e => h3 (UInt8.toNat_inj.1 e)
            have q4 : (((at_ sa j).toNat : Int) == ((at_ sb j).toNat : Int)) = false := by rw [beq_eq_false_iff_ne]; exact fun e => h3 (UInt8.toNat_inj.1 (by omega))
            clear HE h3 hE2 HE2
            generalize at_ sa j = c at *
            generalize at_ sb j = d at *
            have HRK := Lib.hid hRk
            clear hRk
            go_upto_region 5 with fail
            refine wp_region_past (by kernel_rfl) (by kernel_rfl) ?_
            repeat (go_big_quiet_step (fail))
            refine wpQuiet_nil ?_
            intro w2 hw2
            obtain ⟨⟨wn, hn⟩, rfl⟩ := hw2
            try dsimp only
            have b2 := below_past b1 hn b1.size
            go_wp2_with fail
            exact ⟨⟨j + 1, j, h1, h2, by go_num, rfl, Lib.hid (.inr ⟨rfl, HRK.out⟩), b2⟩, by simp [intOf]; omega⟩
        · have hRk : R = j := by
            rcases HE.out with h | h
            · exact absurd h.1 h4
            · exact h.2
          have q3 : (j == k) = false := by rw [beq_eq_false_iff_ne]; exact h4
          have q4 : ((j : Int) == (k : Int)) = false := by rw [beq_eq_false_iff_ne]; omega
          have q5 : decide (j = k) = false := decide_eq_false h4
          have HRK := Lib.hid hRk
          clear hRk HE h4
          go_wp2_with fail
          go_ret
          exact ⟨ret_int (by rw [HRK.out]), b1⟩
      · have hRk : R = j := by
          rcases HE.out with ⟨h, h'⟩ | h
          · have := HL.out
            have := HGE.out k hk1 hk2 h'
            omega
          · exact h.2
        have i2 : ¬ (k : Int) < m := by omega
        have j2 : decide (k < m) = false := decide_eq_false h2
        have HRK := Lib.hid hRk
        clear hRk HE
        go_wp2_with fail
        go_ret
        exact ⟨ret_int (by rw [HRK.out]), b1⟩
    · have hRk : R = j := by
        rcases HE.out with ⟨h, h'⟩ | h
        · have := HL.out
          have := HGE.out k hk1 hk2 h'
          omega
        · exact h.2
      have i1 : ¬ (k : Int) < n := by omega
      have j1 : decide (k < n) = false := decide_eq_false h1
      have HRK := Lib.hid hRk
      clear hRk HE
      go_wp2_with fail
      go_ret
      exact ⟨ret_int (by rw [HRK.out]), b1⟩
theorem lastK_at {l : List Ent} {i : Nat} {y : Ent} {K : List UInt8} (h : l[i]? = some y) (hK : ∀ z : Ent, K = if 0 < i + 1 then (l.getD (i + 1 - 1) z).key else []) : K = y.key := by
  have := hK y
  rw [if_pos (by omega), show i + 1 - 1 = i by omega, List.getD_eq_getElem?_getD, h] at this
  exact this
set_option maxRecDepth 100000 in
set_option maxHeartbeats 4000000 in
theorem r9Check_any (v : Value) (l : List Ent) (w : World) (h : EntsAt w v l) (hs : smallB l) : Calls Tryd.prog 58 #[v] w fun e w' => e = .returned (.int .i64 (checkB l)) ∧ Below w.heap.size w w' := by
  obtain ⟨ao, cap, rfl, hc1, hc2, h3⟩ := h
  have H3 := Lib.hid h3
  have HS := Lib.hid hs
  obtain ⟨n, hn⟩ : ∃ n, l.length = n := ⟨_, rfl⟩
  have HN := Lib.hid hn
  have hmx : n ≤ maxLen := by omega
  unfold maxLen at hmx
  unfold checkB
  rw [hn]
  by_cases hbig : 256 < n
  · rw [if_pos hbig]
    have i1 : (256 : Int) < n := by omega
    have j1 : decide (256 < n) = true := decide_eq_true hbig
    clear h3 hs hn
    go_enter Tryd.func58, Tryd.ntmps58
    go_wp2_with fail
    go_ret
    exact ⟨rfl, Below.refl _ _⟩
  · rw [if_neg hbig]
    have i1 : ¬ (256 : Int) < n := by omega
    have j1 : decide (256 < n) = false := decide_eq_false hbig
    have hn2 : (n : Int) ≤ 256 := by omega
    obtain ⟨R, hR⟩ : ∃ R, goB [] l = R := ⟨_, rfl⟩
    have HR : Hid (goB [] (l.drop 0) = R) := Lib.hid hR
    rw [hR]
    clear h3 hs hR hn hc1 hc2 hmx
    go_enter Tryd.func58, Tryd.ntmps58
    go_wp2_with fail
    go_loopw [10] (fun x wr => ∃ (i : Nat) (K : List UInt8), i ≤ n ∧ x = .int .i64 i ∧ Hid (∀ y : Ent, K = if 0 < i then (l.getD (i - 1) y).key else []) ∧ Hid (goB K (l.drop i) = R) ∧ Below w.heap.size w wr) (fun x _ => (n - intOf x).toNat)
    case atStart => exact ⟨0, [], Nat.zero_le _, rfl, Lib.hid (fun y => rfl), HR, Below.refl _ _⟩
    case round =>
      obtain ⟨i, K, hi, rfl, HKK, HI, b1⟩ := hrel
      clear HR
      by_cases hlt : i < n
      · have hlt' : (i : Int) < n := by omega
        obtain ⟨x, hx⟩ : ∃ x, l[i]? = some x := ⟨_, List.getElem?_eq_getElem (by rw [HN.out]; exact hlt)⟩
        obtain ⟨g0, o, rfl, hat⟩ := H3.out i x hx
        obtain ⟨c1, c2, c3⟩ := hat.below b1
        have hgo := goB_drop (a := K) hx
        rw [HI.out] at hgo
        have hsx := HS.out x (List.mem_of_getElem? hx)
        have HLS := Lib.hid (fun y => lastK_step (y := y) hx)
        have b2 := b1.alloc b1.size (.cells #[.string (stx x.key), .string (stx x.val), .bool x.gone] 36)
        have HPY : Hid (∀ p, i = p + 1 → ∃ y, l[p]? = some y ∧ K = y.key) := Lib.hid fun p hp => by
          subst hp
          obtain ⟨y, hy⟩ : ∃ y, l[p]? = some y := ⟨_, List.getElem?_eq_getElem (by rw [HN.out]; omega)⟩
          exact ⟨y, hy, lastK_at hy HKK.out⟩
        have HK0 : Hid (i = 0 → K = []) := Lib.hid fun e => by rw [HKK.out x, e]; rfl
        have HGO := Lib.hid hgo
        have HCC : Hid (∀ p y, l[p]? = some y → wr.cell? ⟨g0, o + p * 3, none⟩ = some (.string (stx y.key))) := Lib.hid fun p y hy => by
          obtain ⟨g', o', e', q⟩ := H3.out p y hy
          simp only [Option.some.injEq, Addr.mk.injEq, and_true] at e'
          obtain ⟨rfl, rfl⟩ := e'
          exact (q.below b1).1
        clear hx hat HI hgo HKK
        obtain ⟨k, vl, g⟩ := x
        have HON : Hid (oneB ⟨k, vl, g⟩ K = if k = [] ∨ (g = true ∧ vl ≠ []) then 3 else if 100 < k.length ∨ 4000 < vl.length then 2 else if K < k then 0 else 3) := Lib.hid rfl
        dsimp only at hsx HLS HGO c1 c2 c3 b2
        obtain ⟨n1, hn1⟩ : ∃ n1, k.length = n1 := ⟨_, rfl⟩
        obtain ⟨m1, hm1⟩ : ∃ m1, vl.length = m1 := ⟨_, rfl⟩
        rw [hn1, hm1] at hsx HON
        obtain ⟨OE, hOE⟩ : ∃ OE, oneB ⟨k, vl, g⟩ K = OE := ⟨_, rfl⟩
        rw [hOE] at HGO HON
        clear hOE
        have z1 : (stx k).size = n1 := by rw [stx_size, hn1]
        have z2 : (stx vl).size = m1 := by rw [stx_size, hm1]
        by_cases h1 : k = []
        · obtain rfl : n1 = 0 := by rw [← hn1, h1]; rfl
          rw [HON.out.trans (if_pos (.inl h1))] at HGO
          have HI2 := Lib.hid (HGO.out.trans (if_neg (by decide)))
          have b2 := b2
          clear h1 hn1 hm1 hsx HPY HK0 HLS
          generalize stx k = sk at *
          clear HGO HON
          go_wp2_with fail
          go_ret
          exact ⟨ret_int (by rw [HI2.out]; rfl), b2⟩
        · have hn0 : 0 < n1 := by rw [← hn1]; exact List.length_pos_iff.2 h1
          have p1 : (n1 == 0) = false := by rw [beq_eq_false_iff_ne]; omega
          have p2 : ((n1 : Int) == 0) = false := by rw [beq_eq_false_iff_ne]; omega
          have p3 : decide (n1 = 0) = false := decide_eq_false (by omega)
          by_cases h2 : g = true ∧ vl ≠ []
          · rw [HON.out.trans (if_pos (.inr h2))] at HGO
            obtain ⟨rfl, h2⟩ := h2
            have hm0 : 0 < m1 := by rw [← hm1]; exact List.length_pos_iff.2 h2
            have p4 : (0 : Int) < m1 := by omega
            have p5 : decide (0 < m1) = true := decide_eq_true hm0
            have HI2 := Lib.hid (HGO.out.trans (if_neg (by decide)))
            clear h1 h2 hn1 hm1 hsx HPY HK0 HLS
            generalize stx k = sk at *
            generalize stx vl = sv at *
            clear HGO HON
            go_wp2_with fail
            go_ret
            exact ⟨ret_int (by rw [HI2.out]; rfl), b2⟩
          · rw [if_neg (fun e => e.elim h1 h2)] at HON
            have hg2 : g = false ∨ m1 = 0 := by
              cases g with
              | false => exact .inl rfl
              | true => exact .inr (by rw [← hm1, Decidable.not_not.1 (fun e => h2 ⟨rfl, e⟩)]; rfl)
            by_cases h3 : 100 < n1 ∨ 4000 < m1
            · rw [HON.out.trans (if_pos h3)] at HGO
              have HI2 := Lib.hid (HGO.out.trans (if_neg (by decide)))
              have p6 : decide (100 < n1) = true ∧ (100 : Int) < n1 ∨ decide (100 < n1) = false ∧ ¬ (100 : Int) < n1 ∧ decide (4000 < m1) = true ∧ (4000 : Int) < m1 := by
                by_cases q : 100 < n1
                · exact .inl ⟨decide_eq_true q, by omega⟩
                · exact .inr ⟨decide_eq_false q, by omega, decide_eq_true (by omega), by omega⟩
              have p7 : m1 = 0 → decide (100 < n1) = true ∧ (100 : Int) < n1 := fun e => ⟨decide_eq_true (by omega), by omega⟩
              clear h1 h2 h3 hn1 hm1 hsx HPY HK0 HLS
              generalize stx k = sk at *
              generalize stx vl = sv at *
              rcases hg2 with rfl | rfl
              · rcases p6 with ⟨q1, q2⟩ | ⟨q1, q2, q3, q4⟩
                · clear HGO HON
                  go_wp2_with fail
                  go_ret
                  exact ⟨ret_int (by rw [HI2.out]; rfl), b2⟩
                · clear HGO HON
                  go_wp2_with fail
                  go_ret
                  exact ⟨ret_int (by rw [HI2.out]; rfl), b2⟩
              · obtain ⟨q1, q2⟩ := p7 rfl
                clear p6 p7
                cases g with
                | false =>
                  clear HGO HON
                  go_wp2_with fail
                  go_ret
                  exact ⟨ret_int (by rw [HI2.out]; rfl), b2⟩
                | true =>
                  clear HGO HON
                  go_wp2_with fail
                  go_ret
                  exact ⟨ret_int (by rw [HI2.out]; rfl), b2⟩
            · rw [if_neg h3] at HON
              have q1 : decide (100 < n1) = false := decide_eq_false (by omega)
              have q2 : ¬ (100 : Int) < n1 := by omega
              have q3 : decide (4000 < m1) = false := decide_eq_false (by omega)
              have q4 : ¬ (4000 : Int) < m1 := by omega
              have r2 := rowAt_alloc_at wr #[.string (stx k), .string (stx vl), .bool g] 36 _ rfl
              by_cases hi0 : i = 0
              · obtain rfl := HK0.out hi0
                have e2 : ¬ (0 : Int) < i := by omega
                have e3 : decide (0 < i) = false := decide_eq_false (by omega)
                have hlk : ([] : List UInt8) < k := by
                  cases k with
                  | nil => exact absurd rfl h1
                  | cons c k => exact List.nil_lt_cons _ _
                rw [HON.out.trans (if_pos hlk)] at HGO
                have HI2 : Hid (goB k (l.drop (i + 1)) = R) := Lib.hid (HGO.out.trans (if_pos rfl)).symm
                clear h1 h2 h3 hn1 hm1 hsx HPY HK0 hlk HCC hi0
                have y0 := True.intro
                have z0 := True.intro
                clear HGO HON r2
                generalize stx k = sk at *
                generalize stx vl = sv at *
                cases g with
                | false =>
                  clear hg2
                  go_upto_region 10 with fail
                  generalize (wr.alloc (.cells #[.string sk, .string sv, .bool false] 36)) = W2 at *
                  refine wp_region_past (by kernel_rfl) (by kernel_rfl) ?_
                  repeat (go_big_quiet_step (fail))
                  refine wpQuiet_nil ?_
                  intro w2 hw2
                  obtain ⟨⟨wn, hn⟩, rfl⟩ := hw2
                  try dsimp only
                  clear y0 z0
                  go_wp2_with fail
                  exact ⟨⟨i + 1, k, hlt, by go_num, HLS, HI2, below_past b2 hn b2.size⟩, by simp [intOf]; omega⟩
                | true =>
                  obtain rfl : m1 = 0 := hg2.resolve_left (by decide)
                  clear hg2
                  go_upto_region 10 with fail
                  generalize (wr.alloc (.cells #[.string sk, .string sv, .bool true] 36)) = W2 at *
                  refine wp_region_past (by kernel_rfl) (by kernel_rfl) ?_
                  repeat (go_big_quiet_step (fail))
                  refine wpQuiet_nil ?_
                  intro w2 hw2
                  obtain ⟨⟨wn, hn⟩, rfl⟩ := hw2
                  try dsimp only
                  clear y0 z0
                  go_wp2_with fail
                  exact ⟨⟨i + 1, k, hlt, by go_num, HLS, HI2, below_past b2 hn b2.size⟩, by simp [intOf]; omega⟩
              · obtain ⟨p, hp⟩ : ∃ p, i = p + 1 := ⟨i - 1, by omega⟩
                obtain ⟨y, hy, hKy⟩ := HPY.out p hp
                have hcy := HCC.out p y hy
                subst hKy
                have e1 : (i : Int) - 1 = p := by omega
                have e2 : (0 : Int) < i := by omega
                have e3 : decide (0 < i) = true := decide_eq_true (by omega)
                have e4 : (p : Int) < n := by omega
                have e5 : (0 : Int) ≤ p := by omega
                have y0 := fun x : Past (wr.alloc (.cells #[.string (stx k), .string (stx vl), .bool g] 36)) => ((Below.step ((Below.refl _ _).alloc (Nat.le_refl _) _) x.h).cell (p := ⟨g0, o + p * 3, none⟩) (cellLt hcy)).trans hcy
                have z0 := fun x : Past (wr.alloc (.cells #[.string (stx k), .string (stx vl), .bool g] 36)) => cell_of_rowAt (rowAt_past x.h r2) 0
                by_cases hlk : y.key < k
                · rw [HON.out.trans (if_pos hlk)] at HGO
                  have HI2 : Hid (goB k (l.drop (i + 1)) = R) := Lib.hid (HGO.out.trans (if_pos rfl)).symm
                  have hless : Go.Op.bytesLess (stx y.key).toList (stx k).toList = true := by rw [lessE, stx_toList, stx_toList, decide_eq_true hlk]
                  clear h1 h2 h3 hn1 hm1 hsx HPY HK0 hlk HCC hp hy hcy HGO HON r2 hi0
                  generalize stx y.key = sy at *
                  generalize stx k = sk at *
                  generalize stx vl = sv at *
                  cases g with
                  | false =>
                    clear hg2
                    go_upto_region 10 with fail
                    generalize (wr.alloc (.cells #[.string sk, .string sv, .bool false] 36)) = W2 at *
                    refine wp_region_past (by kernel_rfl) (by kernel_rfl) ?_
                    repeat (go_big_quiet_step (fail))
                    refine wpQuiet_nil ?_
                    intro w2 hw2
                    obtain ⟨⟨wn, hn⟩, rfl⟩ := hw2
                    try dsimp only
                    clear y0 z0
                    go_wp2_with fail
                    exact ⟨⟨i + 1, k, hlt, by go_num, HLS, HI2, below_past b2 hn b2.size⟩, by simp [intOf]; omega⟩
                  | true =>
                    obtain rfl : m1 = 0 := hg2.resolve_left (by decide)
                    clear hg2
                    go_upto_region 10 with fail
                    generalize (wr.alloc (.cells #[.string sk, .string sv, .bool true] 36)) = W2 at *
                    refine wp_region_past (by kernel_rfl) (by kernel_rfl) ?_
                    repeat (go_big_quiet_step (fail))
                    refine wpQuiet_nil ?_
                    intro w2 hw2
                    obtain ⟨⟨wn, hn⟩, rfl⟩ := hw2
                    try dsimp only
                    clear y0 z0
                    go_wp2_with fail
                    exact ⟨⟨i + 1, k, hlt, by go_num, HLS, HI2, below_past b2 hn b2.size⟩, by simp [intOf]; omega⟩
                · rw [HON.out.trans (if_neg hlk)] at HGO
                  have HI2 := Lib.hid (HGO.out.trans (if_neg (by decide)))
                  have hless : Go.Op.bytesLess (stx y.key).toList (stx k).toList = false := by rw [lessE, stx_toList, stx_toList, decide_eq_false hlk]
                  clear h1 h2 h3 hn1 hm1 hsx HPY HK0 hlk HCC hp hy hcy HGO HON r2 hi0
                  generalize stx y.key = sy at *
                  generalize stx k = sk at *
                  generalize stx vl = sv at *
                  cases g with
                  | false =>
                    clear hg2
                    go_upto_region 10 with fail
                    generalize (wr.alloc (.cells #[.string sk, .string sv, .bool false] 36)) = W2 at *
                    refine wp_region_past (by kernel_rfl) (by kernel_rfl) ?_
                    repeat (go_big_quiet_step (fail))
                    refine wpQuiet_nil ?_
                    intro w2 hw2
                    obtain ⟨⟨wn, hn⟩, rfl⟩ := hw2
                    try dsimp only
                    clear y0 z0
                    go_wp2_with fail
                    go_ret
                    exact ⟨ret_int (by rw [HI2.out]; rfl), below_past b2 hn b2.size⟩
                  | true =>
                    obtain rfl : m1 = 0 := hg2.resolve_left (by decide)
                    clear hg2
                    go_upto_region 10 with fail
                    generalize (wr.alloc (.cells #[.string sk, .string sv, .bool true] 36)) = W2 at *
                    refine wp_region_past (by kernel_rfl) (by kernel_rfl) ?_
                    repeat (go_big_quiet_step (fail))
                    refine wpQuiet_nil ?_
                    intro w2 hw2
                    obtain ⟨⟨wn, hn⟩, rfl⟩ := hw2
                    try dsimp only
                    clear y0 z0
                    go_wp2_with fail
                    go_ret
                    exact ⟨ret_int (by rw [HI2.out]; rfl), below_past b2 hn b2.size⟩
      · obtain rfl : i = n := by omega
        have HR0 : Hid (0 = R) := Lib.hid (by rw [← HI.out, List.drop_eq_nil_of_le (by rw [HN.out]; exact Nat.le_refl _)]; rfl)
        clear HI
        go_wp2_with fail
        go_ret
        exact ⟨ret_int (by rw [← HR0.out]; rfl), b1⟩
theorem encE_len (a : List UInt8) (x : Ent) (hk : x.key.length ≤ 100) (hv : x.val.length ≤ 4000) : (encE a x).length ≤ 4200 := by
  have h1 := (commonB_le a x.key).2
  have h2 := numLen_le (commonB a x.key) (by omega)
  have h3 := numLen_le (x.key.length - commonB a x.key) (by omega)
  have h4 := numLen_le x.val.length (by omega)
  unfold encE
  simp only [List.length_append, numBytes_length, List.length_drop, List.length_cons, List.length_nil]
  split
  · simp only [List.length_nil]
    omega
  · simp only [List.length_append, numBytes_length]
    omega
theorem encB_len : ∀ (l : List Ent) (a : List UInt8), (∀ x ∈ l, x.key.length ≤ 100 ∧ x.val.length ≤ 4000) → (encB a l).length ≤ l.length * 4200
  | [], _, _ => Nat.zero_le _
  | x :: l, a, h => by
    have h1 := encE_len a x (h x (by simp)).1 (h x (by simp)).2
    have h2 := encB_len l x.key fun y hy => h y (by simp [hy])
    rw [encB, List.length_append, List.length_cons]
    omega
set_option maxRecDepth 100000 in
set_option maxHeartbeats 4000000 in
theorem r9Text_any (v : Value) (l : List Ent) (w : World) (h : EntsAt w v l) (hl : l.length ≤ 256) (hk : ∀ x ∈ l, x.key.length ≤ 100 ∧ x.val.length ≤ 4000) : Calls Tryd.prog 59 #[v] w fun e w' => e = .returned (.string (stx (textB l))) ∧ Below w.heap.size w w' := by
  obtain ⟨ao, cap, rfl, hc1, hc2, h3⟩ := h
  have H3 := Lib.hid h3
  have HK := Lib.hid hk
  obtain ⟨n, hn⟩ : ∃ n, l.length = n := ⟨_, rfl⟩
  have HN := Lib.hid hn
  have HTX : Hid (numBytes n ++ encB [] (l.take n) = textB l) := Lib.hid (by rw [← hn, List.take_of_length_le (Nat.le_refl _)]; rfl)
  have HLEN : Hid (∀ i, i ≤ n → (numBytes n ++ encB [] (l.take i)).length ≤ 1200000) := Lib.hid fun i hi => by
    have h1 := numLen_le n (by omega)
    have h2 := encB_len (l.take i) [] fun x hx => hk x (List.mem_of_mem_take hx)
    rw [List.length_take] at h2
    rw [List.length_append, numBytes_length]
    omega
  have HNU := Lib.hid (fun (m : Nat) w (h : m < 9223372036854775808) => r2Number_any m w h)
  rw [hn] at hl ⊢
  have hn2 : (n : Int) ≤ 256 := by omega
  have hnn : n < 9223372036854775808 := by omega
  have HN0 := Lib.hid (HNU.out n w hnn)
  have HF0 : Hid (txt (numBytes n) = stx (numBytes n ++ encB [] (l.take 0))) := Lib.hid (by simp [encB])
  rw [HF0.out] at HN0
  obtain ⟨T, hT⟩ : ∃ T, textB l = T := ⟨_, rfl⟩
  rw [hT] at HTX ⊢
  clear h3 hk hn hT hc1 hc2 HF0
  go_enter Tryd.func59, Tryd.ntmps59
  go_wp2_with fail
  refine HN0.out.mono ?_
  rintro e w1 ⟨rfl, b1⟩
  clear HN0
  go_wp2_with fail
  go_loopw [3, 4, 13] (fun u y x wr => ∃ (i : Nat) (K : List UInt8), i ≤ n ∧ x = .int .i64 i ∧ y = .string (stx K) ∧ u = .string (stx (numBytes n ++ encB [] (l.take i))) ∧ Hid (∀ y : Ent, K = if 0 < i then (l.getD (i - 1) y).key else []) ∧ Hid (K.length ≤ 100) ∧ Below w.heap.size w wr) (fun _ _ x _ => (n - intOf x).toNat)
  case atStart => exact ⟨0, [], Nat.zero_le _, rfl, rfl, rfl, Lib.hid (fun y => rfl), Lib.hid (by decide), b1⟩
  case round =>
    obtain ⟨i, K, hi, rfl, rfl, rfl, HKK, HKL, b4⟩ := hrel
    clear b1
    by_cases hlt : i < n
    · have hlt' : (i : Int) < n := by omega
      obtain ⟨x, hx⟩ : ∃ x, l[i]? = some x := ⟨_, List.getElem?_eq_getElem (by rw [HN.out]; exact hlt)⟩
      obtain ⟨g0, o, rfl, hat⟩ := H3.out i x hx
      obtain ⟨c1, c2, c3⟩ := hat.below b4
      have hkx := HK.out x (List.mem_of_getElem? hx)
      have hst := encB_step hx (HKK.out x)
      have HLS := Lib.hid (fun y => lastK_step (y := y) hx)
      have HX100 := Lib.hid hkx.1
      have hs0 := HLEN.out i hi
      have hs1 := HLEN.out (i + 1) hlt
      rw [hst, ← List.append_assoc] at hs1
      have HST := Lib.hid hst
      have b5 := b4.alloc b4.size (.cells #[.string (stx x.key), .string (stx x.val), .bool x.gone] 36)
      have r5 := rowAt_alloc_at wr #[.string (stx x.key), .string (stx x.val), .bool x.gone] 36 _ rfl
      obtain ⟨k, vl, g⟩ := x
      dsimp only at hkx HLS HX100 c1 c2 c3 b5 r5
      unfold encE at HST hs1
      dsimp only at HST hs1
      have hcl := (commonB_le K k).2
      have HCM := Lib.hid (fun w => r9Common_any K k w (by have := HKL.out; omega) (by omega))
      obtain ⟨C, hC⟩ : ∃ C, commonB K k = C := ⟨_, rfl⟩
      rw [hC] at HST hs1 hcl HCM
      obtain ⟨m, hm⟩ : ∃ m, k.length = m := ⟨_, rfl⟩
      have hzk : (stx k).size = m := by rw [stx_size, hm]
      have hex : (stx k).extract C m = stx (k.drop C) := by
        apply ByteArray.ext
        rw [ByteArray.data_extract]
        apply Array.toList_inj.1
        simp [List.extract_eq_take_drop]
        rw [← hm]
        exact List.take_of_length_le (by simp)
      have hdl : (k.drop C).length = m - C := by rw [List.length_drop, hm]
      have HN1 : Hid (∀ w, Calls Tryd.prog 26 #[.int .i64 C] w fun e w' => e = .returned (.string (stx (numBytes C))) ∧ Below w.heap.size w w') := Lib.hid fun w => r2Number_any C w (by omega)
      have HT1 : Hid (∀ w, Calls Tryd.prog 28 #[.string ((stx k).extract C m)] w fun e w' => e = .returned (.string (stx (numBytes (m - C) ++ k.drop C))) ∧ Below w.heap.size w w') := Lib.hid fun w => by
        have := r2Text_any (stx (k.drop C)) w (by rw [stx_size]; omega)
        rw [stx_size, hdl] at this
        rw [hex]
        exact this
      have HF1 : Hid (∀ w, Calls Tryd.prog 86 #[.bool g] w fun e w' => e = .returned (.string (stx [if g then 1 else 0])) ∧ Below w.heap.size w w') := Lib.hid fun w => r2Flag_any g w
      have HV1 : Hid (∀ w, Calls Tryd.prog 28 #[.string (stx vl)] w fun e w' => e = .returned (.string (stx (numBytes vl.length ++ vl))) ∧ Below w.heap.size w w') := Lib.hid fun w => by
        have := r2Text_any (stx vl) w (by rw [stx_size]; omega)
        rw [stx_size] at this
        exact this
      rw [hm] at hkx hs1 HST hcl
      have hC1 : (C : Int) ≤ m := by omega
      have hm1 : (m : Int) ≤ 100 := by omega
      have hC0 : (0 : Int) ≤ C := by omega
      clear hx hat hst HKK HKL b4 hC hm hex hdl
      go_wp2_with fail
      generalize wr.alloc (.cells #[.string (stx k), .string (stx vl), .bool g] 36) = W at *
      refine (HCM.out _).mono ?_
      rintro e w5 ⟨rfl, b6⟩
      have b7 := below_past b5 b6 b5.size
      have r7 := rowAt_past b6 r5
      clear HCM b5 b6 r5 c1 c2 c3
      have f0 := fun x : Past w5 => cell_of_rowAt (rowAt_past x.h r7) 0
      have f2 := fun x : Past w5 => cell_of_rowAt (rowAt_past x.h r7) 2
      have zA : (stx (numBytes C)).size ≤ 9 := by rw [stx_size, numBytes_length]; have := numLen_le C (by omega); omega
      have zB : (stx (numBytes (m - C) ++ k.drop C)).size ≤ 120 := by
        rw [stx_size, List.length_append, numBytes_length, List.length_drop]
        have := numLen_le (m - C) (by omega)
        have := HX100.out
        omega
      have zC : (stx [if g = true then (1 : UInt8) else 0]).size = 1 := by rw [stx_size]; rfl
      have zS : (stx (numBytes n ++ encB [] (l.take i))).size ≤ 1200000 := by rw [stx_size]; exact hs0
      have zV : (stx (numBytes vl.length ++ vl)).size ≤ 4020 := by
        rw [stx_size, List.length_append, numBytes_length]
        have := numLen_le vl.length (by omega)
        omega
      have HEQ : Hid (stx (numBytes n ++ encB [] (l.take i)) ++ (stx (numBytes C) ++ stx (numBytes (m - C) ++ k.drop C) ++ stx [if g = true then (1 : UInt8) else 0]) ++ (if g = true then stx [] else stx (numBytes vl.length ++ vl)) = stx (numBytes n ++ encB [] (l.take (i + 1)))) := Lib.hid (by
        rw [HST.out]
        cases g
        · simp only [Bool.false_eq_true, if_false, stx_append, List.append_assoc]
        · simp only [if_true, stx_append, List.append_assoc])
      clear HST hs0 hs1 hkx hcl
      obtain ⟨S2, hS2⟩ : ∃ S2, stx (numBytes n ++ encB [] (l.take (i + 1))) = S2 := ⟨_, rfl⟩
      rw [hS2] at HEQ
      have HS2 := Lib.hid hS2
      clear hS2
      generalize stx (numBytes n ++ encB [] (l.take i)) = S at *
      generalize stx (numBytes C) = A at *
      generalize stx (numBytes (m - C) ++ k.drop C) = Bt at *
      generalize stx [if g = true then (1 : UInt8) else 0] = Cf at *
      generalize stx (numBytes vl.length ++ vl) = V at *
      have y1 : ((A ++ Bt).size : Int) ≤ 200 := by rw [ByteArray.size_append]; omega
      have y2 : ((A ++ Bt ++ Cf).size : Int) ≤ 300 := by rw [ByteArray.size_append, ByteArray.size_append]; omega
      have y3 : ((S ++ (A ++ Bt ++ Cf)).size : Int) ≤ 1300000 := by rw [ByteArray.size_append, ByteArray.size_append, ByteArray.size_append]; omega
      go_upto_region 7 with fail
      refine wp_region_past (by kernel_rfl) (by kernel_rfl) ?_
      repeat (go_big_quiet_step (first | (go_at_call 26; exact Past.call (HN1.out _)) | (go_at_call 28; exact Past.call (HT1.out _)) | (go_at_call 86; exact Past.call (HF1.out _))))
      refine wpQuiet_nil ?_
      intro w2 hw2
      obtain ⟨⟨wn, hn⟩, rfl⟩ := hw2
      try dsimp only
      have b8 := below_past b7 hn b7.size
      have r8 := rowAt_past hn r7
      have d2 := cell_of_rowAt r8 2
      clear b7 hn r7 f0 f2 HN1 HT1 HF1
      cases g with
      | true =>
        have d0 := cell_of_rowAt r8 0
        have HE3 : Hid (S ++ (A ++ Bt ++ Cf) = S2) := Lib.hid (by rw [← HEQ.out, if_pos rfl]; exact (ByteArray.append_empty).symm)
        clear HEQ HV1
        go_wp2_with fail
        exact ⟨⟨i + 1, k, hlt, by go_num, rfl, by rw [HS2.out, HE3.out], HLS, HX100, b8⟩, by simp [intOf]; omega⟩
      | false =>
        have d1 := cell_of_rowAt r8 1
        have HE3 : Hid (S ++ (A ++ Bt ++ Cf) ++ V = S2) := Lib.hid (by rw [← HEQ.out, if_neg (by decide)])
        clear HEQ
        go_wp2_with fail
        refine (HV1.out _).mono ?_
        rintro e w6 ⟨rfl, b9⟩
        have b10 := below_past b8 b9 b8.size
        have d0 := cell_of_rowAt (rowAt_past b9 r8) 0
        clear HV1 b8 b9 r8 d1 d2
        go_wp2_with fail
        exact ⟨⟨i + 1, k, hlt, by go_num, rfl, by rw [HS2.out, ← HE3.out], HLS, HX100, b10⟩, by simp [intOf]; omega⟩
    · obtain rfl : i = n := by omega
      have HTT := Lib.hid HTX.out
      clear HKK HKL HTX
      go_wp2_with fail
      go_ret
      exact ⟨by rw [HTT.out]; rfl, b4⟩
set_option maxRecDepth 100000 in
set_option maxHeartbeats 1000000 in
theorem r9Make_any (v : Value) (l : List Ent) (w : World) (h : EntsAt w v l) (hs : smallB l) : Calls Tryd.prog 27 #[v] w fun e w' => e = .returned (MakeR l) ∧ Below w.heap.size w w' := by
  have HC := Lib.hid (r9Check_any v l w h hs)
  unfold MakeR makeB
  by_cases hc : checkB l = 0
  · rw [if_neg (by rw [hc]; simp)]
    rw [hc] at HC
    obtain ⟨hl, hk⟩ := checkB_len hc
    have HT := Lib.hid (fun w (h : EntsAt w v l) => r9Text_any v l w h hl hk)
    have HH := Lib.hid h
    obtain ⟨N, hN⟩ : ∃ N, (textB l).length = N := ⟨_, rfl⟩
    have hsz : (stx (textB l)).size = N := by rw [stx_size, hN]
    have hN2 : (N : Int) ≤ 1200000 := by
      have h1 := numLen_le l.length (by omega)
      have h2 := encB_len l [] hk
      rw [← hN, textB, List.length_append, numBytes_length]
      omega
    rw [hN]
    by_cases hb : N ≤ 65536
    · rw [if_pos hb]
      have HW := Lib.hid (fun w => r4Wrap_any (stx (textB l)) w (by rw [hsz]; exact hb))
      rw [show (stx (textB l)).data.toList = textB l from rfl] at HW
      have p1 : ¬ (65536 : Int) < N := by omega
      have p2 : decide (65536 < N) = false := decide_eq_false (by omega)
      clear h hs hc hl hk hN hb
      generalize stx (textB l) = T at *
      generalize stx (frame (textB l)) = F at *
      go_enter Tryd.func27, Tryd.ntmps27
      go_wp2_with fail
      refine HC.out.mono ?_
      rintro e w1 ⟨rfl, b1⟩
      have HT2 := Lib.hid (HT.out _ (HH.out.below b1))
      clear HC HH HT
      go_wp2_with fail
      refine HT2.out.mono ?_
      rintro e w2 ⟨rfl, b2⟩
      have b3 := below_past b1 b2 b1.size
      clear HT2 b1 b2
      go_wp2_with fail
      refine (HW.out _).mono ?_
      rintro e w3 ⟨rfl, b2⟩
      have b4 := below_past b3 b2 b3.size
      clear HW b2 b3
      go_wp2_with fail
      go_ret2
      exact ⟨rfl, b4⟩
    · rw [if_neg hb]
      have p1 : (65536 : Int) < N := by omega
      have p2 : decide (65536 < N) = true := decide_eq_true (by omega)
      clear h hs hc hl hk hN hb
      generalize stx (textB l) = T at *
      go_enter Tryd.func27, Tryd.ntmps27
      go_wp2_with fail
      refine HC.out.mono ?_
      rintro e w1 ⟨rfl, b1⟩
      have HT2 := Lib.hid (HT.out _ (HH.out.below b1))
      clear HC HH HT
      go_wp2_with fail
      refine HT2.out.mono ?_
      rintro e w2 ⟨rfl, b2⟩
      have b3 := below_past b1 b2 b1.size
      clear HT2 b1 b2
      go_wp2_with fail
      go_ret2
      exact ⟨rfl, b3⟩
  · rw [if_pos hc]
    generalize checkB l = E at *
    have e1 : ((E : Int) != 0) = true := by rw [bne_iff_ne]; omega
    have e2 : (E != 0) = true := by rw [bne_iff_ne]; exact hc
    clear h hc hs
    go_enter Tryd.func27, Tryd.ntmps27
    go_wp2_with fail
    refine HC.out.mono ?_
    rintro e w1 ⟨rfl, b1⟩
    clear HC
    go_wp2_with fail
    go_ret2
    exact ⟨rfl, b1⟩
end Go.Proofs.YtgegipijappfhaaDoor
