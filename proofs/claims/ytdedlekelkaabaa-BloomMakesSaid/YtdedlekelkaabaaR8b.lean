/- The document's filter: a place, is it in form, bytes as bits. Conditions: none. -/
import Derived.Test.YtdedlekelkaabaaR8a
import Derived.Test.YtdedlekelkaabaaBloom6
import Derived.Test.YtdedlekelkaabaaWild
import Derived.Maps.AppendAt
namespace Go.Proofs.Ytdedlekelkaabaa
open Go Go.RowKit Go.Shelf
attribute [local go_sem] Oper.semAt_some

theorem shr32 (H : UInt64) : qv H / 4294967296 = qv (H >>> UInt64.ofNat 32) := by
  have := q_shr H 32 (by decide)
  rwa [show ((2 ^ 32 : Nat) : Int) = 4294967296 from rfl] at this
theorem shr_small (H : UInt64) : qv (H >>> UInt64.ofNat 32) < 4294967296 := by
  rw [← shr32]
  have := q_lt H
  omega
set_option maxRecDepth 100000 in
set_option maxHeartbeats 1000000 in
theorem r8Place_any (key : ByteArray) (i n : Nat) (w : World) (hs : key.size ≤ 281474976710656) (hi : i ≤ 1000) (hn : 0 < n ∧ n ≤ 1000000000) :
    Calls Try.prog 25 #[.string key, .int .i64 i, .int .i64 n] w fun e w' => e = .returned (.int .i64 ((plQ (hashL key.data.toList) n i).toNat : Int)) ∧ w' = w := by
  have HH := Lib.hid (r8Hash_any key w hs)
  generalize hashL key.data.toList = H at *
  have e1 := shr32 H
  have e2 := shr_small H
  have g1 := q_ge H
  have g2 := q_ge (H >>> UInt64.ofNat 32)
  have hpl : (plQ H n i).toNat < n := plQ_lt H n i ⟨hn.1, by omega⟩
  have hpw : qv (walkQ H i) % (n : Int) = ((plQ H n i).toNat : Int) := by
    have := place_q2 H (UInt64.ofNat i * strideQ H) n (by omega)
    exact this
  have hii : (i : Int) ≤ 1000 := by omega
  have hni : (n : Int) ≤ 1000000000 := by omega
  have hn0 : (0 : Int) < n := by omega
  have HPW := Lib.hid hpw
  have HPL := Lib.hid hpl
  have hpli : ((plQ H n i).toNat : Int) < n := by omega
  have hpl0 : (0 : Int) ≤ ((plQ H n i).toNat : Int) := Int.natCast_nonneg _
  obtain ⟨P, hP⟩ : ∃ P : Int, ((plQ H n i).toNat : Int) = P := ⟨_, rfl⟩
  rw [hP] at hpw hpli hpl0 ⊢
  have HWZ := Lib.hid (walkQ_zero H)
  clear hs hi hn hpl HPL hP HPW
  obtain ⟨G, hG⟩ : ∃ G, strideQ H = G := ⟨_, rfl⟩
  have HWS : Hid (∀ k, walkQ H k + G = walkQ H (k + 1)) := Lib.hid fun k => by rw [← hG]; exact walkQ_succ H k
  have hw0 : qv H = qv (walkQ H 0) := by rw [walkQ_zero]
  have HW0 := Lib.hid hw0
  clear hw0
  by_cases hev : (H >>> UInt64.ofNat 32).toNat % 2 = 0
  · have hst := stride_even H hev
    rw [hG] at hst
    have q1 : qv (H >>> UInt64.ofNat 32) % 2 = 0 := by unfold qv; omega
    have e3 : IntKind.u64.wrap (qv (H >>> UInt64.ofNat 32) + 1) = qv G := by
      rw [show (1 : Int) = qv 1 from rfl, q_addw, hst]
    have e3b : qv (H >>> UInt64.ofNat 32) + 1 = qv G := by
      rw [← e3]
      show _ = (qv (H >>> UInt64.ofNat 32) + 1) % 2 ^ IntKind.u64.bits
      rw [show (2 : Int) ^ IntKind.u64.bits = 18446744073709551616 from rfl]
      omega
    generalize H >>> UInt64.ofNat 32 = Y at *
    clear hev hst hG
    go_enter Try.func25, Try.ntmps25
    go_wp2_with fail
    refine HH.out.mono ?_
    rintro e w1 ⟨rfl, rfl⟩
    go_wp2_with fail
    rw [HW0.out]
    go_loop [9, 10] (fun x y => ∃ k : Nat, k ≤ i ∧ y = .int .i64 k ∧ x = .int .u64 (qv (walkQ H k))) (fun _ y => (i - intOf y).toNat)
    case atStart => exact ⟨0, Nat.zero_le _, rfl, rfl⟩
    case round =>
      obtain ⟨k, hk, rfl, rfl⟩ := hrel
      by_cases hlt : k < i
      · have hlt' : (k : Int) < i := by omega
        have a1 := q_addw (walkQ H k) G
        rw [HWS.out] at a1
        clear hpw
        go_wp2_with fail
        exact ⟨⟨k + 1, hlt, by go_num, rfl⟩, by simp [intOf]; omega⟩
      · obtain rfl : k = i := by omega
        have g5 := q_ge (walkQ H k)
        go_wp2_with fail
        go_ret
        exact ⟨rfl, rfl⟩
  · have hod : (H >>> UInt64.ofNat 32).toNat % 2 = 1 := by omega
    have hst := stride_odd H hod
    rw [hG] at hst
    have q1 : qv (H >>> UInt64.ofNat 32) % 2 = 1 := by unfold qv; omega
    rw [hst] at q1 e1 e2 g2
    clear hev hod hst hG
    go_enter Try.func25, Try.ntmps25
    go_wp2_with fail
    refine HH.out.mono ?_
    rintro e w1 ⟨rfl, rfl⟩
    go_wp2_with fail
    rw [HW0.out]
    go_loop [9, 10] (fun x y => ∃ k : Nat, k ≤ i ∧ y = .int .i64 k ∧ x = .int .u64 (qv (walkQ H k))) (fun _ y => (i - intOf y).toNat)
    case atStart => exact ⟨0, Nat.zero_le _, rfl, rfl⟩
    case round =>
      obtain ⟨k, hk, rfl, rfl⟩ := hrel
      by_cases hlt : k < i
      · have hlt' : (k : Int) < i := by omega
        have a1 := q_addw (walkQ H k) G
        rw [HWS.out] at a1
        clear hpw
        go_wp2_with fail
        exact ⟨⟨k + 1, hlt, by go_num, rfl⟩, by simp [intOf]; omega⟩
      · obtain rfl : k = i := by omega
        have g5 := q_ge (walkQ H k)
        go_wp2_with fail
        go_ret
        exact ⟨rfl, rfl⟩

def goodR (p : Int) (m : Nat) : Bool := decide (0 < p ∧ p < 17 ∧ 0 < m ∧ m ≤ 65536)
set_option maxRecDepth 100000 in
theorem r8Good_any (p : Int) (ao : Option Addr) (m cap : Nat) (w : World) :
    Calls Try.prog 15 #[.agg #[.int .i64 p, .slice ao m cap]] w fun e w' => e = .returned (.bool (goodR p m)) ∧ Below w.heap.size w w' := by
  have b1 : Below w.heap.size w (w.alloc (.cells #[.int .i64 p, .slice ao m cap] 33)) := (Below.refl _ _).alloc (Nat.le_refl _) _
  obtain ⟨R, hR⟩ : ∃ R, goodR p m = R := ⟨_, rfl⟩
  rw [hR]
  unfold goodR at hR
  by_cases h1 : 0 < p
  · have q1 : decide (0 < p) = true := decide_eq_true h1
    by_cases h2 : p < 17
    · have q2 : decide (p < 17) = true := decide_eq_true h2
      by_cases h3 : 0 < m
      · have q3 : decide (0 < m) = true := decide_eq_true h3
        by_cases h4 : m ≤ 65536
        · have q4 : decide (m ≤ 65536) = true := decide_eq_true h4
          have q4i : decide ((m : Int) ≤ 65536) = true := decide_eq_true (by omega)
          rw [decide_eq_true ⟨h1, h2, h3, h4⟩] at hR
          subst hR
          clear h1 h2 h3 h4
          go_enter Try.func15, Try.ntmps15
          go_wp2_with fail
          go_ret
          exact ⟨rfl, b1⟩
        · have q4 : decide (m ≤ 65536) = false := decide_eq_false h4
          have q4i : decide ((m : Int) ≤ 65536) = false := decide_eq_false (by omega)
          rw [decide_eq_false (fun h => h4 h.2.2.2)] at hR
          subst hR
          clear h1 h2 h3 h4
          go_enter Try.func15, Try.ntmps15
          go_wp2_with fail
          go_ret
          exact ⟨rfl, b1⟩
      · obtain rfl : m = 0 := by omega
        rw [decide_eq_false (fun h => h3 h.2.2.1)] at hR
        subst hR
        clear h1 h2 h3
        go_enter Try.func15, Try.ntmps15
        go_wp2_with fail
        go_ret
        exact ⟨rfl, b1⟩
    · have q2 : decide (p < 17) = false := decide_eq_false h2
      rw [decide_eq_false (fun h => h2 h.2.1)] at hR
      subst hR
      clear h1 h2
      go_enter Try.func15, Try.ntmps15
      go_wp2_with fail
      go_ret
      exact ⟨rfl, b1⟩
  · have q1 : decide (0 < p) = false := decide_eq_false h1
    rw [decide_eq_false (fun h => h1 h.1)] at hR
    subst hR
    clear h1
    go_enter Try.func15, Try.ntmps15
    go_wp2_with fail
    go_ret
    exact ⟨rfl, b1⟩
/-- Bits in memory. -/
def BitsIn (w : World) (v : Value) (bl : List Bool) : Prop := ∃ ao cap, v = .slice ao bl.length cap ∧ ∀ i, i < bl.length → ∃ g, ao = some ⟨g, 0, none⟩ ∧ w.cell? ⟨g, i, none⟩ = some (.bool (bl.getD i false))
theorem BitsIn.below {w W : World} {v : Value} {bl : List Bool} (h : BitsIn w v bl) (hb : Below w.heap.size w W) : BitsIn W v bl := by
  obtain ⟨ao, cap, h1, h2⟩ := h
  refine ⟨ao, cap, h1, fun i hi => ?_⟩
  obtain ⟨g, h3, h4⟩ := h2 i hi
  exact ⟨g, h3, (hb.cell (p := ⟨g, i, none⟩) (cellLt h4)).trans h4⟩
def boolCells (bl : List Bool) : List Value := bl.map Value.bool
theorem own_bits {w : World} {B : Nat} {v : Value} {bl : List Bool} (h : w.ownsRow B 4 1 v bl.length (boolCells bl)) : BitsIn w v bl := by
  rcases h.2 with ⟨rfl, h0⟩ | ⟨g, cap, cur, rfl, hb, hg, h1, h2, h3, h4⟩
  · exact ⟨none, 0, by rw [h0], fun i hi => absurd hi (by omega)⟩
  · refine ⟨_, cap, rfl, fun i hi => ⟨g, rfl, ?_⟩⟩
    rw [Lib.cell_of_heap hg i]
    have : (cur.toList.take (bl.length * 1))[i]? = (boolCells bl)[i]? := by rw [h4]
    rw [List.getElem?_take, if_pos (by omega)] at this
    simp only [Array.getElem?_toList] at this
    rw [this]
    simp [boolCells, hi]
theorem info_bool : ∃ i : TypeInfo, Try.prog.info? 4 = some i ∧ i.zero = some (.bool false) ∧ i.size = 1 ∧ i.bytes = 1 := by
  have h : (Try.prog.info? 4).map (fun i => (i.zero, i.size, i.bytes)) = some (some (.bool false), 1, 1) := by kernel_rfl
  cases hq : Try.prog.info? 4 with
  | none => rw [hq] at h; cases h
  | some i =>
    rw [hq] at h
    simp only [Option.map_some, Option.some.injEq, Prod.mk.injEq] at h
    exact ⟨i, rfl, h.1, h.2.1, h.2.2⟩
end Go.Proofs.Ytdedlekelkaabaa
