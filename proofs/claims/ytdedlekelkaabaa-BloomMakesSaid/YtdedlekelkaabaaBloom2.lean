/- A key's places in a filter: the function that hands them out, one by one. Conditions: none. -/
import Derived.Test.YtdedlekelkaabaaBloom1
import Derived.RangeFuncNested
import Derived.RangeFuncBound
import Derived.RangeFuncCalls
import Derived.RangeFuncLeaves
import Derived.Shelf.Abstract
import Derived.Shelf.RegionOpen
import Derived.WalkKit
import Derived.OwnWalkIn
import Derived.TacticsInMore
import Derived.LoopNIn
import Derived.LoopIn
namespace Go.Proofs.Ytdedlekelkaabaa
open Go Go.RowKit Go.Shelf
attribute [local go_sem] Oper.semAt_some

/-- How far from place to place. -/
def strideQ (H : UInt64) : UInt64 := (H >>> UInt64.ofNat 32) ||| 1
/-- Place number i of a key with hash H among m bits. -/
def plQ (H : UInt64) (m i : Nat) : UInt64 := (H + UInt64.ofNat i * strideQ H) % UInt64.ofNat m
theorem plQ_lt (H : UInt64) (m i : Nat) (h : 0 < m ∧ m < 2 ^ 64) : (plQ H m i).toNat < m := by
  unfold plQ
  rw [UInt64.toNat_mod, UInt64.toNat_ofNat', Nat.mod_eq_of_lt h.2]
  exact Nat.mod_lt _ h.1
/-- A place among m. -/
abbrev PlT (m : Nat) : Type := { x : UInt64 // x.toNat < m }
def plT (H : UInt64) (m : Nat) (h : 0 < m ∧ m < 2 ^ 64) (i : Nat) : PlT m := ⟨plQ H m i, plQ_lt H m i h⟩
def plsT (H : UInt64) (m : Nat) (h : 0 < m ∧ m < 2 ^ 64) (p : Nat) : List (PlT m) := (List.range p).map (plT H m h)
theorem plsT_succ (H : UInt64) (m : Nat) (h : 0 < m ∧ m < 2 ^ 64) (p : Nat) : plsT H m h (p + 1) = plsT H m h p ++ [plT H m h p] := by simp [plsT, List.range_succ]
theorem plsT_length (H : UInt64) (m : Nat) (h : 0 < m ∧ m < 2 ^ 64) (p : Nat) : (plsT H m h p).length = p := by simp [plsT]
theorem plsT_prefix (H : UInt64) (m : Nat) (h : 0 < m ∧ m < 2 ^ 64) (i p : Nat) (hi : i ≤ p) : plsT H m h i <+: plsT H m h p := by
  obtain ⟨k, rfl⟩ := Nat.exists_eq_add_of_le hi
  unfold plsT
  rw [List.range_add, List.map_append]
  exact List.prefix_append _ _
theorem stride_q (H : UInt64) : bits .or .u64 (qv H / 4294967296) 1 = qv (strideQ H) := by
  have := q_shr H 32 (by decide)
  rw [show ((2 ^ 32 : Nat) : Int) = 4294967296 from rfl] at this
  rw [this, show (1 : Int) = qv 1 from rfl, q_or]
  rfl
theorem qv_nat (i : Nat) (h : i < 2 ^ 64) : qv (UInt64.ofNat i) = (i : Int) := by
  unfold qv
  rw [UInt64.toNat_ofNat', Nat.mod_eq_of_lt h]
theorem place_q1 (g : UInt64) (i : Nat) (h : i < 2 ^ 64) : IntKind.u64.wrap ((i : Int) * qv g) = qv (UInt64.ofNat i * g) := by
  rw [← qv_nat i h, q_mulw]
theorem place_q2 (H x : UInt64) (m : Nat) (h : m < 2 ^ 64) : qv (H + x) % (m : Int) = qv ((H + x) % UInt64.ofNat m) := by
  unfold qv
  rw [UInt64.toNat_mod, UInt64.toNat_ofNat', Nat.mod_eq_of_lt h]
  omega

set_option maxRecDepth 100000 in
theorem places_any (p : Int) (v : Value) (key : ByteArray) (w : World) (hs : key.size ≤ 281474976710656) :
    Calls Try.prog 24 #[.agg #[.int .i64 p, v], .string key] w fun e w' => e = .returned (.func (.func 36) #[] #[.pointer (some ⟨w.heap.size, 0, none⟩), .pointer (some ⟨w.heap.size + 1, 0, none⟩), .pointer (some ⟨w.heap.size + 1 + 1, 0, none⟩)]) ∧
      w' = ((w.alloc (.cells #[.int .i64 p, v] 26)).alloc (.cells #[.int .u64 (qv (hashL key.data.toList))] 60)).alloc (.cells #[.int .u64 (qv (strideQ (hashL key.data.toList)))] 60) := by
  have HH : ∀ w, Hid (Calls Try.prog 35 #[.string key] w fun e w' => e = .returned (.int .u64 (qv (hashL key.data.toList))) ∧ w' = w) := fun w => Lib.hid (bHash_any key w hs)
  generalize hashL key.data.toList = H at *
  have e1 := stride_q H
  have g1 := q_ge H
  go_enter Try.func24, Try.ntmps24
  go_wp2_with fail
  refine (HH _).out.mono ?_
  rintro e w1 ⟨rfl, rfl⟩
  go_wp2_with fail
  go_ret
  exact ⟨rfl, rfl⟩

/-- What a round keeps: the three blocks that the function has taken with it. -/
def KeepQ (b : Nat) (W W' : World) : Prop := ∀ k, b ≤ k → k < b + 3 → W'.heap[k]? = W.heap[k]?
theorem keepQ_t {b : Nat} {A B C : World} (h : KeepQ b A B) (k : KeepQ b B C) : KeepQ b A C := fun i h1 h2 => (k i h1 h2).trans (h i h1 h2)
theorem keepQ_b {b : Nat} {w : World} (hb : b + 3 ≤ w.heap.size) (W : World) (l : Nat) (o o' : Obj) (hl : w.heap.size ≤ l) (_ : W.heap[l]? = some o) (_ : o.isCells = false) (_ : o.isWalk = false) : KeepQ b W (W.putObj l o') := fun k _ h2 => World.putObj_heap_other (by omega)
/-- The three blocks. -/
def TakenQ (W : World) (b : Nat) (p : Int) (v : Value) (H : UInt64) : Prop :=
  W.heap[b]? = some (.cells #[.int .i64 p, v] 26 (0, 0)) ∧ W.heap[b + 1]? = some (.cells #[.int .u64 (qv H)] 60 (0, 0)) ∧ W.heap[b + 1 + 1]? = some (.cells #[.int .u64 (qv (strideQ H))] 60 (0, 0))
theorem TakenQ.keep {W W' : World} {b : Nat} {p : Int} {v : Value} {H : UInt64} (h : TakenQ W b p v H) (k : KeepQ b W W') : TakenQ W' b p v H :=
  ⟨(k b (Nat.le_refl _) (by omega)).trans h.1, (k (b + 1) (by omega) (by omega)).trans h.2.1, (k (b + 1 + 1) (by omega) (by omega)).trans h.2.2⟩

set_option maxRecDepth 100000 in
set_option maxHeartbeats 2000000 in
theorem iter_in (F : Fence) (n : Nat) (hF : F.fn 36) (hro : F.round = none) (hn : 1 ≤ n) (l b p len cap : Nat) (ao : Option Addr) (H : UInt64) (hp : p ≤ 1000) (h0 : 0 < len) (hlen : len ≤ 100000) (hm : 0 < 8 * len ∧ 8 * len < 2 ^ 64) (J Jx : List (PlT (8 * len)) → World → Prop)
    (hY : ∀ pre x W, J pre W → pre.length < p → YieldAt F (n - 1) Try.prog l #[.int .u64 (qv x.1)] W fun e W' =>
      (e = .returned (.bool true) ∧ J (pre ++ [x]) W' ∧ KeepQ b W W') ∨ (e = .returned (.bool false) ∧ Jx (pre ++ [x]) W'))
    (W : World) (hT : TakenQ W b p (.slice ao len cap) H) (hJ : J [] W) :
    CallsIn F n Try.prog 36 #[.func (.yield l) #[] #[], .pointer (some ⟨b, 0, none⟩), .pointer (some ⟨b + 1, 0, none⟩), .pointer (some ⟨b + 1 + 1, 0, none⟩)] W fun e W' => (∃ v, e = .returned v) ∧
      ((∃ ys, ys = plsT H (8 * len) hm p ∧ J ys W') ∨ (∃ pre, pre <+: plsT H (8 * len) hm p ∧ Jx pre W')) := by
  have hpi : (p : Int) ≤ 1000 := by omega
  have hli : (len : Int) ≤ 100000 := by omega
  have hl0 : (0 : Int) < len := by omega
  refine callsIn_of_wp Try.func36 rfl hF ?_ hro
  simp only [Try.ntmps36, List.size_toArray, List.length_cons, List.length_nil, Nat.reduceAdd, Nat.reduceSub, Array.replicate_succ, Array.replicate_zero, List.push_toArray, List.append_toArray, List.nil_append, List.cons_append]
  have c0 : W.cell? ⟨b, 0, none⟩ = some (.int .i64 p) := (Lib.cell_of_heap hT.1 0).trans rfl
  gi_wp2
  gi_loopw [9] (fun x wr => ∃ i : Nat, i ≤ p ∧ x = .int .u64 i ∧ TakenQ wr b p (.slice ao len cap) H ∧ J (plsT H (8 * len) hm i) wr) (fun x _ => (p - intOf x).toNat)
  case atStart => exact ⟨0, Nat.zero_le _, rfl, hT, hJ⟩
  case round =>
    obtain ⟨i, hi, rfl, T1, J1⟩ := hrel
    clear c0
    by_cases hlt : i < p
    · have hlt' : (i : Int) < p := by omega
      have e1 := place_q1 (strideQ H) i (by omega)
      have e2 := q_addw H (UInt64.ofNat i * strideQ H)
      have e3 := place_q2 H (UInt64.ofNat i * strideQ H) (8 * len) (by omega)
      rw [show ((8 * len : Nat) : Int) = 8 * (len : Int) by omega, show (H + UInt64.ofNat i * strideQ H) % UInt64.ofNat (8 * len) = plQ H (8 * len) i from rfl] at e3
      have g3 := q_ge (H + UInt64.ofNat i * strideQ H)
      have hYv : (plT H (8 * len) hm i).1 = plQ H (8 * len) i := rfl
      obtain ⟨fn, tmps, assign, body, hy, hR⟩ := hY (plsT H (8 * len) hm i) (plT H (8 * len) hm i) wr J1 (by rw [plsT_length]; exact hlt)
      have HR := Lib.hid hR
      have c1 : wr.cell? ⟨b, 1, none⟩ = some (.slice ao len cap) := (Lib.cell_of_heap T1.1 1).trans rfl
      have c2 : wr.cell? ⟨b + 1, 0, none⟩ = some (.int .u64 (qv H)) := (Lib.cell_of_heap T1.2.1 0).trans rfl
      have c3 : wr.cell? ⟨b + 1 + 1, 0, none⟩ = some (.int .u64 (qv (strideQ H))) := (Lib.cell_of_heap T1.2.2 0).trans rfl
      have HS := Lib.hid (plsT_succ H (8 * len) hm i)
      clear hR hY
      rw [← hYv] at e3
      clear hYv
      generalize UInt64.ofNat i * strideQ H = X at *
      generalize plT H (8 * len) hm i = Y at *
      have HPX := Lib.hid (plsT_prefix H (8 * len) hm (i + 1) p hlt)
      gi_wp2
      refine HR.out.mono ?_
      rintro e W3 (⟨rfl, hJ3, hk3⟩ | ⟨rfl, hJx3⟩)
      · have T3 := Lib.hid (T1.keep hk3)
        have J3 := Lib.hid hJ3
        clear T1 J1 HR hJ3 hk3 c1 c2 c3
        gi_wp2
        exact ⟨⟨i + 1, hlt, by go_num, T3.out, by rw [HS.out]; exact J3.out⟩, by simp [intOf]; omega⟩
      · have J3 := Lib.hid hJx3
        clear T1 J1 HR hJx3 c1 c2 c3
        gi_wp2
        refine bodyPost_ret (results_none rfl _ _ _) rfl ?_
        exact ⟨⟨_, rfl⟩, .inr ⟨_, by rw [← HS.out]; exact HPX.out, J3.out⟩⟩
    · obtain rfl : i = p := by omega
      have HJ := Lib.hid J1
      clear T1 J1
      gi_wp2
      go_end0
      exact ⟨⟨_, rfl⟩, .inl ⟨_, rfl, HJ.out⟩⟩
/-- The function that hands out the places, as a range over it wants it. -/
theorem iter_stops (F : Fence) (n : Nat) (hF : F.fn 36) (hro : F.round = none) (hn : 1 ≤ n) (b p len cap : Nat) (ao : Option Addr) (H : UInt64) (hp : p ≤ 1000) (h0 : 0 < len) (hlen : len ≤ 100000) (hm : 0 < 8 * len ∧ 8 * len < 2 ^ 64) (w : World) (hT : TakenQ w b p (.slice ao len cap) H) :
    SeqStopsK F n Try.prog 36 #[.pointer (some ⟨b, 0, none⟩), .pointer (some ⟨b + 1, 0, none⟩), .pointer (some ⟨b + 1 + 1, 0, none⟩)] (fun x : PlT (8 * len) => #[.int .u64 (qv x.1)]) (KeepQ b) (fun xs => xs = plsT H (8 * len) hm p) (fun pre => pre <+: plsT H (8 * len) hm p) p w :=
  fun l J Jx W hW _ _ hY hJ => iter_in F n hF hro hn l b p len cap ao H hp h0 hlen hm J Jx hY W (hT.keep fun k _ hk => hW.block k (Nat.lt_of_lt_of_le hk (by
    have := (Array.getElem?_eq_some_iff.1 hT.2.2).1
    omega))) hJ
end Go.Proofs.Ytdedlekelkaabaa
