/- The document's roots of primes, part 1: long products as lists of numbers. Conditions: none. -/
import Derived.Test.YthmhjojabalddaaDoorShaRef2
import Derived.Test.YthmhjojabalddaaDoorWild
import Derived.Lib.EndianBits
namespace Go.Proofs.YthmhjojabalddaaDoor
open Go Go.RowKit

def ucell (n : Nat) : Value := .int .u64 (n : Int)
def ucells (l : List Nat) : Array Value := (l.map ucell).toArray
@[go_sem, simp] theorem size_ucells (l : List Nat) : (ucells l).size = l.length := by simp [ucells]
theorem get_ucells (l : List Nat) (i : Nat) (h : i < l.length) : (ucells l)[i]? = some (.int .u64 ((l.getD i 0 : Nat) : Int)) := by
  have := getD_some (d := 0) h
  simp only [ucells, List.getElem?_toArray]
  rw [List.getElem?_map, this]
  rfl
theorem set_ucells (l : List Nat) (i n : Nat) : (ucells l).setIfInBounds i (.int .u64 (n : Int)) = ucells (l.set i n) := by
  simp [ucells, List.map_set, ucell]

def addAt (out : List Nat) (k x : Nat) : List Nat := out.set k ((out.getD k 0 + x) % 18446744073709551616)
def inner (x : Nat) (b : List Nat) (i : Nat) (out : List Nat) : Nat → List Nat
  | 0 => out
  | m + 1 => addAt (inner x b i out m) (i + m) (x * b.getD m 0 % 18446744073709551616)
def outer (a b : List Nat) : Nat → List Nat
  | 0 => List.replicate (a.length + b.length + 1) 0
  | n + 1 => inner (a.getD n 0) b n (outer a b n) b.length
def carryAt (o : List Nat) (m : Nat) : List Nat := (addAt o (m + 1) (o.getD m 0 / 1048576)).set m (o.getD m 0 % 1048576)
def carry (o : List Nat) : Nat → List Nat
  | 0 => o
  | m + 1 => carryAt (carry o m) m
def limbsL (a b : List Nat) : List Nat := carry (outer a b a.length) (a.length + b.length)
def splitL (x : Nat) : List Nat := [x % 1048576, x / 1048576 % 1048576, x / 1099511627776]
theorem addAt_len (o : List Nat) (k x : Nat) : (addAt o k x).length = o.length := by simp [addAt]
theorem inner_len (x : Nat) (b : List Nat) (i : Nat) (o : List Nat) : ∀ m, (inner x b i o m).length = o.length
  | 0 => rfl
  | m + 1 => by rw [inner, addAt_len, inner_len x b i o m]
theorem outer_len (a b : List Nat) : ∀ n, (outer a b n).length = a.length + b.length + 1
  | 0 => by simp [outer]
  | n + 1 => by rw [outer, inner_len, outer_len a b n]
theorem carryAt_len (o : List Nat) (m : Nat) : (carryAt o m).length = o.length := by simp [carryAt, addAt_len]
theorem carry_len (o : List Nat) : ∀ m, (carry o m).length = o.length
  | 0 => rfl
  | m + 1 => by rw [carry, carryAt_len, carry_len o m]
theorem limbsL_len (a b : List Nat) : (limbsL a b).length = a.length + b.length + 1 := by rw [limbsL, carry_len, outer_len]
def Small (l : List Nat) : Prop := ∀ x ∈ l, x < 18446744073709551616
theorem Small.get {l : List Nat} (h : Small l) (i : Nat) : l.getD i 0 < 18446744073709551616 := by
  rw [List.getD_eq_getElem?_getD]
  cases hq : l[i]? with
  | none => decide
  | some x => exact h x (List.mem_of_getElem? hq)
theorem Small.set {l : List Nat} (h : Small l) (i x : Nat) (hx : x < 18446744073709551616) : Small (l.set i x) := fun y hy => by
  rcases List.mem_or_eq_of_mem_set hy with h1 | h1
  · exact h y h1
  · rw [h1]; exact hx
theorem Small.addAt {o : List Nat} (h : Small o) (k x : Nat) : Small (addAt o k x) := h.set _ _ (Nat.mod_lt _ (by decide))
theorem Small.inner {o : List Nat} (h : Small o) (x : Nat) (b : List Nat) (i : Nat) : ∀ m, Small (inner x b i o m)
  | 0 => h
  | m + 1 => (Small.inner h x b i m).addAt _ _
theorem Small.outer (a b : List Nat) : ∀ n, Small (outer a b n)
  | 0 => fun x hx => by rw [List.eq_of_mem_replicate hx]; decide
  | n + 1 => (Small.outer a b n).inner _ _ _ _
theorem Small.carry {o : List Nat} (h : Small o) : ∀ m, Small (carry o m)
  | 0 => h
  | m + 1 => ((Small.carry h m).addAt _ _).set _ _ (Nat.lt_of_lt_of_le (Nat.mod_lt _ (by decide)) (by decide))
theorem Small.limbs (a b : List Nat) : Small (limbsL a b) := (Small.outer a b _).carry _
theorem Small.split (x : Nat) (h : x < 18446744073709551616) : Small (splitL x) := by
  intro y hy
  simp only [splitL, List.mem_cons, List.not_mem_nil, or_false] at hy
  omega

theorem mask20 {c : Int} (h0 : 0 ≤ c) (h1 : c < 18446744073709551616) : bits .and .u64 c 1048575 = c % 1048576 := bits_mask .u64 64 (by decide) wraps_u64 20 (by decide) c h0 h1
/-- A new list of numbers. -/
def NumsRet (w : World) (l : List Nat) (e : Ending) (w' : World) : Prop := ∃ g, e = .returned (.slice (some ⟨g, 0, none⟩) l.length l.length) ∧ w.heap.size ≤ g ∧ rowAt w' g = some (ucells l) ∧ Below w.heap.size w w'
set_option maxRecDepth 100000 in
theorem split_any (x : Nat) (w : World) (hx : x < 18446744073709551616) : Calls Tryd.prog 60 #[.int .u64 (x : Int)] w (NumsRet w (splitL x)) := by
  have hx0 : (0 : Int) ≤ x := by omega
  have hx1 : (x : Int) < 18446744073709551616 := by omega
  have HV : Hid (#[Value.int .u64 (bits .and .u64 (x : Int) 1048575), Value.int .u64 (bits .and .u64 ((x : Int) / 1048576) 1048575), Value.int .u64 ((x : Int) / 1099511627776)] = ucells (splitL x)) := Lib.hid (by
    rw [mask20 hx0 hx1, mask20 (by omega) (by omega)]
    rfl)
  generalize hX : (x : Int) = X at *
  clear hX hx
  go_enter Tryd.func60, Tryd.ntmps60
  go_wp2_with fail
  go_ret
  rw [HV.out]
  exact ⟨w.heap.size, rfl, Nat.le_refl _, rowAt_alloc_at _ _ _ _ rfl, (Below.refl _ _).alloc (Nat.le_refl _) _⟩
theorem info_u64 : ∃ i : TypeInfo, Tryd.prog.info? 79 = some i ∧ i.zero = some (.int .u64 0) ∧ i.size = 1 ∧ i.bytes = 8 := by
  have h : (Tryd.prog.info? 79).map (fun i => (i.zero, i.size, i.bytes)) = some (some (.int .u64 0), 1, 8) := by kernel_rfl
  exact info_parts h
theorem row_of_ownU {w : World} {B g n : Nat} {xs : List Value} (h : w.ownsRow B 79 1 (.slice (some ⟨g, 0, none⟩) n n) n xs) : rowAt w g = some xs.toArray := by
  rcases h.2 with ⟨h1, _⟩ | ⟨g', cap', cur, h1, _, h3, _, _, h6, h7⟩
  · cases h1
  · injection h1 with e1 _ e2
    injection e1 with e1
    injection e1 with e1
    subst e1 e2
    rw [Nat.mul_one] at h6 h7
    rw [List.take_of_length_le (by rw [Array.length_toList, h6]; exact Nat.le_refl _)] at h7
    rw [← h7, Array.toArray_toList]
    exact rowAt_of_heap h3
theorem made_zero (n : Nat) : (madeCells #[Value.int .u64 0] n).toList.toArray = ucells (List.replicate n 0) := by
  rw [Array.toArray_toList]
  apply Array.ext_getElem?
  intro i
  by_cases h : i < n
  · simp [madeCells, ucells, ucell, Nat.mod_one, h]
  · simp [madeCells, ucells, ucell, h]
set_option maxRecDepth 100000 in
set_option maxHeartbeats 2000000 in
theorem limbs_any (ga gb ca cb : Nat) (a b : List Nat) (w : World) (ra : rowAt w ga = some (ucells a)) (rb : rowAt w gb = some (ucells b)) (ha : Small a) (hb : Small b) (la : a.length ≤ 1000) (lb : b.length ≤ 1000) :
    Calls Tryd.prog 61 #[.slice (some ⟨ga, 0, none⟩) a.length ca, .slice (some ⟨gb, 0, none⟩) b.length cb] w (NumsRet w (limbsL a b)) := by
  obtain ⟨i0, hi, hz0, hz1, hz2⟩ := info_u64
  obtain ⟨n, hn⟩ : ∃ n, a.length = n := ⟨_, rfl⟩
  obtain ⟨m, hm⟩ : ∃ m, b.length = m := ⟨_, rfl⟩
  have HN := Lib.hid hn
  have HM := Lib.hid hm
  rw [hn] at la ⊢
  rw [hm] at lb ⊢
  have HRA := Lib.hid ra
  have HRB := Lib.hid rb
  have la2 : (n : Int) ≤ 1000 := by omega
  have lb2 : (m : Int) ≤ 1000 := by omega
  obtain ⟨N, hNN⟩ : ∃ N, n + m + 1 = N := ⟨_, rfl⟩
  have hL : (n : Int) + m + 1 = N := by omega
  have hN1 : (N : Int) ≤ 2001 := by omega
  have hN2 : N ≤ 2001 := by omega
  have hN3 : (0 : Int) ≤ N := by omega
  have HNN := Lib.hid hNN
  clear ra rb hn hm hNN
  go_enter Tryd.func61, Tryd.ntmps61
  go_wp2_with (at_make; refine wpList_make_full _ rfl _ _ 77 rfl w.heap.size 79 i0 (.int .u64 0) 1 Tryd.underlying77 hi hz0 hz1 _ _ _ _ N rfl rfl rfl rfl ?bytes ?most (Nat.le_refl _) ?_)
  case bytes => rw [hz2]; omega
  case most => unfold maxLen; omega
  intro w1 hown hgrow
  have r0 := row_of_ownU hown
  rw [made_zero] at r0
  have b0 : Below w.heap.size w w1 := (Below.refl _ _).grown hgrow (Nat.le_refl _) (fun k hk => by cases hk)
  have hga : ga < w.heap.size := lt_of_rowAt HRA.out
  have hgb : gb < w.heap.size := lt_of_rowAt HRB.out
  clear hown hgrow hL
  generalize hgg : w.heap.size = g at *
  have HG := Lib.hid hgg
  clear hgg
  rw [show List.replicate N 0 = outer a b 0 by rw [outer, HN.out, HM.out, HNN.out]] at r0
  go_wp2_with fail
  go_loopw [18] (fun x wr => ∃ i : Nat, i ≤ n ∧ x = .int .i64 i ∧ rowAt wr g = some (ucells (outer a b i)) ∧ Below g w wr) (fun x _ => (n - intOf x).toNat)
  case atStart => exact ⟨0, by omega, rfl, r0, b0⟩
  case round =>
    obtain ⟨i, hi, rfl, r1, b1⟩ := hrel
    clear r0 b0
    by_cases hlt : i < n
    · have hlt' : (i : Int) < n := by omega
      obtain ⟨wo, rfl⟩ : ∃ wo : World, wo = wr := ⟨_, rfl⟩
      rw [show outer a b i = inner (a.getD i 0) b i (outer a b i) 0 from rfl] at r1
      have HA := Lib.hid (ha.get i)
      obtain ⟨x, hx⟩ : ∃ x, a.getD i 0 = x := ⟨_, rfl⟩
      rw [hx] at r1 HA
      have HX := Lib.hid hx
      clear hx
      go_wp2_with fail
      go_loopw [23] (fun y wr => ∃ j : Nat, j ≤ m ∧ y = .int .i64 j ∧ rowAt wr g = some (ucells (inner x b i (outer a b i) j)) ∧ Below g w wr) (fun y _ => (m - intOf y).toNat)
      case atStart => exact ⟨0, by omega, rfl, r1, b1⟩
      case round =>
        obtain ⟨j, hj, rfl, r2, b2⟩ := hrel
        clear r1 b1
        by_cases hlj : j < m
        · have hlj' : (j : Int) < m := by omega
          have hij : i + j < N := by have := HNN.out; omega
          have hij' : (i : Int) + j < N := by omega
          have hlen : (inner x b i (outer a b i) j).length = N := by rw [inner_len, outer_len, HN.out, HM.out, HNN.out]
          have ra := (rowAt_below b2 hga).trans HRA.out
          have rb := (rowAt_below b2 hgb).trans HRB.out
          have ca : ∀ y : Past wr, y.w.cell? ⟨ga, i, none⟩ = some (.int .u64 (x : Int)) := fun y => by
            rw [cell_of_rowAt (rowAt_past y.h ra), get_ucells _ _ (by rw [HN.out]; exact hlt), HX.out]
          have cb : ∀ y : Past wr, y.w.cell? ⟨gb, j, none⟩ = some (.int .u64 ((b.getD j 0 : Nat) : Int)) := fun y => by
            rw [cell_of_rowAt (rowAt_past y.h rb), get_ucells _ _ (by rw [HM.out]; exact hlj)]
          have co : ∀ y : Past wr, y.w.cell? ⟨g, i + j, none⟩ = some (.int .u64 (((inner x b i (outer a b i) j).getD (i + j) 0 : Nat) : Int)) := fun y => by
            rw [cell_of_rowAt (rowAt_past y.h r2), get_ucells _ _ (by rw [hlen]; exact hij)]
          have HSET : Hid ((ucells (inner x b i (outer a b i) j)).setIfInBounds (i + j) (.int .u64 ((((inner x b i (outer a b i) j).getD (i + j) 0 : Nat) + x * b.getD j 0 % 18446744073709551616) % 18446744073709551616 : Nat)) = ucells (inner x b i (outer a b i) (j + 1))) := Lib.hid (by
            rw [set_ucells, inner, addAt])
          have HO := Lib.hid (((Small.outer a b i).inner x b i j).get (i + j))
          have HBB := Lib.hid (hb.get j)
          generalize (inner x b i (outer a b i) j).getD (i + j) 0 = q at *
          generalize b.getD j 0 = p at *
          have HAD : Hid (IntKind.u64.wrap ((q : Int) + IntKind.u64.wrap ((x : Int) * (p : Int))) = ((q + x * p % 18446744073709551616) % 18446744073709551616 : Nat)) := Lib.hid (by
            rw [IntKind.wrap_u64, IntKind.wrap_u64, Int.natCast_emod, Int.natCast_add, Int.natCast_emod, Int.natCast_mul]
            rfl)
          generalize (q + x * p % 18446744073709551616) % 18446744073709551616 = v at *
          have R2 := Lib.hid r2
          have B2 := Lib.hid b2
          have f0 := frozen_of_rowAt r2 (i + j)
          clear r2 b2 ra rb hlen
          as_aux_lemma =>
            go_wp2_with fail
            refine wp_region_wildL [] 17 (by kernel_rfl) (by kernel_rfl) ?_
            simp only [List.take_succ_cons, List.take_zero]
            iterate 17 (refine wildL_val (by decide) (by kernel_rfl) rfl ?_; intro K hK; go_big_quiet_op; go_big_quiet_on)
            refine wildL_nil ?_
            simp only [List.drop_succ_cons, List.drop_zero]
            rintro ⟨z, hz⟩
            change wpList _ _ _ _ _ z
            have r3 := (rowAt_past hz R2.out)
            have f1 := frozen_of_rowAt r3 (i + j)
            have b3 := below_past B2.out hz (by have := B2.out.size; rw [← HG.out]; exact this)
            have c3 := co ⟨z, hz⟩
            have R3 := Lib.hid r3
            have B3 := Lib.hid b3
            rw [HAD.out]
            clear ca cb co r3 b3 f0
            dsimp only at c3
            go_wp2_with fail
            exact ⟨⟨j + 1, hlj, by go_num, by rw [rowAt_setCell_same R3.out, HSET.out], Below.setCell B3.out (p := ⟨g, i + j, none⟩) (Nat.le_refl _) _⟩, by simp [intOf]; omega⟩
        · obtain rfl : j = m := by omega
          rw [show inner x b i (outer a b i) j = outer a b (i + 1) by rw [outer, HX.out, HM.out]] at r2
          clear hi
          go_wp2_with fail
          exact ⟨⟨i + 1, hlt, by go_num, r2, b2⟩, by simp [intOf]; omega⟩
    · obtain rfl : i = n := by omega
      rw [show outer a b i = carry (outer a b i) 0 from rfl] at r1
      go_wp2_with fail
      go_loopw [8] (fun x wr => ∃ c : Nat, c < N ∧ x = .int .i64 c ∧ rowAt wr g = some (ucells (carry (outer a b i) c)) ∧ Below g w wr) (fun x _ => (N - intOf x).toNat)
      case atStart => exact ⟨0, by have := HNN.out; omega, rfl, r1, b1⟩
      case round =>
        obtain ⟨c, hc, rfl, r2, b2⟩ := hrel
        clear r1 b1
        have hlen : (carry (outer a b i) c).length = N := by rw [carry_len, outer_len, HN.out, HM.out, HNN.out]
        by_cases hlc : c + 1 < N
        · have hlc' : (c : Int) + 1 < N := by omega
          have hc' : (c : Int) < N := by omega
          have co : ∀ y : Past wr, y.w.cell? ⟨g, c, none⟩ = some (.int .u64 (((carry (outer a b i) c).getD c 0 : Nat) : Int)) := fun y => by
            rw [cell_of_rowAt (rowAt_past y.h r2), get_ucells _ _ (by rw [hlen]; exact hc)]
          have cp : ∀ y : Past wr, y.w.cell? ⟨g, c + 1, none⟩ = some (.int .u64 (((carry (outer a b i) c).getD (c + 1) 0 : Nat) : Int)) := fun y => by
            rw [cell_of_rowAt (rowAt_past y.h r2), get_ucells _ _ (by rw [hlen]; exact hlc)]
          have HO := Lib.hid ((Small.carry (Small.outer a b i) c).get c)
          have HSET : Hid (((ucells (carry (outer a b i) c)).setIfInBounds (c + 1) (.int .u64 ((((carry (outer a b i) c).getD (c + 1) 0 + (carry (outer a b i) c).getD c 0 / 1048576) % 18446744073709551616 : Nat) : Int))).setIfInBounds c (.int .u64 (((carry (outer a b i) c).getD c 0 % 1048576 : Nat) : Int)) = ucells (carry (outer a b i) (c + 1))) := Lib.hid (by
            rw [set_ucells, set_ucells, carry, carryAt, addAt])
          generalize (carry (outer a b i) c).getD (c + 1) 0 = q at *
          generalize (carry (outer a b i) c).getD c 0 = p at *
          have HAD : Hid (IntKind.u64.wrap ((q : Int) + (p : Int) / 1048576) = ((q + p / 1048576) % 18446744073709551616 : Nat)) := Lib.hid (by
            rw [IntKind.wrap_u64]
            rfl)
          have hp0 : (0 : Int) ≤ p := by omega
          have HM2 : Hid (bits .and .u64 (p : Int) 1048575 = ((p % 1048576 : Nat) : Int)) := Lib.hid (by
            rw [mask20 hp0 (by have := HO.out; omega)]
            rfl)
          have R2 := Lib.hid r2
          have B2 := Lib.hid b2
          clear r2 b2
          as_aux_lemma =>
            go_wp2_with fail
            refine wp_region_wildL [] 12 (by kernel_rfl) (by kernel_rfl) ?_
            simp only [List.take_succ_cons, List.take_zero]
            iterate 12 (refine wildL_val (by decide) (by kernel_rfl) rfl ?_; intro K hK; go_big_quiet_op; go_big_quiet_on)
            refine wildL_nil ?_
            simp only [List.drop_succ_cons, List.drop_zero]
            rintro ⟨z, hz⟩
            change wpList _ _ _ _ _ z
            have r3 := (rowAt_past hz R2.out)
            have f1 := frozen_of_rowAt r3 (c + 1)
            have f2 := frozen_of_rowAt r3 c
            have b3 := below_past B2.out hz (by have := B2.out.size; rw [← HG.out]; exact this)
            have c3 := co ⟨z, hz⟩
            have c4 := cp ⟨z, hz⟩
            have R3 := Lib.hid r3
            have B3 := Lib.hid b3
            clear co cp r3 b3
            dsimp only at c3 c4
            go_wp2_with fail
            rw [HAD.out, HM2.out]
            exact ⟨⟨c + 1, hlc, by go_num, by rw [rowAt_setCell_same (rowAt_setCell_same R3.out _ _), HSET.out], Below.setCell (Below.setCell B3.out (p := ⟨g, c + 1, none⟩) (Nat.le_refl _) _) (p := ⟨g, c, none⟩) (Nat.le_refl _) _⟩, by simp [intOf]; omega⟩
        · have e : c = i + m := by have := HNN.out; omega
          rw [e, ← HM.out, ← HN.out] at r2
          rw [HN.out] at r2
          have hlen2 : (limbsL a b).length = N := by rw [limbsL_len, HN.out, HM.out, HNN.out]
          have hc' : decide ((c : Int) + 1 < N) = false := decide_eq_false (by omega)
          have r3 : rowAt wr g = some (ucells (limbsL a b)) := by rw [limbsL, HN.out]; exact r2
          go_wp2_with fail
          go_ret
          exact ⟨g, by rw [hlen2]; rfl, Nat.le_of_eq HG.out, r3, by rw [HG.out]; exact b2⟩
end Go.Proofs.YthmhjojabalddaaDoor
