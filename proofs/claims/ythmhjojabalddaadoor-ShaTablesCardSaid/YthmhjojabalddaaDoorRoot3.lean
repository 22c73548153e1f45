/- The document's root of a prime. Conditions: none. -/
import Derived.Test.YthmhjojabalddaaDoorRoot2
namespace Go.Proofs.YthmhjojabalddaaDoor
open Go Go.RowKit

/-- A list of numbers in a block of its own. -/
def NumsAt (w : World) (B : Nat) (v : Value) (l : List Nat) : Prop := ∃ g, v = .slice (some ⟨g, 0, none⟩) l.length l.length ∧ B ≤ g ∧ rowAt w g = some (ucells l)
theorem NumsAt.past {w w' : World} {B : Nat} {v : Value} {l : List Nat} (h : NumsAt w B v l) (k : Below w.heap.size w w') : NumsAt w' B v l := by
  obtain ⟨g, h1, h2, h3⟩ := h
  exact ⟨g, h1, h2, rowAt_past k h3⟩
theorem NumsRet.at {w w' : World} {l : List Nat} {e : Ending} {B : Nat} (h : NumsRet w l e w') (hB : B ≤ w.heap.size) : ∃ v, e = .returned v ∧ NumsAt w' B v l ∧ Below w.heap.size w w' := by
  obtain ⟨g, h1, h2, h3, h4⟩ := h
  exact ⟨_, h1, ⟨g, rfl, by omega, h3⟩, h4⟩
theorem limbs_at {v1 v2 : Value} {a b : List Nat} {w : World} {B : Nat} (h1 : NumsAt w B v1 a) (h2 : NumsAt w B v2 b) (ha : Small a) (hb : Small b) (la : a.length ≤ 1000) (lb : b.length ≤ 1000) :
    Calls Tryd.prog 61 #[v1, v2] w (NumsRet w (limbsL a b)) := by
  obtain ⟨g1, rfl, _, r1⟩ := h1
  obtain ⟨g2, rfl, _, r2⟩ := h2
  exact limbs_any g1 g2 _ _ a b w r1 r2 ha hb la lb
theorem most_at {v1 v2 : Value} {a b : List Nat} {w : World} {B : Nat} (h1 : NumsAt w B v1 a) (h2 : NumsAt w B v2 b) (la : a.length ≤ b.length) (lb : b.length ≤ 1000) :
    Calls Tryd.prog 62 #[v1, v2] w fun e w' => e = .returned (.bool (mostL a b b.length)) ∧ w' = w := by
  obtain ⟨g1, rfl, _, r1⟩ := h1
  obtain ⟨g2, rfl, _, r2⟩ := h2
  exact most_any g1 g2 _ _ a b w r1 r2 la lb
theorem wantL_small (p : Nat) (hp : p < 18446744073709551616) : ∀ k, Small (wantL p k)
  | 0 => Small.split p hp
  | _ + 1 => Small.limbs _ _
theorem gotL_small (p : Nat) (hp : p < 18446744073709551616) : ∀ k, Small (gotL p k)
  | 0 => Small.split p hp
  | _ + 1 => Small.limbs _ _
set_option maxRecDepth 100000 in
set_option maxHeartbeats 2000000 in
theorem Root_any (p pow : Nat) (w : World) (hp : p < 400) (h1 : 1 ≤ pow) (h3 : pow ≤ 3) : Calls Tryd.prog 45 #[.int .u64 (p : Int), .int .i64 (pow : Int)] w fun e w' => e = .returned (.int .u32 (rootL p pow : Int)) ∧ Below w.heap.size w w' := by
  have hp64 : p < 18446744073709551616 := by omega
  have h1' : (1 : Int) ≤ pow := by omega
  have h3' : (pow : Int) ≤ 3 := by omega
  go_enter Tryd.func45, Tryd.ntmps45
  go_wp2_with fail
  refine (split_any p w hp64).mono ?_
  intro e w1 hr
  obtain ⟨v, rfl, o1, b1⟩ := hr.at (Nat.le_refl _)
  go_wp2_with fail
  go_loopw [5, 6] (fun v x wr => ∃ k : Nat, k ≤ pow ∧ x = .int .i64 (k : Int) ∧ NumsAt wr w.heap.size v (wantL p k) ∧ Below w.heap.size w wr) (fun _ x _ => (pow - intOf x).toNat)
  case atStart => exact ⟨0, by omega, rfl, o1, b1⟩
  case round =>
    obtain ⟨k, hk, rfl, o2, b2⟩ := hrel
    clear o1 b1
    by_cases hlt : k < pow
    · have hlt' : (k : Int) < pow := by omega
      go_wp2_with fail
      refine (split_any 4294967296 wr (by decide)).mono ?_
      intro e w2 hr
      obtain ⟨v2, rfl, o3, b3⟩ := hr.at b2.size
      have o4 := o2.past b3
      have b4 := below_past b2 b3 b2.size
      clear o2 b2 b3 hr
      go_wp2_with fail
      refine (limbs_at o4 o3 (wantL_small p hp64 k) (Small.split _ (by decide)) (by rw [wantL_len]; omega) (by decide)).mono ?_
      intro e w3 hr
      obtain ⟨v3, rfl, o5, b5⟩ := hr.at b4.size
      have b6 := below_past b4 b5 b4.size
      clear o4 o3 b4 b5 hr
      go_wp2_with fail
      exact ⟨⟨k + 1, hlt, by go_num, o5, b6⟩, by simp [intOf]; omega⟩
    · obtain rfl : k = pow := by omega
      go_wp2_with fail
      go_loopw [7, 8] (fun x b wr => ∃ j : Nat, j ≤ 38 ∧ b = .int .i64 (37 - (j : Int)) ∧ x = .int .u64 (rootX p k j : Int) ∧ NumsAt wr w.heap.size u5 (wantL p k) ∧ Below w.heap.size w wr) (fun _ b _ => (intOf b + 1).toNat)
      case atStart => exact ⟨0, by omega, rfl, rfl, o2, b2⟩
      case round =>
        obtain ⟨j, hj, rfl, rfl, o3, b3⟩ := hrel
        clear o2 b2
        have hle := rootX_le p k j hj
        by_cases hlj : j < 38
        · have hlj' : (j : Int) < 38 := by omega
          obtain ⟨y, hy⟩ : ∃ y, rootX p k j + 2 ^ (37 - j) = y := ⟨_, rfl⟩
          have hy64 : y < 18446744073709551616 := by
            have e : 2 ^ (38 - j) = 2 ^ (37 - j) + 2 ^ (37 - j) := by rw [show 38 - j = (37 - j) + 1 by omega, Nat.pow_succ]; omega
            rw [e] at hle
            generalize 2 ^ (37 - j) = c at *
            omega
          have HY : Hid (IntKind.u64.wrap (((rootX p k j : Nat) : Int) + IntKind.u64.wrap (2 ^ (37 - j))) = (y : Int)) := Lib.hid (by
            have e : (2 : Int) ^ (37 - j) = ((2 ^ (37 - j) : Nat) : Int) := by push_cast; rfl
            rw [e]
            generalize 2 ^ (37 - j) = c at *
            rw [IntKind.wrap_u64, IntKind.wrap_u64]
            omega)
          have HR : Hid (rootX p k (j + 1) = if mostL (gotL y (k - 1)) (wantL p k) (wantL p k).length then y else rootX p k j) := Lib.hid (by rw [rootX, hy])
          generalize rootX p k j = x at *
          go_wp2_with fail
          rw [HY.out]
          clear hle hy HY
          refine (split_any y wr hy64).mono ?_
          intro e w2 hr
          obtain ⟨v2, rfl, o4, b4⟩ := hr.at b3.size
          have o5 := o3.past b4
          have b5 := below_past b3 b4 b3.size
          clear o3 b3 b4 hr
          go_wp2_with fail
          go_loopw [10, 11] (fun g c wr => ∃ i : Nat, i + 1 ≤ k ∧ c = .int .i64 ((i : Int) + 1) ∧ NumsAt wr w.heap.size g (gotL y i) ∧ NumsAt wr w.heap.size u5 (wantL p k) ∧ Below w.heap.size w wr) (fun _ c _ => (k - intOf c).toNat)
          case atStart => exact ⟨0, by omega, rfl, o4, o5, b5⟩
          case round =>
            obtain ⟨i, hi, rfl, o6, o7, b6⟩ := hrel
            clear o4 o5 b5
            by_cases hlt2 : i + 1 < k
            · have hlt2' : (i : Int) + 1 < k := by omega
              go_wp2_with fail
              refine (split_any y wr hy64).mono ?_
              intro e w3 hr
              obtain ⟨v3, rfl, o8, b8⟩ := hr.at b6.size
              have p6 := o6.past b8
              have p7 := o7.past b8
              have b9 := below_past b6 b8 b6.size
              clear o6 o7 b6 b8 hr
              go_wp2_with fail
              refine (limbs_at p6 o8 (gotL_small y hy64 i) (Small.split _ hy64) (by rw [gotL_len]; omega) (by rw [splitL]; show 3 ≤ 1000; decide)).mono ?_
              intro e w4 hr
              obtain ⟨v4, rfl, o9, c1⟩ := hr.at b9.size
              have q7 := p7.past c1
              have c2 := below_past b9 c1 b9.size
              clear p6 p7 o8 b9 c1 hr
              go_wp2_with fail
              exact ⟨⟨i + 1, hlt2, by go_num, o9, q7, c2⟩, by simp [intOf]; omega⟩
            · obtain rfl : k = i + 1 := by omega
              have hq : decide ((i : Int) + 1 < ((i + 1 : Nat) : Int)) = false := decide_eq_false (by omega)
              go_wp2_with fail
              refine (most_at o6 o7 (by rw [gotL_len, wantL_len]; omega) (by rw [wantL_len]; omega)).mono ?_
              rintro e w3 ⟨rfl, rfl⟩
              rw [show i + 1 - 1 = i by omega] at HR
              have hj1 : (37 : Int) - j - 1 = 37 - ((j + 1 : Nat) : Int) := by omega
              have HJ := Lib.hid hj1
              clear hj1
              obtain ⟨B, hB⟩ : ∃ B, mostL (gotL y i) (wantL p (i + 1)) (wantL p (i + 1)).length = B := ⟨_, rfl⟩
              rw [hB] at HR ⊢
              clear hB
              cases B
              · have HR2 : Hid (rootX p (i + 1) (j + 1) = x) := Lib.hid HR.out
                clear HR
                go_wp2_with fail
                go_roundw
                case rel => (repeat apply Exists.intro); exact ⟨⟨j + 1, hlj, congrArg (Value.int .i64) HJ.out, by rw [HR2.out], o7, b6⟩, rfl⟩
                case measure => simp [intOf]; omega
              · have HR2 : Hid (rootX p (i + 1) (j + 1) = y) := Lib.hid HR.out
                clear HR
                go_wp2_with fail
                go_roundw
                case rel => (repeat apply Exists.intro); exact ⟨⟨j + 1, hlj, congrArg (Value.int .i64) HJ.out, by rw [HR2.out], o7, b6⟩, rfl⟩
                case measure => simp [intOf]; omega
        · obtain rfl : j = 38 := by omega
          have hx : rootX p k 38 < 2 ^ 38 := by omega
          have HRL : Hid (((rootX p k 38 : Nat) : Int) % 4294967296 = (rootL p k : Int)) := Lib.hid (by rw [rootL]; rfl)
          generalize rootX p k 38 = x at *
          have hx0 : (0 : Int) ≤ x := by omega
          have hx1 : (x : Int) < 274877906944 := by omega
          have HM : Hid (bits .and .u64 (x : Int) 4294967295 = (x : Int) % 4294967296) := Lib.hid (bits_mask .u64 64 (by decide) wraps_u64 32 (by decide) (x : Int) hx0 (by omega))
          rw [show (37 : Int) - ((38 : Nat) : Int) = -1 from rfl]
          clear hle
          go_wp2_with fail
          go_ret
          have e : bits .and .u64 (x : Int) 4294967295 % 4294967296 = (rootL p k : Int) := by rw [HM.out, Int.emod_emod_of_dvd _ (Int.dvd_refl _), HRL.out]
          exact ⟨congrArg (fun q => Ending.returned (Value.int .u32 q)) e, b3⟩
end Go.Proofs.YthmhjojabalddaaDoor
