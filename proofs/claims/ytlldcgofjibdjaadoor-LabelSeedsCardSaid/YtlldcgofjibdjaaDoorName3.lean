/- The document's own reading of a rune. Conditions: none. -/
import Derived.Test.YtlldcgofjibdjaaDoorName2
namespace Go.Proofs.YtlldcgofjibdjaaDoor
open Go Go.RowKit

def tailF (s : ByteArray) (p : Nat) : Nat → Nat → Nat → Option Nat
  | 0, _, c => some c
  | f + 1, i, c => if p + i < s.size ∧ 128 ≤ (atB s (p + i)).toNat ∧ (atB s (p + i)).toNat ≤ 191 then tailF s p f (i + 1) (64 * c + (atB s (p + i)).toNat - 128) else none
def finR (least n : Nat) (o : Option Nat) : Nat × Nat :=
  match o with
  | none => (65533, 1)
  | some c => if c < least ∨ 1114111 < c ∨ (55296 ≤ c ∧ c ≤ 57343) then (65533, 1) else (c, n)
theorem get_atB (s : ByteArray) (i : Nat) : s.get! i = atB s i := by
  have := get_drop s 0 i
  rw [Nat.zero_add, List.drop_zero] at this
  exact this
theorem dec_at (s : ByteArray) (p : Nat) : Utf8.decode s p = Lib.decodeN (s.size - p) (atB s p).toNat (atB s (p + 1)).toNat (atB s (p + 2)).toNat (atB s (p + 3)).toNat := by
  rw [Lib.decode_at, get_atB, get_atB, get_atB, get_atB]
theorem next_one (s : ByteArray) (p : Nat) (h : (atB s p).toNat < 128) : Utf8.decode s p = ((atB s p).toNat, 1) := by
  rw [dec_at, Lib.decodeN, if_pos h]
theorem next_bad (s : ByteArray) (p : Nat) (h : (128 ≤ (atB s p).toNat ∧ (atB s p).toNat < 192) ∨ 248 ≤ (atB s p).toNat) : Utf8.decode s p = (65533, 1) := by
  have := (atB s p).toNat_lt
  rw [dec_at]
  unfold Lib.decodeN
  rw [if_neg (by omega), if_neg (by omega), if_neg (by omega), if_neg (by omega)]
theorem next_two (s : ByteArray) (p : Nat) (hp : p < s.size) (h1 : 192 ≤ (atB s p).toNat) (h2 : (atB s p).toNat < 224) : finR 128 2 (tailF s p 1 1 ((atB s p).toNat - 192)) = Utf8.decode s p := by
  have g1 := (atB s (p + 1)).toNat_lt
  rw [dec_at]
  unfold tailF tailF finR Lib.decodeN
  generalize (atB s p).toNat = b0 at *
  generalize (atB s (p + 1)).toNat = b1 at *
  generalize (atB s (p + 2)).toNat = b2 at *
  generalize (atB s (p + 3)).toNat = b3 at *
  by_cases q : p + 1 < s.size ∧ 128 ≤ b1 ∧ b1 ≤ 191
  · rw [if_pos q]
    simp only
    repeat' split
    all_goals first | with_reducible rfl | (exfalso; omega) | (refine Prod.ext ?_ ?_ <;> show _ = (_ : Nat) <;> omega)
  · rw [if_neg q]
    simp only
    repeat' split
    all_goals first | with_reducible rfl | (exfalso; omega)
theorem next_three (s : ByteArray) (p : Nat) (hp : p < s.size) (h1 : 224 ≤ (atB s p).toNat) (h2 : (atB s p).toNat < 240) : finR 2048 3 (tailF s p 2 1 ((atB s p).toNat - 224)) = Utf8.decode s p := by
  have g1 := (atB s (p + 1)).toNat_lt
  have g2 := (atB s (p + 2)).toNat_lt
  rw [dec_at]
  unfold tailF tailF tailF finR Lib.decodeN
  rw [show p + (1 + 1) = p + 2 from rfl]
  generalize (atB s p).toNat = b0 at *
  generalize (atB s (p + 1)).toNat = b1 at *
  generalize (atB s (p + 2)).toNat = b2 at *
  generalize (atB s (p + 3)).toNat = b3 at *
  by_cases q : p + 1 < s.size ∧ 128 ≤ b1 ∧ b1 ≤ 191
  · rw [if_pos q]
    by_cases q2 : p + 2 < s.size ∧ 128 ≤ b2 ∧ b2 ≤ 191
    · rw [if_pos q2]
      simp only
      repeat' split
      all_goals first | with_reducible rfl | (exfalso; omega) | (refine Prod.ext ?_ ?_ <;> show _ = (_ : Nat) <;> omega)
    · rw [if_neg q2]
      simp only
      repeat' split
      all_goals first | with_reducible rfl | (exfalso; omega)
  · rw [if_neg q]
    simp only
    repeat' split
    all_goals first | with_reducible rfl | (exfalso; omega)
theorem next_four (s : ByteArray) (p : Nat) (hp : p < s.size) (h1 : 240 ≤ (atB s p).toNat) (h2 : (atB s p).toNat < 248) : finR 65536 4 (tailF s p 3 1 ((atB s p).toNat - 240)) = Utf8.decode s p := by
  have g1 := (atB s (p + 1)).toNat_lt
  have g2 := (atB s (p + 2)).toNat_lt
  have g3 := (atB s (p + 3)).toNat_lt
  rw [dec_at]
  unfold tailF tailF tailF tailF finR Lib.decodeN
  rw [show p + (1 + 1) = p + 2 from rfl, show p + (1 + 1 + 1) = p + 3 from rfl]
  generalize (atB s p).toNat = b0 at *
  generalize (atB s (p + 1)).toNat = b1 at *
  generalize (atB s (p + 2)).toNat = b2 at *
  generalize (atB s (p + 3)).toNat = b3 at *
  by_cases q : p + 1 < s.size ∧ 128 ≤ b1 ∧ b1 ≤ 191
  · rw [if_pos q]
    by_cases q2 : p + 2 < s.size ∧ 128 ≤ b2 ∧ b2 ≤ 191
    · rw [if_pos q2]
      by_cases q3 : p + 3 < s.size ∧ 128 ≤ b3 ∧ b3 ≤ 191
      · rw [if_pos q3]
        simp only
        repeat' split
        all_goals first | with_reducible rfl | (exfalso; omega) | (refine Prod.ext ?_ ?_ <;> show _ = (_ : Nat) <;> omega)
      · rw [if_neg q3]
        simp only
        repeat' split
        all_goals first | with_reducible rfl | (exfalso; omega)
    · rw [if_neg q2]
      simp only
      repeat' split
      all_goals first | with_reducible rfl | (exfalso; omega)
  · rw [if_neg q]
    simp only
    repeat' split
    all_goals first | with_reducible rfl | (exfalso; omega)

def RuneV (p : Nat) (r : Nat × Nat) : Value := .agg #[.int .i64 r.1, .int .i64 p, .int .i64 r.2]
set_option maxRecDepth 100000 in
set_option maxHeartbeats 1000000 in
theorem next_low (s : ByteArray) (p : Nat) (w : World) (hp : p < s.size) (h : (atB s p).toNat < 128) :
    Calls Tryd.prog 50 #[.string s, .int .i64 p] w fun e w' => e = .returned (RuneV p (Utf8.decode s p)) ∧ Below w.heap.size w w' := by
  rw [next_one s p h]
  have hat := atB_get s p hp
  have h' : ((atB s p).toNat : Int) < 128 := by omega
  have hp' : (p : Int) < s.size := by omega
  generalize atB s p = x at *
  clear h
  go_enter Tryd.func50, Tryd.ntmps50
  go_wp2_with fail
  exact bodyPost_ret (v := .agg #[.int .i64 x.toNat, .int .i64 p, .int .i64 1]) (by simp [results, Tryd.results50, go_sem]) rfl ⟨rfl, by (repeat (first | exact Below.refl _ _ | (refine Below.setCell ?_ (by simp) _) | (refine Below.alloc ?_ (by simp) _)))⟩
set_option maxRecDepth 100000 in
set_option maxHeartbeats 1000000 in
theorem next_none (s : ByteArray) (p : Nat) (w : World) (hp : p < s.size) (h : (128 ≤ (atB s p).toNat ∧ (atB s p).toNat < 192) ∨ 248 ≤ (atB s p).toNat) :
    Calls Tryd.prog 50 #[.string s, .int .i64 p] w fun e w' => e = .returned (RuneV p (Utf8.decode s p)) ∧ Below w.heap.size w w' := by
  rw [next_bad s p h]
  have hat := atB_get s p hp
  have h' : (128 ≤ ((atB s p).toNat : Int) ∧ ((atB s p).toNat : Int) < 192) ∨ (248 ≤ ((atB s p).toNat : Int) ∧ ((atB s p).toNat : Int) < 256) := by have := (atB s p).toNat_lt; omega
  have hp' : (p : Int) < s.size := by omega
  generalize atB s p = x at *
  clear h
  rcases h' with ⟨h1, h2⟩ | ⟨h1, h2⟩
  all_goals
    go_enter Tryd.func50, Tryd.ntmps50
    go_wp2_with fail
    exact bodyPost_ret (v := .agg #[.int .i64 65533, .int .i64 p, .int .i64 1]) (by simp [results, Tryd.results50, go_sem]) rfl ⟨rfl, by (repeat (first | exact Below.refl _ _ | (refine Below.setCell ?_ (by simp) _) | (refine Below.alloc ?_ (by simp) _)))⟩
theorem tail_step {s : ByteArray} {p f i c : Nat} (h : p + i < s.size) (h1 : 128 ≤ (atB s (p + i)).toNat) (h2 : (atB s (p + i)).toNat ≤ 191) : tailF s p (f + 1) i c = tailF s p f (i + 1) (64 * c + (atB s (p + i)).toNat - 128) := if_pos ⟨h, h1, h2⟩
theorem tail_stop {s : ByteArray} {p f i c : Nat} (h : ¬ (p + i < s.size ∧ 128 ≤ (atB s (p + i)).toNat ∧ (atB s (p + i)).toNat ≤ 191)) : tailF s p (f + 1) i c = none := if_neg h
set_option maxRecDepth 100000 in
set_option maxHeartbeats 4000000 in
theorem next_w2 (s : ByteArray) (p : Nat) (w : World) (hp : p < s.size) (hs : s.size ≤ 1000000) (g1 : 192 ≤ (atB s p).toNat) (g2 : (atB s p).toNat < 224) :
    Calls Tryd.prog 50 #[.string s, .int .i64 p] w fun e w' => e = .returned (RuneV p (Utf8.decode s p)) ∧ Below w.heap.size w w' := by
  have HN := Lib.hid (next_two s p hp g1 g2)
  obtain ⟨R, hR⟩ : ∃ R, Utf8.decode s p = R := ⟨_, rfl⟩
  rw [hR] at HN ⊢
  have hat := atB_get s p hp
  have h1' : 192 ≤ ((atB s p).toNat : Int) := by omega
  have h2' : ((atB s p).toNat : Int) < 224 := by omega
  have hp' : (p : Int) < s.size := by omega
  have hs' : (s.size : Int) ≤ 1000000 := by omega
  obtain ⟨c0, hc0⟩ : ∃ c0 : Nat, (atB s p).toNat = c0 + 192 := ⟨(atB s p).toNat - 192, by omega⟩
  have HN2 : Hid (finR 128 2 (tailF s p 1 1 c0) = R) := Lib.hid (by have := HN.out; rw [hc0, Nat.add_sub_cancel] at this; exact this)
  have hc32 : c0 < 32 := by omega
  obtain ⟨x, hx⟩ : ∃ x, atB s p = x := ⟨_, rfl⟩
  rw [hx] at hat hc0 h1' h2'
  have hxc : (x.toNat : Int) - 192 = c0 := by omega
  clear HN hs g1 g2 hR hx hc0
  go_enter Tryd.func50, Tryd.ntmps50
  go_wp2_with fail
  go_loop [8, 10] (fun c i => ∃ k C : Nat, 1 ≤ k ∧ k ≤ 2 ∧ c = .int .i64 C ∧ i = .int .i64 k ∧ C < 32 * 64 ^ (k - 1) ∧ Hid (finR 128 2 (tailF s p (2 - k) k C) = R)) (fun _ i => (2 - intOf i).toNat)
  case atStart => exact ⟨1, c0, by omega, by omega, rfl, rfl, by simpa using hc32, HN2⟩
  case round =>
    obtain ⟨k, C, hk1, hk2, rfl, rfl, hC, HI⟩ := hrel
    clear HN2 hc32 hxc h1' h2' hat
    by_cases hlt : k < 2
    · have hC2 : C < 32 * 64 ^ 2 := by
        refine Nat.lt_of_lt_of_le hC (Nat.mul_le_mul_left _ (Nat.pow_le_pow_right (by omega) (by omega)))
      have hlt' : (k : Int) < 2 := by omega
      obtain ⟨f, hf⟩ : ∃ f, 2 - k = f + 1 := ⟨2 - k - 1, by omega⟩
      have hf2 : f = 2 - (k + 1) := by omega
      have HI2 := HI.out
      rw [hf] at HI2
      clear HI
      by_cases hb : p + k < s.size
      · have hat := atB_get s (p + k) hb
        have hb' : (p : Int) + k < s.size := by omega
        have hpk : ((p : Int) + k).toNat = p + k := by omega
        have hy := (atB s (p + k)).toNat_lt
        obtain ⟨y, hyy⟩ : ∃ y, atB s (p + k) = y := ⟨_, rfl⟩
        rw [hyy] at hat hy
        by_cases q1 : 128 ≤ y.toNat
        · have q1' : ¬ ((y.toNat : Int) < 128) := by omega
          have q1'' : 128 ≤ (y.toNat : Int) := by omega
          by_cases q2 : y.toNat ≤ 191
          · have q2' : (y.toNat : Int) ≤ 191 := by omega
            have HI3 : Hid (finR 128 2 (tailF s p (2 - (k + 1)) (k + 1) (64 * C + y.toNat - 128)) = R) := Lib.hid (by
              rw [tail_step hb (by rw [hyy]; exact q1) (by rw [hyy]; exact q2), hyy, hf2] at HI2
              exact HI2)
            have hC3 : 64 * C + y.toNat - 128 < 32 * 64 ^ (k + 1 - 1) := by
              rw [show k + 1 - 1 = (k - 1) + 1 by omega, Nat.pow_succ]
              have : C + 1 ≤ 32 * 64 ^ (k - 1) := hC
              omega
            have hcast : 64 * (C : Int) + y.toNat - 128 = ((64 * C + y.toNat - 128 : Nat) : Int) := by omega
            have HC := Lib.hid hcast
            have hC4 : (C : Int) < 131072 := by omega
            have HC3 := Lib.hid hC3
            have hC5 : 0 ≤ (C : Int) := by omega
            clear HI2 hC hC2 hC3 hcast hf hf2 hyy
            obtain ⟨CI, hCI⟩ : ∃ z : Int, (C : Int) = z := ⟨_, rfl⟩
            obtain ⟨YI, hYI⟩ : ∃ z : Int, (y.toNat : Int) = z := ⟨_, rfl⟩
            rw [hCI] at hC4 hC5 HC ⊢
            have HCI := Lib.hid hCI
            clear hCI hYI
            go_wp2_with fail
            exact ⟨⟨k + 1, 64 * C + y.toNat - 128, by omega, by omega, congrArg (Value.int IntKind.i64) HC.out, by go_num, HC3.out, HI3⟩, by simp [intOf]; omega⟩
          · have q2' : 191 < (y.toNat : Int) := by omega
            have HE : Hid (R = (65533, 1)) := Lib.hid (by
              rw [tail_stop (by rw [hyy]; omega)] at HI2
              exact HI2.symm)
            clear HI2 hC hC2 hf hf2 hyy q2
            go_wp2_with fail
            exact bodyPost_ret (v := .agg #[.int .i64 65533, .int .i64 p, .int .i64 1]) (by simp [results, Tryd.results50, go_sem]) rfl ⟨by rw [HE.out]; rfl, by (repeat (first | exact Below.refl _ _ | (refine Below.setCell ?_ (by simp) _) | (refine Below.alloc ?_ (by simp) _)))⟩
        · have q1' : (y.toNat : Int) < 128 := by omega
          have HE : Hid (R = (65533, 1)) := Lib.hid (by
            rw [tail_stop (by rw [hyy]; omega)] at HI2
            exact HI2.symm)
          clear HI2 hC hC2 hf hf2 hyy q1
          go_wp2_with fail
          exact bodyPost_ret (v := .agg #[.int .i64 65533, .int .i64 p, .int .i64 1]) (by simp [results, Tryd.results50, go_sem]) rfl ⟨by rw [HE.out]; rfl, by (repeat (first | exact Below.refl _ _ | (refine Below.setCell ?_ (by simp) _) | (refine Below.alloc ?_ (by simp) _)))⟩
      · have hb' : ¬ ((p : Int) + k < s.size) := by omega
        have HE : Hid (R = (65533, 1)) := Lib.hid (by
          rw [tail_stop (by omega)] at HI2
          exact HI2.symm)
        clear HI2 hC hC2 hf hf2 hb
        go_wp2_with fail
        exact bodyPost_ret (v := .agg #[.int .i64 65533, .int .i64 p, .int .i64 1]) (by simp [results, Tryd.results50, go_sem]) rfl ⟨by rw [HE.out]; rfl, by (repeat (first | exact Below.refl _ _ | (refine Below.setCell ?_ (by simp) _) | (refine Below.alloc ?_ (by simp) _)))⟩
    · obtain rfl : k = 2 := by omega
      have HI2 := HI.out
      rw [Nat.sub_self, tailF, finR] at HI2
      have hC5 : 0 ≤ (C : Int) := by omega
      have hC4 : (C : Int) < 8388608 := by
        have h64 : C < 32 * 64 ^ 3 := Nat.lt_of_lt_of_le hC (Nat.mul_le_mul_left _ (Nat.pow_le_pow_right (by omega) (by omega)))
        omega
      clear HI hC
      by_cases q : C < 128 ∨ 1114111 < C ∨ (55296 ≤ C ∧ C ≤ 57343)
      · rw [if_pos q] at HI2
        have HE := Lib.hid HI2.symm
        clear HI2
        rcases (show (C : Int) < 128 ∨ (128 ≤ (C : Int) ∧ 1114111 < (C : Int)) ∨ (128 ≤ (C : Int) ∧ (C : Int) ≤ 1114111 ∧ 55296 ≤ (C : Int) ∧ (C : Int) ≤ 57343) by omega) with q1 | ⟨q1, q2⟩ | ⟨q1, q2, q3, q4⟩
        all_goals try (exfalso; omega)
        all_goals
          clear q
          obtain ⟨CI, hCI⟩ : ∃ z : Int, (C : Int) = z := ⟨_, rfl⟩
          simp only [hCI] at *
          clear hCI
          go_wp2_with fail
          exact bodyPost_ret (v := .agg #[.int .i64 65533, .int .i64 p, .int .i64 1]) (by simp [results, Tryd.results50, go_sem]) rfl ⟨by rw [HE.out]; rfl, by (repeat (first | exact Below.refl _ _ | (refine Below.setCell ?_ (by simp) _) | (refine Below.alloc ?_ (by simp) _)))⟩
      · rw [if_neg q] at HI2
        have HE := Lib.hid HI2.symm
        clear HI2
        rcases (show (128 ≤ (C : Int) ∧ (C : Int) < 55296) ∨ (128 ≤ (C : Int) ∧ 57343 < (C : Int) ∧ (C : Int) ≤ 1114111) by omega) with ⟨q1, q2⟩ | ⟨q1, q2, q3⟩
        all_goals try (exfalso; omega)
        all_goals
          clear q
          obtain ⟨CI, hCI⟩ : ∃ z : Int, (C : Int) = z := ⟨_, rfl⟩
          have HE2 : Hid (RuneV p R = .agg #[.int .i64 CI, .int .i64 p, .int .i64 2]) := Lib.hid (by rw [HE.out, ← hCI]; rfl)
          clear HE
          simp only [hCI] at *
          clear hCI
          go_wp2_with fail
          exact bodyPost_ret (v := .agg #[.int .i64 CI, .int .i64 p, .int .i64 2]) (by simp [results, Tryd.results50, go_sem]) rfl ⟨congrArg Ending.returned HE2.out.symm, by (repeat (first | exact Below.refl _ _ | (refine Below.setCell ?_ (by simp) _) | (refine Below.alloc ?_ (by simp) _)))⟩
set_option maxRecDepth 100000 in
set_option maxHeartbeats 4000000 in
theorem next_w3 (s : ByteArray) (p : Nat) (w : World) (hp : p < s.size) (hs : s.size ≤ 1000000) (g1 : 224 ≤ (atB s p).toNat) (g2 : (atB s p).toNat < 240) :
    Calls Tryd.prog 50 #[.string s, .int .i64 p] w fun e w' => e = .returned (RuneV p (Utf8.decode s p)) ∧ Below w.heap.size w w' := by
  have HN := Lib.hid (next_three s p hp g1 g2)
  obtain ⟨R, hR⟩ : ∃ R, Utf8.decode s p = R := ⟨_, rfl⟩
  rw [hR] at HN ⊢
  have hat := atB_get s p hp
  have h1' : 224 ≤ ((atB s p).toNat : Int) := by omega
  have h2' : ((atB s p).toNat : Int) < 240 := by omega
  have hp' : (p : Int) < s.size := by omega
  have hs' : (s.size : Int) ≤ 1000000 := by omega
  obtain ⟨c0, hc0⟩ : ∃ c0 : Nat, (atB s p).toNat = c0 + 224 := ⟨(atB s p).toNat - 224, by omega⟩
  have HN2 : Hid (finR 2048 3 (tailF s p 2 1 c0) = R) := Lib.hid (by have := HN.out; rw [hc0, Nat.add_sub_cancel] at this; exact this)
  have hc32 : c0 < 32 := by omega
  obtain ⟨x, hx⟩ : ∃ x, atB s p = x := ⟨_, rfl⟩
  rw [hx] at hat hc0 h1' h2'
  have hxc : (x.toNat : Int) - 224 = c0 := by omega
  clear HN hs g1 g2 hR hx hc0
  go_enter Tryd.func50, Tryd.ntmps50
  go_wp2_with fail
  go_loop [8, 10] (fun c i => ∃ k C : Nat, 1 ≤ k ∧ k ≤ 3 ∧ c = .int .i64 C ∧ i = .int .i64 k ∧ C < 32 * 64 ^ (k - 1) ∧ Hid (finR 2048 3 (tailF s p (3 - k) k C) = R)) (fun _ i => (3 - intOf i).toNat)
  case atStart => exact ⟨1, c0, by omega, by omega, rfl, rfl, by simpa using hc32, HN2⟩
  case round =>
    obtain ⟨k, C, hk1, hk2, rfl, rfl, hC, HI⟩ := hrel
    clear HN2 hc32 hxc h1' h2' hat
    by_cases hlt : k < 3
    · have hC2 : C < 32 * 64 ^ 2 := by
        refine Nat.lt_of_lt_of_le hC (Nat.mul_le_mul_left _ (Nat.pow_le_pow_right (by omega) (by omega)))
      have hlt' : (k : Int) < 3 := by omega
      obtain ⟨f, hf⟩ : ∃ f, 3 - k = f + 1 := ⟨3 - k - 1, by omega⟩
      have hf2 : f = 3 - (k + 1) := by omega
      have HI2 := HI.out
      rw [hf] at HI2
      clear HI
      by_cases hb : p + k < s.size
      · have hat := atB_get s (p + k) hb
        have hb' : (p : Int) + k < s.size := by omega
        have hpk : ((p : Int) + k).toNat = p + k := by omega
        have hy := (atB s (p + k)).toNat_lt
        obtain ⟨y, hyy⟩ : ∃ y, atB s (p + k) = y := ⟨_, rfl⟩
        rw [hyy] at hat hy
        by_cases q1 : 128 ≤ y.toNat
        · have q1' : ¬ ((y.toNat : Int) < 128) := by omega
          have q1'' : 128 ≤ (y.toNat : Int) := by omega
          by_cases q2 : y.toNat ≤ 191
          · have q2' : (y.toNat : Int) ≤ 191 := by omega
            have HI3 : Hid (finR 2048 3 (tailF s p (3 - (k + 1)) (k + 1) (64 * C + y.toNat - 128)) = R) := Lib.hid (by
              rw [tail_step hb (by rw [hyy]; exact q1) (by rw [hyy]; exact q2), hyy, hf2] at HI2
              exact HI2)
            have hC3 : 64 * C + y.toNat - 128 < 32 * 64 ^ (k + 1 - 1) := by
              rw [show k + 1 - 1 = (k - 1) + 1 by omega, Nat.pow_succ]
              have : C + 1 ≤ 32 * 64 ^ (k - 1) := hC
              omega
            have hcast : 64 * (C : Int) + y.toNat - 128 = ((64 * C + y.toNat - 128 : Nat) : Int) := by omega
            have HC := Lib.hid hcast
            have hC4 : (C : Int) < 131072 := by omega
            have HC3 := Lib.hid hC3
            have hC5 : 0 ≤ (C : Int) := by omega
            clear HI2 hC hC2 hC3 hcast hf hf2 hyy
            obtain ⟨CI, hCI⟩ : ∃ z : Int, (C : Int) = z := ⟨_, rfl⟩
            obtain ⟨YI, hYI⟩ : ∃ z : Int, (y.toNat : Int) = z := ⟨_, rfl⟩
            rw [hCI] at hC4 hC5 HC ⊢
            have HCI := Lib.hid hCI
            clear hCI hYI
            go_wp2_with fail
            exact ⟨⟨k + 1, 64 * C + y.toNat - 128, by omega, by omega, congrArg (Value.int IntKind.i64) HC.out, by go_num, HC3.out, HI3⟩, by simp [intOf]; omega⟩
          · have q2' : 191 < (y.toNat : Int) := by omega
            have HE : Hid (R = (65533, 1)) := Lib.hid (by
              rw [tail_stop (by rw [hyy]; omega)] at HI2
              exact HI2.symm)
            clear HI2 hC hC2 hf hf2 hyy q2
            go_wp2_with fail
            exact bodyPost_ret (v := .agg #[.int .i64 65533, .int .i64 p, .int .i64 1]) (by simp [results, Tryd.results50, go_sem]) rfl ⟨by rw [HE.out]; rfl, by (repeat (first | exact Below.refl _ _ | (refine Below.setCell ?_ (by simp) _) | (refine Below.alloc ?_ (by simp) _)))⟩
        · have q1' : (y.toNat : Int) < 128 := by omega
          have HE : Hid (R = (65533, 1)) := Lib.hid (by
            rw [tail_stop (by rw [hyy]; omega)] at HI2
            exact HI2.symm)
          clear HI2 hC hC2 hf hf2 hyy q1
          go_wp2_with fail
          exact bodyPost_ret (v := .agg #[.int .i64 65533, .int .i64 p, .int .i64 1]) (by simp [results, Tryd.results50, go_sem]) rfl ⟨by rw [HE.out]; rfl, by (repeat (first | exact Below.refl _ _ | (refine Below.setCell ?_ (by simp) _) | (refine Below.alloc ?_ (by simp) _)))⟩
      · have hb' : ¬ ((p : Int) + k < s.size) := by omega
        have HE : Hid (R = (65533, 1)) := Lib.hid (by
          rw [tail_stop (by omega)] at HI2
          exact HI2.symm)
        clear HI2 hC hC2 hf hf2 hb
        go_wp2_with fail
        exact bodyPost_ret (v := .agg #[.int .i64 65533, .int .i64 p, .int .i64 1]) (by simp [results, Tryd.results50, go_sem]) rfl ⟨by rw [HE.out]; rfl, by (repeat (first | exact Below.refl _ _ | (refine Below.setCell ?_ (by simp) _) | (refine Below.alloc ?_ (by simp) _)))⟩
    · obtain rfl : k = 3 := by omega
      have HI2 := HI.out
      rw [Nat.sub_self, tailF, finR] at HI2
      have hC5 : 0 ≤ (C : Int) := by omega
      have hC4 : (C : Int) < 8388608 := by
        have h64 : C < 32 * 64 ^ 3 := Nat.lt_of_lt_of_le hC (Nat.mul_le_mul_left _ (Nat.pow_le_pow_right (by omega) (by omega)))
        omega
      clear HI hC
      by_cases q : C < 2048 ∨ 1114111 < C ∨ (55296 ≤ C ∧ C ≤ 57343)
      · rw [if_pos q] at HI2
        have HE := Lib.hid HI2.symm
        clear HI2
        rcases (show (C : Int) < 2048 ∨ (2048 ≤ (C : Int) ∧ 1114111 < (C : Int)) ∨ (2048 ≤ (C : Int) ∧ (C : Int) ≤ 1114111 ∧ 55296 ≤ (C : Int) ∧ (C : Int) ≤ 57343) by omega) with q1 | ⟨q1, q2⟩ | ⟨q1, q2, q3, q4⟩
        all_goals try (exfalso; omega)
        all_goals
          clear q
          obtain ⟨CI, hCI⟩ : ∃ z : Int, (C : Int) = z := ⟨_, rfl⟩
          simp only [hCI] at *
          clear hCI
          go_wp2_with fail
          exact bodyPost_ret (v := .agg #[.int .i64 65533, .int .i64 p, .int .i64 1]) (by simp [results, Tryd.results50, go_sem]) rfl ⟨by rw [HE.out]; rfl, by (repeat (first | exact Below.refl _ _ | (refine Below.setCell ?_ (by simp) _) | (refine Below.alloc ?_ (by simp) _)))⟩
      · rw [if_neg q] at HI2
        have HE := Lib.hid HI2.symm
        clear HI2
        rcases (show (2048 ≤ (C : Int) ∧ (C : Int) < 55296) ∨ (2048 ≤ (C : Int) ∧ 57343 < (C : Int) ∧ (C : Int) ≤ 1114111) by omega) with ⟨q1, q2⟩ | ⟨q1, q2, q3⟩
        all_goals try (exfalso; omega)
        all_goals
          clear q
          obtain ⟨CI, hCI⟩ : ∃ z : Int, (C : Int) = z := ⟨_, rfl⟩
          have HE2 : Hid (RuneV p R = .agg #[.int .i64 CI, .int .i64 p, .int .i64 3]) := Lib.hid (by rw [HE.out, ← hCI]; rfl)
          clear HE
          simp only [hCI] at *
          clear hCI
          go_wp2_with fail
          exact bodyPost_ret (v := .agg #[.int .i64 CI, .int .i64 p, .int .i64 3]) (by simp [results, Tryd.results50, go_sem]) rfl ⟨congrArg Ending.returned HE2.out.symm, by (repeat (first | exact Below.refl _ _ | (refine Below.setCell ?_ (by simp) _) | (refine Below.alloc ?_ (by simp) _)))⟩
set_option maxRecDepth 100000 in
set_option maxHeartbeats 4000000 in
theorem next_w4 (s : ByteArray) (p : Nat) (w : World) (hp : p < s.size) (hs : s.size ≤ 1000000) (g1 : 240 ≤ (atB s p).toNat) (g2 : (atB s p).toNat < 248) :
    Calls Tryd.prog 50 #[.string s, .int .i64 p] w fun e w' => e = .returned (RuneV p (Utf8.decode s p)) ∧ Below w.heap.size w w' := by
  have HN := Lib.hid (next_four s p hp g1 g2)
  obtain ⟨R, hR⟩ : ∃ R, Utf8.decode s p = R := ⟨_, rfl⟩
  rw [hR] at HN ⊢
  have hat := atB_get s p hp
  have h1' : 240 ≤ ((atB s p).toNat : Int) := by omega
  have h2' : ((atB s p).toNat : Int) < 248 := by omega
  have hp' : (p : Int) < s.size := by omega
  have hs' : (s.size : Int) ≤ 1000000 := by omega
  obtain ⟨c0, hc0⟩ : ∃ c0 : Nat, (atB s p).toNat = c0 + 240 := ⟨(atB s p).toNat - 240, by omega⟩
  have HN2 : Hid (finR 65536 4 (tailF s p 3 1 c0) = R) := Lib.hid (by have := HN.out; rw [hc0, Nat.add_sub_cancel] at this; exact this)
  have hc32 : c0 < 32 := by omega
  obtain ⟨x, hx⟩ : ∃ x, atB s p = x := ⟨_, rfl⟩
  rw [hx] at hat hc0 h1' h2'
  have hxc : (x.toNat : Int) - 240 = c0 := by omega
  clear HN hs g1 g2 hR hx hc0
  go_enter Tryd.func50, Tryd.ntmps50
  go_wp2_with fail
  go_loop [8, 10] (fun c i => ∃ k C : Nat, 1 ≤ k ∧ k ≤ 4 ∧ c = .int .i64 C ∧ i = .int .i64 k ∧ C < 32 * 64 ^ (k - 1) ∧ Hid (finR 65536 4 (tailF s p (4 - k) k C) = R)) (fun _ i => (4 - intOf i).toNat)
  case atStart => exact ⟨1, c0, by omega, by omega, rfl, rfl, by simpa using hc32, HN2⟩
  case round =>
    obtain ⟨k, C, hk1, hk2, rfl, rfl, hC, HI⟩ := hrel
    clear HN2 hc32 hxc h1' h2' hat
    by_cases hlt : k < 4
    · have hC2 : C < 32 * 64 ^ 2 := by
        refine Nat.lt_of_lt_of_le hC (Nat.mul_le_mul_left _ (Nat.pow_le_pow_right (by omega) (by omega)))
      have hlt' : (k : Int) < 4 := by omega
      obtain ⟨f, hf⟩ : ∃ f, 4 - k = f + 1 := ⟨4 - k - 1, by omega⟩
      have hf2 : f = 4 - (k + 1) := by omega
      have HI2 := HI.out
      rw [hf] at HI2
      clear HI
      by_cases hb : p + k < s.size
      · have hat := atB_get s (p + k) hb
        have hb' : (p : Int) + k < s.size := by omega
        have hpk : ((p : Int) + k).toNat = p + k := by omega
        have hy := (atB s (p + k)).toNat_lt
        obtain ⟨y, hyy⟩ : ∃ y, atB s (p + k) = y := ⟨_, rfl⟩
        rw [hyy] at hat hy
        by_cases q1 : 128 ≤ y.toNat
        · have q1' : ¬ ((y.toNat : Int) < 128) := by omega
          have q1'' : 128 ≤ (y.toNat : Int) := by omega
          by_cases q2 : y.toNat ≤ 191
          · have q2' : (y.toNat : Int) ≤ 191 := by omega
            have HI3 : Hid (finR 65536 4 (tailF s p (4 - (k + 1)) (k + 1) (64 * C + y.toNat - 128)) = R) := Lib.hid (by
              rw [tail_step hb (by rw [hyy]; exact q1) (by rw [hyy]; exact q2), hyy, hf2] at HI2
              exact HI2)
            have hC3 : 64 * C + y.toNat - 128 < 32 * 64 ^ (k + 1 - 1) := by
              rw [show k + 1 - 1 = (k - 1) + 1 by omega, Nat.pow_succ]
              have : C + 1 ≤ 32 * 64 ^ (k - 1) := hC
              omega
            have hcast : 64 * (C : Int) + y.toNat - 128 = ((64 * C + y.toNat - 128 : Nat) : Int) := by omega
            have HC := Lib.hid hcast
            have hC4 : (C : Int) < 131072 := by omega
            have HC3 := Lib.hid hC3
            have hC5 : 0 ≤ (C : Int) := by omega
            clear HI2 hC hC2 hC3 hcast hf hf2 hyy
            obtain ⟨CI, hCI⟩ : ∃ z : Int, (C : Int) = z := ⟨_, rfl⟩
            obtain ⟨YI, hYI⟩ : ∃ z : Int, (y.toNat : Int) = z := ⟨_, rfl⟩
            rw [hCI] at hC4 hC5 HC ⊢
            have HCI := Lib.hid hCI
            clear hCI hYI
            go_wp2_with fail
            exact ⟨⟨k + 1, 64 * C + y.toNat - 128, by omega, by omega, congrArg (Value.int IntKind.i64) HC.out, by go_num, HC3.out, HI3⟩, by simp [intOf]; omega⟩
          · have q2' : 191 < (y.toNat : Int) := by omega
            have HE : Hid (R = (65533, 1)) := Lib.hid (by
              rw [tail_stop (by rw [hyy]; omega)] at HI2
              exact HI2.symm)
            clear HI2 hC hC2 hf hf2 hyy q2
            go_wp2_with fail
            exact bodyPost_ret (v := .agg #[.int .i64 65533, .int .i64 p, .int .i64 1]) (by simp [results, Tryd.results50, go_sem]) rfl ⟨by rw [HE.out]; rfl, by (repeat (first | exact Below.refl _ _ | (refine Below.setCell ?_ (by simp) _) | (refine Below.alloc ?_ (by simp) _)))⟩
        · have q1' : (y.toNat : Int) < 128 := by omega
          have HE : Hid (R = (65533, 1)) := Lib.hid (by
            rw [tail_stop (by rw [hyy]; omega)] at HI2
            exact HI2.symm)
          clear HI2 hC hC2 hf hf2 hyy q1
          go_wp2_with fail
          exact bodyPost_ret (v := .agg #[.int .i64 65533, .int .i64 p, .int .i64 1]) (by simp [results, Tryd.results50, go_sem]) rfl ⟨by rw [HE.out]; rfl, by (repeat (first | exact Below.refl _ _ | (refine Below.setCell ?_ (by simp) _) | (refine Below.alloc ?_ (by simp) _)))⟩
      · have hb' : ¬ ((p : Int) + k < s.size) := by omega
        have HE : Hid (R = (65533, 1)) := Lib.hid (by
          rw [tail_stop (by omega)] at HI2
          exact HI2.symm)
        clear HI2 hC hC2 hf hf2 hb
        go_wp2_with fail
        exact bodyPost_ret (v := .agg #[.int .i64 65533, .int .i64 p, .int .i64 1]) (by simp [results, Tryd.results50, go_sem]) rfl ⟨by rw [HE.out]; rfl, by (repeat (first | exact Below.refl _ _ | (refine Below.setCell ?_ (by simp) _) | (refine Below.alloc ?_ (by simp) _)))⟩
    · obtain rfl : k = 4 := by omega
      have HI2 := HI.out
      rw [Nat.sub_self, tailF, finR] at HI2
      have hC5 : 0 ≤ (C : Int) := by omega
      have hC4 : (C : Int) < 8388608 := by
        have h64 : C < 32 * 64 ^ 3 := Nat.lt_of_lt_of_le hC (Nat.mul_le_mul_left _ (Nat.pow_le_pow_right (by omega) (by omega)))
        omega
      clear HI hC
      by_cases q : C < 65536 ∨ 1114111 < C ∨ (55296 ≤ C ∧ C ≤ 57343)
      · rw [if_pos q] at HI2
        have HE := Lib.hid HI2.symm
        clear HI2
        rcases (show (C : Int) < 65536 ∨ (65536 ≤ (C : Int) ∧ 1114111 < (C : Int)) ∨ (65536 ≤ (C : Int) ∧ (C : Int) ≤ 1114111 ∧ 55296 ≤ (C : Int) ∧ (C : Int) ≤ 57343) by omega) with q1 | ⟨q1, q2⟩ | ⟨q1, q2, q3, q4⟩
        all_goals try (exfalso; omega)
        all_goals
          clear q
          obtain ⟨CI, hCI⟩ : ∃ z : Int, (C : Int) = z := ⟨_, rfl⟩
          simp only [hCI] at *
          clear hCI
          go_wp2_with fail
          exact bodyPost_ret (v := .agg #[.int .i64 65533, .int .i64 p, .int .i64 1]) (by simp [results, Tryd.results50, go_sem]) rfl ⟨by rw [HE.out]; rfl, by (repeat (first | exact Below.refl _ _ | (refine Below.setCell ?_ (by simp) _) | (refine Below.alloc ?_ (by simp) _)))⟩
      · rw [if_neg q] at HI2
        have HE := Lib.hid HI2.symm
        clear HI2
        rcases (show (65536 ≤ (C : Int) ∧ (C : Int) < 55296) ∨ (65536 ≤ (C : Int) ∧ 57343 < (C : Int) ∧ (C : Int) ≤ 1114111) by omega) with ⟨q1, q2⟩ | ⟨q1, q2, q3⟩
        all_goals try (exfalso; omega)
        all_goals
          clear q
          obtain ⟨CI, hCI⟩ : ∃ z : Int, (C : Int) = z := ⟨_, rfl⟩
          have HE2 : Hid (RuneV p R = .agg #[.int .i64 CI, .int .i64 p, .int .i64 4]) := Lib.hid (by rw [HE.out, ← hCI]; rfl)
          clear HE
          simp only [hCI] at *
          clear hCI
          go_wp2_with fail
          exact bodyPost_ret (v := .agg #[.int .i64 CI, .int .i64 p, .int .i64 4]) (by simp [results, Tryd.results50, go_sem]) rfl ⟨congrArg Ending.returned HE2.out.symm, by (repeat (first | exact Below.refl _ _ | (refine Below.setCell ?_ (by simp) _) | (refine Below.alloc ?_ (by simp) _)))⟩
theorem next_any (s : ByteArray) (p : Nat) (w : World) (hp : p < s.size) (hs : s.size ≤ 1000000) :
    Calls Tryd.prog 50 #[.string s, .int .i64 p] w fun e w' => e = .returned (RuneV p (Utf8.decode s p)) ∧ Below w.heap.size w w' := by
  rcases (show (atB s p).toNat < 128 ∨ ((128 ≤ (atB s p).toNat ∧ (atB s p).toNat < 192) ∨ 248 ≤ (atB s p).toNat) ∨ (192 ≤ (atB s p).toNat ∧ (atB s p).toNat < 224) ∨ (224 ≤ (atB s p).toNat ∧ (atB s p).toNat < 240) ∨ (240 ≤ (atB s p).toNat ∧ (atB s p).toNat < 248) by omega) with h | h | ⟨h1, h2⟩ | ⟨h1, h2⟩ | ⟨h1, h2⟩
  · exact next_low s p w hp h
  · exact next_none s p w hp h
  · exact next_w2 s p w hp hs h1 h2
  · exact next_w3 s p w hp hs h1 h2
  · exact next_w4 s p w hp hs h1 h2
end Go.Proofs.YtlldcgofjibdjaaDoor
