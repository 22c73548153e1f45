/- Digits: what they count; what the program reads of them. Conditions: none. -/
import Derived.Test.YthcaolinajfjpaaBits4
import Derived.Lib.IndexLaws
namespace Go.Proofs.Ythcaolinajfjpaa
open Go Go.RowKit

def hexDigits : List UInt8 := [48, 49, 50, 51, 52, 53, 54, 55, 56, 57, 97, 98, 99, 100, 101, 102]
def dig (c : UInt8) : Int := Lib.indexByte hexDigits c
theorem dig_range : ∀ n : Fin 256, -1 ≤ dig (UInt8.ofNat n.val) ∧ dig (UInt8.ofNat n.val) ≤ 15 := by decide +kernel
theorem dig_lo (c : UInt8) : -1 ≤ dig c := u8_all (p := fun c => -1 ≤ dig c) (fun n => (dig_range n).1) c
theorem dig_hi (c : UInt8) : dig c ≤ 15 := u8_all (p := fun c => dig c ≤ 15) (fun n => (dig_range n).2) c

theorem digit_any (c : UInt8) (w : World) : Calls Try.prog 65 #[.int .u8 c.toNat] w fun e w' => e = .returned (.int .i64 (dig c)) ∧ Below w.heap.size w w' := by
  go_enter Try.func65, Try.ntmps65
  go_wp2_with fail
  refine (Try.strings_IndexByte _ _ _).mono ?_
  rintro e w1 ⟨rfl, rfl⟩
  go_wp2_with fail
  go_ret
  exact ⟨by unfold dig hexDigits; simp, Below.refl _ _⟩

theorem dig_first (c : UInt8) (k : Nat) (hk : k ≤ 16) (h : ∀ j : Nat, j < k → hexDigits[j]? ≠ some c) : (k = 16 → dig c = -1) ∧ (hexDigits[k]? = some c → dig c = k) := by
  by_cases hd : dig c = -1
  · exact ⟨fun _ => hd, fun e => absurd e (Lib.indexByte_none hd k)⟩
  · have := dig_lo c
    obtain ⟨o, ho⟩ : ∃ o : Nat, dig c = o := ⟨(dig c).toNat, by omega⟩
    obtain ⟨h1, h2⟩ := Lib.indexByte_some ho
    have ho16 : o < 16 := (List.getElem?_eq_some_iff.1 h1).1
    rcases Nat.lt_trichotomy o k with hl | hl | hl
    · exact absurd h1 (h o hl)
    · subst hl
      exact ⟨fun e => absurd e (by omega), fun _ => ho⟩
    · exact ⟨fun e => absurd e (by omega), fun e => absurd e (h2 k hl)⟩

theorem hex_at (i : Nat) (h : i < 16) (h' : i < (⟨#[48, 49, 50, 51, 52, 53, 54, 55, 56, 57, 97, 98, 99, 100, 101, 102]⟩ : ByteArray).size) :
    hexDigits[i]? = some ((⟨#[48, 49, 50, 51, 52, 53, 54, 55, 56, 57, 97, 98, 99, 100, 101, 102]⟩ : ByteArray)[i]'h') := by
  rw [List.getElem?_eq_getElem (show i < hexDigits.length from h)]
  rfl
theorem eq_of_beq_nat {x c : UInt8} (h : ((x.toNat : Int) == (c.toNat : Int)) = true) : c = x := by
  have h1 : (x.toNat : Int) = c.toNat := by simpa using h
  have h2 : x.toNat = c.toNat := by omega
  exact (UInt8.toNat_inj.1 h2).symm

theorem rdigit_any (c : UInt8) (w : World) : Calls Try.prog 66 #[.int .u8 c.toNat] w fun e w' => e = .returned (.int .i64 (dig c)) ∧ Below w.heap.size w w' := by
  have hF := fun k hk h => dig_first c k hk h
  have HF := Lib.hid hF
  clear hF
  have hx := c.toNat_lt
  go_enter Try.func66, Try.ntmps66
  go_wp2_with fail
  go_loop [3] (fun k => ∃ i : Nat, i ≤ 16 ∧ k = .int .i64 i ∧ Hid (∀ j, j < i → hexDigits[j]? ≠ some c)) (fun k => (16 - intOf k).toNat)
  case atStart => exact ⟨0, by omega, rfl, Lib.hid (by omega)⟩
  case round =>
    obtain ⟨i, hi, rfl, HI⟩ := hrel
    by_cases hlt : i < 16
    · have hlt' : (i : Int) < 16 := by omega
      go_wp2_with fail
      · rename_i h _
        have he := hex_at i hlt hlt
        rw [← eq_of_beq_nat h] at he
        have HE := (HF.out i (by omega) HI.out).2 he
        go_ret
        exact ⟨by rw [HE]; rfl, Below.refl _ _⟩
      · rename_i h
        have he := hex_at i hlt hlt
        refine ⟨⟨i + 1, by omega, by go_num, Lib.hid fun j hj => ?_⟩, by simp [intOf]; omega⟩
        rcases Nat.lt_or_ge j i with hji | hji
        · exact HI.out j hji
        · obtain rfl : j = i := by omega
          rw [he]
          intro e
          rw [Option.some.inj e] at h
          simp at h
    · have HE := Lib.hid ((HF.out i (by omega) HI.out).1 (by omega))
      have hlt' : 16 ≤ (i : Int) := by omega
      go_wp2_with fail
      go_ret
      exact ⟨by rw [HE.out]; rfl, Below.refl _ _⟩

/-- The byte of two digits; how far a text has digits. -/
def at_ (s : ByteArray) (i : Nat) : UInt8 := s.data.toList.getD i 0
def val (s : ByteArray) (j : Nat) : Nat := (16 * dig (at_ s (2 * j)) + dig (at_ s (2 * j + 1))).toNat
def okTo (s : ByteArray) (k : Nat) : Prop := ∀ j, j < k → 0 ≤ dig (at_ s (2 * j)) ∧ 0 ≤ dig (at_ s (2 * j + 1))
def readTo (s : ByteArray) (k : Nat) : Lab := ⟨(List.range 32).map fun j => if j < k then UInt8.ofNat (val s j) else 0, by simp⟩
theorem readTo_zero (s : ByteArray) : readTo s 0 = zeroLab := Lab.ext' fun j hj => by rw [zeroLab_get]; simp [readTo, Lab.get, hj]
theorem readTo_succ (s : ByteArray) (k : Nat) : (readTo s k).set k (UInt8.ofNat (val s k)) = readTo s (k + 1) := Lab.ext' fun j hj => by
  rw [Lab.get_set _ _ _ _ hj]
  have h1 : ∀ q, (readTo s q).get j = if j < q then UInt8.ofNat (val s j) else 0 := fun q => by simp [readTo, Lab.get, hj]
  rw [h1, h1]
  by_cases e : k = j
  · subst e; simp
  · have : (j < k + 1) ↔ (j < k) := by omega
    simp [e, this]
instance (s : ByteArray) (k : Nat) : Decidable (okTo s k) := by unfold okTo; infer_instance
theorem get_at (s : ByteArray) (i : Nat) (h : i < s.size) : s[i] = at_ s i := by
  have h2 : i < s.data.toList.length := by simpa using h
  unfold at_
  rw [List.getD_eq_getElem?_getD, List.getElem?_eq_getElem h2]
  rfl

theorem row_ret_lab2 {fn : Func} {p q : Tmp} (h : fn.results = #[.cell p 23, .tmp q]) {R : Ending → World → Prop} {a : Act} {w : World} {b : Nat} {l : Lab} (hp : a.tmps.getD p undef = .pointer (some ⟨b, 0, none⟩)) (hd : a.defers = [])
    (hr : rowAt w b = some (cellsL l)) (hR : R (.returned (.tuple #[.agg (cellsL l), a.tmps.getD q undef])) w) : bodyPost Try.prog fn R .ret a w :=
  bodyPost_ret (results_row_tmp h a.tmps w b _ _ hp hr Try.underlying23 rfl (by rw [size_cellsL]; kernel_rfl)) hd hR

theorem or_digits (P Q : Nat) (hP : P ≤ 15) (hQ : Q ≤ 15) : P * 16 ||| Q = 16 * P + Q := by
  have : ∀ (p q : Fin 16), p.val * 16 ||| q.val = 16 * p.val + q.val := by decide +kernel
  exact this ⟨P, by omega⟩ ⟨Q, by omega⟩
theorem Read_no (s : ByteArray) (h : s.size ≠ 64) (w : World) : Calls Try.prog 15 #[.string s] w fun e w' => e = .returned (.tuple #[.agg (cellsL zeroLab), .int .i64 4]) ∧ Below w.heap.size w w' := by
  have b0 : Below w.heap.size w ((w.alloc (.cells (cellsL zeroLab) 23)).alloc (.cells (cellsL zeroLab) 23)) := ((Below.refl _ _).alloc (Nat.le_refl _) _).alloc (by simp only [World.size_alloc]; omega) _
  have r0 : rowAt ((w.alloc (.cells (cellsL zeroLab) 23)).alloc (.cells (cellsL zeroLab) 23)) w.heap.size = some (cellsL zeroLab) := (rowAt_alloc_past _ _ _ (by simp only [World.size_alloc]; omega)).trans (rowAt_alloc_at _ _ _ _ rfl)
  have r1 : rowAt ((w.alloc (.cells (cellsL zeroLab) 23)).alloc (.cells (cellsL zeroLab) 23)) (w.heap.size + 1) = some (cellsL zeroLab) := rowAt_alloc_at _ _ _ _ (by simp only [World.size_alloc])
  have hq : ((s.size : Int) != 64) = true := by simp; omega
  clear h
  go_enter Try.func15, Try.ntmps15
  go_wp2_with fail
  exact row_ret_lab2 rfl rfl rfl r0 ⟨rfl, b0⟩

theorem Read_yes (s : ByteArray) (h : s.size = 64) (w : World) : Calls Try.prog 15 #[.string s] w fun e w' => e = .returned (if okTo s 32 then .tuple #[.agg (cellsL (readTo s 32)), .int .i64 0] else .tuple #[.agg (cellsL zeroLab), .int .i64 4]) ∧ Below w.heap.size w w' := by
  have b0 : Below w.heap.size w ((w.alloc (.cells (cellsL zeroLab) 23)).alloc (.cells (cellsL zeroLab) 23)) := ((Below.refl _ _).alloc (Nat.le_refl _) _).alloc (by simp only [World.size_alloc]; omega) _
  have r0 : rowAt ((w.alloc (.cells (cellsL zeroLab) 23)).alloc (.cells (cellsL zeroLab) 23)) w.heap.size = some (cellsL zeroLab) := (rowAt_alloc_past _ _ _ (by simp only [World.size_alloc]; omega)).trans (rowAt_alloc_at _ _ _ _ rfl)
  have r1 : rowAt ((w.alloc (.cells (cellsL zeroLab) 23)).alloc (.cells (cellsL zeroLab) 23)) (w.heap.size + 1) = some (cellsL zeroLab) := rowAt_alloc_at _ _ _ _ (by simp only [World.size_alloc])
  have hq : ((s.size : Int) != 64) = false := by simp; omega
  generalize hR : (if okTo s 32 then Value.tuple #[.agg (cellsL (readTo s 32)), .int .i64 0] else .tuple #[.agg (cellsL zeroLab), .int .i64 4]) = R
  have HR := Lib.hid hR
  clear hR
  go_enter Try.func15, Try.ntmps15
  go_wp2_with fail
  generalize (w.alloc (.cells (cellsL zeroLab) 23)).alloc (.cells (cellsL zeroLab) 23) = W at *
  go_loopw [12] (fun k wr => ∃ i : Nat, i ≤ 32 ∧ k = .int .i64 i ∧ Hid (okTo s i) ∧ rowAt wr w.heap.size = some (cellsL zeroLab) ∧ rowAt wr (w.heap.size + 1) = some (cellsL (readTo s i)) ∧ Below w.heap.size w wr) (fun k _ => (32 - intOf k).toNat)
  case atStart => exact ⟨0, by omega, rfl, Lib.hid (fun j hj => absurd hj (Nat.not_lt_zero j)), r0, by rw [readTo_zero]; exact r1, b0⟩
  case round =>
    obtain ⟨i, hi, rfl, HI, k0, k1, b5⟩ := hrel
    clear r0 r1 b0
    by_cases hlt : i < 32
    · have hlt' : (i : Int) < 32 := by omega
      have g1 := get_at s (2 * i) (by omega)
      have g2 := get_at s (2 * i + 1) (by omega)
      go_upto_region 7 with fail
      have x1 : (0 : Int) ≤ 2 * (i : Int) := by omega
      have x2 : 2 * (i : Int) < 64 := by omega
      have x3 : (0 : Int) ≤ 2 * (i : Int) + 1 := by omega
      have x4 : 2 * (i : Int) + 1 < 64 := by omega
      refine wp_region_past (by kernel_rfl) (by kernel_rfl) ?_
      repeat (go_big_quiet_step ((go_at_call 65; exact Past.call (digit_any _ _))))
      refine wpQuiet_nil ?_
      intro w2 hw2
      obtain ⟨⟨wn, hn⟩, rfl⟩ := hw2
      try dsimp only
      have z0 := rowAt_past hn k0
      have z1 := rowAt_past hn k1
      have b6 := below_past b5 hn b5.size
      obtain ⟨p, hp⟩ : ∃ p, dig (at_ s (2 * i)) = p := ⟨_, rfl⟩
      obtain ⟨q, hq2⟩ : ∃ q, dig (at_ s (2 * i + 1)) = q := ⟨_, rfl⟩
      have hv : val s i = (16 * p + q).toNat := by unfold val; rw [hp, hq2]
      have hok : okTo s (i + 1) ↔ (0 ≤ p ∧ 0 ≤ q) := by
        refine ⟨fun h => by have := h i (by omega); rwa [hp, hq2] at this, fun h j hj => ?_⟩
        by_cases e : j = i
        · subst e; rw [hp, hq2]; exact h
        · exact HI.out j (by omega)
      have p1 := dig_hi (at_ s (2 * i))
      have q1 := dig_hi (at_ s (2 * i + 1))
      rw [hp] at p1
      rw [hq2] at q1
      rw [hp, hq2]
      have HV := Lib.hid hv
      have HO := Lib.hid hok
      have hno : ¬ okTo s (i + 1) → ¬ okTo s 32 := fun h1 h2 => h1 fun j hj => h2 j (by omega)
      have HNO := Lib.hid hno
      clear hp hq2 hv hok hno hn k0 k1 b5
      by_cases hp0 : p < 0
      · have HE : Hid (R = .tuple #[.agg (cellsL zeroLab), .int .i64 4]) := Lib.hid (HR.out.symm.trans (if_neg (HNO.out fun e => by have := (HO.out.1 e).1; omega)))
        go_wp2_with fail
        exact row_ret_lab2 rfl rfl rfl (rowAt_setRow_same z0 _) ⟨by rw [HE.out]; rfl, Below.setRow b6 (Nat.le_refl _) _⟩
      · by_cases hq0 : q < 0
        · have HE : Hid (R = .tuple #[.agg (cellsL zeroLab), .int .i64 4]) := Lib.hid (HR.out.symm.trans (if_neg (HNO.out fun e => by have := (HO.out.1 e).2; omega)))
          go_wp2_with fail
          exact row_ret_lab2 rfl rfl rfl (rowAt_setRow_same z0 _) ⟨by rw [HE.out]; rfl, Below.setRow b6 (Nat.le_refl _) _⟩
        · have HK := Lib.hid (HO.out.2 ⟨by omega, by omega⟩)
          obtain ⟨P, rfl⟩ : ∃ P : Nat, p = P := ⟨p.toNat, by omega⟩
          obtain ⟨Q, rfl⟩ : ∃ Q : Nat, q = Q := ⟨q.toNat, by omega⟩
          have hP : P ≤ 15 := by omega
          have hQ : Q ≤ 15 := by omega
          have hor : bits .or .i64 ((P : Int) * 16) (Q : Int) = ((16 * P + Q : Nat) : Int) := by
            rw [show (P : Int) * 16 = ((P * 16 : Nat) : Int) by omega, i64_or _ _ (by omega) (by omega), or_digits P Q hP hQ]
          have hmod : ((16 * P + Q : Nat) : Int) % 256 = ((16 * P + Q : Nat) : Int) := by omega
          have c1 := (cell_of_rowAt z1 i).trans (get_cellsL _ i hlt)
          have f1 := frozen_of_rowAt z1 i
          have hx0 : 0 ≤ 16 * (P : Int) + Q := by omega
          have hx1 : 16 * (P : Int) + Q < 256 := by omega
          have s1 := rowAt_setCell_same z1 i (.int .u8 (16 * (P : Int) + Q))
          rw [set_cellsL _ i _ hx0 hx1, ← HV.out, readTo_succ] at s1
          have s0 := (rowAt_setCell_other w2 ⟨w.heap.size + 1, i, none⟩ w.heap.size (.int .u8 (16 * (P : Int) + Q)) (by simp)).trans z0
          have b7 := Below.setCell b6 (p := ⟨w.heap.size + 1, i, none⟩) (Nat.le_succ _) (.int .u8 (16 * (P : Int) + Q))
          have hi1 : i + 1 ≤ 32 := hlt
          go_wp2_with fail
          exact ⟨⟨i + 1, hi1, by go_num, HK, s0, s1, b7⟩, by simp [intOf]; omega⟩
    · have hlt' : 32 ≤ (i : Int) := by omega
      obtain rfl : i = 32 := by omega
      have HE : Hid (R = .tuple #[.agg (cellsL (readTo s 32)), .int .i64 0]) := Lib.hid (HR.out.symm.trans (if_pos HI.out))
      go_wp2_with fail
      exact row_ret_lab2 rfl rfl rfl (rowAt_setRow_same k0 _) ⟨by rw [HE.out]; rfl, Below.setRow b5 (Nat.le_refl _) _⟩
theorem rRead_no (s : ByteArray) (h : s.size ≠ 64) (w : World) : Calls Try.prog 16 #[.string s] w fun e w' => e = .returned (.tuple #[.agg (cellsL zeroLab), .bool false]) ∧ Below w.heap.size w w' := by
  have b0 : Below w.heap.size w ((w.alloc (.cells (cellsL zeroLab) 23)).alloc (.cells (cellsL zeroLab) 23)) := ((Below.refl _ _).alloc (Nat.le_refl _) _).alloc (by simp only [World.size_alloc]; omega) _
  have r0 : rowAt ((w.alloc (.cells (cellsL zeroLab) 23)).alloc (.cells (cellsL zeroLab) 23)) w.heap.size = some (cellsL zeroLab) := (rowAt_alloc_past _ _ _ (by simp only [World.size_alloc]; omega)).trans (rowAt_alloc_at _ _ _ _ rfl)
  have r1 : rowAt ((w.alloc (.cells (cellsL zeroLab) 23)).alloc (.cells (cellsL zeroLab) 23)) (w.heap.size + 1) = some (cellsL zeroLab) := rowAt_alloc_at _ _ _ _ (by simp only [World.size_alloc])
  have hq : ((s.size : Int) != 64) = true := by simp; omega
  clear h
  go_enter Try.func16, Try.ntmps16
  go_wp2_with fail
  exact row_ret_lab2 rfl rfl rfl r0 ⟨rfl, b0⟩

theorem rRead_yes (s : ByteArray) (h : s.size = 64) (w : World) : Calls Try.prog 16 #[.string s] w fun e w' => e = .returned (if okTo s 32 then .tuple #[.agg (cellsL (readTo s 32)), .bool true] else .tuple #[.agg (cellsL zeroLab), .bool false]) ∧ Below w.heap.size w w' := by
  have b0 : Below w.heap.size w ((w.alloc (.cells (cellsL zeroLab) 23)).alloc (.cells (cellsL zeroLab) 23)) := ((Below.refl _ _).alloc (Nat.le_refl _) _).alloc (by simp only [World.size_alloc]; omega) _
  have r0 : rowAt ((w.alloc (.cells (cellsL zeroLab) 23)).alloc (.cells (cellsL zeroLab) 23)) w.heap.size = some (cellsL zeroLab) := (rowAt_alloc_past _ _ _ (by simp only [World.size_alloc]; omega)).trans (rowAt_alloc_at _ _ _ _ rfl)
  have r1 : rowAt ((w.alloc (.cells (cellsL zeroLab) 23)).alloc (.cells (cellsL zeroLab) 23)) (w.heap.size + 1) = some (cellsL zeroLab) := rowAt_alloc_at _ _ _ _ (by simp only [World.size_alloc])
  have hq : ((s.size : Int) != 64) = false := by simp; omega
  generalize hR : (if okTo s 32 then Value.tuple #[.agg (cellsL (readTo s 32)), .bool true] else .tuple #[.agg (cellsL zeroLab), .bool false]) = R
  have HR := Lib.hid hR
  clear hR
  go_enter Try.func16, Try.ntmps16
  go_wp2_with fail
  generalize (w.alloc (.cells (cellsL zeroLab) 23)).alloc (.cells (cellsL zeroLab) 23) = W at *
  go_loopw [5] (fun k wr => ∃ i : Nat, i ≤ 32 ∧ k = .int .i64 i ∧ Hid (okTo s i) ∧ rowAt wr w.heap.size = some (cellsL zeroLab) ∧ rowAt wr (w.heap.size + 1) = some (cellsL (readTo s i)) ∧ Below w.heap.size w wr) (fun k _ => (32 - intOf k).toNat)
  case atStart => exact ⟨0, by omega, rfl, Lib.hid (fun j hj => absurd hj (Nat.not_lt_zero j)), r0, by rw [readTo_zero]; exact r1, b0⟩
  case round =>
    obtain ⟨i, hi, rfl, HI, k0, k1, b5⟩ := hrel
    clear r0 r1 b0
    by_cases hlt : i < 32
    · have hlt' : (i : Int) < 32 := by omega
      have g1 := get_at s (2 * i) (by omega)
      have g2 := get_at s (2 * i + 1) (by omega)
      go_upto_region 7 with fail
      have x1 : (0 : Int) ≤ 2 * (i : Int) := by omega
      have x2 : 2 * (i : Int) < 64 := by omega
      have x3 : (0 : Int) ≤ 2 * (i : Int) + 1 := by omega
      have x4 : 2 * (i : Int) + 1 < 64 := by omega
      refine wp_region_past (by kernel_rfl) (by kernel_rfl) ?_
      repeat (go_big_quiet_step ((go_at_call 66; exact Past.call (rdigit_any _ _))))
      refine wpQuiet_nil ?_
      intro w2 hw2
      obtain ⟨⟨wn, hn⟩, rfl⟩ := hw2
      try dsimp only
      have z0 := rowAt_past hn k0
      have z1 := rowAt_past hn k1
      have b6 := below_past b5 hn b5.size
      obtain ⟨p, hp⟩ : ∃ p, dig (at_ s (2 * i)) = p := ⟨_, rfl⟩
      obtain ⟨q, hq2⟩ : ∃ q, dig (at_ s (2 * i + 1)) = q := ⟨_, rfl⟩
      have hv : val s i = (16 * p + q).toNat := by unfold val; rw [hp, hq2]
      have hok : okTo s (i + 1) ↔ (0 ≤ p ∧ 0 ≤ q) := by
        refine ⟨fun h => by have := h i (by omega); rwa [hp, hq2] at this, fun h j hj => ?_⟩
        by_cases e : j = i
        · subst e; rw [hp, hq2]; exact h
        · exact HI.out j (by omega)
      have p1 := dig_hi (at_ s (2 * i))
      have q1 := dig_hi (at_ s (2 * i + 1))
      rw [hp] at p1
      rw [hq2] at q1
      rw [hp, hq2]
      have HV := Lib.hid hv
      have HO := Lib.hid hok
      have hno : ¬ okTo s (i + 1) → ¬ okTo s 32 := fun h1 h2 => h1 fun j hj => h2 j (by omega)
      have HNO := Lib.hid hno
      clear hp hq2 hv hok hno hn k0 k1 b5
      by_cases hp0 : p < 0
      · have HE : Hid (R = .tuple #[.agg (cellsL zeroLab), .bool false]) := Lib.hid (HR.out.symm.trans (if_neg (HNO.out fun e => by have := (HO.out.1 e).1; omega)))
        go_wp2_with fail
        exact row_ret_lab2 rfl rfl rfl (rowAt_setRow_same z0 _) ⟨by rw [HE.out]; rfl, Below.setRow b6 (Nat.le_refl _) _⟩
      · by_cases hq0 : q < 0
        · have HE : Hid (R = .tuple #[.agg (cellsL zeroLab), .bool false]) := Lib.hid (HR.out.symm.trans (if_neg (HNO.out fun e => by have := (HO.out.1 e).2; omega)))
          go_wp2_with fail
          exact row_ret_lab2 rfl rfl rfl (rowAt_setRow_same z0 _) ⟨by rw [HE.out]; rfl, Below.setRow b6 (Nat.le_refl _) _⟩
        · have HK := Lib.hid (HO.out.2 ⟨by omega, by omega⟩)
          obtain ⟨P, rfl⟩ : ∃ P : Nat, p = P := ⟨p.toNat, by omega⟩
          obtain ⟨Q, rfl⟩ : ∃ Q : Nat, q = Q := ⟨q.toNat, by omega⟩
          have hP : P ≤ 15 := by omega
          have hQ : Q ≤ 15 := by omega
          have hor : bits .or .i64 ((P : Int) * 16) (Q : Int) = ((16 * P + Q : Nat) : Int) := by
            rw [show (P : Int) * 16 = ((P * 16 : Nat) : Int) by omega, i64_or _ _ (by omega) (by omega), or_digits P Q hP hQ]
          have hmod : ((16 * P + Q : Nat) : Int) % 256 = ((16 * P + Q : Nat) : Int) := by omega
          have c1 := (cell_of_rowAt z1 i).trans (get_cellsL _ i hlt)
          have f1 := frozen_of_rowAt z1 i
          have hx0 : 0 ≤ 16 * (P : Int) + Q := by omega
          have hx1 : 16 * (P : Int) + Q < 256 := by omega
          have s1 := rowAt_setCell_same z1 i (.int .u8 (16 * (P : Int) + Q))
          rw [set_cellsL _ i _ hx0 hx1, ← HV.out, readTo_succ] at s1
          have s0 := (rowAt_setCell_other w2 ⟨w.heap.size + 1, i, none⟩ w.heap.size (.int .u8 (16 * (P : Int) + Q)) (by simp)).trans z0
          have b7 := Below.setCell b6 (p := ⟨w.heap.size + 1, i, none⟩) (Nat.le_succ _) (.int .u8 (16 * (P : Int) + Q))
          have hi1 : i + 1 ≤ 32 := hlt
          go_wp2_with fail
          exact ⟨⟨i + 1, hi1, by go_num, HK, s0, s1, b7⟩, by simp [intOf]; omega⟩
    · have hlt' : 32 ≤ (i : Int) := by omega
      obtain rfl : i = 32 := by omega
      have HE : Hid (R = .tuple #[.agg (cellsL (readTo s 32)), .bool true]) := Lib.hid (HR.out.symm.trans (if_pos HI.out))
      go_wp2_with fail
      exact row_ret_lab2 rfl rfl rfl (rowAt_setRow_same k0 _) ⟨by rw [HE.out]; rfl, Below.setRow b5 (Nat.le_refl _) _⟩
end Go.Proofs.Ythcaolinajfjpaa
