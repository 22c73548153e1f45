/- For every number and every two texts the law DiskDies returns true. Conditions: none. -/
import Derived.Test.YtmffjnmhbpnkcaaDiskLaw
import Derived.Test.YtmffjnmhbpnkcaaRow
import Derived.ChangeMaps5
namespace Go.Proofs.Ytmffjnmhbpnkcaa.dies
open Go Go.ChangeShapes Go.WideShapes Go.ChangeAt Go.ChangeMaps Go.RowKit Go.Proofs.Ytmffjnmhbpnkcaa
attribute [local go_sem] Oper.semAt_some

def nOld : List UInt8 := [111, 108, 100]
def nNew : List UInt8 := [110, 101, 119]
def fOld (a : List UInt8) : DFile := ⟨nOld, a, a.length⟩
def s0 (f : Int) (a : List UInt8) : DDisk := ⟨10000, f, false, [fOld a]⟩
def s1 (f : Int) (dead : Bool) (a b : List UInt8) : DDisk := ⟨10000, f, dead, [⟨nNew, b, 0⟩, fOld a]⟩
def s2 (f : Int) (dead : Bool) (k : Nat) (a b : List UInt8) : DDisk := ⟨10000, f, dead, [⟨nNew, b, k⟩, fOld a]⟩
theorem lt_no : ¬ nOld < nNew := by decide
theorem ne_no : nOld ≠ nNew := by decide
theorem bad0 (a : List UInt8) (ha : a.length ≤ 100) : aBad ⟨10000, -1, false, []⟩ nOld a = 0 := by
  unfold aBad
  rw [if_neg (by decide), if_neg (fun h => h (by decide)), if_neg (by simp [dUsed]; omega), if_neg (by simp)]
theorem st1 (a : List UInt8) (ha : a.length ≤ 100) : aD ⟨10000, -1, false, []⟩ nOld a = ⟨10000, -1, false, [⟨nOld, a, 0⟩]⟩ ∧ aE ⟨10000, -1, false, []⟩ nOld a = 0 := by
  unfold aD aE
  rw [if_pos (bad0 a ha), if_pos (bad0 a ha)]
  exact ⟨rfl, rfl⟩
theorem st2 (a : List UInt8) : sD ⟨10000, -1, false, [⟨nOld, a, 0⟩]⟩ nOld = s0 (-1) a ∧ sE ⟨10000, -1, false, [⟨nOld, a, 0⟩]⟩ nOld = 0 := ⟨rfl, rfl⟩
theorem st3 (n : Nat) (a : List UInt8) : armD (s0 (-1) a) n = s0 n a := by
  unfold armD s0
  rw [if_neg Bool.false_ne_true]
  congr 1
  omega
theorem bad1 (n : Int) (a b : List UInt8) (ha : a.length ≤ 100) (hb : b.length ≤ 100) : aBad (s0 n a) nNew b = 0 := by
  unfold aBad s0
  rw [if_neg Bool.false_ne_true, if_neg (fun h => h (by decide)), if_neg (by simp [dUsed, fOld]; omega), if_neg (by simp)]
theorem st4 (n : Nat) (a b : List UInt8) (ha : a.length ≤ 100) (hb : b.length ≤ 100) :
    (n = 0 → aD (s0 n a) nNew b = s1 0 true a b ∧ aE (s0 n a) nNew b = 10) ∧ (0 < n → aD (s0 n a) nNew b = s1 (n - 1) false a b ∧ aE (s0 n a) nNew b = 0) := by
  unfold aD aE
  rw [if_pos (bad1 n a b ha hb), if_pos (bad1 n a b ha hb)]
  have hp : aPut (s0 n a) nNew b = s1 n false a b := rfl
  rw [hp]
  constructor
  · rintro rfl
    exact ⟨rfl, rfl⟩
  · intro h
    have h1 : ¬ ((n : Int) = 0) := by omega
    constructor
    · unfold deedD s1
      rw [if_neg h1, if_pos (by show (0 : Int) < n; omega)]
    · exact if_neg h1
theorem st5 (n : Nat) (a b : List UInt8) (h0 : 0 < n) :
    (n = 1 → sD (s1 ((n : Int) - 1) false a b) nNew = s2 0 true 0 a b ∧ sE (s1 ((n : Int) - 1) false a b) nNew = 10) ∧ (1 < n → sD (s1 ((n : Int) - 1) false a b) nNew = s2 ((n : Int) - 2) false b.length a b ∧ sE (s1 ((n : Int) - 1) false a b) nNew = 0) := by
  have hf : ∀ f, findE (s1 f false a b) nNew = 0 := fun f => rfl
  unfold sD sE
  rw [if_pos (hf _), if_pos (hf _)]
  constructor
  · rintro rfl
    exact ⟨rfl, rfl⟩
  · intro h
    have h1 : ¬ ((n : Int) - 1 = 0) := by omega
    have h2 : deedE (s1 ((n : Int) - 1) false a b) = 0 := if_neg h1
    have h3 : deedD (s1 ((n : Int) - 1) false a b) = s1 ((n : Int) - 2) false a b := by
      unfold deedD s1
      rw [if_neg h1, if_pos (by show (0 : Int) < n - 1; omega)]
      congr 1
      show (n : Int) - 1 - 1 = n - 2
      omega
    rw [if_pos h2, h3, h2]
    exact ⟨rfl, rfl⟩
theorem st6 (n : Nat) (a b : List UInt8) (h0 : 1 < n) :
    (n = 2 → reD (s2 ((n : Int) - 2) false b.length a b) nNew nOld = s2 0 true b.length a b ∧ reE (s2 ((n : Int) - 2) false b.length a b) nNew nOld = 10) ∧
    (2 < n → reD (s2 ((n : Int) - 2) false b.length a b) nNew nOld = s0 ((n : Int) - 3) b ∧ reE (s2 ((n : Int) - 2) false b.length a b) nNew nOld = 0) := by
  have hf : ∀ f, findE (s2 f false b.length a b) nNew = 0 := fun f => rfl
  have hg : ¬ ((s2 ((n : Int) - 2) false b.length a b).dead = false ∧ ¬ dGood nOld) := fun h => h.2 (by decide)
  unfold reD reE
  rw [if_neg hg, if_neg hg, if_pos (hf _), if_pos (hf _)]
  constructor
  · rintro rfl
    exact ⟨rfl, rfl⟩
  · intro h
    have h1 : ¬ ((n : Int) - 2 = 0) := by omega
    have h2 : deedE (s2 ((n : Int) - 2) false b.length a b) = 0 := if_neg h1
    have h3 : deedD (s2 ((n : Int) - 2) false b.length a b) = s2 ((n : Int) - 3) false b.length a b := by
      unfold deedD s2
      rw [if_neg h1, if_pos (by show (0 : Int) < n - 2; omega)]
      congr 1
      show (n : Int) - 2 - 1 = n - 3
      omega
    rw [if_pos h2, h3, h2]
    exact ⟨rfl, rfl⟩
theorem crash_old (l : List UInt8) : crashF (fOld l) 0 = fOld l := by
  unfold crashF fOld crashK
  simp
theorem keep_nil (i : Nat) : keepAt [] i = 0 := rfl
/-- What a crash leaves. -/
theorem rd1 (f : Int) (dead : Bool) (k : Nat) (a b : List UInt8) : rdB (crashD (s2 f dead k a b) []) nOld = a ∧ findE (crashD (s2 f dead k a b) []) nOld = 0 := by
  have h : (crashD (s2 f dead k a b) []).files = [crashF ⟨nNew, b, k⟩ 0, fOld a] := by
    show crashTo [] [⟨nNew, b, k⟩, fOld a] 2 = _
    rw [show crashTo [] [⟨nNew, b, k⟩, fOld a] 2 = [crashF ⟨nNew, b, k⟩ 0, crashF (fOld a) 0] from rfl, crash_old]
  have hd : (crashD (s2 f dead k a b) []).dead = false := rfl
  have hf : dFind [crashF ⟨nNew, b, k⟩ 0, fOld a] nOld = some (fOld a) := rfl
  have he : findE (crashD (s2 f dead k a b) []) nOld = 0 := by
    unfold findE
    rw [hd, h, hf]
    rfl
  refine ⟨?_, he⟩
  unfold rdB
  rw [if_pos he, h, dBytes_some hf]
  rfl
theorem rd0 (f : Int) (a : List UInt8) : rdB (crashD (s0 f a) []) nOld = a ∧ findE (crashD (s0 f a) []) nOld = 0 := by
  have h : (crashD (s0 f a) []).files = [fOld a] := by
    show crashTo [] [fOld a] 1 = _
    rw [show crashTo [] [fOld a] 1 = [crashF (fOld a) 0] from rfl, crash_old]
  have hd : (crashD (s0 f a) []).dead = false := rfl
  have hf : dFind [fOld a] nOld = some (fOld a) := by
    unfold dFind
    simp [fOld]
  have he : findE (crashD (s0 f a) []) nOld = 0 := by
    unfold findE
    rw [hd, h, hf]
    rfl
  refine ⟨?_, he⟩
  unfold rdB
  rw [if_pos he, h, dBytes_some hf]
  rfl
def DS (n : Nat) (a b : List UInt8) (i : Nat) : DDisk := if i = 0 then s0 n a else if i = 1 then s1 ((n : Int) - 1) false a b else if i = 2 then s2 ((n : Int) - 2) false b.length a b else s0 ((n : Int) - 3) b
theorem small1 (f : Int) (dead : Bool) (k : Nat) (a b : List UInt8) (ha : a.length ≤ 100) (hb : b.length ≤ 100) : dUsed (s2 f dead k a b).files ≤ 1000 ∧ (s2 f dead k a b).files.length ≤ 2 ∧ (∀ x ∈ (s2 f dead k a b).files, x.name.length ≤ 3) := by
  refine ⟨by show dUsed [⟨nNew, b, k⟩, fOld a] ≤ _; simp [dUsed, fOld]; omega, Nat.le_refl _, fun x hx => ?_⟩
  rcases List.mem_cons.1 hx with rfl | hx
  · exact Nat.le_refl 3
  · obtain rfl : x = fOld a := by simpa using hx
    exact Nat.le_refl 3
theorem small0 (f : Int) (a : List UInt8) (ha : a.length ≤ 100) : dUsed (s0 f a).files ≤ 1000 ∧ (s0 f a).files.length ≤ 2 ∧ (∀ x ∈ (s0 f a).files, x.name.length ≤ 3) := by
  refine ⟨by show dUsed [fOld a] ≤ _; simp [dUsed, fOld]; omega, by show 1 ≤ 2; decide, fun x hx => ?_⟩
  rcases List.mem_cons.1 hx with rfl | hx
  · exact Nat.le_refl 3
  · cases hx
set_option maxRecDepth 100000 in
theorem walk_no (n : Int) (s t : ByteArray) (w : World) (h : n < 0 ∨ 8 < n) : Calls Try.prog 6 #[.int .i64 n, .string s, .string t] w fun e w' => e = .returned (.bool true) ∧ Below w.heap.size w w' := by
  have HA := Lib.hid (awake5 w)
  by_cases h1 : n < 0
  · have h1' : decide (n < 0) = true := decide_eq_true h1
    clear h h1
    go_enter Try.func6, Try.ntmps6
    go_wp2_with fail
    refine HA.out.mono ?_
    rintro e w1 ⟨rfl, b1⟩
    go_wp2_with fail
    go_ret
    exact ⟨rfl, b1⟩
  · have h1' : decide (n < 0) = false := decide_eq_false h1
    have h2' : decide (8 < n) = true := decide_eq_true (by omega)
    clear h h1
    go_enter Try.func6, Try.ntmps6
    go_wp2_with fail
    refine HA.out.mono ?_
    rintro e w1 ⟨rfl, b1⟩
    go_wp2_with fail
    go_ret
    exact ⟨rfl, b1⟩
theorem max10k : max (10000 : Int) 0 = 10000 := by decide
set_option maxRecDepth 100000 in
set_option maxHeartbeats 2000000 in
theorem walk_yes (n : Nat) (s t : ByteArray) (w : World) (h : n ≤ 8) : Calls Try.prog 6 #[.int .i64 n, .string s, .string t] w fun e w' => e = .returned (.bool true) ∧ Below w.heap.size w w' := by
  have h1' : decide ((n : Int) < 0) = false := decide_eq_false (by omega)
  have h2' : decide ((8 : Int) < n) = false := decide_eq_false (by omega)
  have hni : (n : Int) ≤ 8 := by omega
  have hn0 : (0 : Int) ≤ n := by omega
  have HC1 := Lib.hid (l3Cut_any s 100 w (by decide))
  have HC2 := Lib.hid (l3Cut_any t 100 w (by decide))
  rw [show ((100 : Nat) : Int) = 100 from rfl] at HC1 HC2
  obtain ⟨a, ha⟩ : ∃ a, s.data.toList.take 100 = a := ⟨_, rfl⟩
  obtain ⟨b, hb⟩ : ∃ b, t.data.toList.take 100 = b := ⟨_, rfl⟩
  have hal : a.length ≤ 100 := by rw [← ha]; exact List.length_take_le _ _
  have hbl : b.length ≤ 100 := by rw [← hb]; exact List.length_take_le _ _
  rw [ha] at HC1
  rw [hb] at HC2
  have H0 := Lib.hid (dNew_any 10000 w ⟨by decide, by decide⟩)
  rw [max10k] at H0
  have HAL := Lib.hid hal
  have HBL := Lib.hid hbl
  have HAW : ∀ w, Hid (Calls Try.prog 10 #[] w fun e w' => e = .returned (.bool true) ∧ Below w.heap.size w w') := fun w => Lib.hid (awake5 w)
  have HA1 : ∀ B q w, DiskAt B q ⟨10000, -1, false, []⟩ w → Hid (Calls Try.prog 20 #[.pointer (some ⟨q, 0, none⟩), .string ⟨#[111, 108, 100]⟩, .string (stx a)] w fun e w' => e = .returned (.int .i64 0) ∧ DiskAt B q ⟨10000, -1, false, [⟨nOld, a, 0⟩]⟩ w' ∧ Stir B w w') := fun B q w h => Lib.hid (by
    have := dAppend_any B q _ ⟨#[111, 108, 100]⟩ (stx a) w h (by decide) (by rw [stx_size]; show dUsed [] + _ ≤ _; simp [dUsed]; omega)
    have e := st1 a hal
    rw [show (⟨#[111, 108, 100]⟩ : ByteArray).data.toList = nOld from rfl, show (stx a).data.toList = a from rfl, e.1, e.2] at this
    exact this)
  have HA2 : ∀ B q w, DiskAt B q ⟨10000, -1, false, [⟨nOld, a, 0⟩]⟩ w → Hid (Calls Try.prog 21 #[.pointer (some ⟨q, 0, none⟩), .string ⟨#[111, 108, 100]⟩] w fun e w' => e = .returned (.int .i64 0) ∧ DiskAt B q (s0 (-1) a) w' ∧ Stir B w w') := fun B q w h => Lib.hid (by
    have := dSync_any B q _ ⟨#[111, 108, 100]⟩ w h (by decide)
    have e := st2 a
    rw [show (⟨#[111, 108, 100]⟩ : ByteArray).data.toList = nOld from rfl, e.1, e.2] at this
    exact this)
  have HA3 : ∀ B q w, DiskAt B q (s0 (-1) a) w → Hid (Calls Try.prog 22 #[.pointer (some ⟨q, 0, none⟩), .int .i64 n] w fun e w' => e = .returned (.tuple #[]) ∧ DiskAt B q (s0 n a) w' ∧ Stir B w w') := fun B q w h => Lib.hid (by
    have := dArm_any B q _ n w h ⟨by omega, by omega⟩
    rw [st3 n a] at this
    exact this)
  have HA4 : ∀ B q w, DiskAt B q (s0 n a) w → Hid (Calls Try.prog 20 #[.pointer (some ⟨q, 0, none⟩), .string ⟨#[110, 101, 119]⟩, .string (stx b)] w fun e w' => e = .returned (.int .i64 (aE (s0 n a) nNew b)) ∧ DiskAt B q (aD (s0 n a) nNew b) w' ∧ Stir B w w') := fun B q w h => Lib.hid (
    dAppend_any B q _ ⟨#[110, 101, 119]⟩ (stx b) w h (by decide) (by rw [stx_size]; show dUsed [fOld a] + _ ≤ _; simp [dUsed, fOld]; omega))
  have HA5 : ∀ B q d w, DiskAt B q d w → Hid (Calls Try.prog 21 #[.pointer (some ⟨q, 0, none⟩), .string ⟨#[110, 101, 119]⟩] w fun e w' => e = .returned (.int .i64 (sE d nNew)) ∧ DiskAt B q (sD d nNew) w' ∧ Stir B w w') := fun B q d w h => Lib.hid (
    dSync_any B q _ ⟨#[110, 101, 119]⟩ w h (by decide))
  have HA6 : ∀ B q f w, DiskAt B q (s2 f false b.length a b) w → Hid (Calls Try.prog 26 #[.pointer (some ⟨q, 0, none⟩), .string ⟨#[110, 101, 119]⟩, .string ⟨#[111, 108, 100]⟩] w fun e w' => e = .returned (.int .i64 (reE (s2 f false b.length a b) nNew nOld)) ∧ DiskAt B q (reD (s2 f false b.length a b) nNew nOld) w' ∧ Stir B w w') := fun B q f w h => Lib.hid (
    dRename_any B q _ ⟨#[110, 101, 119]⟩ ⟨#[111, 108, 100]⟩ w h (by decide) (by decide) (by show dUsed [⟨nNew, b, b.length⟩, fOld a] ≤ _; simp [dUsed, fOld]; omega) (by show 2 ≤ _; decide))
  have HDE : ∀ B q d w, DiskAt B q d w → Hid (Calls Try.prog 14 #[.pointer (some ⟨q, 0, none⟩)] w fun e w' => e = .returned (.bool d.dead) ∧ w' = w) := fun B q d w h => Lib.hid (dDead_any B q d w h)
  have HCR : ∀ B q d, dUsed d.files ≤ 1000 ∧ d.files.length ≤ 2 ∧ (∀ f ∈ d.files, f.name.length ≤ 3) → ∀ w, DiskAt B q d w → Hid (Calls Try.prog 23 #[.pointer (some ⟨q, 0, none⟩), .slice none 0 0] w fun e w' => e = .returned (.tuple #[]) ∧ DiskAt B q (crashD d []) w' ∧ Stir B w w') := fun B q d hd w h => Lib.hid (
    dCrash_any B q d _ [] w h (IntsAt.nil B w) (by decide) (by omega) (by omega) (fun f hf => by have := hd.2.2 f hf; omega))
  have HRD : ∀ B q d x, rdB d nOld = x → findE d nOld = 0 → ∀ w, DiskAt B q d w → Hid (Calls Try.prog 12 #[.pointer (some ⟨q, 0, none⟩), .string ⟨#[111, 108, 100]⟩] w fun e w' => e = .returned (.tuple #[.string (stx x), .int .i64 0]) ∧ w' = w) := fun B q d x h1 h2 w h => Lib.hid (by
    have := dRead_any B q d ⟨#[111, 108, 100]⟩ w h (by decide)
    rw [show (⟨#[111, 108, 100]⟩ : ByteArray).data.toList = nOld from rfl, h1, h2] at this
    exact this)
  clear h ha hb hal hbl
  go_enter Try.func6, Try.ntmps6
  go_wp2_with fail
  refine HC1.out.mono ?_
  rintro e w1 ⟨rfl, rfl⟩
  go_wp2_with fail
  refine HC2.out.mono ?_
  rintro e w2 ⟨rfl, rfl⟩
  go_wp2_with fail
  refine H0.out.mono ?_
  rintro e w3 ⟨q, rfl, hq, d0, b0⟩
  obtain ⟨B, hB⟩ : ∃ B, w2.heap.size = B := ⟨_, rfl⟩
  have HB := Lib.hid hB
  rw [hB] at hq d0 b0
  clear HC1 HC2 H0 hB
  go_wp2_with fail
  refine (HA1 _ _ _ d0).out.mono ?_
  rintro e w4 ⟨rfl, d1, x1⟩
  have b1 := b0.trans x1.below
  clear HA1 d0 x1 b0
  go_wp2_with fail
  refine (HA2 _ _ _ d1).out.mono ?_
  rintro e w5 ⟨rfl, d2, x2⟩
  have b2 := b1.trans x2.below
  clear HA2 d1 x2 b1
  go_wp2_with fail
  refine (HA3 _ _ _ d2).out.mono ?_
  rintro e w6 ⟨rfl, d3, x3⟩
  have b3 := b2.trans x3.below
  clear HA3 d2 x3 b2
  go_wp2_with fail
  go_loopw [8, 9] (fun x y wr => ∃ i : Nat, i ≤ 3 ∧ i ≤ n ∧ x = .int .i64 i ∧ y = .int .i64 i ∧ DiskAt B q (DS n a b i) wr ∧ Below B w2 wr) (fun _ y _ => (3 - intOf y).toNat)
  case atStart => exact ⟨0, Nat.zero_le _, Nat.zero_le _, rfl, rfl, d3, b3⟩
  case round =>
    obtain ⟨i, hi3, hin, rfl, rfl, D3, B3⟩ := hrel
    clear d3 b3
    rcases (by omega : i = 0 ∨ i = 1 ∨ i = 2 ∨ i = 3) with rfl | rfl | rfl | rfl
    · have D3' : DiskAt B q (s0 n a) wr := D3
      clear D3
      have HX := Lib.hid (HA4 _ _ _ D3').out
      rcases Nat.eq_zero_or_pos n with hn | hn
      · have e := (st4 n a b HAL.out HBL.out).1 hn
        rw [e.1, e.2] at HX
        have hnk : (n : Int) = 0 := by omega
        have hmin : min (0 : Int) 3 = 0 := by decide
        rw [show ((0 : Nat) : Int) = 0 from rfl, hnk]
        clear e HA4 HA5 HA6 D3' hn hin hi3 hni hn0 h1' h2'
        go_wp2_with fail
        refine HX.out.mono ?_
        rintro e w7 ⟨rfl, d4, x4⟩
        have D4 := Lib.hid d4
        have B4 := Lib.hid (B3.trans x4.below)
        clear HX d4 x4 B3
        go_wp2_with fail
        refine (HDE _ _ _ _ D4.out).out.mono ?_
        rintro e wd ⟨rfl, rfl⟩
        go_wp2_with fail
        refine (HCR _ _ (s1 0 true a b) (small1 0 true 0 a b HAL.out HBL.out) _ D4.out).out.mono ?_
        rintro e wc ⟨rfl, dc, sc⟩
        have bc := B4.out.trans sc.below
        have hlow := dc.low
        clear D4 B4 HCR
        go_wp2_with fail
        refine (HRD _ _ _ a (rd1 0 true 0 a b).1 (rd1 0 true 0 a b).2 _ dc).out.mono ?_
        rintro e wr2 ⟨rfl, rfl⟩
        clear HRD dc
        go_wp2_with fail
        refine (HAW _).out.mono ?_
        rintro e w9 ⟨rfl, b9⟩
        have bz := below_past bc b9 (by omega)
        clear bc b9 HAW
        go_wp2_with fail
        go_ret
        exact ⟨rfl, by rw [HB.out]; exact bz⟩
      · have e := (st4 n a b HAL.out HBL.out).2 hn
        rw [e.1, e.2] at HX
        rw [show ((0 : Nat) : Int) = 0 from rfl]
        clear e HA4 HA5 HA6 D3'
        go_wp2_with fail
        refine HX.out.mono ?_
        rintro e w7 ⟨rfl, d4, x4⟩
        have B4 := Lib.hid (B3.trans x4.below)
        have D4 : Hid (DiskAt B q (DS n a b 1) w7) := Lib.hid d4
        clear HX d4 x4 B3
        go_wp2_with fail
        exact ⟨⟨1, by decide, hn, rfl, rfl, D4.out, B4.out⟩, by simp [intOf]⟩
    · have D3' : DiskAt B q (s1 ((n : Int) - 1) false a b) wr := D3
      clear D3
      have HX := Lib.hid (HA5 _ _ _ _ D3').out
      rcases (by omega : n = 1 ∨ 1 < n) with hn | hn
      · have e := (st5 n a b hin).1 hn
        rw [e.1, e.2] at HX
        have hnk : (n : Int) = 1 := by omega
        have hmin : min (1 : Int) 3 = 1 := by decide
        rw [show ((1 : Nat) : Int) = 1 from rfl, hnk]
        clear e HA4 HA5 HA6 D3' hn hin hi3 hni hn0 h1' h2'
        go_wp2_with fail
        refine HX.out.mono ?_
        rintro e w7 ⟨rfl, d4, x4⟩
        have D4 := Lib.hid d4
        have B4 := Lib.hid (B3.trans x4.below)
        clear HX d4 x4 B3
        go_wp2_with fail
        refine (HDE _ _ _ _ D4.out).out.mono ?_
        rintro e wd ⟨rfl, rfl⟩
        go_wp2_with fail
        refine (HCR _ _ (s2 0 true 0 a b) (small1 0 true 0 a b HAL.out HBL.out) _ D4.out).out.mono ?_
        rintro e wc ⟨rfl, dc, sc⟩
        have bc := B4.out.trans sc.below
        have hlow := dc.low
        clear D4 B4 HCR
        go_wp2_with fail
        refine (HRD _ _ _ a (rd1 0 true 0 a b).1 (rd1 0 true 0 a b).2 _ dc).out.mono ?_
        rintro e wr2 ⟨rfl, rfl⟩
        clear HRD dc
        go_wp2_with fail
        refine (HAW _).out.mono ?_
        rintro e w9 ⟨rfl, b9⟩
        have bz := below_past bc b9 (by omega)
        clear bc b9 HAW
        go_wp2_with fail
        go_ret
        exact ⟨rfl, by rw [HB.out]; exact bz⟩
      · have e := (st5 n a b hin).2 hn
        rw [e.1, e.2] at HX
        rw [show ((1 : Nat) : Int) = 1 from rfl]
        clear e HA4 HA5 HA6 D3'
        go_wp2_with fail
        refine HX.out.mono ?_
        rintro e w7 ⟨rfl, d4, x4⟩
        have B4 := Lib.hid (B3.trans x4.below)
        have D4 : Hid (DiskAt B q (DS n a b 2) w7) := Lib.hid d4
        clear HX d4 x4 B3
        go_wp2_with fail
        exact ⟨⟨2, by decide, hn, rfl, rfl, D4.out, B4.out⟩, by simp [intOf]⟩
    · have D3' : DiskAt B q (s2 ((n : Int) - 2) false b.length a b) wr := D3
      clear D3
      have HX := Lib.hid (HA6 _ _ _ _ D3').out
      rcases (by omega : n = 2 ∨ 2 < n) with hn | hn
      · have e := (st6 n a b hin).1 hn
        rw [e.1, e.2] at HX
        have hnk : (n : Int) = 2 := by omega
        have hmin : min (2 : Int) 3 = 2 := by decide
        rw [show ((2 : Nat) : Int) = 2 from rfl, hnk]
        clear e HA4 HA5 HA6 D3' hn hin hi3 hni hn0 h1' h2'
        go_wp2_with fail
        refine HX.out.mono ?_
        rintro e w7 ⟨rfl, d4, x4⟩
        have D4 := Lib.hid d4
        have B4 := Lib.hid (B3.trans x4.below)
        clear HX d4 x4 B3
        go_wp2_with fail
        refine (HDE _ _ _ _ D4.out).out.mono ?_
        rintro e wd ⟨rfl, rfl⟩
        go_wp2_with fail
        refine (HCR _ _ (s2 0 true b.length a b) (small1 0 true b.length a b HAL.out HBL.out) _ D4.out).out.mono ?_
        rintro e wc ⟨rfl, dc, sc⟩
        have bc := B4.out.trans sc.below
        have hlow := dc.low
        clear D4 B4 HCR
        go_wp2_with fail
        refine (HRD _ _ _ a (rd1 0 true b.length a b).1 (rd1 0 true b.length a b).2 _ dc).out.mono ?_
        rintro e wr2 ⟨rfl, rfl⟩
        clear HRD dc
        go_wp2_with fail
        refine (HAW _).out.mono ?_
        rintro e w9 ⟨rfl, b9⟩
        have bz := below_past bc b9 (by omega)
        clear bc b9 HAW
        go_wp2_with fail
        go_ret
        exact ⟨rfl, by rw [HB.out]; exact bz⟩
      · have e := (st6 n a b hin).2 hn
        rw [e.1, e.2] at HX
        rw [show ((2 : Nat) : Int) = 2 from rfl]
        clear e HA4 HA5 HA6 D3'
        go_wp2_with fail
        refine HX.out.mono ?_
        rintro e w7 ⟨rfl, d4, x4⟩
        have B4 := Lib.hid (B3.trans x4.below)
        have D4 : Hid (DiskAt B q (DS n a b 3) w7) := Lib.hid d4
        clear HX d4 x4 B3
        go_wp2_with fail
        exact ⟨⟨3, by decide, hn, rfl, rfl, D4.out, B4.out⟩, by simp [intOf]⟩
    · have D4 : Hid (DiskAt B q (s0 ((n : Int) - 3) b) wr) := Lib.hid D3
      have B4 := Lib.hid B3
      have hn3 : (3 : Int) ≤ n := by omega
      have hmin : min (n : Int) 3 = 3 := by omega
      have hq1 : decide ((n : Int) < 3) = false := decide_eq_false (by omega)
      have hq2 : decide (n < 3) = false := decide_eq_false (by omega)
      rw [show ((3 : Nat) : Int) = 3 from rfl]
      clear D3 B3 HA4 HA5 HA6 hin hi3
      go_wp2_with fail
      refine (HDE _ _ _ _ D4.out).out.mono ?_
      rintro e wd ⟨rfl, rfl⟩
      go_wp2_with fail
      refine (HCR _ _ (s0 ((n : Int) - 3) b) (small0 ((n : Int) - 3) b HBL.out) _ D4.out).out.mono ?_
      rintro e wc ⟨rfl, dc, sc⟩
      have bc := B4.out.trans sc.below
      have hlow := dc.low
      clear D4 B4 HCR
      go_wp2_with fail
      refine (HRD _ _ _ b (rd0 ((n : Int) - 3) b).1 (rd0 ((n : Int) - 3) b).2 _ dc).out.mono ?_
      rintro e wr2 ⟨rfl, rfl⟩
      clear HRD dc
      go_wp2_with fail
      refine (HAW _).out.mono ?_
      rintro e w9 ⟨rfl, b9⟩
      have bz := below_past bc b9 (by omega)
      clear bc b9 HAW
      go_wp2_with fail
      go_ret
      exact ⟨rfl, by rw [HB.out]; exact bz⟩
theorem walk (n : Int) (s t : ByteArray) (w : World) : Calls Try.prog 6 #[.int .i64 n, .string s, .string t] w fun e w' => e = .returned (.bool true) ∧ Below w.heap.size w w' := by
  by_cases h : n < 0 ∨ 8 < n
  · exact walk_no n s t w h
  · obtain ⟨q, rfl⟩ : ∃ q : Nat, n = q := ⟨n.toNat, by omega⟩
    exact walk_yes q s t w (by omega)
set_option maxRecDepth 100000 in
theorem lifted (os : Os) (started : os.Started) (H : Type) (enc : TypeId × Value → H) :
    ReturnsInHanded {} Try.checked os 6 .any (Rows.diskDiesSpec.pre6 enc Try.prog Try.f6 Rows.diskDiesRow.domain false) (Rows.diskDiesSpec.post enc Try.prog Try.f6 false true false false) := by
  refine returnsInHanded_of_change (C := Try.checked) own started (by kernel_rfl) Try.func6
    (ChangeSpec.witness6 (enc := enc) (C := Try.checked) false ⟨#[], #[.int .i64 0, .string ⟨#[]⟩, .string ⟨#[]⟩], []⟩ 8 (by kernel_rfl) (by kernel_rfl) (by kernel_rfl) (by kernel_rfl)) ?_
  intro W base args ds gs before hval0 hW _ _
  have hval : ∀ (j : Nat) t v, Try.f6.params[j]? = some t → args[j]? = some v → Value.okWide Try.prog W .any base t v := hval0
  clear hval0
  have hW' := hW
  obtain ⟨p, q, hA0, hV, rfl, hfz, hnd⟩ := hW
  have hA : DataW.TrodAll enc Try.prog W 0 (fun _ => true) true Try.f6.params.toList args.toList ds p := hA0
  rw [Try.params6] at hA hval
  clear hA0 hfz hnd hV
  have hr : Readable Try.f6.params.toList := by
    rw [Try.params6]
    exact readable_of_all (by kernel_rfl)
  have fin : ∀ W', Below W.heap.size W W' → Rows.diskDiesSpec.post enc Try.prog Try.f6 false true false false W args (.bool true) W' := fun W' hb =>
    law_post rfl hW' hr (fun l hl => by
      rw [Try.params6] at hl
      match l, hl with
      | [d1, d2, d3], _ => rfl) (by kernel_rfl) hb
  clear hW' hr
  obtain ⟨v0, v1, v2, d0, d1, d2, p0, p1, p2, rfl, rfl, rfl, h0, h1, h2⟩ := trodAll_three hA; obtain ⟨n, rfl, _, _, w0⟩ := open_int Try.underlying3 (hval 0 3 v0 rfl rfl) h0; obtain ⟨s, rfl, _, _, w1⟩ := open_string Try.underlying9 (hval 1 9 v1 rfl rfl) h1; obtain ⟨t, rfl, _, _, w2⟩ := open_string Try.underlying9 (hval 2 9 v2 rfl rfl) h2
  exact (walk n s t W).mono fun e W' ⟨he, hb⟩ => ⟨_, he, fin W' hb⟩
theorem proved : Rows.DiskDiesSaid :=
  OpenClaim.holds_of_wide 6 Try.f6 rfl rfl rfl rfl rfl rfl rfl ⟨rfl, rfl, rfl, rfl, rfl⟩ rfl rfl rfl rfl rfl (by kernel_rfl) Try.func6 (by kernel_rfl)
    (of_decide_eq_true (by kernel_rfl)) (by unfold Func.isWrapper; first | (rw [if_pos (by decide +kernel)]; kernel_rfl) | (rw [if_neg (by decide +kernel)]; exact ⟨rfl, rfl⟩))
    (fun os started H enc _ => lifted os started H enc)
end Go.Proofs.Ytmffjnmhbpnkcaa.dies
