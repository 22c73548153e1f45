/- For every text, every list of texts, every numbers at which the disk dies and is cut the law DiskSure returns true. Conditions: none. -/
import Derived.Test.YtmffjnmhbpnkcaaDiskLaw
import Derived.Test.YtmffjnmhbpnkcaaRow
import Derived.ChangeMaps5
namespace Go.Proofs.Ytmffjnmhbpnkcaa.sure
open Go Go.ChangeShapes Go.WideShapes Go.ChangeAt Go.ChangeMaps Go.RowKit Go.Proofs.Ytmffjnmhbpnkcaa
attribute [local go_sem] Oper.semAt_some

def nF : List UInt8 := [102]
def one (φ : Int) (dead : Bool) (l : List UInt8) (c : Nat) : DDisk := ⟨1048576, φ, dead, [⟨nF, l, c⟩]⟩
theorem ap0 (b : List UInt8) (h : b.length ≤ 200) : aD ⟨1048576, -1, false, []⟩ nF b = one (-1) false b 0 ∧ aE ⟨1048576, -1, false, []⟩ nF b = 0 := by
  have h0 : aBad ⟨1048576, -1, false, []⟩ nF b = 0 := by
    unfold aBad
    rw [if_neg Bool.false_ne_true, if_neg (fun h => h (by decide)), if_neg (by simp [dUsed]; omega), if_neg (by simp)]
  unfold aD aE
  rw [if_pos h0, if_pos h0]
  exact ⟨rfl, rfl⟩
theorem sy0 (b : List UInt8) : sD (one (-1) false b 0) nF = one (-1) false b b.length ∧ sE (one (-1) false b 0) nF = 0 := ⟨rfl, rfl⟩
theorem arm0 (φ n : Int) (l : List UInt8) (c : Nat) : armD (one φ false l c) n = one (max n (-1)) false l c := by
  unfold armD one
  rw [if_neg Bool.false_ne_true]
/-- What behind a round's two calls is there. -/
theorem round (φ : Int) (l m : List UInt8) (hl : l.length ≤ 10000) (hm : m.length ≤ 100) : ∃ E1 E2 φ2 dead c,
    aE (one φ false l l.length) nF m = E1 ∧ sE (aD (one φ false l l.length) nF m) nF = E2 ∧ sD (aD (one φ false l l.length) nF m) nF = one φ2 dead (l ++ m) c ∧ (E1 = 0 ∨ E1 = 10) ∧
    (E2 = 0 ∧ c = (l ++ m).length ∨ E2 = 10 ∧ c = l.length) ∧ c ≤ (l ++ m).length ∧ (aD (one φ false l l.length) nF m).files.length ≤ 10 := by
  have h0 : aBad (one φ false l l.length) nF m = 0 := by
    unfold aBad one
    rw [if_neg Bool.false_ne_true, if_neg (fun h => h (by decide)), if_neg (by simp [dUsed]; omega), if_neg (by simp)]
  have hp : aPut (one φ false l l.length) nF m = one φ false (l ++ m) l.length := rfl
  have hle : l.length ≤ (l ++ m).length := by rw [List.length_append]; omega
  unfold aD aE
  rw [if_pos h0, if_pos h0, hp]
  by_cases h1 : φ = 0
  · subst h1
    exact ⟨10, 10, 0, true, l.length, rfl, rfl, rfl, .inr rfl, .inr ⟨rfl, rfl⟩, hle, by show 1 ≤ 10; decide⟩
  · have e1 : deedE (one φ false l l.length) = 0 := if_neg h1
    have e2 : ∃ ψ, deedD (one φ false (l ++ m) l.length) = one ψ false (l ++ m) l.length := by
      unfold deedD one
      rw [if_neg h1]
      split
      · exact ⟨_, rfl⟩
      · exact ⟨φ, rfl⟩
    obtain ⟨ψ, e2⟩ := e2
    rw [e1, e2]
    have hf : findE (one ψ false (l ++ m) l.length) nF = 0 := rfl
    unfold sE sD
    rw [if_pos hf, if_pos hf]
    by_cases h2 : ψ = 0
    · subst h2
      exact ⟨0, 10, 0, true, l.length, rfl, rfl, rfl, .inl rfl, .inr ⟨rfl, rfl⟩, hle, by show 1 ≤ 10; decide⟩
    · have e3 : deedE (one ψ false (l ++ m) l.length) = 0 := if_neg h2
      have e4 : ∃ χ, deedD (one ψ false (l ++ m) l.length) = one χ false (l ++ m) l.length := by
        unfold deedD one
        rw [if_neg h2]
        split
        · exact ⟨_, rfl⟩
        · exact ⟨ψ, rfl⟩
      obtain ⟨χ, e4⟩ := e4
      rw [if_pos e3, e3, e4]
      exact ⟨0, 0, χ, false, (l ++ m).length, rfl, rfl, rfl, .inl rfl, .inl ⟨rfl, rfl⟩, Nat.le_refl _, by show 1 ≤ 10; decide⟩
/-- What a crash leaves. -/
theorem crash1 (φ : Int) (dead : Bool) (l : List UInt8) (c : Nat) (ks : List Int) (hc : c ≤ l.length) : ∃ k, c ≤ k ∧ k ≤ l.length ∧ crashD (one φ dead l c) ks = one (-1) false (l.take k) (l.take k).length := by
  have hk : c + crashK ⟨nF, l, c⟩ (keepAt ks 0) ≤ l.length := by
    unfold crashK
    have := Int.emod_lt_of_pos (keepAt ks 0) (show (0 : Int) < (l.length : Int) - c + 1 by omega)
    show c + (keepAt ks 0 % ((l.length : Int) - c + 1)).toNat ≤ _
    omega
  refine ⟨c + crashK ⟨nF, l, c⟩ (keepAt ks 0), by omega, hk, ?_⟩
  have h1 : (l.take (c + crashK ⟨nF, l, c⟩ (keepAt ks 0))).length = c + crashK ⟨nF, l, c⟩ (keepAt ks 0) := by rw [List.length_take]; omega
  rw [h1]
  rfl
theorem rd (φ : Int) (l : List UInt8) (c : Nat) : rdB (one φ false l c) nF = l ∧ findE (one φ false l c) nF = 0 := ⟨rfl, rfl⟩
theorem used1 (φ : Int) (dead : Bool) (l : List UInt8) (c : Nat) : dUsed (one φ dead l c).files = l.length := by simp [one, dUsed]
theorem maxMb : max (1048576 : Int) 0 = 1048576 := by decide
set_option maxRecDepth 100000 in
set_option maxHeartbeats 4000000 in
theorem walk (bs : ByteArray) (mv : Value) (mlen : Nat) (M : Nat → ByteArray) (av kv0 : Value) (arms ks : List Int) (w : World) (hM : InStrs w mv mlen M) (hA : InInts w av arms) (hK : InInts w kv0 ks) :
    Calls Try.prog 4 #[.string bs, mv, av, kv0] w fun e w' => e = .returned (.bool true) ∧ Below w.heap.size w w' := by
  have HC1 := Lib.hid (l3Cut_any bs 200 w (by decide))
  rw [show ((200 : Nat) : Int) = 200 from rfl] at HC1
  obtain ⟨b, hb⟩ : ∃ b, bs.data.toList.take 200 = b := ⟨_, rfl⟩
  have hbl : b.length ≤ 200 := by rw [← hb]; exact List.length_take_le _ _
  rw [hb] at HC1
  have H0 := Lib.hid (dNew_any 1048576 w ⟨by decide, by decide⟩)
  rw [maxMb] at H0
  have HAW : ∀ w, Hid (Calls Try.prog 10 #[] w fun e w' => e = .returned (.bool true) ∧ Below w.heap.size w w') := fun w => Lib.hid (awake5 w)
  have HA1 : ∀ B q w, DiskAt B q ⟨1048576, -1, false, []⟩ w → Hid (Calls Try.prog 20 #[.pointer (some ⟨q, 0, none⟩), .string ⟨#[102]⟩, .string (stx b)] w fun e w' => e = .returned (.int .i64 0) ∧ DiskAt B q (one (-1) false b 0) w' ∧ Stir B w w') := fun B q w h => Lib.hid (by
    have := dAppend_any B q _ ⟨#[102]⟩ (stx b) w h (by decide) (by rw [stx_size]; show dUsed [] + _ ≤ _; simp [dUsed]; omega)
    have e := ap0 b hbl
    rw [show (⟨#[102]⟩ : ByteArray).data.toList = nF from rfl, show (stx b).data.toList = b from rfl, e.1, e.2] at this
    exact this)
  have HA2 : ∀ B q w, DiskAt B q (one (-1) false b 0) w → Hid (Calls Try.prog 21 #[.pointer (some ⟨q, 0, none⟩), .string ⟨#[102]⟩] w fun e w' => e = .returned (.int .i64 0) ∧ DiskAt B q (one (-1) false b b.length) w' ∧ Stir B w w') := fun B q w h => Lib.hid (by
    have := dSync_any B q _ ⟨#[102]⟩ w h (by decide)
    have e := sy0 b
    rw [show (⟨#[102]⟩ : ByteArray).data.toList = nF from rfl, e.1, e.2] at this
    exact this)
  have HAP0 : ∀ B q d (m : List UInt8), dUsed d.files + m.length ≤ 1000000 → ∀ w, DiskAt B q d w → Hid (Calls Try.prog 20 #[.pointer (some ⟨q, 0, none⟩), .string ⟨#[102]⟩, .string (stx m)] w fun e w' => e = .returned (.int .i64 (aE d nF m)) ∧ DiskAt B q (aD d nF m) w' ∧ Stir B w w') := fun B q d m hd w h => Lib.hid (
    dAppend_any B q d ⟨#[102]⟩ (stx m) w h (by decide) (by rw [stx_size]; omega))
  have HSY0 : ∀ B q d w, DiskAt B q d w → Hid (Calls Try.prog 21 #[.pointer (some ⟨q, 0, none⟩), .string ⟨#[102]⟩] w fun e w' => e = .returned (.int .i64 (sE d nF)) ∧ DiskAt B q (sD d nF) w' ∧ Stir B w w') := fun B q d w h => Lib.hid (
    dSync_any B q d ⟨#[102]⟩ w h (by decide))
  have HAR0 : ∀ B q φ l c n w, -9223372036854775808 ≤ n ∧ n ≤ 9223372036854775807 → DiskAt B q (one φ false l c) w → Hid (Calls Try.prog 22 #[.pointer (some ⟨q, 0, none⟩), .int .i64 n] w fun e w' => e = .returned (.tuple #[]) ∧ DiskAt B q (one (max n (-1)) false l c) w' ∧ Stir B w w') := fun B q φ l c n w hn h => Lib.hid (by
    have := dArm_any B q _ n w h hn
    rwa [arm0] at this)
  have HCR0 : ∀ B q φ dead (l : List UInt8) c kv (ks : List Int), l.length ≤ 100000 → ks.length ≤ 10 → ∀ w, DiskAt B q (one φ dead l c) w → IntsAt B w kv ks → Hid (Calls Try.prog 23 #[.pointer (some ⟨q, 0, none⟩), kv] w fun e w' => e = .returned (.tuple #[]) ∧ DiskAt B q (crashD (one φ dead l c) ks) w' ∧ Stir B w w') := fun B q φ dead l c kv ks hd hl w h hk => Lib.hid (
    dCrash_any B q _ kv ks w h hk (by omega) (by show 1 ≤ _; decide) (by rw [used1]; omega) (fun f hf => by
      obtain rfl : f = ⟨nF, l, c⟩ := by simpa [one] using hf
      show 1 ≤ _
      decide))
  have HRE0 : ∀ B q d x, rdB d nF = x → findE d nF = 0 → ∀ w, DiskAt B q d w → Hid (Calls Try.prog 12 #[.pointer (some ⟨q, 0, none⟩), .string ⟨#[102]⟩] w fun e w' => e = .returned (.tuple #[.string (stx x), .int .i64 0]) ∧ w' = w) := fun B q d x h1 h2 w h => Lib.hid (by
    have := dRead_any B q d ⟨#[102]⟩ w h (by decide)
    rw [show (⟨#[102]⟩ : ByteArray).data.toList = nF from rfl, h1, h2] at this
    exact this)
  have HDD0 : ∀ B q φ dead l c w, DiskAt B q (one φ dead l c) w → Hid (Calls Try.prog 14 #[.pointer (some ⟨q, 0, none⟩)] w fun e w' => e = .returned (.bool dead) ∧ w' = w) := fun B q φ dead l c w h => Lib.hid (dDead_any B q _ w h)
  have HK := Lib.hid hK
  have HKR : Hid (∀ k ∈ ks.take 10, -9223372036854775808 ≤ k ∧ k ≤ 9223372036854775807) := Lib.hid fun k hk => by
    obtain ⟨_, _, _, _, _, h, _⟩ := hK
    exact h k (List.mem_of_mem_take hk)
  have HMM := Lib.hid hM
  have HAA := Lib.hid hA
  obtain ⟨mao, mcap, rfl, _⟩ := hM
  obtain ⟨aao, acap, rfl, _, _, har, _⟩ := hA
  have HARR := Lib.hid har
  obtain ⟨al, hal⟩ : ∃ al, arms.length = al := ⟨_, rfl⟩
  have HAL := Lib.hid hal
  rw [hal]
  have HBL := Lib.hid hbl
  clear hb hbl hK har hal
  go_enter Try.func4, Try.ntmps4
  go_wp2_with fail
  refine HC1.out.mono ?_
  rintro e w1 ⟨rfl, rfl⟩
  go_wp2_with fail
  refine H0.out.mono ?_
  rintro e w3 ⟨q, rfl, hq, d0, b0⟩
  obtain ⟨B, hB⟩ : ∃ B, w1.heap.size = B := ⟨_, rfl⟩
  have HB := Lib.hid hB
  rw [hB] at hq d0 b0
  clear HC1 H0 hB
  go_wp2_with fail
  refine (HA1 _ _ _ d0).out.mono ?_
  rintro e w4 ⟨rfl, d1, x1⟩
  have b1 := b0.trans x1.below
  clear HA1 d0 x1 b0
  go_wp2_with fail
  refine (HA2 _ _ _ d1).out.mono ?_
  rintro e w5 ⟨rfl, d2, x2⟩
  have b2 := b1.trans x2.below
  clear HA2 d1 x2 b1
  go_wp2_with fail
  go_loopw [10, 11, 12] (fun x y z wr => ∃ (i : Nat) (l : List UInt8), i ≤ mlen ∧ i ≤ 20 ∧ x = .string (stx l) ∧ y = .string (stx l) ∧ z = .int .i64 i ∧ l.length ≤ 200 + 100 * i ∧ DiskAt B q (one (-1) false l l.length) wr ∧ Below B w1 wr) (fun _ _ z _ => (20 - intOf z).toNat)
  case atStart => exact ⟨0, b, Nat.zero_le _, Nat.zero_le _, rfl, rfl, rfl, by have := HBL.out; omega, d2, b2⟩
  case round =>
    obtain ⟨i, l, hi1, hi2, rfl, rfl, rfl, hll0, DA, BA⟩ := hrel
    clear d2 b2
    by_cases hgo : i < mlen ∧ i < 20
    · as_aux_lemma =>
      obtain ⟨hlt1, hlt2⟩ := hgo
      have hll : l.length ≤ 10000 := by omega
      have g1 : decide (i < mlen) = true := decide_eq_true hlt1
      have g1i : (i : Int) < mlen := by omega
      have g2 : decide (i < 20) = true := decide_eq_true hlt2
      have g2i : (i : Int) < 20 := by omega
      obtain ⟨mao', mcap', hv, hS⟩ := HMM.out
      obtain ⟨ma, hmao, hc⟩ := hS i hlt1
      obtain ⟨rfl, rfl⟩ : mao = mao' ∧ mcap = mcap' := by simpa using hv
      subst hmao
      obtain ⟨m, hm⟩ : ∃ m, (M i).data.toList.take 100 = m := ⟨_, rfl⟩
      have hml : m.length ≤ 100 := by rw [← hm]; exact List.length_take_le _ _
      have HCU0 : ∀ W, Hid (Calls Try.prog 19 #[.string (M i), .int .i64 100] W fun e w' => e = .returned (.string (stx m)) ∧ w' = W) := fun W => Lib.hid (by
        have := l3Cut_any (M i) 100 W (by decide)
        rwa [hm] at this)
      have HFE : ∀ W, Below B w1 W → Hid (Calls Try.prog 24 #[kv0, .int .i64 10] W fun e w' => ∃ v', e = .returned v' ∧ OwnInts w' W.heap.size v' (ks.take 10) ∧ Below W.heap.size W w') := fun W hW => Lib.hid (
        few5_any kv0 ks 10 W (HK.out.below (by rw [HB.out]; exact hW)) (by decide))
      have hlb : (ma.add i).block < B := by rw [← HB.out]; exact cellLt hc
      have hadd := stx_append l m
      have hsz : (stx l).size + (stx m).size ≤ 20000 := by rw [stx_size, stx_size]; omega
      have hszi : ((stx l).size : Int) + (stx m).size ≤ 20000 := by omega
      have HC := Lib.hid hc
      have HLB := Lib.hid hlb
      clear hv hS hm hc hlb
      by_cases harm : i < al
      · as_aux_lemma =>
        have g3 : decide (i < al) = true := decide_eq_true harm
        have g3i : (i : Int) < al := by omega
        obtain ⟨aao', acap', hv, _, _, _, hS⟩ := HAA.out
        obtain ⟨aa, haao, hca⟩ := hS i (by rw [HAL.out]; exact harm)
        obtain ⟨rfl, rfl⟩ : aao = aao' ∧ acap = acap' := by simpa using hv
        subst haao
        have ca := (BA.cell (p := aa.add i) (by rw [← HB.out]; exact cellLt hca)).trans hca
        have hr := HARR.out (arms.getD i 0) (by
          rw [List.getD_eq_getElem?_getD, List.getElem?_eq_getElem (by rw [HAL.out]; exact harm)]
          exact List.getElem_mem _)
        generalize arms.getD i 0 = an at *
        have HX0 := Lib.hid (HAR0 _ _ _ _ _ an _ hr DA).out
        clear hv hS hca DA
        go_wp2_with fail
        refine HX0.out.mono ?_
        rintro e w2 ⟨rfl, DA, x2⟩
        have BA2 := BA.trans x2.below
        clear HX0 x2 BA ca
        have BA := BA2
        clear BA2
        have c0 := (BA.cell (p := ma.add i) HLB.out).trans HC.out
        have HCU := HCU0 w2
        have HAP := HAP0
        have HSY := HSY0
        have HCR := HCR0
        have HRE := HRE0
        have HDD := HDD0
        clear HCU0 HAP0 HSY0 HCR0 HRE0 HDD0 HAR0
        obtain ⟨E1, E2, φ2, dead, c, r1, r2, r3, r4, r5, r6, r7⟩ := round ((max an (-1))) l m hll hml
        have HX1 := Lib.hid (HAP _ _ _ m (by rw [used1]; omega) _ DA).out
        rw [r1] at HX1
        have HX2 : ∀ W, DiskAt B q (aD (one ((max an (-1))) false l l.length) nF m) W → Hid (Calls Try.prog 21 #[.pointer (some ⟨q, 0, none⟩), .string ⟨#[102]⟩] W fun e w' => e = .returned (.int .i64 E2) ∧ DiskAt B q (one φ2 dead (l ++ m) c) w' ∧ Stir B W w') := fun W h => Lib.hid (by
          have := (HSY _ _ _ _ h).out
          rwa [r2, r3] at this)
        have HR5 := Lib.hid r5
        have HR6 := Lib.hid r6
        clear r1 r2 r3 r7 DA HAP HSY
        go_wp2_with fail
        refine HCU.out.mono ?_
        rintro e wu ⟨rfl, rfl⟩
        go_wp2_with fail
        refine HX1.out.mono ?_
        rintro e w4 ⟨rfl, d4, x4⟩
        have b4 := BA.trans x4.below
        clear HCU HX1 x4 BA
        have q4 : (E1 != 0 && E1 != 10) = false := by rcases r4 with rfl | rfl <;> decide
        rcases r4 with rfl | rfl
        · as_aux_lemma =>
          go_wp2_with fail
          refine (HX2 _ d4).out.mono ?_
          rintro e w5 ⟨rfl, d5, x5⟩
          have B5 := Lib.hid (b4.trans x5.below)
          have D5 := Lib.hid d5
          clear HX2 d4 d5 x5 b4 q4 r5 r6
          rcases HR5.out with ⟨rfl, hcl⟩ | ⟨rfl, hcl⟩
          · as_aux_lemma =>
            have HFW := Lib.hid (HFE _ B5.out).out
            have HCL : Hid (((l ++ m)).length = c) := Lib.hid hcl.symm
            clear hcl HFE
            go_wp2_with fail
            refine HFW.out.mono ?_
            rintro e w6 ⟨kv, rfl, ok, b6⟩
            have hz : B ≤ w5.heap.size := by have := D5.out.low; omega
            have d6 := D5.out.kept b6
            have B6 := Lib.hid (below_past B5.out b6 hz)
            obtain ⟨k, hk1, hk2, hk3⟩ := crash1 φ2 dead (l ++ m) c (ks.take 10) HR6.out
            have HX3 := Lib.hid (HCR _ _ _ _ _ _ kv (ks.take 10) (by rw [List.length_append]; omega) (by rw [List.length_take]; omega) _ d6 (ok.at_ HKR.out)).out
            rw [hk3] at HX3
            have HTK : Hid (((l ++ m).take k).length = k) := Lib.hid (by rw [List.length_take]; omega)
            have HLT : Hid ((stx (l ++ m)).extract 0 k = stx ((l ++ m).take k)) := Lib.hid (stx_extract (l ++ m) 0 k)
            have HK1 : Hid ((((l ++ m)).length : Int) ≤ k) := Lib.hid (by have := HCL.out; omega)
            have HK2 : Hid (k ≤ (l ++ m).length) := Lib.hid hk2
            clear HFW ok b6 d6 D5 B5 HCR hk1 hk2 hk3 HR5 HR6
            go_wp2_with fail
            refine HX3.out.mono ?_
            rintro e w7 ⟨rfl, d7, x7⟩
            have B7 := Lib.hid (B6.out.trans x7.below)
            have D7 := Lib.hid d7
            have HX4 := Lib.hid (HRE _ _ _ ((l ++ m).take k) (rd _ _ _).1 (rd _ _ _).2 _ d7).out
            have HX5 := Lib.hid (HDD _ _ _ _ _ _ _ d7).out
            clear HX3 x7 d7 B6 HRE HDD
            go_wp2_with fail
            refine HX4.out.mono ?_
            rintro e w8 ⟨rfl, rfl⟩
            have s1 : (stx ((l ++ m).take k)).size = k := by rw [stx_size]; exact HTK.out
            have s2 : (stx ((l ++ m))).size = ((l ++ m)).length := stx_size _
            have s3 : (stx (l ++ m)).size = (l ++ m).length := stx_size _
            have t1 : decide ((k : Int) < (((l ++ m)).length : Nat)) = false := decide_eq_false (by have := HK1.out; omega)
            have t2 : decide ((((l ++ m).length : Nat) : Int) < k) = false := decide_eq_false (by have := HK2.out; omega)
            have t1n : decide (k < ((l ++ m)).length) = false := decide_eq_false (by have := HK1.out; omega)
            have t2n : decide ((l ++ m).length < k) = false := decide_eq_false (by have := HK2.out; omega)
            have t3n : k ≤ (l ++ m).length := HK2.out
            have t3 : (k : Int) ≤ ((l ++ m).length : Nat) := by have := HK2.out; omega
            have t4 := HLT.out
            have hln : ((l ++ m).take k).length ≤ 200 + 100 * (i + 1) := by have := HK2.out; rw [HTK.out]; rw [List.length_append] at this; omega
            have HLN := Lib.hid hln
            clear HX4 hln
            generalize hTS : stx ((l ++ m).take k) = TS at *
            have HTE := Lib.hid hTS
            clear hTS
            generalize stx (l ++ m) = WH at *
            generalize stx ((l ++ m)) = SU at *
            generalize ((l ++ m)).length = sul at *
            generalize (l ++ m).length = whl at *
            go_wp2_with fail
            refine HX5.out.mono ?_
            rintro e w9 ⟨rfl, rfl⟩
            clear HX5
            go_wp2_with fail
            exact ⟨⟨i + 1, (l ++ m).take k, hlt1, hlt2, by rw [HTE.out], by rw [HTE.out], by go_num, HLN.out, D7.out, B7.out⟩, by simp [intOf]; omega⟩
          · as_aux_lemma =>
            have HFW := Lib.hid (HFE _ B5.out).out
            have HCL : Hid ((l).length = c) := Lib.hid hcl.symm
            clear hcl HFE
            go_wp2_with fail
            refine HFW.out.mono ?_
            rintro e w6 ⟨kv, rfl, ok, b6⟩
            have hz : B ≤ w5.heap.size := by have := D5.out.low; omega
            have d6 := D5.out.kept b6
            have B6 := Lib.hid (below_past B5.out b6 hz)
            obtain ⟨k, hk1, hk2, hk3⟩ := crash1 φ2 dead (l ++ m) c (ks.take 10) HR6.out
            have HX3 := Lib.hid (HCR _ _ _ _ _ _ kv (ks.take 10) (by rw [List.length_append]; omega) (by rw [List.length_take]; omega) _ d6 (ok.at_ HKR.out)).out
            rw [hk3] at HX3
            have HTK : Hid (((l ++ m).take k).length = k) := Lib.hid (by rw [List.length_take]; omega)
            have HLT : Hid ((stx (l ++ m)).extract 0 k = stx ((l ++ m).take k)) := Lib.hid (stx_extract (l ++ m) 0 k)
            have HK1 : Hid (((l).length : Int) ≤ k) := Lib.hid (by have := HCL.out; omega)
            have HK2 : Hid (k ≤ (l ++ m).length) := Lib.hid hk2
            clear HFW ok b6 d6 D5 B5 HCR hk1 hk2 hk3 HR5 HR6
            go_wp2_with fail
            refine HX3.out.mono ?_
            rintro e w7 ⟨rfl, d7, x7⟩
            have B7 := Lib.hid (B6.out.trans x7.below)
            have D7 := Lib.hid d7
            have HX4 := Lib.hid (HRE _ _ _ ((l ++ m).take k) (rd _ _ _).1 (rd _ _ _).2 _ d7).out
            have HX5 := Lib.hid (HDD _ _ _ _ _ _ _ d7).out
            clear HX3 x7 d7 B6 HRE HDD
            go_wp2_with fail
            refine HX4.out.mono ?_
            rintro e w8 ⟨rfl, rfl⟩
            have s1 : (stx ((l ++ m).take k)).size = k := by rw [stx_size]; exact HTK.out
            have s2 : (stx (l)).size = (l).length := stx_size _
            have s3 : (stx (l ++ m)).size = (l ++ m).length := stx_size _
            have t1 : decide ((k : Int) < ((l).length : Nat)) = false := decide_eq_false (by have := HK1.out; omega)
            have t2 : decide ((((l ++ m).length : Nat) : Int) < k) = false := decide_eq_false (by have := HK2.out; omega)
            have t1n : decide (k < (l).length) = false := decide_eq_false (by have := HK1.out; omega)
            have t2n : decide ((l ++ m).length < k) = false := decide_eq_false (by have := HK2.out; omega)
            have t3n : k ≤ (l ++ m).length := HK2.out
            have t3 : (k : Int) ≤ ((l ++ m).length : Nat) := by have := HK2.out; omega
            have t4 := HLT.out
            have hln : ((l ++ m).take k).length ≤ 200 + 100 * (i + 1) := by have := HK2.out; rw [HTK.out]; rw [List.length_append] at this; omega
            have HLN := Lib.hid hln
            clear HX4 hln
            generalize hTS : stx ((l ++ m).take k) = TS at *
            have HTE := Lib.hid hTS
            clear hTS
            generalize stx (l ++ m) = WH at *
            generalize stx (l) = SU at *
            generalize (l).length = sul at *
            generalize (l ++ m).length = whl at *
            go_wp2_with fail
            refine HX5.out.mono ?_
            rintro e w9 ⟨rfl, rfl⟩
            clear HX5
            go_wp2_with fail
            exact ⟨⟨i + 1, (l ++ m).take k, hlt1, hlt2, by rw [HTE.out], by rw [HTE.out], by go_num, HLN.out, D7.out, B7.out⟩, by simp [intOf]; omega⟩
        · as_aux_lemma =>
          go_wp2_with fail
          refine (HX2 _ d4).out.mono ?_
          rintro e w5 ⟨rfl, d5, x5⟩
          have B5 := Lib.hid (b4.trans x5.below)
          have D5 := Lib.hid d5
          clear HX2 d4 d5 x5 b4 q4 r5 r6
          rcases HR5.out with ⟨rfl, hcl⟩ | ⟨rfl, hcl⟩
          · as_aux_lemma =>
            have HFW := Lib.hid (HFE _ B5.out).out
            have HCL : Hid (((l ++ m)).length = c) := Lib.hid hcl.symm
            clear hcl HFE
            go_wp2_with fail
            refine HFW.out.mono ?_
            rintro e w6 ⟨kv, rfl, ok, b6⟩
            have hz : B ≤ w5.heap.size := by have := D5.out.low; omega
            have d6 := D5.out.kept b6
            have B6 := Lib.hid (below_past B5.out b6 hz)
            obtain ⟨k, hk1, hk2, hk3⟩ := crash1 φ2 dead (l ++ m) c (ks.take 10) HR6.out
            have HX3 := Lib.hid (HCR _ _ _ _ _ _ kv (ks.take 10) (by rw [List.length_append]; omega) (by rw [List.length_take]; omega) _ d6 (ok.at_ HKR.out)).out
            rw [hk3] at HX3
            have HTK : Hid (((l ++ m).take k).length = k) := Lib.hid (by rw [List.length_take]; omega)
            have HLT : Hid ((stx (l ++ m)).extract 0 k = stx ((l ++ m).take k)) := Lib.hid (stx_extract (l ++ m) 0 k)
            have HK1 : Hid ((((l ++ m)).length : Int) ≤ k) := Lib.hid (by have := HCL.out; omega)
            have HK2 : Hid (k ≤ (l ++ m).length) := Lib.hid hk2
            clear HFW ok b6 d6 D5 B5 HCR hk1 hk2 hk3 HR5 HR6
            go_wp2_with fail
            refine HX3.out.mono ?_
            rintro e w7 ⟨rfl, d7, x7⟩
            have B7 := Lib.hid (B6.out.trans x7.below)
            have D7 := Lib.hid d7
            have HX4 := Lib.hid (HRE _ _ _ ((l ++ m).take k) (rd _ _ _).1 (rd _ _ _).2 _ d7).out
            have HX5 := Lib.hid (HDD _ _ _ _ _ _ _ d7).out
            clear HX3 x7 d7 B6 HRE HDD
            go_wp2_with fail
            refine HX4.out.mono ?_
            rintro e w8 ⟨rfl, rfl⟩
            have s1 : (stx ((l ++ m).take k)).size = k := by rw [stx_size]; exact HTK.out
            have s2 : (stx ((l ++ m))).size = ((l ++ m)).length := stx_size _
            have s3 : (stx (l ++ m)).size = (l ++ m).length := stx_size _
            have t1 : decide ((k : Int) < (((l ++ m)).length : Nat)) = false := decide_eq_false (by have := HK1.out; omega)
            have t2 : decide ((((l ++ m).length : Nat) : Int) < k) = false := decide_eq_false (by have := HK2.out; omega)
            have t1n : decide (k < ((l ++ m)).length) = false := decide_eq_false (by have := HK1.out; omega)
            have t2n : decide ((l ++ m).length < k) = false := decide_eq_false (by have := HK2.out; omega)
            have t3n : k ≤ (l ++ m).length := HK2.out
            have t3 : (k : Int) ≤ ((l ++ m).length : Nat) := by have := HK2.out; omega
            have t4 := HLT.out
            have hln : ((l ++ m).take k).length ≤ 200 + 100 * (i + 1) := by have := HK2.out; rw [HTK.out]; rw [List.length_append] at this; omega
            have HLN := Lib.hid hln
            clear HX4 hln
            generalize hTS : stx ((l ++ m).take k) = TS at *
            have HTE := Lib.hid hTS
            clear hTS
            generalize stx (l ++ m) = WH at *
            generalize stx ((l ++ m)) = SU at *
            generalize ((l ++ m)).length = sul at *
            generalize (l ++ m).length = whl at *
            go_wp2_with fail
            refine HX5.out.mono ?_
            rintro e w9 ⟨rfl, rfl⟩
            clear HX5
            go_wp2_with fail
            exact ⟨⟨i + 1, (l ++ m).take k, hlt1, hlt2, by rw [HTE.out], by rw [HTE.out], by go_num, HLN.out, D7.out, B7.out⟩, by simp [intOf]; omega⟩
          · as_aux_lemma =>
            have HFW := Lib.hid (HFE _ B5.out).out
            have HCL : Hid ((l).length = c) := Lib.hid hcl.symm
            clear hcl HFE
            go_wp2_with fail
            refine HFW.out.mono ?_
            rintro e w6 ⟨kv, rfl, ok, b6⟩
            have hz : B ≤ w5.heap.size := by have := D5.out.low; omega
            have d6 := D5.out.kept b6
            have B6 := Lib.hid (below_past B5.out b6 hz)
            obtain ⟨k, hk1, hk2, hk3⟩ := crash1 φ2 dead (l ++ m) c (ks.take 10) HR6.out
            have HX3 := Lib.hid (HCR _ _ _ _ _ _ kv (ks.take 10) (by rw [List.length_append]; omega) (by rw [List.length_take]; omega) _ d6 (ok.at_ HKR.out)).out
            rw [hk3] at HX3
            have HTK : Hid (((l ++ m).take k).length = k) := Lib.hid (by rw [List.length_take]; omega)
            have HLT : Hid ((stx (l ++ m)).extract 0 k = stx ((l ++ m).take k)) := Lib.hid (stx_extract (l ++ m) 0 k)
            have HK1 : Hid (((l).length : Int) ≤ k) := Lib.hid (by have := HCL.out; omega)
            have HK2 : Hid (k ≤ (l ++ m).length) := Lib.hid hk2
            clear HFW ok b6 d6 D5 B5 HCR hk1 hk2 hk3 HR5 HR6
            go_wp2_with fail
            refine HX3.out.mono ?_
            rintro e w7 ⟨rfl, d7, x7⟩
            have B7 := Lib.hid (B6.out.trans x7.below)
            have D7 := Lib.hid d7
            have HX4 := Lib.hid (HRE _ _ _ ((l ++ m).take k) (rd _ _ _).1 (rd _ _ _).2 _ d7).out
            have HX5 := Lib.hid (HDD _ _ _ _ _ _ _ d7).out
            clear HX3 x7 d7 B6 HRE HDD
            go_wp2_with fail
            refine HX4.out.mono ?_
            rintro e w8 ⟨rfl, rfl⟩
            have s1 : (stx ((l ++ m).take k)).size = k := by rw [stx_size]; exact HTK.out
            have s2 : (stx (l)).size = (l).length := stx_size _
            have s3 : (stx (l ++ m)).size = (l ++ m).length := stx_size _
            have t1 : decide ((k : Int) < ((l).length : Nat)) = false := decide_eq_false (by have := HK1.out; omega)
            have t2 : decide ((((l ++ m).length : Nat) : Int) < k) = false := decide_eq_false (by have := HK2.out; omega)
            have t1n : decide (k < (l).length) = false := decide_eq_false (by have := HK1.out; omega)
            have t2n : decide ((l ++ m).length < k) = false := decide_eq_false (by have := HK2.out; omega)
            have t3n : k ≤ (l ++ m).length := HK2.out
            have t3 : (k : Int) ≤ ((l ++ m).length : Nat) := by have := HK2.out; omega
            have t4 := HLT.out
            have hln : ((l ++ m).take k).length ≤ 200 + 100 * (i + 1) := by have := HK2.out; rw [HTK.out]; rw [List.length_append] at this; omega
            have HLN := Lib.hid hln
            clear HX4 hln
            generalize hTS : stx ((l ++ m).take k) = TS at *
            have HTE := Lib.hid hTS
            clear hTS
            generalize stx (l ++ m) = WH at *
            generalize stx (l) = SU at *
            generalize (l).length = sul at *
            generalize (l ++ m).length = whl at *
            go_wp2_with fail
            refine HX5.out.mono ?_
            rintro e w9 ⟨rfl, rfl⟩
            clear HX5
            go_wp2_with fail
            exact ⟨⟨i + 1, (l ++ m).take k, hlt1, hlt2, by rw [HTE.out], by rw [HTE.out], by go_num, HLN.out, D7.out, B7.out⟩, by simp [intOf]; omega⟩
      · as_aux_lemma =>
        have g3 : decide (i < al) = false := decide_eq_false harm
        have c0 := (BA.cell (p := ma.add i) HLB.out).trans HC.out
        have HCU := HCU0 wr
        have HAP := HAP0
        have HSY := HSY0
        have HCR := HCR0
        have HRE := HRE0
        have HDD := HDD0
        clear HCU0 HAP0 HSY0 HCR0 HRE0 HDD0 HAR0
        obtain ⟨E1, E2, φ2, dead, c, r1, r2, r3, r4, r5, r6, r7⟩ := round ((-1)) l m hll hml
        have HX1 := Lib.hid (HAP _ _ _ m (by rw [used1]; omega) _ DA).out
        rw [r1] at HX1
        have HX2 : ∀ W, DiskAt B q (aD (one ((-1)) false l l.length) nF m) W → Hid (Calls Try.prog 21 #[.pointer (some ⟨q, 0, none⟩), .string ⟨#[102]⟩] W fun e w' => e = .returned (.int .i64 E2) ∧ DiskAt B q (one φ2 dead (l ++ m) c) w' ∧ Stir B W w') := fun W h => Lib.hid (by
          have := (HSY _ _ _ _ h).out
          rwa [r2, r3] at this)
        have HR5 := Lib.hid r5
        have HR6 := Lib.hid r6
        clear r1 r2 r3 r7 DA HAP HSY
        go_wp2_with fail
        refine HCU.out.mono ?_
        rintro e wu ⟨rfl, rfl⟩
        go_wp2_with fail
        refine HX1.out.mono ?_
        rintro e w4 ⟨rfl, d4, x4⟩
        have b4 := BA.trans x4.below
        clear HCU HX1 x4 BA
        have q4 : (E1 != 0 && E1 != 10) = false := by rcases r4 with rfl | rfl <;> decide
        rcases r4 with rfl | rfl
        · as_aux_lemma =>
          go_wp2_with fail
          refine (HX2 _ d4).out.mono ?_
          rintro e w5 ⟨rfl, d5, x5⟩
          have B5 := Lib.hid (b4.trans x5.below)
          have D5 := Lib.hid d5
          clear HX2 d4 d5 x5 b4 q4 r5 r6
          rcases HR5.out with ⟨rfl, hcl⟩ | ⟨rfl, hcl⟩
          · as_aux_lemma =>
            have HFW := Lib.hid (HFE _ B5.out).out
            have HCL : Hid (((l ++ m)).length = c) := Lib.hid hcl.symm
            clear hcl HFE
            go_wp2_with fail
            refine HFW.out.mono ?_
            rintro e w6 ⟨kv, rfl, ok, b6⟩
            have hz : B ≤ w5.heap.size := by have := D5.out.low; omega
            have d6 := D5.out.kept b6
            have B6 := Lib.hid (below_past B5.out b6 hz)
            obtain ⟨k, hk1, hk2, hk3⟩ := crash1 φ2 dead (l ++ m) c (ks.take 10) HR6.out
            have HX3 := Lib.hid (HCR _ _ _ _ _ _ kv (ks.take 10) (by rw [List.length_append]; omega) (by rw [List.length_take]; omega) _ d6 (ok.at_ HKR.out)).out
            rw [hk3] at HX3
            have HTK : Hid (((l ++ m).take k).length = k) := Lib.hid (by rw [List.length_take]; omega)
            have HLT : Hid ((stx (l ++ m)).extract 0 k = stx ((l ++ m).take k)) := Lib.hid (stx_extract (l ++ m) 0 k)
            have HK1 : Hid ((((l ++ m)).length : Int) ≤ k) := Lib.hid (by have := HCL.out; omega)
            have HK2 : Hid (k ≤ (l ++ m).length) := Lib.hid hk2
            clear HFW ok b6 d6 D5 B5 HCR hk1 hk2 hk3 HR5 HR6
            go_wp2_with fail
            refine HX3.out.mono ?_
            rintro e w7 ⟨rfl, d7, x7⟩
            have B7 := Lib.hid (B6.out.trans x7.below)
            have D7 := Lib.hid d7
            have HX4 := Lib.hid (HRE _ _ _ ((l ++ m).take k) (rd _ _ _).1 (rd _ _ _).2 _ d7).out
            have HX5 := Lib.hid (HDD _ _ _ _ _ _ _ d7).out
            clear HX3 x7 d7 B6 HRE HDD
            go_wp2_with fail
            refine HX4.out.mono ?_
            rintro e w8 ⟨rfl, rfl⟩
            have s1 : (stx ((l ++ m).take k)).size = k := by rw [stx_size]; exact HTK.out
            have s2 : (stx ((l ++ m))).size = ((l ++ m)).length := stx_size _
            have s3 : (stx (l ++ m)).size = (l ++ m).length := stx_size _
            have t1 : decide ((k : Int) < (((l ++ m)).length : Nat)) = false := decide_eq_false (by have := HK1.out; omega)
            have t2 : decide ((((l ++ m).length : Nat) : Int) < k) = false := decide_eq_false (by have := HK2.out; omega)
            have t1n : decide (k < ((l ++ m)).length) = false := decide_eq_false (by have := HK1.out; omega)
            have t2n : decide ((l ++ m).length < k) = false := decide_eq_false (by have := HK2.out; omega)
            have t3n : k ≤ (l ++ m).length := HK2.out
            have t3 : (k : Int) ≤ ((l ++ m).length : Nat) := by have := HK2.out; omega
            have t4 := HLT.out
            have hln : ((l ++ m).take k).length ≤ 200 + 100 * (i + 1) := by have := HK2.out; rw [HTK.out]; rw [List.length_append] at this; omega
            have HLN := Lib.hid hln
            clear HX4 hln
            generalize hTS : stx ((l ++ m).take k) = TS at *
            have HTE := Lib.hid hTS
            clear hTS
            generalize stx (l ++ m) = WH at *
            generalize stx ((l ++ m)) = SU at *
            generalize ((l ++ m)).length = sul at *
            generalize (l ++ m).length = whl at *
            go_wp2_with fail
            refine HX5.out.mono ?_
            rintro e w9 ⟨rfl, rfl⟩
            clear HX5
            go_wp2_with fail
            exact ⟨⟨i + 1, (l ++ m).take k, hlt1, hlt2, by rw [HTE.out], by rw [HTE.out], by go_num, HLN.out, D7.out, B7.out⟩, by simp [intOf]; omega⟩
          · as_aux_lemma =>
            have HFW := Lib.hid (HFE _ B5.out).out
            have HCL : Hid ((l).length = c) := Lib.hid hcl.symm
            clear hcl HFE
            go_wp2_with fail
            refine HFW.out.mono ?_
            rintro e w6 ⟨kv, rfl, ok, b6⟩
            have hz : B ≤ w5.heap.size := by have := D5.out.low; omega
            have d6 := D5.out.kept b6
            have B6 := Lib.hid (below_past B5.out b6 hz)
            obtain ⟨k, hk1, hk2, hk3⟩ := crash1 φ2 dead (l ++ m) c (ks.take 10) HR6.out
            have HX3 := Lib.hid (HCR _ _ _ _ _ _ kv (ks.take 10) (by rw [List.length_append]; omega) (by rw [List.length_take]; omega) _ d6 (ok.at_ HKR.out)).out
            rw [hk3] at HX3
            have HTK : Hid (((l ++ m).take k).length = k) := Lib.hid (by rw [List.length_take]; omega)
            have HLT : Hid ((stx (l ++ m)).extract 0 k = stx ((l ++ m).take k)) := Lib.hid (stx_extract (l ++ m) 0 k)
            have HK1 : Hid (((l).length : Int) ≤ k) := Lib.hid (by have := HCL.out; omega)
            have HK2 : Hid (k ≤ (l ++ m).length) := Lib.hid hk2
            clear HFW ok b6 d6 D5 B5 HCR hk1 hk2 hk3 HR5 HR6
            go_wp2_with fail
            refine HX3.out.mono ?_
            rintro e w7 ⟨rfl, d7, x7⟩
            have B7 := Lib.hid (B6.out.trans x7.below)
            have D7 := Lib.hid d7
            have HX4 := Lib.hid (HRE _ _ _ ((l ++ m).take k) (rd _ _ _).1 (rd _ _ _).2 _ d7).out
            have HX5 := Lib.hid (HDD _ _ _ _ _ _ _ d7).out
            clear HX3 x7 d7 B6 HRE HDD
            go_wp2_with fail
            refine HX4.out.mono ?_
            rintro e w8 ⟨rfl, rfl⟩
            have s1 : (stx ((l ++ m).take k)).size = k := by rw [stx_size]; exact HTK.out
            have s2 : (stx (l)).size = (l).length := stx_size _
            have s3 : (stx (l ++ m)).size = (l ++ m).length := stx_size _
            have t1 : decide ((k : Int) < ((l).length : Nat)) = false := decide_eq_false (by have := HK1.out; omega)
            have t2 : decide ((((l ++ m).length : Nat) : Int) < k) = false := decide_eq_false (by have := HK2.out; omega)
            have t1n : decide (k < (l).length) = false := decide_eq_false (by have := HK1.out; omega)
            have t2n : decide ((l ++ m).length < k) = false := decide_eq_false (by have := HK2.out; omega)
            have t3n : k ≤ (l ++ m).length := HK2.out
            have t3 : (k : Int) ≤ ((l ++ m).length : Nat) := by have := HK2.out; omega
            have t4 := HLT.out
            have hln : ((l ++ m).take k).length ≤ 200 + 100 * (i + 1) := by have := HK2.out; rw [HTK.out]; rw [List.length_append] at this; omega
            have HLN := Lib.hid hln
            clear HX4 hln
            generalize hTS : stx ((l ++ m).take k) = TS at *
            have HTE := Lib.hid hTS
            clear hTS
            generalize stx (l ++ m) = WH at *
            generalize stx (l) = SU at *
            generalize (l).length = sul at *
            generalize (l ++ m).length = whl at *
            go_wp2_with fail
            refine HX5.out.mono ?_
            rintro e w9 ⟨rfl, rfl⟩
            clear HX5
            go_wp2_with fail
            exact ⟨⟨i + 1, (l ++ m).take k, hlt1, hlt2, by rw [HTE.out], by rw [HTE.out], by go_num, HLN.out, D7.out, B7.out⟩, by simp [intOf]; omega⟩
        · as_aux_lemma =>
          go_wp2_with fail
          refine (HX2 _ d4).out.mono ?_
          rintro e w5 ⟨rfl, d5, x5⟩
          have B5 := Lib.hid (b4.trans x5.below)
          have D5 := Lib.hid d5
          clear HX2 d4 d5 x5 b4 q4 r5 r6
          rcases HR5.out with ⟨rfl, hcl⟩ | ⟨rfl, hcl⟩
          · as_aux_lemma =>
            have HFW := Lib.hid (HFE _ B5.out).out
            have HCL : Hid (((l ++ m)).length = c) := Lib.hid hcl.symm
            clear hcl HFE
            go_wp2_with fail
            refine HFW.out.mono ?_
            rintro e w6 ⟨kv, rfl, ok, b6⟩
            have hz : B ≤ w5.heap.size := by have := D5.out.low; omega
            have d6 := D5.out.kept b6
            have B6 := Lib.hid (below_past B5.out b6 hz)
            obtain ⟨k, hk1, hk2, hk3⟩ := crash1 φ2 dead (l ++ m) c (ks.take 10) HR6.out
            have HX3 := Lib.hid (HCR _ _ _ _ _ _ kv (ks.take 10) (by rw [List.length_append]; omega) (by rw [List.length_take]; omega) _ d6 (ok.at_ HKR.out)).out
            rw [hk3] at HX3
            have HTK : Hid (((l ++ m).take k).length = k) := Lib.hid (by rw [List.length_take]; omega)
            have HLT : Hid ((stx (l ++ m)).extract 0 k = stx ((l ++ m).take k)) := Lib.hid (stx_extract (l ++ m) 0 k)
            have HK1 : Hid ((((l ++ m)).length : Int) ≤ k) := Lib.hid (by have := HCL.out; omega)
            have HK2 : Hid (k ≤ (l ++ m).length) := Lib.hid hk2
            clear HFW ok b6 d6 D5 B5 HCR hk1 hk2 hk3 HR5 HR6
            go_wp2_with fail
            refine HX3.out.mono ?_
            rintro e w7 ⟨rfl, d7, x7⟩
            have B7 := Lib.hid (B6.out.trans x7.below)
            have D7 := Lib.hid d7
            have HX4 := Lib.hid (HRE _ _ _ ((l ++ m).take k) (rd _ _ _).1 (rd _ _ _).2 _ d7).out
            have HX5 := Lib.hid (HDD _ _ _ _ _ _ _ d7).out
            clear HX3 x7 d7 B6 HRE HDD
            go_wp2_with fail
            refine HX4.out.mono ?_
            rintro e w8 ⟨rfl, rfl⟩
            have s1 : (stx ((l ++ m).take k)).size = k := by rw [stx_size]; exact HTK.out
            have s2 : (stx ((l ++ m))).size = ((l ++ m)).length := stx_size _
            have s3 : (stx (l ++ m)).size = (l ++ m).length := stx_size _
            have t1 : decide ((k : Int) < (((l ++ m)).length : Nat)) = false := decide_eq_false (by have := HK1.out; omega)
            have t2 : decide ((((l ++ m).length : Nat) : Int) < k) = false := decide_eq_false (by have := HK2.out; omega)
            have t1n : decide (k < ((l ++ m)).length) = false := decide_eq_false (by have := HK1.out; omega)
            have t2n : decide ((l ++ m).length < k) = false := decide_eq_false (by have := HK2.out; omega)
            have t3n : k ≤ (l ++ m).length := HK2.out
            have t3 : (k : Int) ≤ ((l ++ m).length : Nat) := by have := HK2.out; omega
            have t4 := HLT.out
            have hln : ((l ++ m).take k).length ≤ 200 + 100 * (i + 1) := by have := HK2.out; rw [HTK.out]; rw [List.length_append] at this; omega
            have HLN := Lib.hid hln
            clear HX4 hln
            generalize hTS : stx ((l ++ m).take k) = TS at *
            have HTE := Lib.hid hTS
            clear hTS
            generalize stx (l ++ m) = WH at *
            generalize stx ((l ++ m)) = SU at *
            generalize ((l ++ m)).length = sul at *
            generalize (l ++ m).length = whl at *
            go_wp2_with fail
            refine HX5.out.mono ?_
            rintro e w9 ⟨rfl, rfl⟩
            clear HX5
            go_wp2_with fail
            exact ⟨⟨i + 1, (l ++ m).take k, hlt1, hlt2, by rw [HTE.out], by rw [HTE.out], by go_num, HLN.out, D7.out, B7.out⟩, by simp [intOf]; omega⟩
          · as_aux_lemma =>
            have HFW := Lib.hid (HFE _ B5.out).out
            have HCL : Hid ((l).length = c) := Lib.hid hcl.symm
            clear hcl HFE
            go_wp2_with fail
            refine HFW.out.mono ?_
            rintro e w6 ⟨kv, rfl, ok, b6⟩
            have hz : B ≤ w5.heap.size := by have := D5.out.low; omega
            have d6 := D5.out.kept b6
            have B6 := Lib.hid (below_past B5.out b6 hz)
            obtain ⟨k, hk1, hk2, hk3⟩ := crash1 φ2 dead (l ++ m) c (ks.take 10) HR6.out
            have HX3 := Lib.hid (HCR _ _ _ _ _ _ kv (ks.take 10) (by rw [List.length_append]; omega) (by rw [List.length_take]; omega) _ d6 (ok.at_ HKR.out)).out
            rw [hk3] at HX3
            have HTK : Hid (((l ++ m).take k).length = k) := Lib.hid (by rw [List.length_take]; omega)
            have HLT : Hid ((stx (l ++ m)).extract 0 k = stx ((l ++ m).take k)) := Lib.hid (stx_extract (l ++ m) 0 k)
            have HK1 : Hid (((l).length : Int) ≤ k) := Lib.hid (by have := HCL.out; omega)
            have HK2 : Hid (k ≤ (l ++ m).length) := Lib.hid hk2
            clear HFW ok b6 d6 D5 B5 HCR hk1 hk2 hk3 HR5 HR6
            go_wp2_with fail
            refine HX3.out.mono ?_
            rintro e w7 ⟨rfl, d7, x7⟩
            have B7 := Lib.hid (B6.out.trans x7.below)
            have D7 := Lib.hid d7
            have HX4 := Lib.hid (HRE _ _ _ ((l ++ m).take k) (rd _ _ _).1 (rd _ _ _).2 _ d7).out
            have HX5 := Lib.hid (HDD _ _ _ _ _ _ _ d7).out
            clear HX3 x7 d7 B6 HRE HDD
            go_wp2_with fail
            refine HX4.out.mono ?_
            rintro e w8 ⟨rfl, rfl⟩
            have s1 : (stx ((l ++ m).take k)).size = k := by rw [stx_size]; exact HTK.out
            have s2 : (stx (l)).size = (l).length := stx_size _
            have s3 : (stx (l ++ m)).size = (l ++ m).length := stx_size _
            have t1 : decide ((k : Int) < ((l).length : Nat)) = false := decide_eq_false (by have := HK1.out; omega)
            have t2 : decide ((((l ++ m).length : Nat) : Int) < k) = false := decide_eq_false (by have := HK2.out; omega)
            have t1n : decide (k < (l).length) = false := decide_eq_false (by have := HK1.out; omega)
            have t2n : decide ((l ++ m).length < k) = false := decide_eq_false (by have := HK2.out; omega)
            have t3n : k ≤ (l ++ m).length := HK2.out
            have t3 : (k : Int) ≤ ((l ++ m).length : Nat) := by have := HK2.out; omega
            have t4 := HLT.out
            have hln : ((l ++ m).take k).length ≤ 200 + 100 * (i + 1) := by have := HK2.out; rw [HTK.out]; rw [List.length_append] at this; omega
            have HLN := Lib.hid hln
            clear HX4 hln
            generalize hTS : stx ((l ++ m).take k) = TS at *
            have HTE := Lib.hid hTS
            clear hTS
            generalize stx (l ++ m) = WH at *
            generalize stx (l) = SU at *
            generalize (l).length = sul at *
            generalize (l ++ m).length = whl at *
            go_wp2_with fail
            refine HX5.out.mono ?_
            rintro e w9 ⟨rfl, rfl⟩
            clear HX5
            go_wp2_with fail
            exact ⟨⟨i + 1, (l ++ m).take k, hlt1, hlt2, by rw [HTE.out], by rw [HTE.out], by go_num, HLN.out, D7.out, B7.out⟩, by simp [intOf]; omega⟩
    · have hz : B ≤ wr.heap.size := by have := DA.low; omega
      have HAx := Lib.hid (HAW wr).out
      clear DA hll0
      by_cases hg1 : i < mlen
      · have g1' : decide (i < mlen) = true := decide_eq_true hg1
        have g1n : (i : Int) < mlen := by omega
        obtain rfl : i = 20 := by omega
        rw [show ((20 : Nat) : Int) = 20 from rfl] at *
        clear hgo hg1
        go_wp2_with fail
        refine HAx.out.mono ?_
        rintro e w9 ⟨rfl, b9⟩
        have bz := below_past BA b9 hz
        go_wp2_with fail
        go_ret
        exact ⟨rfl, by rw [HB.out]; exact bz⟩
      · obtain rfl : i = mlen := by omega
        have g1' : decide (i < i) = false := decide_eq_false hg1
        clear hgo hg1
        go_wp2_with fail
        refine HAx.out.mono ?_
        rintro e w9 ⟨rfl, b9⟩
        have bz := below_past BA b9 hz
        go_wp2_with fail
        go_ret
        exact ⟨rfl, by rw [HB.out]; exact bz⟩
set_option maxRecDepth 100000 in
theorem lifted (os : Os) (started : os.Started) (H : Type) (enc : TypeId × Value → H) :
    ReturnsInHanded {} Try.checked os 4 .any (Rows.diskSureSpec.pre6 enc Try.prog Try.f4 Rows.diskSureRow.domain false) (Rows.diskSureSpec.post enc Try.prog Try.f4 false true false false) := by
  refine returnsInHanded_of_change (C := Try.checked) own started (by kernel_rfl) Try.func4
    (ChangeSpec.witness6 (enc := enc) (C := Try.checked) false ⟨#[], #[.string ⟨#[]⟩, .slice none 0 0, .slice none 0 0, .slice none 0 0], []⟩ 8 (by kernel_rfl) (by kernel_rfl) (by kernel_rfl) (by kernel_rfl)) ?_
  intro W base args ds gs before hval0 hW _ _
  have hval : ∀ (j : Nat) t v, Try.f4.params[j]? = some t → args[j]? = some v → Value.okWide Try.prog W .any base t v := hval0
  clear hval0
  have hW' := hW
  obtain ⟨p, q, hA0, hV, rfl, hfz, hnd⟩ := hW
  have hA : DataW.TrodAll enc Try.prog W 0 (fun _ => true) true Try.f4.params.toList args.toList ds p := hA0
  rw [Try.params4] at hA hval
  clear hA0 hfz hnd hV
  have hr : Readable Try.f4.params.toList := by
    rw [Try.params4]
    exact readable_of_all (by kernel_rfl)
  have fin : ∀ W', Below W.heap.size W W' → Rows.diskSureSpec.post enc Try.prog Try.f4 false true false false W args (.bool true) W' := fun W' hb =>
    law_post rfl hW' hr (fun l hl => by
      rw [Try.params4] at hl
      match l, hl with
      | [d1, d2, d3, d4], _ => rfl) (by kernel_rfl) hb
  clear hW' hr
  obtain ⟨v0, v1, v2, v3, d0, d1, d2, d3, p0, p1, p2, p3, rfl, rfl, rfl, h0, h1, h2, h3⟩ := trodAll_four hA; obtain ⟨s, rfl, _, _, w0⟩ := open_string Try.underlying9 (hval 0 9 v0 rfl rfl) h0; obtain ⟨l1, S1, hs1⟩ := in_strs Try.underlying35 Try.underlying9 cellsOf_string (hval 1 35 v1 rfl rfl) h1; obtain ⟨k2, hk2⟩ := in_ints Try.underlying30 Try.underlying3 cellsOf_int (hval 2 30 v2 rfl rfl) h2; obtain ⟨k3, hk3⟩ := in_ints Try.underlying30 Try.underlying3 cellsOf_int (hval 3 30 v3 rfl rfl) h3
  exact (walk s v1 l1 S1 v2 v3 k2 k3 W hs1 hk2 hk3).mono fun e W' ⟨he, hb⟩ => ⟨_, he, fin W' hb⟩
theorem proved : Rows.DiskSureSaid :=
  OpenClaim.holds_of_wide 4 Try.f4 rfl rfl rfl rfl rfl rfl rfl ⟨rfl, rfl, rfl, rfl, rfl⟩ rfl rfl rfl rfl rfl (by kernel_rfl) Try.func4 (by kernel_rfl)
    (of_decide_eq_true (by kernel_rfl)) (by unfold Func.isWrapper; first | (rw [if_pos (by decide +kernel)]; kernel_rfl) | (rw [if_neg (by decide +kernel)]; exact ⟨rfl, rfl⟩))
    (fun os started H enc _ => lifted os started H enc)
end Go.Proofs.Ytmffjnmhbpnkcaa.sure
