/- Texts that the next ones stand on: SortSym. -/
import Derived.Test.YtppgmphojklaeaaGreatDoorPc1
namespace Go.Proofs.YtppgmphojklaeaaGreatDoor
open Go Go.Shelf Go.RowKit Go.Lib Go.Sort

section
variable {P : Program} {α : Type} [Inhabited α]
set_option maxHeartbeats 8000000 in
set_option maxRecDepth 1000000 in
theorem symMergeI {k : Nat} (L : SortPI P k) (enc : α → List Value) (cf : α → α → Int) (g : Nat) (cb : Array Value) (blk off cap : Nat) (d0 : Array α) (w0 : World)
    (eg : ∀ args w, (callFunc g args).run P w = .ok (.enter g args) w) (hcmp : CmpLays P g cb enc k cf blk off d0.size w0) (R : RowK enc k w0 blk off d0) (hsz : d0.size ≤ 1000000000) (hw : Weak (ltOf cf)) :
    ∀ (gas a m b : Nat) (d : Array α) (w : World), b - a ≤ gas → d0.size = d.size → SWK enc k w0 blk off d w → a < m → m < b → b ≤ d.size → 0 ≤ a → NoInv (ltOf cf) (seg d a (m - a)) → NoInv (ltOf cf) (seg d m (b - m)) →
    Calls P 215 #[.slice (some ⟨blk, off, none⟩) d.size cap, .int .i64 a, .int .i64 m, .int .i64 b, .func (.func g) #[] cb] w fun e w' => e = .returned (.tuple #[]) ∧ ∃ d', Merged (ltOf cf) a m b d d' ∧ SWK enc k w0 blk off d' w' := by
  have HC : Aside _ := hcmp
  have HIH : True := trivial
  intro gas
  induction gas with
  | zero => intro a m b d w hg _ _ h1 h2; omega
  | succ gas ih =>
    intro a m b d w hg hs S ham hmb hb _ hnx hny
    have mixed := L.mixed; have t0 := L.t0; have a0 := L.a0; have z0 := L.z0; have v0 := L.v0; have t3 := L.t3; have a3 := L.a3; have z3 := L.z3; have v3 := L.v3; have t4 := L.t4; have a4 := L.a4; have z4 := L.z4; have v4 := L.v4; have ts := L.ts; have ags := L.ags; have zs := L.zs; have vs := L.vs; have tf := L.tf; have af := L.af; have zf := L.zf; have vf := L.vf; have aE := L.aE; have zE := L.zE
    have tu := L.tu; have au := L.au; have zu := L.zu; have vu := L.vu
    have S0 : Aside (SWK enc k w0 blk off d w) := S
    clear S
    have eR : ∀ args w, (callFunc 230 args).run P w = .ok (.enter 230 args) w := enters_of L.hRot (by kernel_rfl) rfl
    have eS : ∀ args w, (callFunc 215 args).run P w = .ok (.enter 215 args) w := enters_of L.hSym (by kernel_rfl) rfl
    go_enter L.hSym, Tryz.ntmps215
    by_cases c1 : m - a = 1
    · as_aux_lemma =>
      have hma : m = a + 1 := by omega
      have HMA : Hid (m = a + 1) := hma
      have w2 : (m : Int) - (a : Int) = 1 := by omega
      clear hma c1
      go_wp2
      clear w2
      go_loopw [10, 11] (fun s10 s11 wr => ∃ (i j : Nat), s10 = .int .i64 i ∧ s11 = .int .i64 j ∧ m ≤ i ∧ i ≤ j ∧ j ≤ b ∧ Hid (i = m ∨ ltOf cf d[i - 1]! d[a]! = true) ∧ Hid (j = b ∨ ltOf cf d[j]! d[a]! = false) ∧ Aside (SWK enc k w0 blk off d wr)) (fun s10 s11 _ => (intOf s11 - intOf s10).toNat)
      case atStart => exact ⟨m, b, rfl, rfl, Nat.le_refl _, by omega, Nat.le_refl _, Or.inl rfl, Or.inl rfl, S0⟩
      case round =>
        clear S0
        obtain ⟨i, j, rfl, rfl, hi, hij, hjb, hA, hB, S1⟩ := hrel
        by_cases hlt : i < j
        · have hltz : (i : Int) < (j : Int) := by omega
          obtain ⟨h, hh⟩ : ∃ h, (i + j) / 2 = h := ⟨_, rfl⟩
          have hh1 : ((i : Int) + j) / 2 = h := by omega
          have hh2 : (i : Int) + j ≤ 2000000000 := by omega
          have hh0 : (0 : Int) ≤ (i : Int) + j := by omega
          have hhw : IntKind.i64.wrap ((i : Int) + j) = (i : Int) + j := by rw [IntKind.wrap_i64]; omega
          have hhl : i ≤ h ∧ h < j := by omega
          clear hh
          have ea : ((h : Int)).toNat = h := by omega
          have pa : (0 : Int) ≤ (h : Int) := by omega
          have ba : (h : Int) < (d.size : Int) := by omega
          have ra : IntKind.i64.wrap ((h : Int)) = (h : Int) := by rw [IntKind.wrap_i64]; omega
          have ec : ((a : Int)).toNat = a := by omega
          have pc : (0 : Int) ≤ (a : Int) := by omega
          have bc : (a : Int) < (d.size : Int) := by omega
          have rc : IntKind.i64.wrap ((a : Int)) = (a : Int) := by rw [IntKind.wrap_i64]; omega
          obtain ⟨x, hx⟩ : ∃ x, x = d[h]! := ⟨_, rfl⟩
          obtain ⟨y, hy⟩ : ∃ y, y = d[a]! := ⟨_, rfl⟩
          have la := S1.out.ld R (by omega) P (h) (by omega)
          have lb := S1.out.ld R (by omega) P (a) (by omega)
          rw [← hx] at la
          rw [← hy] at lb
          have hc := S1.out.cmp HC.out (by omega) x y
          cases hlv : ltOf cf d[h]! d[a]! with
          | true =>
            have hv : cf x y < 0 := by rw [hx, hy]; exact of_decide_eq_true hlv
            have hd : decide (cf x y < 0) = true := decide_eq_true hv
            clear hx hy
            go_wp2_with fail
            go_quiet_grown (first | (go_at_fn g; refine Calls.grown_of (hc _ _)))
            have S2 : Aside (SWK enc k w0 blk off d (grow (wr.drewN nq) osq)) := S1.out.grown nq osq
            clear la lb hc S1
            generalize grow (wr.drewN nq) osq = wu at S2 ⊢
            clear nq osq
            go_wp2
            go_roundw
            case rel => exact ⟨h + 1, j, by go_num, rfl, by omega, by omega, hjb, Or.inr (by rw [Nat.add_sub_cancel]; exact hlv), hB, S2⟩
            case measure => simp [intOf]; omega
          | false =>
            have hv : ¬ cf x y < 0 := by rw [hx, hy]; exact of_decide_eq_false hlv
            have hd : decide (cf x y < 0) = false := decide_eq_false hv
            clear hx hy
            go_wp2_with fail
            go_quiet_grown (first | (go_at_fn g; refine Calls.grown_of (hc _ _)))
            have S2 : Aside (SWK enc k w0 blk off d (grow (wr.drewN nq) osq)) := S1.out.grown nq osq
            clear la lb hc S1
            generalize grow (wr.drewN nq) osq = wu at S2 ⊢
            clear nq osq
            go_wp2
            go_roundw
            case rel => exact ⟨i, h, rfl, rfl, hi, by omega, by omega, hA, Or.inr hlv, S2⟩
            case measure => simp [intOf]; omega
        · obtain rfl : i = j := by omega
          have hltz : ¬ (i : Int) < (i : Int) := by omega
          have hia : a + 1 ≤ i := by have := HMA.out; omega
          have wi : IntKind.i64.wrap ((i : Int) - 1) = (i : Int) - 1 := by rw [IntKind.wrap_i64]; omega
          go_wp2
          go_loopw [13] (fun s13 wr => ∃ (c : Nat) (dk : Array α), s13 = .int .i64 c ∧ a ≤ c ∧ c + 1 ≤ i ∧ dk.size = d.size ∧ Aside (SWK enc k w0 blk off dk wr) ∧ Hid (Via (rotσ a (a + 1) (c + 1)) d dk)) (fun s13 _ => (i - intOf s13).toNat)
          case atStart => exact ⟨a, d, rfl, Nat.le_refl _, by omega, rfl, S1, (Via.refl d).congr fun t _ => rot_none.symm⟩
          case round =>
            clear S1
            obtain ⟨c, dk, rfl, hac, hci, hds, S1, hvia⟩ := hrel
            by_cases hlt2 : c + 1 < i
            · have hltz2 : (c : Int) < (i : Int) - 1 := by omega
              go_wp2_with fail
              have ea : ((c : Int)).toNat = c := by omega
              have pa : (0 : Int) ≤ (c : Int) := by omega
              have ba : (c : Int) < (d.size : Int) := by omega
              have ra : IntKind.i64.wrap ((c : Int)) = (c : Int) := by rw [IntKind.wrap_i64]; omega
              have ec : ((c : Int) + 1).toNat = c + 1 := by omega
              have pc : (0 : Int) ≤ (c : Int) + 1 := by omega
              have bc : (c : Int) + 1 < (d.size : Int) := by omega
              have rc : IntKind.i64.wrap ((c : Int) + 1) = (c : Int) + 1 := by rw [IntKind.wrap_i64]; omega
              have S2 : Aside (SWK enc k w0 blk off (swp dk (c) (c + 1)) ((wr.drew.setCells blk (off + (c) * k) (enc dk[c + 1]!)).setCells blk (off + (c + 1) * k) (enc dk[c]!))) := S1.out.swapped R (c) (c + 1) (by omega) (by omega)
              have la := S1.out.ld1 R (by omega) P (c) (by omega)
              have lb := S1.out.ld1 R (by omega) P (c + 1) (by omega)
              have sa := S1.out.st1 R (by omega) P (c) (by omega) dk[c + 1]!
              have sb := S1.out.st2 R (by omega) P (c) (c + 1) (by omega) (by omega) dk[c + 1]! dk[c]!
              have na : (enc dk[c]!).length = k := R.hk _
              have nb : (enc dk[c + 1]!).length = k := R.hk _
              have V2 : Hid (Via (rotσ a (a + 1) (c + 2)) d (swp dk c (c + 1))) := (hvia.out.trans (via_swp dk (i := c) (j := c + 1) (by omega) (by omega)) (fun t ht => one_lt (by omega) (by omega) ht)).congr fun t _ => rot_up hac
              generalize enc dk[c]! = cI at S2 la sb na
              generalize enc dk[c + 1]! = cJ at S2 lb sa sb nb
              clear S1 hvia
              go_wp2_with fail
              go_big_region_o
              clear la lb sa sb
              generalize (wr.drew.setCells blk (off + (c) * k) cJ).setCells blk (off + (c + 1) * k) cI = wv at S2 ⊢
              go_wp2
              go_roundw
              case rel => exact ⟨c + 1, _, by go_num, by omega, by omega, by rw [size_swp]; exact hds, S2, V2⟩
              case measure => simp [intOf]; omega
            · have hltz2 : ¬ (c : Int) < (i : Int) - 1 := by omega
              go_wp2
              first | go_end0 | ((try simp only [Exit.inBlock, Exit.then]); refine bodyPost_ret (results_none rfl _ _ _) rfl ?_)
              obtain rfl : i = c + 1 := by omega
              obtain rfl := HMA.out
              exact ⟨rfl, dk, merged_one hw hvia.out hi hjb hb hny hA.out hB.out, S1.out⟩
    · have n1 : IntKind.i64.wrap ((m : Int) - (a : Int)) = (m : Int) - (a : Int) := by rw [IntKind.wrap_i64]; omega
      have n1' : ¬ ((m : Int) - (a : Int) = 1) := by omega
      have n1b : (((m : Int) - (a : Int)) == 1) = false := by rw [beq_eq_false_iff_ne]; omega
      by_cases c2 : b - m = 1
      · as_aux_lemma =>
        have hbm : b = m + 1 := by omega
        have HBM : Hid (b = m + 1) := hbm
        have w1 : (b : Int) - (m : Int) = 1 := by omega
        clear hbm c2
        go_wp2
        clear w1 n1 n1' n1b
        go_loopw [14, 15] (fun s10 s11 wr => ∃ (i j : Nat), s10 = .int .i64 i ∧ s11 = .int .i64 j ∧ a ≤ i ∧ i ≤ j ∧ j ≤ m ∧ Hid (i = a ∨ ltOf cf d[m]! d[i - 1]! = false) ∧ Hid (j = m ∨ ltOf cf d[m]! d[j]! = true) ∧ Aside (SWK enc k w0 blk off d wr)) (fun s10 s11 _ => (intOf s11 - intOf s10).toNat)
        case atStart => exact ⟨a, m, rfl, rfl, Nat.le_refl _, by omega, Nat.le_refl _, Or.inl rfl, Or.inl rfl, S0⟩
        case round =>
          clear S0
          obtain ⟨i, j, rfl, rfl, hi, hij, hjb, hA, hB, S1⟩ := hrel
          by_cases hlt : i < j
          · have hltz : (i : Int) < (j : Int) := by omega
            obtain ⟨h, hh⟩ : ∃ h, (i + j) / 2 = h := ⟨_, rfl⟩
            have hh1 : ((i : Int) + j) / 2 = h := by omega
            have hh2 : (i : Int) + j ≤ 2000000000 := by omega
            have hh0 : (0 : Int) ≤ (i : Int) + j := by omega
            have hhw : IntKind.i64.wrap ((i : Int) + j) = (i : Int) + j := by rw [IntKind.wrap_i64]; omega
            have hhl : i ≤ h ∧ h < j := by omega
            clear hh
            have ea : ((m : Int)).toNat = m := by omega
            have pa : (0 : Int) ≤ (m : Int) := by omega
            have ba : (m : Int) < (d.size : Int) := by omega
            have ra : IntKind.i64.wrap ((m : Int)) = (m : Int) := by rw [IntKind.wrap_i64]; omega
            have ec : ((h : Int)).toNat = h := by omega
            have pc : (0 : Int) ≤ (h : Int) := by omega
            have bc : (h : Int) < (d.size : Int) := by omega
            have rc : IntKind.i64.wrap ((h : Int)) = (h : Int) := by rw [IntKind.wrap_i64]; omega
            obtain ⟨x, hx⟩ : ∃ x, x = d[m]! := ⟨_, rfl⟩
            obtain ⟨y, hy⟩ : ∃ y, y = d[h]! := ⟨_, rfl⟩
            have la := S1.out.ld R (by omega) P (m) (by omega)
            have lb := S1.out.ld R (by omega) P (h) (by omega)
            rw [← hx] at la
            rw [← hy] at lb
            have hc := S1.out.cmp HC.out (by omega) x y
            cases hlv : ltOf cf d[m]! d[h]! with
            | false =>
              have hv : ¬ cf x y < 0 := by rw [hx, hy]; exact of_decide_eq_false hlv
              have hd : decide (cf x y < 0) = false := decide_eq_false hv
              clear hx hy
              go_wp2_with fail
              go_quiet_grown (first | (go_at_fn g; refine Calls.grown_of (hc _ _)))
              have S2 : Aside (SWK enc k w0 blk off d (grow (wr.drewN nq) osq)) := S1.out.grown nq osq
              clear la lb hc S1
              generalize grow (wr.drewN nq) osq = wu at S2 ⊢
              clear nq osq
              go_wp2
              go_roundw
              case rel => exact ⟨h + 1, j, by go_num, rfl, by omega, by omega, hjb, Or.inr (by rw [Nat.add_sub_cancel]; exact hlv), hB, S2⟩
              case measure => simp [intOf]; omega
            | true =>
              have hv : cf x y < 0 := by rw [hx, hy]; exact of_decide_eq_true hlv
              have hd : decide (cf x y < 0) = true := decide_eq_true hv
              clear hx hy
              go_wp2_with fail
              go_quiet_grown (first | (go_at_fn g; refine Calls.grown_of (hc _ _)))
              have S2 : Aside (SWK enc k w0 blk off d (grow (wr.drewN nq) osq)) := S1.out.grown nq osq
              clear la lb hc S1
              generalize grow (wr.drewN nq) osq = wu at S2 ⊢
              clear nq osq
              go_wp2
              go_roundw
              case rel => exact ⟨i, h, rfl, rfl, hi, by omega, by omega, hA, Or.inr hlv, S2⟩
              case measure => simp [intOf]; omega
          · obtain rfl : i = j := by omega
            have hltz : ¬ (i : Int) < (i : Int) := by omega
            go_wp2
            go_loopw [17] (fun s13 wr => ∃ (c : Nat) (dk : Array α), s13 = .int .i64 c ∧ i ≤ c ∧ c ≤ m ∧ dk.size = d.size ∧ Aside (SWK enc k w0 blk off dk wr) ∧ Hid (Via (rotσ c m (m + 1)) d dk)) (fun s13 _ => (intOf s13).toNat)
            case atStart => exact ⟨m, d, rfl, hjb, Nat.le_refl _, rfl, S1, (Via.refl d).congr fun t _ => rot_none'.symm⟩
            case round =>
              clear S1
              obtain ⟨c, dk, rfl, hic, hcm, hds, S1, hvia⟩ := hrel
              by_cases hlt2 : i < c
              · have hltz2 : (i : Int) < (c : Int) := by omega
                go_wp2_with fail
                have ea : ((c : Int)).toNat = c := by omega
                have pa : (0 : Int) ≤ (c : Int) := by omega
                have ba : (c : Int) < (d.size : Int) := by omega
                have ra : IntKind.i64.wrap ((c : Int)) = (c : Int) := by rw [IntKind.wrap_i64]; omega
                have ec : ((c : Int) - 1).toNat = c - 1 := by omega
                have pc : (0 : Int) ≤ (c : Int) - 1 := by omega
                have bc : (c : Int) - 1 < (d.size : Int) := by omega
                have rc : IntKind.i64.wrap ((c : Int) - 1) = (c : Int) - 1 := by rw [IntKind.wrap_i64]; omega
                have S2 : Aside (SWK enc k w0 blk off (swp dk (c) (c - 1)) ((wr.drew.setCells blk (off + (c) * k) (enc dk[c - 1]!)).setCells blk (off + (c - 1) * k) (enc dk[c]!))) := S1.out.swapped R (c) (c - 1) (by omega) (by omega)
                have la := S1.out.ld1 R (by omega) P (c) (by omega)
                have lb := S1.out.ld1 R (by omega) P (c - 1) (by omega)
                have sa := S1.out.st1 R (by omega) P (c) (by omega) dk[c - 1]!
                have sb := S1.out.st2 R (by omega) P (c) (c - 1) (by omega) (by omega) dk[c - 1]! dk[c]!
                have na : (enc dk[c]!).length = k := R.hk _
                have nb : (enc dk[c - 1]!).length = k := R.hk _
                have V2 : Hid (Via (rotσ (c - 1) m (m + 1)) d (swp dk c (c - 1))) := (hvia.out.trans (via_swp dk (i := c) (j := c - 1) (by omega) (by omega)) (fun t ht => one_lt (by omega) (by omega) ht)).congr fun t _ => rot_down (by omega) hcm
                generalize enc dk[c]! = cI at S2 la sb na
                generalize enc dk[c - 1]! = cJ at S2 lb sa sb nb
                clear S1 hvia
                go_wp2_with fail
                go_big_region_o
                clear la lb sa sb
                generalize (wr.drew.setCells blk (off + (c) * k) cJ).setCells blk (off + (c - 1) * k) cI = wv at S2 ⊢
                go_wp2
                go_roundw
                case rel => exact ⟨c - 1, _, by congr 1; omega, by omega, by omega, by rw [size_swp]; exact hds, S2, V2⟩
                case measure => simp [intOf]; omega
              · have hltz2 : ¬ (i : Int) < (c : Int) := by omega
                go_wp2
                first | go_end0 | ((try simp only [Exit.inBlock, Exit.then]); refine bodyPost_ret (results_none rfl _ _ _) rfl ?_)
                obtain rfl : i = c := by omega
                obtain rfl := HBM.out
                exact ⟨rfl, dk, merged_last hw hvia.out hi hcm hb hnx hA.out hB.out, S1.out⟩
      · have n2 : IntKind.i64.wrap ((b : Int) - (m : Int)) = (b : Int) - (m : Int) := by rw [IntKind.wrap_i64]; omega
        have n2' : ¬ ((b : Int) - (m : Int) = 1) := by omega
        have n2b : (((b : Int) - (m : Int)) == 1) = false := by rw [beq_eq_false_iff_ne]; omega
        obtain ⟨mid, hmid⟩ : ∃ mid, (a + b) / 2 = mid := ⟨_, rfl⟩
        have hm1 : ((a : Int) + b) / 2 = mid := by omega
        have hm2 : (a : Int) + b ≤ 2000000000 := by omega
        have hm0 : (0 : Int) ≤ (a : Int) + b := by omega
        have hmw : IntKind.i64.wrap ((a : Int) + b) = (a : Int) + b := by rw [IntKind.wrap_i64]; omega
        have hmb1 : a < mid ∧ mid < b ∧ a + b ≤ 2 * mid + 1 ∧ 2 * mid ≤ a + b := by omega
        clear hmid
        by_cases c3 : mid < m
        · have c3z : (mid : Int) < (m : Int) := by omega
          as_aux_lemma =>
          have wp : IntKind.i64.wrap ((mid : Int) + (m : Int)) = (mid : Int) + (m : Int) := by rw [IntKind.wrap_i64]; omega
          have wp1 : IntKind.i64.wrap ((mid : Int) + (m : Int) - 1) = (mid : Int) + (m : Int) - 1 := by rw [IntKind.wrap_i64]; omega
          have wpb : IntKind.i64.wrap ((mid : Int) + (m : Int) - (b : Int)) = (mid : Int) + (m : Int) - (b : Int) := by rw [IntKind.wrap_i64]; omega
          go_wp2
          clear n1 n1' n1b n2 n2b n2'
          go_loopw [20, 21] (fun s20 s21 wr => ∃ (s r : Nat), s20 = .int .i64 s ∧ s21 = .int .i64 r ∧ mid + m - b ≤ s ∧ s ≤ r ∧ r ≤ mid ∧ Hid (s = mid + m - b ∨ ltOf cf d[mid + m - s]! d[s - 1]! = false) ∧ Hid (r = mid ∨ ltOf cf d[mid + m - 1 - r]! d[r]! = true) ∧ Aside (SWK enc k w0 blk off d wr)) (fun s20 s21 _ => (intOf s21 - intOf s20).toNat)
          case atStart => exact ⟨mid + m - b, mid, by first | rfl | (congr 1; omega), rfl, Nat.le_refl _, by omega, Nat.le_refl _, Or.inl rfl, Or.inl rfl, S0⟩
          case round =>
            clear S0
            obtain ⟨s, r, rfl, rfl, hs0, hsr, hr0, hA, hB, S1⟩ := hrel
            by_cases hlt : s < r
            · have hltz : (s : Int) < (r : Int) := by omega
              obtain ⟨h, hh⟩ : ∃ h, (s + r) / 2 = h := ⟨_, rfl⟩
              have hh1 : ((s : Int) + r) / 2 = h := by omega
              have hh2 : (s : Int) + r ≤ 2000000000 := by omega
              have hh0 : (0 : Int) ≤ (s : Int) + r := by omega
              have hhw : IntKind.i64.wrap ((s : Int) + r) = (s : Int) + r := by rw [IntKind.wrap_i64]; omega
              have hhl : s ≤ h ∧ h < r := by omega
              clear hh
              obtain ⟨q, hq⟩ : ∃ q, mid + m - 1 - h = q := ⟨_, rfl⟩
              have wq : IntKind.i64.wrap ((mid : Int) + (m : Int) - 1 - (h : Int)) = (q : Int) := by rw [IntKind.wrap_i64]; omega
              have hqd : q < d.size := by omega
              have HQ : Hid (mid + m - 1 - h = q) := hq
              clear hq
              have ea : ((q : Int)).toNat = q := by omega
              have pa : (0 : Int) ≤ (q : Int) := by omega
              have ba : (q : Int) < (d.size : Int) := by omega
              have ra : IntKind.i64.wrap ((q : Int)) = (q : Int) := by rw [IntKind.wrap_i64]; omega
              have ec : ((h : Int)).toNat = h := by omega
              have pc : (0 : Int) ≤ (h : Int) := by omega
              have bc : (h : Int) < (d.size : Int) := by omega
              have rc : IntKind.i64.wrap ((h : Int)) = (h : Int) := by rw [IntKind.wrap_i64]; omega
              obtain ⟨x, hx⟩ : ∃ x, x = d[q]! := ⟨_, rfl⟩
              obtain ⟨y, hy⟩ : ∃ y, y = d[h]! := ⟨_, rfl⟩
              have la := S1.out.ld R (by omega) P (q) (by omega)
              have lb := S1.out.ld R (by omega) P (h) (by omega)
              rw [← hx] at la
              rw [← hy] at lb
              have hc := S1.out.cmp HC.out (by omega) x y
              cases hlv : ltOf cf d[q]! d[h]! with
              | false =>
                have hv : ¬ cf x y < 0 := by rw [hx, hy]; exact of_decide_eq_false hlv
                have hd : decide (cf x y < 0) = false := decide_eq_false hv
                clear hx hy
                go_wp2_with fail
                go_quiet_grown (first | (go_at_fn g; refine Calls.grown_of (hc _ _)))
                have S2 : Aside (SWK enc k w0 blk off d (grow (wr.drewN nq) osq)) := S1.out.grown nq osq
                clear la lb hc S1
                generalize grow (wr.drewN nq) osq = wu at S2 ⊢
                clear nq osq
                go_wp2
                go_roundw
                case rel => exact ⟨h + 1, r, by go_num, rfl, by omega, by omega, hr0, Or.inr (by rw [Nat.add_sub_cancel, show mid + m - (h + 1) = q by have := HQ.out; omega]; exact hlv), hB, S2⟩
                case measure => simp [intOf]; omega
              | true =>
                have hv : cf x y < 0 := by rw [hx, hy]; exact of_decide_eq_true hlv
                have hd : decide (cf x y < 0) = true := decide_eq_true hv
                clear hx hy
                go_wp2_with fail
                go_quiet_grown (first | (go_at_fn g; refine Calls.grown_of (hc _ _)))
                have S2 : Aside (SWK enc k w0 blk off d (grow (wr.drewN nq) osq)) := S1.out.grown nq osq
                clear la lb hc S1
                generalize grow (wr.drewN nq) osq = wu at S2 ⊢
                clear nq osq
                go_wp2
                go_roundw
                case rel => exact ⟨s, h, rfl, rfl, hs0, by omega, by omega, hA, Or.inr (by rw [HQ.out]; exact hlv), S2⟩
                case measure => simp [intOf]; omega
            · obtain rfl : s = r := by omega
              have hltz : ¬ (s : Int) < (s : Int) := by omega
              obtain ⟨e, he⟩ : ∃ e, mid + m - s = e := ⟨_, rfl⟩
              have heI : (mid : Int) + (m : Int) - (s : Int) = (e : Int) := by omega
              have hew : IntKind.i64.wrap ((mid : Int) + (m : Int) - (s : Int)) = (e : Int) := by rw [IntKind.wrap_i64]; omega
              have hsa : a ≤ s := by omega
              have hsm : s ≤ m := by omega
              have hme : m ≤ e := by omega
              have heb : e ≤ b := by omega
              have HAB : Hid ((s = a ∨ e = b ∨ ltOf cf d[e]! d[s - 1]! = false) ∧ (s = m ∨ e = m ∨ ltOf cf d[e - 1]! d[s]! = true)) := by
                refine ⟨?_, ?_⟩
                · rcases hA.out with h | h
                  · by_cases q : s = a
                    · exact Or.inl q
                    · exact Or.inr (Or.inl (by omega))
                  · rw [he] at h
                    exact Or.inr (Or.inr h)
                · rcases hB.out with h | h
                  · by_cases q : s = m
                    · exact Or.inl q
                    · exact Or.inr (Or.inl (by omega))
                  · rw [show mid + m - 1 - s = e - 1 by omega] at h
                    exact Or.inr (Or.inr h)
              clear hA hB
              by_cases cr : s < m ∧ m < e
              · have r1 : (s : Int) < (m : Int) := by omega
                have r1d : decide ((s : Int) < (m : Int)) = true := decide_eq_true r1
                have r2 : (m : Int) < (e : Int) := by omega
                have call := rotateI L enc (.func (.func g) #[] cb) blk off cap s m e d0 d w0 wr R hs S1.out cr.1 cr.2 (by omega) (by omega)
                go_wp2_with fail
                go_at_fn 230
                refine call.mono ?_
                rintro e1 w1 ⟨rfl, d1, v1, S1'⟩
                clear call S1 r1 r1d r2
                have S1 : Aside (SWK enc k w0 blk off d1 w1) := S1'
                clear S1'
                obtain ⟨r1, r2, r3⟩ := v1.rot hsm hme (by omega)
                rw [show s + (e - m) = mid by omega] at r2
                have V1 : Hid (Via (rotσ s m e) d d1 ∧ seg d1 s (e - m) = seg d m (e - m) ∧ seg d1 mid (m - s) = seg d s (m - s) ∧ ∀ t, t < d.size → (t < s ∨ e ≤ t) → d1[t]! = d[t]!) := ⟨v1, r1, r2, r3⟩
                have z1 : d1.size = d.size := v1.size
                clear v1 r1 r2 r3
                by_cases c4 : a < s ∧ s < mid
                · have q3 : (a : Int) < (s : Int) := by omega
                  have q3d : decide ((a : Int) < (s : Int)) = true := decide_eq_true q3
                  have q4 : (s : Int) < (mid : Int) := by omega
                  try (exfalso; omega)
                  all_goals
                    have p1 : seg d1 a (s - a) = seg d a (s - a) := seg_congr fun t ht => V1.out.2.2.2 (a + t) (by omega) (by omega)
                    have p2 : seg d1 s (mid - s) = seg d m (e - m) := by rw [show mid - s = e - m by omega]; exact V1.out.2.1
                    have x1 : NoInv (ltOf cf) (seg d1 a (s - a)) := by rw [p1, ← seg_take d a (m - a) (s - a) (by omega)]; exact hnx.take _
                    have x2 : NoInv (ltOf cf) (seg d1 s (mid - s)) := by rw [p2, ← seg_take d m (b - m) (e - m) (by omega)]; exact hny.take _
                    have call := ih a s mid d1 w1 (by omega) (by omega) S1.out (by omega) (by omega) (by omega) (by omega) x1 x2
                    rw [z1] at call
                    clear p1 p2 x1 x2
                    go_wp2_with fail
                    go_at_fn 215
                    refine call.mono ?_
                    rintro e2 w2 ⟨rfl, d2, m2, S2'⟩
                    have S2 : Aside (SWK enc k w0 blk off d2 w2) := S2'
                    have M2 : Hid (Merged (ltOf cf) a s mid d1 d2) := m2
                    have z2 : d2.size = d.size := m2.size.trans z1
                    clear call m2 S1 S2' q3 q3d q4
                    by_cases c5 : mid < e ∧ e < b
                    · have q5 : (mid : Int) < (e : Int) := by omega
                      have q6 : (e : Int) < (b : Int) := by omega
                      have q5d : decide ((mid : Int) < (e : Int)) = true := decide_eq_true q5
                      try (exfalso; omega)
                      all_goals
                        have p3 : seg d2 mid (e - mid) = seg d s (m - s) := by
                          rw [show e - mid = m - s by omega]
                          exact (seg_congr fun t ht => M2.out.out (mid + t) (by omega) (by omega)).trans V1.out.2.2.1
                        have p4 : seg d2 e (b - e) = seg d e (b - e) := seg_congr fun t ht => (M2.out.out (e + t) (by omega) (by omega)).trans (V1.out.2.2.2 (e + t) (by omega) (by omega))
                        have x3 : NoInv (ltOf cf) (seg d2 mid (e - mid)) := by
                          rw [p3, ← show (seg d a (m - a)).drop (s - a) = seg d s (m - s) by rw [seg_drop _ _ _ _ (by omega), show a + (s - a) = s by omega, show m - a - (s - a) = m - s by omega]]
                          exact hnx.drop _
                        have x4 : NoInv (ltOf cf) (seg d2 e (b - e)) := by
                          rw [p4, ← show (seg d m (b - m)).drop (e - m) = seg d e (b - e) by rw [seg_drop _ _ _ _ (by omega), show m + (e - m) = e by omega, show b - m - (e - m) = b - e by omega]]
                          exact hny.drop _
                        have call := ih mid e b d2 w2 (by omega) (by omega) S2.out (by omega) (by omega) (by omega) (by omega) x3 x4
                        rw [z2] at call
                        clear p3 p4 x3 x4
                        go_wp2_with fail
                        go_at_fn 215
                        refine call.mono ?_
                        rintro e3 w3 ⟨rfl, d3, m3, S3⟩
                        have M3 : Hid (Merged (ltOf cf) mid e b d2 d3) := m3
                        clear call m3
                        go_wp2
                        first | go_end0 | ((try simp only [Exit.inBlock, Exit.then]); refine bodyPost_ret (results_none rfl _ _ _) rfl ?_)
                        exact ⟨rfl, d3, merged_parts hw hsa hsm hme heb hb hnx hny HAB.out.1 HAB.out.2 V1.out.1 (by rw [show s + (e - m) = mid by omega]; exact M2.out) (by rw [show s + (e - m) = mid by omega]; exact M3.out), S3⟩
                    · have hfin : ∃ d', Merged (ltOf cf) a m b d d' ∧ SWK enc k w0 blk off d' w2 := ⟨d2, merged_parts hw hsa hsm hme heb hb hnx hny HAB.out.1 HAB.out.2 V1.out.1 (by rw [show s + (e - m) = mid by omega]; exact M2.out) (by
                        rw [show s + (e - m) = mid by omega]
                        by_cases h1 : mid < e
                        · rw [show e = b by omega]; exact merged_skip'
                        · rw [show e = mid by omega]; exact merged_skip), S2.out⟩
                      have HFIN : Hid _ := hfin
                      clear hfin
                      by_cases h1 : mid < e
                      · have q5 : (mid : Int) < (e : Int) := by omega
                        have q5d : decide ((mid : Int) < (e : Int)) = true := decide_eq_true q5
                        have q6 : decide ((e : Int) < (b : Int)) = false := decide_eq_false (by omega)
                        try (exfalso; omega)
                        all_goals
                          go_wp2
                          first | go_end0 | ((try simp only [Exit.inBlock, Exit.then]); refine bodyPost_ret (results_none rfl _ _ _) rfl ?_)
                          exact ⟨rfl, HFIN.out⟩
                      · have q5 : decide ((mid : Int) < (e : Int)) = false := decide_eq_false (by omega)
                        try (exfalso; omega)
                        all_goals
                          go_wp2
                          first | go_end0 | ((try simp only [Exit.inBlock, Exit.then]); refine bodyPost_ret (results_none rfl _ _ _) rfl ?_)
                          exact ⟨rfl, HFIN.out⟩
                · obtain ⟨d2, hd2⟩ : ∃ x, x = d1 := ⟨_, rfl⟩
                  have S2 : Aside (SWK enc k w0 blk off d2 w1) := by rw [hd2]; exact S1.out
                  have M2 : Hid (Merged (ltOf cf) a s mid d1 d2) := by
                    show Merged (ltOf cf) a s mid d1 d2
                    rw [hd2]
                    by_cases h1 : a < s
                    · rw [show s = mid by omega]; exact merged_skip'
                    · rw [show s = a by omega]; exact merged_skip
                  have z2 : d2.size = d.size := by rw [hd2]; exact z1
                  clear hd2 S1
                  by_cases h1 : a < s
                  · have q3 : (a : Int) < (s : Int) := by omega
                    have q3d : decide ((a : Int) < (s : Int)) = true := decide_eq_true q3
                    have q4 : decide ((s : Int) < (mid : Int)) = false := decide_eq_false (by omega)
                    clear h1
                    by_cases c5 : mid < e ∧ e < b
                    · have q5 : (mid : Int) < (e : Int) := by omega
                      have q6 : (e : Int) < (b : Int) := by omega
                      have q5d : decide ((mid : Int) < (e : Int)) = true := decide_eq_true q5
                      try (exfalso; omega)
                      all_goals
                        have p3 : seg d2 mid (e - mid) = seg d s (m - s) := by
                          rw [show e - mid = m - s by omega]
                          exact (seg_congr fun t ht => M2.out.out (mid + t) (by omega) (by omega)).trans V1.out.2.2.1
                        have p4 : seg d2 e (b - e) = seg d e (b - e) := seg_congr fun t ht => (M2.out.out (e + t) (by omega) (by omega)).trans (V1.out.2.2.2 (e + t) (by omega) (by omega))
                        have x3 : NoInv (ltOf cf) (seg d2 mid (e - mid)) := by
                          rw [p3, ← show (seg d a (m - a)).drop (s - a) = seg d s (m - s) by rw [seg_drop _ _ _ _ (by omega), show a + (s - a) = s by omega, show m - a - (s - a) = m - s by omega]]
                          exact hnx.drop _
                        have x4 : NoInv (ltOf cf) (seg d2 e (b - e)) := by
                          rw [p4, ← show (seg d m (b - m)).drop (e - m) = seg d e (b - e) by rw [seg_drop _ _ _ _ (by omega), show m + (e - m) = e by omega, show b - m - (e - m) = b - e by omega]]
                          exact hny.drop _
                        have call := ih mid e b d2 w1 (by omega) (by omega) S2.out (by omega) (by omega) (by omega) (by omega) x3 x4
                        rw [z2] at call
                        clear p3 p4 x3 x4
                        go_wp2_with fail
                        go_at_fn 215
                        refine call.mono ?_
                        rintro e3 w3 ⟨rfl, d3, m3, S3⟩
                        have M3 : Hid (Merged (ltOf cf) mid e b d2 d3) := m3
                        clear call m3
                        go_wp2
                        first | go_end0 | ((try simp only [Exit.inBlock, Exit.then]); refine bodyPost_ret (results_none rfl _ _ _) rfl ?_)
                        exact ⟨rfl, d3, merged_parts hw hsa hsm hme heb hb hnx hny HAB.out.1 HAB.out.2 V1.out.1 (by rw [show s + (e - m) = mid by omega]; exact M2.out) (by rw [show s + (e - m) = mid by omega]; exact M3.out), S3⟩
                    · have hfin : ∃ d', Merged (ltOf cf) a m b d d' ∧ SWK enc k w0 blk off d' w1 := ⟨d2, merged_parts hw hsa hsm hme heb hb hnx hny HAB.out.1 HAB.out.2 V1.out.1 (by rw [show s + (e - m) = mid by omega]; exact M2.out) (by
                        rw [show s + (e - m) = mid by omega]
                        by_cases h1 : mid < e
                        · rw [show e = b by omega]; exact merged_skip'
                        · rw [show e = mid by omega]; exact merged_skip), S2.out⟩
                      have HFIN : Hid _ := hfin
                      clear hfin
                      by_cases h1 : mid < e
                      · have q5 : (mid : Int) < (e : Int) := by omega
                        have q5d : decide ((mid : Int) < (e : Int)) = true := decide_eq_true q5
                        have q6 : decide ((e : Int) < (b : Int)) = false := decide_eq_false (by omega)
                        try (exfalso; omega)
                        all_goals
                          go_wp2
                          first | go_end0 | ((try simp only [Exit.inBlock, Exit.then]); refine bodyPost_ret (results_none rfl _ _ _) rfl ?_)
                          exact ⟨rfl, HFIN.out⟩
                      · have q5 : decide ((mid : Int) < (e : Int)) = false := decide_eq_false (by omega)
                        try (exfalso; omega)
                        all_goals
                          go_wp2
                          first | go_end0 | ((try simp only [Exit.inBlock, Exit.then]); refine bodyPost_ret (results_none rfl _ _ _) rfl ?_)
                          exact ⟨rfl, HFIN.out⟩
                  · have q3 : decide ((a : Int) < (s : Int)) = false := decide_eq_false (by omega)
                    clear h1
                    by_cases c5 : mid < e ∧ e < b
                    · have q5 : (mid : Int) < (e : Int) := by omega
                      have q6 : (e : Int) < (b : Int) := by omega
                      have q5d : decide ((mid : Int) < (e : Int)) = true := decide_eq_true q5
                      try (exfalso; omega)
                      all_goals
                        have p3 : seg d2 mid (e - mid) = seg d s (m - s) := by
                          rw [show e - mid = m - s by omega]
                          exact (seg_congr fun t ht => M2.out.out (mid + t) (by omega) (by omega)).trans V1.out.2.2.1
                        have p4 : seg d2 e (b - e) = seg d e (b - e) := seg_congr fun t ht => (M2.out.out (e + t) (by omega) (by omega)).trans (V1.out.2.2.2 (e + t) (by omega) (by omega))
                        have x3 : NoInv (ltOf cf) (seg d2 mid (e - mid)) := by
                          rw [p3, ← show (seg d a (m - a)).drop (s - a) = seg d s (m - s) by rw [seg_drop _ _ _ _ (by omega), show a + (s - a) = s by omega, show m - a - (s - a) = m - s by omega]]
                          exact hnx.drop _
                        have x4 : NoInv (ltOf cf) (seg d2 e (b - e)) := by
                          rw [p4, ← show (seg d m (b - m)).drop (e - m) = seg d e (b - e) by rw [seg_drop _ _ _ _ (by omega), show m + (e - m) = e by omega, show b - m - (e - m) = b - e by omega]]
                          exact hny.drop _
                        have call := ih mid e b d2 w1 (by omega) (by omega) S2.out (by omega) (by omega) (by omega) (by omega) x3 x4
                        rw [z2] at call
                        clear p3 p4 x3 x4
                        go_wp2_with fail
                        go_at_fn 215
                        refine call.mono ?_
                        rintro e3 w3 ⟨rfl, d3, m3, S3⟩
                        have M3 : Hid (Merged (ltOf cf) mid e b d2 d3) := m3
                        clear call m3
                        go_wp2
                        first | go_end0 | ((try simp only [Exit.inBlock, Exit.then]); refine bodyPost_ret (results_none rfl _ _ _) rfl ?_)
                        exact ⟨rfl, d3, merged_parts hw hsa hsm hme heb hb hnx hny HAB.out.1 HAB.out.2 V1.out.1 (by rw [show s + (e - m) = mid by omega]; exact M2.out) (by rw [show s + (e - m) = mid by omega]; exact M3.out), S3⟩
                    · have hfin : ∃ d', Merged (ltOf cf) a m b d d' ∧ SWK enc k w0 blk off d' w1 := ⟨d2, merged_parts hw hsa hsm hme heb hb hnx hny HAB.out.1 HAB.out.2 V1.out.1 (by rw [show s + (e - m) = mid by omega]; exact M2.out) (by
                        rw [show s + (e - m) = mid by omega]
                        by_cases h1 : mid < e
                        · rw [show e = b by omega]; exact merged_skip'
                        · rw [show e = mid by omega]; exact merged_skip), S2.out⟩
                      have HFIN : Hid _ := hfin
                      clear hfin
                      by_cases h1 : mid < e
                      · have q5 : (mid : Int) < (e : Int) := by omega
                        have q5d : decide ((mid : Int) < (e : Int)) = true := decide_eq_true q5
                        have q6 : decide ((e : Int) < (b : Int)) = false := decide_eq_false (by omega)
                        try (exfalso; omega)
                        all_goals
                          go_wp2
                          first | go_end0 | ((try simp only [Exit.inBlock, Exit.then]); refine bodyPost_ret (results_none rfl _ _ _) rfl ?_)
                          exact ⟨rfl, HFIN.out⟩
                      · have q5 : decide ((mid : Int) < (e : Int)) = false := decide_eq_false (by omega)
                        try (exfalso; omega)
                        all_goals
                          go_wp2
                          first | go_end0 | ((try simp only [Exit.inBlock, Exit.then]); refine bodyPost_ret (results_none rfl _ _ _) rfl ?_)
                          exact ⟨rfl, HFIN.out⟩
              · obtain ⟨d1, hd1⟩ : ∃ x, x = d := ⟨_, rfl⟩
                have v1 : Via (rotσ s m e) d d1 := by rw [hd1]; exact via_none (by omega) hsm hme
                have S1' : Aside (SWK enc k w0 blk off d1 wr) := by rw [hd1]; exact S1.out
                clear hd1 S1
                have S1 := S1'
                clear S1'
                by_cases h1 : s < m
                · have r1 : (s : Int) < (m : Int) := by omega
                  have r1d : decide ((s : Int) < (m : Int)) = true := decide_eq_true r1
                  have r2 : decide ((m : Int) < (e : Int)) = false := decide_eq_false (by omega)
                  clear h1
                  obtain ⟨r1, r2, r3⟩ := v1.rot hsm hme (by omega)
                  rw [show s + (e - m) = mid by omega] at r2
                  have V1 : Hid (Via (rotσ s m e) d d1 ∧ seg d1 s (e - m) = seg d m (e - m) ∧ seg d1 mid (m - s) = seg d s (m - s) ∧ ∀ t, t < d.size → (t < s ∨ e ≤ t) → d1[t]! = d[t]!) := ⟨v1, r1, r2, r3⟩
                  have z1 : d1.size = d.size := v1.size
                  clear v1 r1 r2 r3
                  by_cases c4 : a < s ∧ s < mid
                  · have q3 : (a : Int) < (s : Int) := by omega
                    have q3d : decide ((a : Int) < (s : Int)) = true := decide_eq_true q3
                    have q4 : (s : Int) < (mid : Int) := by omega
                    try (exfalso; omega)
                    all_goals
                      have p1 : seg d1 a (s - a) = seg d a (s - a) := seg_congr fun t ht => V1.out.2.2.2 (a + t) (by omega) (by omega)
                      have p2 : seg d1 s (mid - s) = seg d m (e - m) := by rw [show mid - s = e - m by omega]; exact V1.out.2.1
                      have x1 : NoInv (ltOf cf) (seg d1 a (s - a)) := by rw [p1, ← seg_take d a (m - a) (s - a) (by omega)]; exact hnx.take _
                      have x2 : NoInv (ltOf cf) (seg d1 s (mid - s)) := by rw [p2, ← seg_take d m (b - m) (e - m) (by omega)]; exact hny.take _
                      have call := ih a s mid d1 wr (by omega) (by omega) S1.out (by omega) (by omega) (by omega) (by omega) x1 x2
                      rw [z1] at call
                      clear p1 p2 x1 x2
                      go_wp2_with fail
                      go_at_fn 215
                      refine call.mono ?_
                      rintro e2 w2 ⟨rfl, d2, m2, S2'⟩
                      have S2 : Aside (SWK enc k w0 blk off d2 w2) := S2'
                      have M2 : Hid (Merged (ltOf cf) a s mid d1 d2) := m2
                      have z2 : d2.size = d.size := m2.size.trans z1
                      clear call m2 S1 S2' q3 q3d q4
                      by_cases c5 : mid < e ∧ e < b
                      · have q5 : (mid : Int) < (e : Int) := by omega
                        have q6 : (e : Int) < (b : Int) := by omega
                        have q5d : decide ((mid : Int) < (e : Int)) = true := decide_eq_true q5
                        try (exfalso; omega)
                        all_goals
                          have p3 : seg d2 mid (e - mid) = seg d s (m - s) := by
                            rw [show e - mid = m - s by omega]
                            exact (seg_congr fun t ht => M2.out.out (mid + t) (by omega) (by omega)).trans V1.out.2.2.1
                          have p4 : seg d2 e (b - e) = seg d e (b - e) := seg_congr fun t ht => (M2.out.out (e + t) (by omega) (by omega)).trans (V1.out.2.2.2 (e + t) (by omega) (by omega))
                          have x3 : NoInv (ltOf cf) (seg d2 mid (e - mid)) := by
                            rw [p3, ← show (seg d a (m - a)).drop (s - a) = seg d s (m - s) by rw [seg_drop _ _ _ _ (by omega), show a + (s - a) = s by omega, show m - a - (s - a) = m - s by omega]]
                            exact hnx.drop _
                          have x4 : NoInv (ltOf cf) (seg d2 e (b - e)) := by
                            rw [p4, ← show (seg d m (b - m)).drop (e - m) = seg d e (b - e) by rw [seg_drop _ _ _ _ (by omega), show m + (e - m) = e by omega, show b - m - (e - m) = b - e by omega]]
                            exact hny.drop _
                          have call := ih mid e b d2 w2 (by omega) (by omega) S2.out (by omega) (by omega) (by omega) (by omega) x3 x4
                          rw [z2] at call
                          clear p3 p4 x3 x4
                          go_wp2_with fail
                          go_at_fn 215
                          refine call.mono ?_
                          rintro e3 w3 ⟨rfl, d3, m3, S3⟩
                          have M3 : Hid (Merged (ltOf cf) mid e b d2 d3) := m3
                          clear call m3
                          go_wp2
                          first | go_end0 | ((try simp only [Exit.inBlock, Exit.then]); refine bodyPost_ret (results_none rfl _ _ _) rfl ?_)
                          exact ⟨rfl, d3, merged_parts hw hsa hsm hme heb hb hnx hny HAB.out.1 HAB.out.2 V1.out.1 (by rw [show s + (e - m) = mid by omega]; exact M2.out) (by rw [show s + (e - m) = mid by omega]; exact M3.out), S3⟩
                      · have hfin : ∃ d', Merged (ltOf cf) a m b d d' ∧ SWK enc k w0 blk off d' w2 := ⟨d2, merged_parts hw hsa hsm hme heb hb hnx hny HAB.out.1 HAB.out.2 V1.out.1 (by rw [show s + (e - m) = mid by omega]; exact M2.out) (by
                          rw [show s + (e - m) = mid by omega]
                          by_cases h1 : mid < e
                          · rw [show e = b by omega]; exact merged_skip'
                          · rw [show e = mid by omega]; exact merged_skip), S2.out⟩
                        have HFIN : Hid _ := hfin
                        clear hfin
                        by_cases h1 : mid < e
                        · have q5 : (mid : Int) < (e : Int) := by omega
                          have q5d : decide ((mid : Int) < (e : Int)) = true := decide_eq_true q5
                          have q6 : decide ((e : Int) < (b : Int)) = false := decide_eq_false (by omega)
                          try (exfalso; omega)
                          all_goals
                            go_wp2
                            first | go_end0 | ((try simp only [Exit.inBlock, Exit.then]); refine bodyPost_ret (results_none rfl _ _ _) rfl ?_)
                            exact ⟨rfl, HFIN.out⟩
                        · have q5 : decide ((mid : Int) < (e : Int)) = false := decide_eq_false (by omega)
                          try (exfalso; omega)
                          all_goals
                            go_wp2
                            first | go_end0 | ((try simp only [Exit.inBlock, Exit.then]); refine bodyPost_ret (results_none rfl _ _ _) rfl ?_)
                            exact ⟨rfl, HFIN.out⟩
                  · obtain ⟨d2, hd2⟩ : ∃ x, x = d1 := ⟨_, rfl⟩
                    have S2 : Aside (SWK enc k w0 blk off d2 wr) := by rw [hd2]; exact S1.out
                    have M2 : Hid (Merged (ltOf cf) a s mid d1 d2) := by
                      show Merged (ltOf cf) a s mid d1 d2
                      rw [hd2]
                      by_cases h1 : a < s
                      · rw [show s = mid by omega]; exact merged_skip'
                      · rw [show s = a by omega]; exact merged_skip
                    have z2 : d2.size = d.size := by rw [hd2]; exact z1
                    clear hd2 S1
                    by_cases h1 : a < s
                    · have q3 : (a : Int) < (s : Int) := by omega
                      have q3d : decide ((a : Int) < (s : Int)) = true := decide_eq_true q3
                      have q4 : decide ((s : Int) < (mid : Int)) = false := decide_eq_false (by omega)
                      clear h1
                      by_cases c5 : mid < e ∧ e < b
                      · have q5 : (mid : Int) < (e : Int) := by omega
                        have q6 : (e : Int) < (b : Int) := by omega
                        have q5d : decide ((mid : Int) < (e : Int)) = true := decide_eq_true q5
                        try (exfalso; omega)
                        all_goals
                          have p3 : seg d2 mid (e - mid) = seg d s (m - s) := by
                            rw [show e - mid = m - s by omega]
                            exact (seg_congr fun t ht => M2.out.out (mid + t) (by omega) (by omega)).trans V1.out.2.2.1
                          have p4 : seg d2 e (b - e) = seg d e (b - e) := seg_congr fun t ht => (M2.out.out (e + t) (by omega) (by omega)).trans (V1.out.2.2.2 (e + t) (by omega) (by omega))
                          have x3 : NoInv (ltOf cf) (seg d2 mid (e - mid)) := by
                            rw [p3, ← show (seg d a (m - a)).drop (s - a) = seg d s (m - s) by rw [seg_drop _ _ _ _ (by omega), show a + (s - a) = s by omega, show m - a - (s - a) = m - s by omega]]
                            exact hnx.drop _
                          have x4 : NoInv (ltOf cf) (seg d2 e (b - e)) := by
                            rw [p4, ← show (seg d m (b - m)).drop (e - m) = seg d e (b - e) by rw [seg_drop _ _ _ _ (by omega), show m + (e - m) = e by omega, show b - m - (e - m) = b - e by omega]]
                            exact hny.drop _
                          have call := ih mid e b d2 wr (by omega) (by omega) S2.out (by omega) (by omega) (by omega) (by omega) x3 x4
                          rw [z2] at call
                          clear p3 p4 x3 x4
                          go_wp2_with fail
                          go_at_fn 215
                          refine call.mono ?_
                          rintro e3 w3 ⟨rfl, d3, m3, S3⟩
                          have M3 : Hid (Merged (ltOf cf) mid e b d2 d3) := m3
                          clear call m3
                          go_wp2
                          first | go_end0 | ((try simp only [Exit.inBlock, Exit.then]); refine bodyPost_ret (results_none rfl _ _ _) rfl ?_)
                          exact ⟨rfl, d3, merged_parts hw hsa hsm hme heb hb hnx hny HAB.out.1 HAB.out.2 V1.out.1 (by rw [show s + (e - m) = mid by omega]; exact M2.out) (by rw [show s + (e - m) = mid by omega]; exact M3.out), S3⟩
                      · have hfin : ∃ d', Merged (ltOf cf) a m b d d' ∧ SWK enc k w0 blk off d' wr := ⟨d2, merged_parts hw hsa hsm hme heb hb hnx hny HAB.out.1 HAB.out.2 V1.out.1 (by rw [show s + (e - m) = mid by omega]; exact M2.out) (by
                          rw [show s + (e - m) = mid by omega]
                          by_cases h1 : mid < e
                          · rw [show e = b by omega]; exact merged_skip'
                          · rw [show e = mid by omega]; exact merged_skip), S2.out⟩
                        have HFIN : Hid _ := hfin
                        clear hfin
                        by_cases h1 : mid < e
                        · have q5 : (mid : Int) < (e : Int) := by omega
                          have q5d : decide ((mid : Int) < (e : Int)) = true := decide_eq_true q5
                          have q6 : decide ((e : Int) < (b : Int)) = false := decide_eq_false (by omega)
                          try (exfalso; omega)
                          all_goals
                            go_wp2
                            first | go_end0 | ((try simp only [Exit.inBlock, Exit.then]); refine bodyPost_ret (results_none rfl _ _ _) rfl ?_)
                            exact ⟨rfl, HFIN.out⟩
                        · have q5 : decide ((mid : Int) < (e : Int)) = false := decide_eq_false (by omega)
                          try (exfalso; omega)
                          all_goals
                            go_wp2
                            first | go_end0 | ((try simp only [Exit.inBlock, Exit.then]); refine bodyPost_ret (results_none rfl _ _ _) rfl ?_)
                            exact ⟨rfl, HFIN.out⟩
                    · have q3 : decide ((a : Int) < (s : Int)) = false := decide_eq_false (by omega)
                      clear h1
                      by_cases c5 : mid < e ∧ e < b
                      · have q5 : (mid : Int) < (e : Int) := by omega
                        have q6 : (e : Int) < (b : Int) := by omega
                        have q5d : decide ((mid : Int) < (e : Int)) = true := decide_eq_true q5
                        try (exfalso; omega)
                        all_goals
                          have p3 : seg d2 mid (e - mid) = seg d s (m - s) := by
                            rw [show e - mid = m - s by omega]
                            exact (seg_congr fun t ht => M2.out.out (mid + t) (by omega) (by omega)).trans V1.out.2.2.1
                          have p4 : seg d2 e (b - e) = seg d e (b - e) := seg_congr fun t ht => (M2.out.out (e + t) (by omega) (by omega)).trans (V1.out.2.2.2 (e + t) (by omega) (by omega))
                          have x3 : NoInv (ltOf cf) (seg d2 mid (e - mid)) := by
                            rw [p3, ← show (seg d a (m - a)).drop (s - a) = seg d s (m - s) by rw [seg_drop _ _ _ _ (by omega), show a + (s - a) = s by omega, show m - a - (s - a) = m - s by omega]]
                            exact hnx.drop _
                          have x4 : NoInv (ltOf cf) (seg d2 e (b - e)) := by
                            rw [p4, ← show (seg d m (b - m)).drop (e - m) = seg d e (b - e) by rw [seg_drop _ _ _ _ (by omega), show m + (e - m) = e by omega, show b - m - (e - m) = b - e by omega]]
                            exact hny.drop _
                          have call := ih mid e b d2 wr (by omega) (by omega) S2.out (by omega) (by omega) (by omega) (by omega) x3 x4
                          rw [z2] at call
                          clear p3 p4 x3 x4
                          go_wp2_with fail
                          go_at_fn 215
                          refine call.mono ?_
                          rintro e3 w3 ⟨rfl, d3, m3, S3⟩
                          have M3 : Hid (Merged (ltOf cf) mid e b d2 d3) := m3
                          clear call m3
                          go_wp2
                          first | go_end0 | ((try simp only [Exit.inBlock, Exit.then]); refine bodyPost_ret (results_none rfl _ _ _) rfl ?_)
                          exact ⟨rfl, d3, merged_parts hw hsa hsm hme heb hb hnx hny HAB.out.1 HAB.out.2 V1.out.1 (by rw [show s + (e - m) = mid by omega]; exact M2.out) (by rw [show s + (e - m) = mid by omega]; exact M3.out), S3⟩
                      · have hfin : ∃ d', Merged (ltOf cf) a m b d d' ∧ SWK enc k w0 blk off d' wr := ⟨d2, merged_parts hw hsa hsm hme heb hb hnx hny HAB.out.1 HAB.out.2 V1.out.1 (by rw [show s + (e - m) = mid by omega]; exact M2.out) (by
                          rw [show s + (e - m) = mid by omega]
                          by_cases h1 : mid < e
                          · rw [show e = b by omega]; exact merged_skip'
                          · rw [show e = mid by omega]; exact merged_skip), S2.out⟩
                        have HFIN : Hid _ := hfin
                        clear hfin
                        by_cases h1 : mid < e
                        · have q5 : (mid : Int) < (e : Int) := by omega
                          have q5d : decide ((mid : Int) < (e : Int)) = true := decide_eq_true q5
                          have q6 : decide ((e : Int) < (b : Int)) = false := decide_eq_false (by omega)
                          try (exfalso; omega)
                          all_goals
                            go_wp2
                            first | go_end0 | ((try simp only [Exit.inBlock, Exit.then]); refine bodyPost_ret (results_none rfl _ _ _) rfl ?_)
                            exact ⟨rfl, HFIN.out⟩
                        · have q5 : decide ((mid : Int) < (e : Int)) = false := decide_eq_false (by omega)
                          try (exfalso; omega)
                          all_goals
                            go_wp2
                            first | go_end0 | ((try simp only [Exit.inBlock, Exit.then]); refine bodyPost_ret (results_none rfl _ _ _) rfl ?_)
                            exact ⟨rfl, HFIN.out⟩
                · have r1 : decide ((s : Int) < (m : Int)) = false := decide_eq_false (by omega)
                  clear h1
                  obtain ⟨r1, r2, r3⟩ := v1.rot hsm hme (by omega)
                  rw [show s + (e - m) = mid by omega] at r2
                  have V1 : Hid (Via (rotσ s m e) d d1 ∧ seg d1 s (e - m) = seg d m (e - m) ∧ seg d1 mid (m - s) = seg d s (m - s) ∧ ∀ t, t < d.size → (t < s ∨ e ≤ t) → d1[t]! = d[t]!) := ⟨v1, r1, r2, r3⟩
                  have z1 : d1.size = d.size := v1.size
                  clear v1 r1 r2 r3
                  by_cases c4 : a < s ∧ s < mid
                  · have q3 : (a : Int) < (s : Int) := by omega
                    have q3d : decide ((a : Int) < (s : Int)) = true := decide_eq_true q3
                    have q4 : (s : Int) < (mid : Int) := by omega
                    try (exfalso; omega)
                    all_goals
                      have p1 : seg d1 a (s - a) = seg d a (s - a) := seg_congr fun t ht => V1.out.2.2.2 (a + t) (by omega) (by omega)
                      have p2 : seg d1 s (mid - s) = seg d m (e - m) := by rw [show mid - s = e - m by omega]; exact V1.out.2.1
                      have x1 : NoInv (ltOf cf) (seg d1 a (s - a)) := by rw [p1, ← seg_take d a (m - a) (s - a) (by omega)]; exact hnx.take _
                      have x2 : NoInv (ltOf cf) (seg d1 s (mid - s)) := by rw [p2, ← seg_take d m (b - m) (e - m) (by omega)]; exact hny.take _
                      have call := ih a s mid d1 wr (by omega) (by omega) S1.out (by omega) (by omega) (by omega) (by omega) x1 x2
                      rw [z1] at call
                      clear p1 p2 x1 x2
                      go_wp2_with fail
                      go_at_fn 215
                      refine call.mono ?_
                      rintro e2 w2 ⟨rfl, d2, m2, S2'⟩
                      have S2 : Aside (SWK enc k w0 blk off d2 w2) := S2'
                      have M2 : Hid (Merged (ltOf cf) a s mid d1 d2) := m2
                      have z2 : d2.size = d.size := m2.size.trans z1
                      clear call m2 S1 S2' q3 q3d q4
                      by_cases c5 : mid < e ∧ e < b
                      · have q5 : (mid : Int) < (e : Int) := by omega
                        have q6 : (e : Int) < (b : Int) := by omega
                        have q5d : decide ((mid : Int) < (e : Int)) = true := decide_eq_true q5
                        try (exfalso; omega)
                        all_goals
                          have p3 : seg d2 mid (e - mid) = seg d s (m - s) := by
                            rw [show e - mid = m - s by omega]
                            exact (seg_congr fun t ht => M2.out.out (mid + t) (by omega) (by omega)).trans V1.out.2.2.1
                          have p4 : seg d2 e (b - e) = seg d e (b - e) := seg_congr fun t ht => (M2.out.out (e + t) (by omega) (by omega)).trans (V1.out.2.2.2 (e + t) (by omega) (by omega))
                          have x3 : NoInv (ltOf cf) (seg d2 mid (e - mid)) := by
                            rw [p3, ← show (seg d a (m - a)).drop (s - a) = seg d s (m - s) by rw [seg_drop _ _ _ _ (by omega), show a + (s - a) = s by omega, show m - a - (s - a) = m - s by omega]]
                            exact hnx.drop _
                          have x4 : NoInv (ltOf cf) (seg d2 e (b - e)) := by
                            rw [p4, ← show (seg d m (b - m)).drop (e - m) = seg d e (b - e) by rw [seg_drop _ _ _ _ (by omega), show m + (e - m) = e by omega, show b - m - (e - m) = b - e by omega]]
                            exact hny.drop _
                          have call := ih mid e b d2 w2 (by omega) (by omega) S2.out (by omega) (by omega) (by omega) (by omega) x3 x4
                          rw [z2] at call
                          clear p3 p4 x3 x4
                          go_wp2_with fail
                          go_at_fn 215
                          refine call.mono ?_
                          rintro e3 w3 ⟨rfl, d3, m3, S3⟩
                          have M3 : Hid (Merged (ltOf cf) mid e b d2 d3) := m3
                          clear call m3
                          go_wp2
                          first | go_end0 | ((try simp only [Exit.inBlock, Exit.then]); refine bodyPost_ret (results_none rfl _ _ _) rfl ?_)
                          exact ⟨rfl, d3, merged_parts hw hsa hsm hme heb hb hnx hny HAB.out.1 HAB.out.2 V1.out.1 (by rw [show s + (e - m) = mid by omega]; exact M2.out) (by rw [show s + (e - m) = mid by omega]; exact M3.out), S3⟩
                      · have hfin : ∃ d', Merged (ltOf cf) a m b d d' ∧ SWK enc k w0 blk off d' w2 := ⟨d2, merged_parts hw hsa hsm hme heb hb hnx hny HAB.out.1 HAB.out.2 V1.out.1 (by rw [show s + (e - m) = mid by omega]; exact M2.out) (by
                          rw [show s + (e - m) = mid by omega]
                          by_cases h1 : mid < e
                          · rw [show e = b by omega]; exact merged_skip'
                          · rw [show e = mid by omega]; exact merged_skip), S2.out⟩
                        have HFIN : Hid _ := hfin
                        clear hfin
                        by_cases h1 : mid < e
                        · have q5 : (mid : Int) < (e : Int) := by omega
                          have q5d : decide ((mid : Int) < (e : Int)) = true := decide_eq_true q5
                          have q6 : decide ((e : Int) < (b : Int)) = false := decide_eq_false (by omega)
                          try (exfalso; omega)
                          all_goals
                            go_wp2
                            first | go_end0 | ((try simp only [Exit.inBlock, Exit.then]); refine bodyPost_ret (results_none rfl _ _ _) rfl ?_)
                            exact ⟨rfl, HFIN.out⟩
                        · have q5 : decide ((mid : Int) < (e : Int)) = false := decide_eq_false (by omega)
                          try (exfalso; omega)
                          all_goals
                            go_wp2
                            first | go_end0 | ((try simp only [Exit.inBlock, Exit.then]); refine bodyPost_ret (results_none rfl _ _ _) rfl ?_)
                            exact ⟨rfl, HFIN.out⟩
                  · obtain ⟨d2, hd2⟩ : ∃ x, x = d1 := ⟨_, rfl⟩
                    have S2 : Aside (SWK enc k w0 blk off d2 wr) := by rw [hd2]; exact S1.out
                    have M2 : Hid (Merged (ltOf cf) a s mid d1 d2) := by
                      show Merged (ltOf cf) a s mid d1 d2
                      rw [hd2]
                      by_cases h1 : a < s
                      · rw [show s = mid by omega]; exact merged_skip'
                      · rw [show s = a by omega]; exact merged_skip
                    have z2 : d2.size = d.size := by rw [hd2]; exact z1
                    clear hd2 S1
                    by_cases h1 : a < s
                    · have q3 : (a : Int) < (s : Int) := by omega
                      have q3d : decide ((a : Int) < (s : Int)) = true := decide_eq_true q3
                      have q4 : decide ((s : Int) < (mid : Int)) = false := decide_eq_false (by omega)
                      clear h1
                      by_cases c5 : mid < e ∧ e < b
                      · have q5 : (mid : Int) < (e : Int) := by omega
                        have q6 : (e : Int) < (b : Int) := by omega
                        have q5d : decide ((mid : Int) < (e : Int)) = true := decide_eq_true q5
                        try (exfalso; omega)
                        all_goals
                          have p3 : seg d2 mid (e - mid) = seg d s (m - s) := by
                            rw [show e - mid = m - s by omega]
                            exact (seg_congr fun t ht => M2.out.out (mid + t) (by omega) (by omega)).trans V1.out.2.2.1
                          have p4 : seg d2 e (b - e) = seg d e (b - e) := seg_congr fun t ht => (M2.out.out (e + t) (by omega) (by omega)).trans (V1.out.2.2.2 (e + t) (by omega) (by omega))
                          have x3 : NoInv (ltOf cf) (seg d2 mid (e - mid)) := by
                            rw [p3, ← show (seg d a (m - a)).drop (s - a) = seg d s (m - s) by rw [seg_drop _ _ _ _ (by omega), show a + (s - a) = s by omega, show m - a - (s - a) = m - s by omega]]
                            exact hnx.drop _
                          have x4 : NoInv (ltOf cf) (seg d2 e (b - e)) := by
                            rw [p4, ← show (seg d m (b - m)).drop (e - m) = seg d e (b - e) by rw [seg_drop _ _ _ _ (by omega), show m + (e - m) = e by omega, show b - m - (e - m) = b - e by omega]]
                            exact hny.drop _
                          have call := ih mid e b d2 wr (by omega) (by omega) S2.out (by omega) (by omega) (by omega) (by omega) x3 x4
                          rw [z2] at call
                          clear p3 p4 x3 x4
                          go_wp2_with fail
                          go_at_fn 215
                          refine call.mono ?_
                          rintro e3 w3 ⟨rfl, d3, m3, S3⟩
                          have M3 : Hid (Merged (ltOf cf) mid e b d2 d3) := m3
                          clear call m3
                          go_wp2
                          first | go_end0 | ((try simp only [Exit.inBlock, Exit.then]); refine bodyPost_ret (results_none rfl _ _ _) rfl ?_)
                          exact ⟨rfl, d3, merged_parts hw hsa hsm hme heb hb hnx hny HAB.out.1 HAB.out.2 V1.out.1 (by rw [show s + (e - m) = mid by omega]; exact M2.out) (by rw [show s + (e - m) = mid by omega]; exact M3.out), S3⟩
                      · have hfin : ∃ d', Merged (ltOf cf) a m b d d' ∧ SWK enc k w0 blk off d' wr := ⟨d2, merged_parts hw hsa hsm hme heb hb hnx hny HAB.out.1 HAB.out.2 V1.out.1 (by rw [show s + (e - m) = mid by omega]; exact M2.out) (by
                          rw [show s + (e - m) = mid by omega]
                          by_cases h1 : mid < e
                          · rw [show e = b by omega]; exact merged_skip'
                          · rw [show e = mid by omega]; exact merged_skip), S2.out⟩
                        have HFIN : Hid _ := hfin
                        clear hfin
                        by_cases h1 : mid < e
                        · have q5 : (mid : Int) < (e : Int) := by omega
                          have q5d : decide ((mid : Int) < (e : Int)) = true := decide_eq_true q5
                          have q6 : decide ((e : Int) < (b : Int)) = false := decide_eq_false (by omega)
                          try (exfalso; omega)
                          all_goals
                            go_wp2
                            first | go_end0 | ((try simp only [Exit.inBlock, Exit.then]); refine bodyPost_ret (results_none rfl _ _ _) rfl ?_)
                            exact ⟨rfl, HFIN.out⟩
                        · have q5 : decide ((mid : Int) < (e : Int)) = false := decide_eq_false (by omega)
                          try (exfalso; omega)
                          all_goals
                            go_wp2
                            first | go_end0 | ((try simp only [Exit.inBlock, Exit.then]); refine bodyPost_ret (results_none rfl _ _ _) rfl ?_)
                            exact ⟨rfl, HFIN.out⟩
                    · have q3 : decide ((a : Int) < (s : Int)) = false := decide_eq_false (by omega)
                      clear h1
                      by_cases c5 : mid < e ∧ e < b
                      · have q5 : (mid : Int) < (e : Int) := by omega
                        have q6 : (e : Int) < (b : Int) := by omega
                        have q5d : decide ((mid : Int) < (e : Int)) = true := decide_eq_true q5
                        try (exfalso; omega)
                        all_goals
                          have p3 : seg d2 mid (e - mid) = seg d s (m - s) := by
                            rw [show e - mid = m - s by omega]
                            exact (seg_congr fun t ht => M2.out.out (mid + t) (by omega) (by omega)).trans V1.out.2.2.1
                          have p4 : seg d2 e (b - e) = seg d e (b - e) := seg_congr fun t ht => (M2.out.out (e + t) (by omega) (by omega)).trans (V1.out.2.2.2 (e + t) (by omega) (by omega))
                          have x3 : NoInv (ltOf cf) (seg d2 mid (e - mid)) := by
                            rw [p3, ← show (seg d a (m - a)).drop (s - a) = seg d s (m - s) by rw [seg_drop _ _ _ _ (by omega), show a + (s - a) = s by omega, show m - a - (s - a) = m - s by omega]]
                            exact hnx.drop _
                          have x4 : NoInv (ltOf cf) (seg d2 e (b - e)) := by
                            rw [p4, ← show (seg d m (b - m)).drop (e - m) = seg d e (b - e) by rw [seg_drop _ _ _ _ (by omega), show m + (e - m) = e by omega, show b - m - (e - m) = b - e by omega]]
                            exact hny.drop _
                          have call := ih mid e b d2 wr (by omega) (by omega) S2.out (by omega) (by omega) (by omega) (by omega) x3 x4
                          rw [z2] at call
                          clear p3 p4 x3 x4
                          go_wp2_with fail
                          go_at_fn 215
                          refine call.mono ?_
                          rintro e3 w3 ⟨rfl, d3, m3, S3⟩
                          have M3 : Hid (Merged (ltOf cf) mid e b d2 d3) := m3
                          clear call m3
                          go_wp2
                          first | go_end0 | ((try simp only [Exit.inBlock, Exit.then]); refine bodyPost_ret (results_none rfl _ _ _) rfl ?_)
                          exact ⟨rfl, d3, merged_parts hw hsa hsm hme heb hb hnx hny HAB.out.1 HAB.out.2 V1.out.1 (by rw [show s + (e - m) = mid by omega]; exact M2.out) (by rw [show s + (e - m) = mid by omega]; exact M3.out), S3⟩
                      · have hfin : ∃ d', Merged (ltOf cf) a m b d d' ∧ SWK enc k w0 blk off d' wr := ⟨d2, merged_parts hw hsa hsm hme heb hb hnx hny HAB.out.1 HAB.out.2 V1.out.1 (by rw [show s + (e - m) = mid by omega]; exact M2.out) (by
                          rw [show s + (e - m) = mid by omega]
                          by_cases h1 : mid < e
                          · rw [show e = b by omega]; exact merged_skip'
                          · rw [show e = mid by omega]; exact merged_skip), S2.out⟩
                        have HFIN : Hid _ := hfin
                        clear hfin
                        by_cases h1 : mid < e
                        · have q5 : (mid : Int) < (e : Int) := by omega
                          have q5d : decide ((mid : Int) < (e : Int)) = true := decide_eq_true q5
                          have q6 : decide ((e : Int) < (b : Int)) = false := decide_eq_false (by omega)
                          try (exfalso; omega)
                          all_goals
                            go_wp2
                            first | go_end0 | ((try simp only [Exit.inBlock, Exit.then]); refine bodyPost_ret (results_none rfl _ _ _) rfl ?_)
                            exact ⟨rfl, HFIN.out⟩
                        · have q5 : decide ((mid : Int) < (e : Int)) = false := decide_eq_false (by omega)
                          try (exfalso; omega)
                          all_goals
                            go_wp2
                            first | go_end0 | ((try simp only [Exit.inBlock, Exit.then]); refine bodyPost_ret (results_none rfl _ _ _) rfl ?_)
                            exact ⟨rfl, HFIN.out⟩
        · have c3z : ¬ (mid : Int) < (m : Int) := by omega
          as_aux_lemma =>
          have wp : IntKind.i64.wrap ((mid : Int) + (m : Int)) = (mid : Int) + (m : Int) := by rw [IntKind.wrap_i64]; omega
          have wp1 : IntKind.i64.wrap ((mid : Int) + (m : Int) - 1) = (mid : Int) + (m : Int) - 1 := by rw [IntKind.wrap_i64]; omega
          have wpb : IntKind.i64.wrap ((mid : Int) + (m : Int) - (b : Int)) = (mid : Int) + (m : Int) - (b : Int) := by rw [IntKind.wrap_i64]; omega
          go_wp2
          clear n1 n1' n1b n2 n2b n2'
          go_loopw [20, 21] (fun s20 s21 wr => ∃ (s r : Nat), s20 = .int .i64 s ∧ s21 = .int .i64 r ∧ a ≤ s ∧ s ≤ r ∧ r ≤ m ∧ Hid (s = a ∨ ltOf cf d[mid + m - s]! d[s - 1]! = false) ∧ Hid (r = m ∨ ltOf cf d[mid + m - 1 - r]! d[r]! = true) ∧ Aside (SWK enc k w0 blk off d wr)) (fun s20 s21 _ => (intOf s21 - intOf s20).toNat)
          case atStart => exact ⟨a, m, by first | rfl | (congr 1; omega), rfl, Nat.le_refl _, by omega, Nat.le_refl _, Or.inl rfl, Or.inl rfl, S0⟩
          case round =>
            clear S0
            obtain ⟨s, r, rfl, rfl, hs0, hsr, hr0, hA, hB, S1⟩ := hrel
            by_cases hlt : s < r
            · have hltz : (s : Int) < (r : Int) := by omega
              obtain ⟨h, hh⟩ : ∃ h, (s + r) / 2 = h := ⟨_, rfl⟩
              have hh1 : ((s : Int) + r) / 2 = h := by omega
              have hh2 : (s : Int) + r ≤ 2000000000 := by omega
              have hh0 : (0 : Int) ≤ (s : Int) + r := by omega
              have hhw : IntKind.i64.wrap ((s : Int) + r) = (s : Int) + r := by rw [IntKind.wrap_i64]; omega
              have hhl : s ≤ h ∧ h < r := by omega
              clear hh
              obtain ⟨q, hq⟩ : ∃ q, mid + m - 1 - h = q := ⟨_, rfl⟩
              have wq : IntKind.i64.wrap ((mid : Int) + (m : Int) - 1 - (h : Int)) = (q : Int) := by rw [IntKind.wrap_i64]; omega
              have hqd : q < d.size := by omega
              have HQ : Hid (mid + m - 1 - h = q) := hq
              clear hq
              have ea : ((q : Int)).toNat = q := by omega
              have pa : (0 : Int) ≤ (q : Int) := by omega
              have ba : (q : Int) < (d.size : Int) := by omega
              have ra : IntKind.i64.wrap ((q : Int)) = (q : Int) := by rw [IntKind.wrap_i64]; omega
              have ec : ((h : Int)).toNat = h := by omega
              have pc : (0 : Int) ≤ (h : Int) := by omega
              have bc : (h : Int) < (d.size : Int) := by omega
              have rc : IntKind.i64.wrap ((h : Int)) = (h : Int) := by rw [IntKind.wrap_i64]; omega
              obtain ⟨x, hx⟩ : ∃ x, x = d[q]! := ⟨_, rfl⟩
              obtain ⟨y, hy⟩ : ∃ y, y = d[h]! := ⟨_, rfl⟩
              have la := S1.out.ld R (by omega) P (q) (by omega)
              have lb := S1.out.ld R (by omega) P (h) (by omega)
              rw [← hx] at la
              rw [← hy] at lb
              have hc := S1.out.cmp HC.out (by omega) x y
              cases hlv : ltOf cf d[q]! d[h]! with
              | false =>
                have hv : ¬ cf x y < 0 := by rw [hx, hy]; exact of_decide_eq_false hlv
                have hd : decide (cf x y < 0) = false := decide_eq_false hv
                clear hx hy
                go_wp2_with fail
                go_quiet_grown (first | (go_at_fn g; refine Calls.grown_of (hc _ _)))
                have S2 : Aside (SWK enc k w0 blk off d (grow (wr.drewN nq) osq)) := S1.out.grown nq osq
                clear la lb hc S1
                generalize grow (wr.drewN nq) osq = wu at S2 ⊢
                clear nq osq
                go_wp2
                go_roundw
                case rel => exact ⟨h + 1, r, by go_num, rfl, by omega, by omega, hr0, Or.inr (by rw [Nat.add_sub_cancel, show mid + m - (h + 1) = q by have := HQ.out; omega]; exact hlv), hB, S2⟩
                case measure => simp [intOf]; omega
              | true =>
                have hv : cf x y < 0 := by rw [hx, hy]; exact of_decide_eq_true hlv
                have hd : decide (cf x y < 0) = true := decide_eq_true hv
                clear hx hy
                go_wp2_with fail
                go_quiet_grown (first | (go_at_fn g; refine Calls.grown_of (hc _ _)))
                have S2 : Aside (SWK enc k w0 blk off d (grow (wr.drewN nq) osq)) := S1.out.grown nq osq
                clear la lb hc S1
                generalize grow (wr.drewN nq) osq = wu at S2 ⊢
                clear nq osq
                go_wp2
                go_roundw
                case rel => exact ⟨s, h, rfl, rfl, hs0, by omega, by omega, hA, Or.inr (by rw [HQ.out]; exact hlv), S2⟩
                case measure => simp [intOf]; omega
            · obtain rfl : s = r := by omega
              have hltz : ¬ (s : Int) < (s : Int) := by omega
              obtain ⟨e, he⟩ : ∃ e, mid + m - s = e := ⟨_, rfl⟩
              have heI : (mid : Int) + (m : Int) - (s : Int) = (e : Int) := by omega
              have hew : IntKind.i64.wrap ((mid : Int) + (m : Int) - (s : Int)) = (e : Int) := by rw [IntKind.wrap_i64]; omega
              have hsa : a ≤ s := by omega
              have hsm : s ≤ m := by omega
              have hme : m ≤ e := by omega
              have heb : e ≤ b := by omega
              have HAB : Hid ((s = a ∨ e = b ∨ ltOf cf d[e]! d[s - 1]! = false) ∧ (s = m ∨ e = m ∨ ltOf cf d[e - 1]! d[s]! = true)) := by
                refine ⟨?_, ?_⟩
                · rcases hA.out with h | h
                  · by_cases q : s = a
                    · exact Or.inl q
                    · exact Or.inr (Or.inl (by omega))
                  · rw [he] at h
                    exact Or.inr (Or.inr h)
                · rcases hB.out with h | h
                  · by_cases q : s = m
                    · exact Or.inl q
                    · exact Or.inr (Or.inl (by omega))
                  · rw [show mid + m - 1 - s = e - 1 by omega] at h
                    exact Or.inr (Or.inr h)
              clear hA hB
              by_cases cr : s < m ∧ m < e
              · have r1 : (s : Int) < (m : Int) := by omega
                have r1d : decide ((s : Int) < (m : Int)) = true := decide_eq_true r1
                have r2 : (m : Int) < (e : Int) := by omega
                have call := rotateI L enc (.func (.func g) #[] cb) blk off cap s m e d0 d w0 wr R hs S1.out cr.1 cr.2 (by omega) (by omega)
                go_wp2_with fail
                go_at_fn 230
                refine call.mono ?_
                rintro e1 w1 ⟨rfl, d1, v1, S1'⟩
                clear call S1 r1 r1d r2
                have S1 : Aside (SWK enc k w0 blk off d1 w1) := S1'
                clear S1'
                obtain ⟨r1, r2, r3⟩ := v1.rot hsm hme (by omega)
                rw [show s + (e - m) = mid by omega] at r2
                have V1 : Hid (Via (rotσ s m e) d d1 ∧ seg d1 s (e - m) = seg d m (e - m) ∧ seg d1 mid (m - s) = seg d s (m - s) ∧ ∀ t, t < d.size → (t < s ∨ e ≤ t) → d1[t]! = d[t]!) := ⟨v1, r1, r2, r3⟩
                have z1 : d1.size = d.size := v1.size
                clear v1 r1 r2 r3
                by_cases c4 : a < s ∧ s < mid
                · have q3 : (a : Int) < (s : Int) := by omega
                  have q3d : decide ((a : Int) < (s : Int)) = true := decide_eq_true q3
                  have q4 : (s : Int) < (mid : Int) := by omega
                  try (exfalso; omega)
                  all_goals
                    have p1 : seg d1 a (s - a) = seg d a (s - a) := seg_congr fun t ht => V1.out.2.2.2 (a + t) (by omega) (by omega)
                    have p2 : seg d1 s (mid - s) = seg d m (e - m) := by rw [show mid - s = e - m by omega]; exact V1.out.2.1
                    have x1 : NoInv (ltOf cf) (seg d1 a (s - a)) := by rw [p1, ← seg_take d a (m - a) (s - a) (by omega)]; exact hnx.take _
                    have x2 : NoInv (ltOf cf) (seg d1 s (mid - s)) := by rw [p2, ← seg_take d m (b - m) (e - m) (by omega)]; exact hny.take _
                    have call := ih a s mid d1 w1 (by omega) (by omega) S1.out (by omega) (by omega) (by omega) (by omega) x1 x2
                    rw [z1] at call
                    clear p1 p2 x1 x2
                    go_wp2_with fail
                    go_at_fn 215
                    refine call.mono ?_
                    rintro e2 w2 ⟨rfl, d2, m2, S2'⟩
                    have S2 : Aside (SWK enc k w0 blk off d2 w2) := S2'
                    have M2 : Hid (Merged (ltOf cf) a s mid d1 d2) := m2
                    have z2 : d2.size = d.size := m2.size.trans z1
                    clear call m2 S1 S2' q3 q3d q4
                    by_cases c5 : mid < e ∧ e < b
                    · have q5 : (mid : Int) < (e : Int) := by omega
                      have q6 : (e : Int) < (b : Int) := by omega
                      have q5d : decide ((mid : Int) < (e : Int)) = true := decide_eq_true q5
                      try (exfalso; omega)
                      all_goals
                        have p3 : seg d2 mid (e - mid) = seg d s (m - s) := by
                          rw [show e - mid = m - s by omega]
                          exact (seg_congr fun t ht => M2.out.out (mid + t) (by omega) (by omega)).trans V1.out.2.2.1
                        have p4 : seg d2 e (b - e) = seg d e (b - e) := seg_congr fun t ht => (M2.out.out (e + t) (by omega) (by omega)).trans (V1.out.2.2.2 (e + t) (by omega) (by omega))
                        have x3 : NoInv (ltOf cf) (seg d2 mid (e - mid)) := by
                          rw [p3, ← show (seg d a (m - a)).drop (s - a) = seg d s (m - s) by rw [seg_drop _ _ _ _ (by omega), show a + (s - a) = s by omega, show m - a - (s - a) = m - s by omega]]
                          exact hnx.drop _
                        have x4 : NoInv (ltOf cf) (seg d2 e (b - e)) := by
                          rw [p4, ← show (seg d m (b - m)).drop (e - m) = seg d e (b - e) by rw [seg_drop _ _ _ _ (by omega), show m + (e - m) = e by omega, show b - m - (e - m) = b - e by omega]]
                          exact hny.drop _
                        have call := ih mid e b d2 w2 (by omega) (by omega) S2.out (by omega) (by omega) (by omega) (by omega) x3 x4
                        rw [z2] at call
                        clear p3 p4 x3 x4
                        go_wp2_with fail
                        go_at_fn 215
                        refine call.mono ?_
                        rintro e3 w3 ⟨rfl, d3, m3, S3⟩
                        have M3 : Hid (Merged (ltOf cf) mid e b d2 d3) := m3
                        clear call m3
                        go_wp2
                        first | go_end0 | ((try simp only [Exit.inBlock, Exit.then]); refine bodyPost_ret (results_none rfl _ _ _) rfl ?_)
                        exact ⟨rfl, d3, merged_parts hw hsa hsm hme heb hb hnx hny HAB.out.1 HAB.out.2 V1.out.1 (by rw [show s + (e - m) = mid by omega]; exact M2.out) (by rw [show s + (e - m) = mid by omega]; exact M3.out), S3⟩
                    · have hfin : ∃ d', Merged (ltOf cf) a m b d d' ∧ SWK enc k w0 blk off d' w2 := ⟨d2, merged_parts hw hsa hsm hme heb hb hnx hny HAB.out.1 HAB.out.2 V1.out.1 (by rw [show s + (e - m) = mid by omega]; exact M2.out) (by
                        rw [show s + (e - m) = mid by omega]
                        by_cases h1 : mid < e
                        · rw [show e = b by omega]; exact merged_skip'
                        · rw [show e = mid by omega]; exact merged_skip), S2.out⟩
                      have HFIN : Hid _ := hfin
                      clear hfin
                      by_cases h1 : mid < e
                      · have q5 : (mid : Int) < (e : Int) := by omega
                        have q5d : decide ((mid : Int) < (e : Int)) = true := decide_eq_true q5
                        have q6 : decide ((e : Int) < (b : Int)) = false := decide_eq_false (by omega)
                        try (exfalso; omega)
                        all_goals
                          go_wp2
                          first | go_end0 | ((try simp only [Exit.inBlock, Exit.then]); refine bodyPost_ret (results_none rfl _ _ _) rfl ?_)
                          exact ⟨rfl, HFIN.out⟩
                      · have q5 : decide ((mid : Int) < (e : Int)) = false := decide_eq_false (by omega)
                        try (exfalso; omega)
                        all_goals
                          go_wp2
                          first | go_end0 | ((try simp only [Exit.inBlock, Exit.then]); refine bodyPost_ret (results_none rfl _ _ _) rfl ?_)
                          exact ⟨rfl, HFIN.out⟩
                · obtain ⟨d2, hd2⟩ : ∃ x, x = d1 := ⟨_, rfl⟩
                  have S2 : Aside (SWK enc k w0 blk off d2 w1) := by rw [hd2]; exact S1.out
                  have M2 : Hid (Merged (ltOf cf) a s mid d1 d2) := by
                    show Merged (ltOf cf) a s mid d1 d2
                    rw [hd2]
                    by_cases h1 : a < s
                    · rw [show s = mid by omega]; exact merged_skip'
                    · rw [show s = a by omega]; exact merged_skip
                  have z2 : d2.size = d.size := by rw [hd2]; exact z1
                  clear hd2 S1
                  by_cases h1 : a < s
                  · have q3 : (a : Int) < (s : Int) := by omega
                    have q3d : decide ((a : Int) < (s : Int)) = true := decide_eq_true q3
                    have q4 : decide ((s : Int) < (mid : Int)) = false := decide_eq_false (by omega)
                    clear h1
                    by_cases c5 : mid < e ∧ e < b
                    · have q5 : (mid : Int) < (e : Int) := by omega
                      have q6 : (e : Int) < (b : Int) := by omega
                      have q5d : decide ((mid : Int) < (e : Int)) = true := decide_eq_true q5
                      try (exfalso; omega)
                      all_goals
                        have p3 : seg d2 mid (e - mid) = seg d s (m - s) := by
                          rw [show e - mid = m - s by omega]
                          exact (seg_congr fun t ht => M2.out.out (mid + t) (by omega) (by omega)).trans V1.out.2.2.1
                        have p4 : seg d2 e (b - e) = seg d e (b - e) := seg_congr fun t ht => (M2.out.out (e + t) (by omega) (by omega)).trans (V1.out.2.2.2 (e + t) (by omega) (by omega))
                        have x3 : NoInv (ltOf cf) (seg d2 mid (e - mid)) := by
                          rw [p3, ← show (seg d a (m - a)).drop (s - a) = seg d s (m - s) by rw [seg_drop _ _ _ _ (by omega), show a + (s - a) = s by omega, show m - a - (s - a) = m - s by omega]]
                          exact hnx.drop _
                        have x4 : NoInv (ltOf cf) (seg d2 e (b - e)) := by
                          rw [p4, ← show (seg d m (b - m)).drop (e - m) = seg d e (b - e) by rw [seg_drop _ _ _ _ (by omega), show m + (e - m) = e by omega, show b - m - (e - m) = b - e by omega]]
                          exact hny.drop _
                        have call := ih mid e b d2 w1 (by omega) (by omega) S2.out (by omega) (by omega) (by omega) (by omega) x3 x4
                        rw [z2] at call
                        clear p3 p4 x3 x4
                        go_wp2_with fail
                        go_at_fn 215
                        refine call.mono ?_
                        rintro e3 w3 ⟨rfl, d3, m3, S3⟩
                        have M3 : Hid (Merged (ltOf cf) mid e b d2 d3) := m3
                        clear call m3
                        go_wp2
                        first | go_end0 | ((try simp only [Exit.inBlock, Exit.then]); refine bodyPost_ret (results_none rfl _ _ _) rfl ?_)
                        exact ⟨rfl, d3, merged_parts hw hsa hsm hme heb hb hnx hny HAB.out.1 HAB.out.2 V1.out.1 (by rw [show s + (e - m) = mid by omega]; exact M2.out) (by rw [show s + (e - m) = mid by omega]; exact M3.out), S3⟩
                    · have hfin : ∃ d', Merged (ltOf cf) a m b d d' ∧ SWK enc k w0 blk off d' w1 := ⟨d2, merged_parts hw hsa hsm hme heb hb hnx hny HAB.out.1 HAB.out.2 V1.out.1 (by rw [show s + (e - m) = mid by omega]; exact M2.out) (by
                        rw [show s + (e - m) = mid by omega]
                        by_cases h1 : mid < e
                        · rw [show e = b by omega]; exact merged_skip'
                        · rw [show e = mid by omega]; exact merged_skip), S2.out⟩
                      have HFIN : Hid _ := hfin
                      clear hfin
                      by_cases h1 : mid < e
                      · have q5 : (mid : Int) < (e : Int) := by omega
                        have q5d : decide ((mid : Int) < (e : Int)) = true := decide_eq_true q5
                        have q6 : decide ((e : Int) < (b : Int)) = false := decide_eq_false (by omega)
                        try (exfalso; omega)
                        all_goals
                          go_wp2
                          first | go_end0 | ((try simp only [Exit.inBlock, Exit.then]); refine bodyPost_ret (results_none rfl _ _ _) rfl ?_)
                          exact ⟨rfl, HFIN.out⟩
                      · have q5 : decide ((mid : Int) < (e : Int)) = false := decide_eq_false (by omega)
                        try (exfalso; omega)
                        all_goals
                          go_wp2
                          first | go_end0 | ((try simp only [Exit.inBlock, Exit.then]); refine bodyPost_ret (results_none rfl _ _ _) rfl ?_)
                          exact ⟨rfl, HFIN.out⟩
                  · have q3 : decide ((a : Int) < (s : Int)) = false := decide_eq_false (by omega)
                    clear h1
                    by_cases c5 : mid < e ∧ e < b
                    · have q5 : (mid : Int) < (e : Int) := by omega
                      have q6 : (e : Int) < (b : Int) := by omega
                      have q5d : decide ((mid : Int) < (e : Int)) = true := decide_eq_true q5
                      try (exfalso; omega)
                      all_goals
                        have p3 : seg d2 mid (e - mid) = seg d s (m - s) := by
                          rw [show e - mid = m - s by omega]
                          exact (seg_congr fun t ht => M2.out.out (mid + t) (by omega) (by omega)).trans V1.out.2.2.1
                        have p4 : seg d2 e (b - e) = seg d e (b - e) := seg_congr fun t ht => (M2.out.out (e + t) (by omega) (by omega)).trans (V1.out.2.2.2 (e + t) (by omega) (by omega))
                        have x3 : NoInv (ltOf cf) (seg d2 mid (e - mid)) := by
                          rw [p3, ← show (seg d a (m - a)).drop (s - a) = seg d s (m - s) by rw [seg_drop _ _ _ _ (by omega), show a + (s - a) = s by omega, show m - a - (s - a) = m - s by omega]]
                          exact hnx.drop _
                        have x4 : NoInv (ltOf cf) (seg d2 e (b - e)) := by
                          rw [p4, ← show (seg d m (b - m)).drop (e - m) = seg d e (b - e) by rw [seg_drop _ _ _ _ (by omega), show m + (e - m) = e by omega, show b - m - (e - m) = b - e by omega]]
                          exact hny.drop _
                        have call := ih mid e b d2 w1 (by omega) (by omega) S2.out (by omega) (by omega) (by omega) (by omega) x3 x4
                        rw [z2] at call
                        clear p3 p4 x3 x4
                        go_wp2_with fail
                        go_at_fn 215
                        refine call.mono ?_
                        rintro e3 w3 ⟨rfl, d3, m3, S3⟩
                        have M3 : Hid (Merged (ltOf cf) mid e b d2 d3) := m3
                        clear call m3
                        go_wp2
                        first | go_end0 | ((try simp only [Exit.inBlock, Exit.then]); refine bodyPost_ret (results_none rfl _ _ _) rfl ?_)
                        exact ⟨rfl, d3, merged_parts hw hsa hsm hme heb hb hnx hny HAB.out.1 HAB.out.2 V1.out.1 (by rw [show s + (e - m) = mid by omega]; exact M2.out) (by rw [show s + (e - m) = mid by omega]; exact M3.out), S3⟩
                    · have hfin : ∃ d', Merged (ltOf cf) a m b d d' ∧ SWK enc k w0 blk off d' w1 := ⟨d2, merged_parts hw hsa hsm hme heb hb hnx hny HAB.out.1 HAB.out.2 V1.out.1 (by rw [show s + (e - m) = mid by omega]; exact M2.out) (by
                        rw [show s + (e - m) = mid by omega]
                        by_cases h1 : mid < e
                        · rw [show e = b by omega]; exact merged_skip'
                        · rw [show e = mid by omega]; exact merged_skip), S2.out⟩
                      have HFIN : Hid _ := hfin
                      clear hfin
                      by_cases h1 : mid < e
                      · have q5 : (mid : Int) < (e : Int) := by omega
                        have q5d : decide ((mid : Int) < (e : Int)) = true := decide_eq_true q5
                        have q6 : decide ((e : Int) < (b : Int)) = false := decide_eq_false (by omega)
                        try (exfalso; omega)
                        all_goals
                          go_wp2
                          first | go_end0 | ((try simp only [Exit.inBlock, Exit.then]); refine bodyPost_ret (results_none rfl _ _ _) rfl ?_)
                          exact ⟨rfl, HFIN.out⟩
                      · have q5 : decide ((mid : Int) < (e : Int)) = false := decide_eq_false (by omega)
                        try (exfalso; omega)
                        all_goals
                          go_wp2
                          first | go_end0 | ((try simp only [Exit.inBlock, Exit.then]); refine bodyPost_ret (results_none rfl _ _ _) rfl ?_)
                          exact ⟨rfl, HFIN.out⟩
              · obtain ⟨d1, hd1⟩ : ∃ x, x = d := ⟨_, rfl⟩
                have v1 : Via (rotσ s m e) d d1 := by rw [hd1]; exact via_none (by omega) hsm hme
                have S1' : Aside (SWK enc k w0 blk off d1 wr) := by rw [hd1]; exact S1.out
                clear hd1 S1
                have S1 := S1'
                clear S1'
                by_cases h1 : s < m
                · have r1 : (s : Int) < (m : Int) := by omega
                  have r1d : decide ((s : Int) < (m : Int)) = true := decide_eq_true r1
                  have r2 : decide ((m : Int) < (e : Int)) = false := decide_eq_false (by omega)
                  clear h1
                  obtain ⟨r1, r2, r3⟩ := v1.rot hsm hme (by omega)
                  rw [show s + (e - m) = mid by omega] at r2
                  have V1 : Hid (Via (rotσ s m e) d d1 ∧ seg d1 s (e - m) = seg d m (e - m) ∧ seg d1 mid (m - s) = seg d s (m - s) ∧ ∀ t, t < d.size → (t < s ∨ e ≤ t) → d1[t]! = d[t]!) := ⟨v1, r1, r2, r3⟩
                  have z1 : d1.size = d.size := v1.size
                  clear v1 r1 r2 r3
                  by_cases c4 : a < s ∧ s < mid
                  · have q3 : (a : Int) < (s : Int) := by omega
                    have q3d : decide ((a : Int) < (s : Int)) = true := decide_eq_true q3
                    have q4 : (s : Int) < (mid : Int) := by omega
                    try (exfalso; omega)
                    all_goals
                      have p1 : seg d1 a (s - a) = seg d a (s - a) := seg_congr fun t ht => V1.out.2.2.2 (a + t) (by omega) (by omega)
                      have p2 : seg d1 s (mid - s) = seg d m (e - m) := by rw [show mid - s = e - m by omega]; exact V1.out.2.1
                      have x1 : NoInv (ltOf cf) (seg d1 a (s - a)) := by rw [p1, ← seg_take d a (m - a) (s - a) (by omega)]; exact hnx.take _
                      have x2 : NoInv (ltOf cf) (seg d1 s (mid - s)) := by rw [p2, ← seg_take d m (b - m) (e - m) (by omega)]; exact hny.take _
                      have call := ih a s mid d1 wr (by omega) (by omega) S1.out (by omega) (by omega) (by omega) (by omega) x1 x2
                      rw [z1] at call
                      clear p1 p2 x1 x2
                      go_wp2_with fail
                      go_at_fn 215
                      refine call.mono ?_
                      rintro e2 w2 ⟨rfl, d2, m2, S2'⟩
                      have S2 : Aside (SWK enc k w0 blk off d2 w2) := S2'
                      have M2 : Hid (Merged (ltOf cf) a s mid d1 d2) := m2
                      have z2 : d2.size = d.size := m2.size.trans z1
                      clear call m2 S1 S2' q3 q3d q4
                      by_cases c5 : mid < e ∧ e < b
                      · have q5 : (mid : Int) < (e : Int) := by omega
                        have q6 : (e : Int) < (b : Int) := by omega
                        have q5d : decide ((mid : Int) < (e : Int)) = true := decide_eq_true q5
                        try (exfalso; omega)
                        all_goals
                          have p3 : seg d2 mid (e - mid) = seg d s (m - s) := by
                            rw [show e - mid = m - s by omega]
                            exact (seg_congr fun t ht => M2.out.out (mid + t) (by omega) (by omega)).trans V1.out.2.2.1
                          have p4 : seg d2 e (b - e) = seg d e (b - e) := seg_congr fun t ht => (M2.out.out (e + t) (by omega) (by omega)).trans (V1.out.2.2.2 (e + t) (by omega) (by omega))
                          have x3 : NoInv (ltOf cf) (seg d2 mid (e - mid)) := by
                            rw [p3, ← show (seg d a (m - a)).drop (s - a) = seg d s (m - s) by rw [seg_drop _ _ _ _ (by omega), show a + (s - a) = s by omega, show m - a - (s - a) = m - s by omega]]
                            exact hnx.drop _
                          have x4 : NoInv (ltOf cf) (seg d2 e (b - e)) := by
                            rw [p4, ← show (seg d m (b - m)).drop (e - m) = seg d e (b - e) by rw [seg_drop _ _ _ _ (by omega), show m + (e - m) = e by omega, show b - m - (e - m) = b - e by omega]]
                            exact hny.drop _
                          have call := ih mid e b d2 w2 (by omega) (by omega) S2.out (by omega) (by omega) (by omega) (by omega) x3 x4
                          rw [z2] at call
                          clear p3 p4 x3 x4
                          go_wp2_with fail
                          go_at_fn 215
                          refine call.mono ?_
                          rintro e3 w3 ⟨rfl, d3, m3, S3⟩
                          have M3 : Hid (Merged (ltOf cf) mid e b d2 d3) := m3
                          clear call m3
                          go_wp2
                          first | go_end0 | ((try simp only [Exit.inBlock, Exit.then]); refine bodyPost_ret (results_none rfl _ _ _) rfl ?_)
                          exact ⟨rfl, d3, merged_parts hw hsa hsm hme heb hb hnx hny HAB.out.1 HAB.out.2 V1.out.1 (by rw [show s + (e - m) = mid by omega]; exact M2.out) (by rw [show s + (e - m) = mid by omega]; exact M3.out), S3⟩
                      · have hfin : ∃ d', Merged (ltOf cf) a m b d d' ∧ SWK enc k w0 blk off d' w2 := ⟨d2, merged_parts hw hsa hsm hme heb hb hnx hny HAB.out.1 HAB.out.2 V1.out.1 (by rw [show s + (e - m) = mid by omega]; exact M2.out) (by
                          rw [show s + (e - m) = mid by omega]
                          by_cases h1 : mid < e
                          · rw [show e = b by omega]; exact merged_skip'
                          · rw [show e = mid by omega]; exact merged_skip), S2.out⟩
                        have HFIN : Hid _ := hfin
                        clear hfin
                        by_cases h1 : mid < e
                        · have q5 : (mid : Int) < (e : Int) := by omega
                          have q5d : decide ((mid : Int) < (e : Int)) = true := decide_eq_true q5
                          have q6 : decide ((e : Int) < (b : Int)) = false := decide_eq_false (by omega)
                          try (exfalso; omega)
                          all_goals
                            go_wp2
                            first | go_end0 | ((try simp only [Exit.inBlock, Exit.then]); refine bodyPost_ret (results_none rfl _ _ _) rfl ?_)
                            exact ⟨rfl, HFIN.out⟩
                        · have q5 : decide ((mid : Int) < (e : Int)) = false := decide_eq_false (by omega)
                          try (exfalso; omega)
                          all_goals
                            go_wp2
                            first | go_end0 | ((try simp only [Exit.inBlock, Exit.then]); refine bodyPost_ret (results_none rfl _ _ _) rfl ?_)
                            exact ⟨rfl, HFIN.out⟩
                  · obtain ⟨d2, hd2⟩ : ∃ x, x = d1 := ⟨_, rfl⟩
                    have S2 : Aside (SWK enc k w0 blk off d2 wr) := by rw [hd2]; exact S1.out
                    have M2 : Hid (Merged (ltOf cf) a s mid d1 d2) := by
                      show Merged (ltOf cf) a s mid d1 d2
                      rw [hd2]
                      by_cases h1 : a < s
                      · rw [show s = mid by omega]; exact merged_skip'
                      · rw [show s = a by omega]; exact merged_skip
                    have z2 : d2.size = d.size := by rw [hd2]; exact z1
                    clear hd2 S1
                    by_cases h1 : a < s
                    · have q3 : (a : Int) < (s : Int) := by omega
                      have q3d : decide ((a : Int) < (s : Int)) = true := decide_eq_true q3
                      have q4 : decide ((s : Int) < (mid : Int)) = false := decide_eq_false (by omega)
                      clear h1
                      by_cases c5 : mid < e ∧ e < b
                      · have q5 : (mid : Int) < (e : Int) := by omega
                        have q6 : (e : Int) < (b : Int) := by omega
                        have q5d : decide ((mid : Int) < (e : Int)) = true := decide_eq_true q5
                        try (exfalso; omega)
                        all_goals
                          have p3 : seg d2 mid (e - mid) = seg d s (m - s) := by
                            rw [show e - mid = m - s by omega]
                            exact (seg_congr fun t ht => M2.out.out (mid + t) (by omega) (by omega)).trans V1.out.2.2.1
                          have p4 : seg d2 e (b - e) = seg d e (b - e) := seg_congr fun t ht => (M2.out.out (e + t) (by omega) (by omega)).trans (V1.out.2.2.2 (e + t) (by omega) (by omega))
                          have x3 : NoInv (ltOf cf) (seg d2 mid (e - mid)) := by
                            rw [p3, ← show (seg d a (m - a)).drop (s - a) = seg d s (m - s) by rw [seg_drop _ _ _ _ (by omega), show a + (s - a) = s by omega, show m - a - (s - a) = m - s by omega]]
                            exact hnx.drop _
                          have x4 : NoInv (ltOf cf) (seg d2 e (b - e)) := by
                            rw [p4, ← show (seg d m (b - m)).drop (e - m) = seg d e (b - e) by rw [seg_drop _ _ _ _ (by omega), show m + (e - m) = e by omega, show b - m - (e - m) = b - e by omega]]
                            exact hny.drop _
                          have call := ih mid e b d2 wr (by omega) (by omega) S2.out (by omega) (by omega) (by omega) (by omega) x3 x4
                          rw [z2] at call
                          clear p3 p4 x3 x4
                          go_wp2_with fail
                          go_at_fn 215
                          refine call.mono ?_
                          rintro e3 w3 ⟨rfl, d3, m3, S3⟩
                          have M3 : Hid (Merged (ltOf cf) mid e b d2 d3) := m3
                          clear call m3
                          go_wp2
                          first | go_end0 | ((try simp only [Exit.inBlock, Exit.then]); refine bodyPost_ret (results_none rfl _ _ _) rfl ?_)
                          exact ⟨rfl, d3, merged_parts hw hsa hsm hme heb hb hnx hny HAB.out.1 HAB.out.2 V1.out.1 (by rw [show s + (e - m) = mid by omega]; exact M2.out) (by rw [show s + (e - m) = mid by omega]; exact M3.out), S3⟩
                      · have hfin : ∃ d', Merged (ltOf cf) a m b d d' ∧ SWK enc k w0 blk off d' wr := ⟨d2, merged_parts hw hsa hsm hme heb hb hnx hny HAB.out.1 HAB.out.2 V1.out.1 (by rw [show s + (e - m) = mid by omega]; exact M2.out) (by
                          rw [show s + (e - m) = mid by omega]
                          by_cases h1 : mid < e
                          · rw [show e = b by omega]; exact merged_skip'
                          · rw [show e = mid by omega]; exact merged_skip), S2.out⟩
                        have HFIN : Hid _ := hfin
                        clear hfin
                        by_cases h1 : mid < e
                        · have q5 : (mid : Int) < (e : Int) := by omega
                          have q5d : decide ((mid : Int) < (e : Int)) = true := decide_eq_true q5
                          have q6 : decide ((e : Int) < (b : Int)) = false := decide_eq_false (by omega)
                          try (exfalso; omega)
                          all_goals
                            go_wp2
                            first | go_end0 | ((try simp only [Exit.inBlock, Exit.then]); refine bodyPost_ret (results_none rfl _ _ _) rfl ?_)
                            exact ⟨rfl, HFIN.out⟩
                        · have q5 : decide ((mid : Int) < (e : Int)) = false := decide_eq_false (by omega)
                          try (exfalso; omega)
                          all_goals
                            go_wp2
                            first | go_end0 | ((try simp only [Exit.inBlock, Exit.then]); refine bodyPost_ret (results_none rfl _ _ _) rfl ?_)
                            exact ⟨rfl, HFIN.out⟩
                    · have q3 : decide ((a : Int) < (s : Int)) = false := decide_eq_false (by omega)
                      clear h1
                      by_cases c5 : mid < e ∧ e < b
                      · have q5 : (mid : Int) < (e : Int) := by omega
                        have q6 : (e : Int) < (b : Int) := by omega
                        have q5d : decide ((mid : Int) < (e : Int)) = true := decide_eq_true q5
                        try (exfalso; omega)
                        all_goals
                          have p3 : seg d2 mid (e - mid) = seg d s (m - s) := by
                            rw [show e - mid = m - s by omega]
                            exact (seg_congr fun t ht => M2.out.out (mid + t) (by omega) (by omega)).trans V1.out.2.2.1
                          have p4 : seg d2 e (b - e) = seg d e (b - e) := seg_congr fun t ht => (M2.out.out (e + t) (by omega) (by omega)).trans (V1.out.2.2.2 (e + t) (by omega) (by omega))
                          have x3 : NoInv (ltOf cf) (seg d2 mid (e - mid)) := by
                            rw [p3, ← show (seg d a (m - a)).drop (s - a) = seg d s (m - s) by rw [seg_drop _ _ _ _ (by omega), show a + (s - a) = s by omega, show m - a - (s - a) = m - s by omega]]
                            exact hnx.drop _
                          have x4 : NoInv (ltOf cf) (seg d2 e (b - e)) := by
                            rw [p4, ← show (seg d m (b - m)).drop (e - m) = seg d e (b - e) by rw [seg_drop _ _ _ _ (by omega), show m + (e - m) = e by omega, show b - m - (e - m) = b - e by omega]]
                            exact hny.drop _
                          have call := ih mid e b d2 wr (by omega) (by omega) S2.out (by omega) (by omega) (by omega) (by omega) x3 x4
                          rw [z2] at call
                          clear p3 p4 x3 x4
                          go_wp2_with fail
                          go_at_fn 215
                          refine call.mono ?_
                          rintro e3 w3 ⟨rfl, d3, m3, S3⟩
                          have M3 : Hid (Merged (ltOf cf) mid e b d2 d3) := m3
                          clear call m3
                          go_wp2
                          first | go_end0 | ((try simp only [Exit.inBlock, Exit.then]); refine bodyPost_ret (results_none rfl _ _ _) rfl ?_)
                          exact ⟨rfl, d3, merged_parts hw hsa hsm hme heb hb hnx hny HAB.out.1 HAB.out.2 V1.out.1 (by rw [show s + (e - m) = mid by omega]; exact M2.out) (by rw [show s + (e - m) = mid by omega]; exact M3.out), S3⟩
                      · have hfin : ∃ d', Merged (ltOf cf) a m b d d' ∧ SWK enc k w0 blk off d' wr := ⟨d2, merged_parts hw hsa hsm hme heb hb hnx hny HAB.out.1 HAB.out.2 V1.out.1 (by rw [show s + (e - m) = mid by omega]; exact M2.out) (by
                          rw [show s + (e - m) = mid by omega]
                          by_cases h1 : mid < e
                          · rw [show e = b by omega]; exact merged_skip'
                          · rw [show e = mid by omega]; exact merged_skip), S2.out⟩
                        have HFIN : Hid _ := hfin
                        clear hfin
                        by_cases h1 : mid < e
                        · have q5 : (mid : Int) < (e : Int) := by omega
                          have q5d : decide ((mid : Int) < (e : Int)) = true := decide_eq_true q5
                          have q6 : decide ((e : Int) < (b : Int)) = false := decide_eq_false (by omega)
                          try (exfalso; omega)
                          all_goals
                            go_wp2
                            first | go_end0 | ((try simp only [Exit.inBlock, Exit.then]); refine bodyPost_ret (results_none rfl _ _ _) rfl ?_)
                            exact ⟨rfl, HFIN.out⟩
                        · have q5 : decide ((mid : Int) < (e : Int)) = false := decide_eq_false (by omega)
                          try (exfalso; omega)
                          all_goals
                            go_wp2
                            first | go_end0 | ((try simp only [Exit.inBlock, Exit.then]); refine bodyPost_ret (results_none rfl _ _ _) rfl ?_)
                            exact ⟨rfl, HFIN.out⟩
                · have r1 : decide ((s : Int) < (m : Int)) = false := decide_eq_false (by omega)
                  clear h1
                  obtain ⟨r1, r2, r3⟩ := v1.rot hsm hme (by omega)
                  rw [show s + (e - m) = mid by omega] at r2
                  have V1 : Hid (Via (rotσ s m e) d d1 ∧ seg d1 s (e - m) = seg d m (e - m) ∧ seg d1 mid (m - s) = seg d s (m - s) ∧ ∀ t, t < d.size → (t < s ∨ e ≤ t) → d1[t]! = d[t]!) := ⟨v1, r1, r2, r3⟩
                  have z1 : d1.size = d.size := v1.size
                  clear v1 r1 r2 r3
                  by_cases c4 : a < s ∧ s < mid
                  · have q3 : (a : Int) < (s : Int) := by omega
                    have q3d : decide ((a : Int) < (s : Int)) = true := decide_eq_true q3
                    have q4 : (s : Int) < (mid : Int) := by omega
                    try (exfalso; omega)
                    all_goals
                      have p1 : seg d1 a (s - a) = seg d a (s - a) := seg_congr fun t ht => V1.out.2.2.2 (a + t) (by omega) (by omega)
                      have p2 : seg d1 s (mid - s) = seg d m (e - m) := by rw [show mid - s = e - m by omega]; exact V1.out.2.1
                      have x1 : NoInv (ltOf cf) (seg d1 a (s - a)) := by rw [p1, ← seg_take d a (m - a) (s - a) (by omega)]; exact hnx.take _
                      have x2 : NoInv (ltOf cf) (seg d1 s (mid - s)) := by rw [p2, ← seg_take d m (b - m) (e - m) (by omega)]; exact hny.take _
                      have call := ih a s mid d1 wr (by omega) (by omega) S1.out (by omega) (by omega) (by omega) (by omega) x1 x2
                      rw [z1] at call
                      clear p1 p2 x1 x2
                      go_wp2_with fail
                      go_at_fn 215
                      refine call.mono ?_
                      rintro e2 w2 ⟨rfl, d2, m2, S2'⟩
                      have S2 : Aside (SWK enc k w0 blk off d2 w2) := S2'
                      have M2 : Hid (Merged (ltOf cf) a s mid d1 d2) := m2
                      have z2 : d2.size = d.size := m2.size.trans z1
                      clear call m2 S1 S2' q3 q3d q4
                      by_cases c5 : mid < e ∧ e < b
                      · have q5 : (mid : Int) < (e : Int) := by omega
                        have q6 : (e : Int) < (b : Int) := by omega
                        have q5d : decide ((mid : Int) < (e : Int)) = true := decide_eq_true q5
                        try (exfalso; omega)
                        all_goals
                          have p3 : seg d2 mid (e - mid) = seg d s (m - s) := by
                            rw [show e - mid = m - s by omega]
                            exact (seg_congr fun t ht => M2.out.out (mid + t) (by omega) (by omega)).trans V1.out.2.2.1
                          have p4 : seg d2 e (b - e) = seg d e (b - e) := seg_congr fun t ht => (M2.out.out (e + t) (by omega) (by omega)).trans (V1.out.2.2.2 (e + t) (by omega) (by omega))
                          have x3 : NoInv (ltOf cf) (seg d2 mid (e - mid)) := by
                            rw [p3, ← show (seg d a (m - a)).drop (s - a) = seg d s (m - s) by rw [seg_drop _ _ _ _ (by omega), show a + (s - a) = s by omega, show m - a - (s - a) = m - s by omega]]
                            exact hnx.drop _
                          have x4 : NoInv (ltOf cf) (seg d2 e (b - e)) := by
                            rw [p4, ← show (seg d m (b - m)).drop (e - m) = seg d e (b - e) by rw [seg_drop _ _ _ _ (by omega), show m + (e - m) = e by omega, show b - m - (e - m) = b - e by omega]]
                            exact hny.drop _
                          have call := ih mid e b d2 w2 (by omega) (by omega) S2.out (by omega) (by omega) (by omega) (by omega) x3 x4
                          rw [z2] at call
                          clear p3 p4 x3 x4
                          go_wp2_with fail
                          go_at_fn 215
                          refine call.mono ?_
                          rintro e3 w3 ⟨rfl, d3, m3, S3⟩
                          have M3 : Hid (Merged (ltOf cf) mid e b d2 d3) := m3
                          clear call m3
                          go_wp2
                          first | go_end0 | ((try simp only [Exit.inBlock, Exit.then]); refine bodyPost_ret (results_none rfl _ _ _) rfl ?_)
                          exact ⟨rfl, d3, merged_parts hw hsa hsm hme heb hb hnx hny HAB.out.1 HAB.out.2 V1.out.1 (by rw [show s + (e - m) = mid by omega]; exact M2.out) (by rw [show s + (e - m) = mid by omega]; exact M3.out), S3⟩
                      · have hfin : ∃ d', Merged (ltOf cf) a m b d d' ∧ SWK enc k w0 blk off d' w2 := ⟨d2, merged_parts hw hsa hsm hme heb hb hnx hny HAB.out.1 HAB.out.2 V1.out.1 (by rw [show s + (e - m) = mid by omega]; exact M2.out) (by
                          rw [show s + (e - m) = mid by omega]
                          by_cases h1 : mid < e
                          · rw [show e = b by omega]; exact merged_skip'
                          · rw [show e = mid by omega]; exact merged_skip), S2.out⟩
                        have HFIN : Hid _ := hfin
                        clear hfin
                        by_cases h1 : mid < e
                        · have q5 : (mid : Int) < (e : Int) := by omega
                          have q5d : decide ((mid : Int) < (e : Int)) = true := decide_eq_true q5
                          have q6 : decide ((e : Int) < (b : Int)) = false := decide_eq_false (by omega)
                          try (exfalso; omega)
                          all_goals
                            go_wp2
                            first | go_end0 | ((try simp only [Exit.inBlock, Exit.then]); refine bodyPost_ret (results_none rfl _ _ _) rfl ?_)
                            exact ⟨rfl, HFIN.out⟩
                        · have q5 : decide ((mid : Int) < (e : Int)) = false := decide_eq_false (by omega)
                          try (exfalso; omega)
                          all_goals
                            go_wp2
                            first | go_end0 | ((try simp only [Exit.inBlock, Exit.then]); refine bodyPost_ret (results_none rfl _ _ _) rfl ?_)
                            exact ⟨rfl, HFIN.out⟩
                  · obtain ⟨d2, hd2⟩ : ∃ x, x = d1 := ⟨_, rfl⟩
                    have S2 : Aside (SWK enc k w0 blk off d2 wr) := by rw [hd2]; exact S1.out
                    have M2 : Hid (Merged (ltOf cf) a s mid d1 d2) := by
                      show Merged (ltOf cf) a s mid d1 d2
                      rw [hd2]
                      by_cases h1 : a < s
                      · rw [show s = mid by omega]; exact merged_skip'
                      · rw [show s = a by omega]; exact merged_skip
                    have z2 : d2.size = d.size := by rw [hd2]; exact z1
                    clear hd2 S1
                    by_cases h1 : a < s
                    · have q3 : (a : Int) < (s : Int) := by omega
                      have q3d : decide ((a : Int) < (s : Int)) = true := decide_eq_true q3
                      have q4 : decide ((s : Int) < (mid : Int)) = false := decide_eq_false (by omega)
                      clear h1
                      by_cases c5 : mid < e ∧ e < b
                      · have q5 : (mid : Int) < (e : Int) := by omega
                        have q6 : (e : Int) < (b : Int) := by omega
                        have q5d : decide ((mid : Int) < (e : Int)) = true := decide_eq_true q5
                        try (exfalso; omega)
                        all_goals
                          have p3 : seg d2 mid (e - mid) = seg d s (m - s) := by
                            rw [show e - mid = m - s by omega]
                            exact (seg_congr fun t ht => M2.out.out (mid + t) (by omega) (by omega)).trans V1.out.2.2.1
                          have p4 : seg d2 e (b - e) = seg d e (b - e) := seg_congr fun t ht => (M2.out.out (e + t) (by omega) (by omega)).trans (V1.out.2.2.2 (e + t) (by omega) (by omega))
                          have x3 : NoInv (ltOf cf) (seg d2 mid (e - mid)) := by
                            rw [p3, ← show (seg d a (m - a)).drop (s - a) = seg d s (m - s) by rw [seg_drop _ _ _ _ (by omega), show a + (s - a) = s by omega, show m - a - (s - a) = m - s by omega]]
                            exact hnx.drop _
                          have x4 : NoInv (ltOf cf) (seg d2 e (b - e)) := by
                            rw [p4, ← show (seg d m (b - m)).drop (e - m) = seg d e (b - e) by rw [seg_drop _ _ _ _ (by omega), show m + (e - m) = e by omega, show b - m - (e - m) = b - e by omega]]
                            exact hny.drop _
                          have call := ih mid e b d2 wr (by omega) (by omega) S2.out (by omega) (by omega) (by omega) (by omega) x3 x4
                          rw [z2] at call
                          clear p3 p4 x3 x4
                          go_wp2_with fail
                          go_at_fn 215
                          refine call.mono ?_
                          rintro e3 w3 ⟨rfl, d3, m3, S3⟩
                          have M3 : Hid (Merged (ltOf cf) mid e b d2 d3) := m3
                          clear call m3
                          go_wp2
                          first | go_end0 | ((try simp only [Exit.inBlock, Exit.then]); refine bodyPost_ret (results_none rfl _ _ _) rfl ?_)
                          exact ⟨rfl, d3, merged_parts hw hsa hsm hme heb hb hnx hny HAB.out.1 HAB.out.2 V1.out.1 (by rw [show s + (e - m) = mid by omega]; exact M2.out) (by rw [show s + (e - m) = mid by omega]; exact M3.out), S3⟩
                      · have hfin : ∃ d', Merged (ltOf cf) a m b d d' ∧ SWK enc k w0 blk off d' wr := ⟨d2, merged_parts hw hsa hsm hme heb hb hnx hny HAB.out.1 HAB.out.2 V1.out.1 (by rw [show s + (e - m) = mid by omega]; exact M2.out) (by
                          rw [show s + (e - m) = mid by omega]
                          by_cases h1 : mid < e
                          · rw [show e = b by omega]; exact merged_skip'
                          · rw [show e = mid by omega]; exact merged_skip), S2.out⟩
                        have HFIN : Hid _ := hfin
                        clear hfin
                        by_cases h1 : mid < e
                        · have q5 : (mid : Int) < (e : Int) := by omega
                          have q5d : decide ((mid : Int) < (e : Int)) = true := decide_eq_true q5
                          have q6 : decide ((e : Int) < (b : Int)) = false := decide_eq_false (by omega)
                          try (exfalso; omega)
                          all_goals
                            go_wp2
                            first | go_end0 | ((try simp only [Exit.inBlock, Exit.then]); refine bodyPost_ret (results_none rfl _ _ _) rfl ?_)
                            exact ⟨rfl, HFIN.out⟩
                        · have q5 : decide ((mid : Int) < (e : Int)) = false := decide_eq_false (by omega)
                          try (exfalso; omega)
                          all_goals
                            go_wp2
                            first | go_end0 | ((try simp only [Exit.inBlock, Exit.then]); refine bodyPost_ret (results_none rfl _ _ _) rfl ?_)
                            exact ⟨rfl, HFIN.out⟩
                    · have q3 : decide ((a : Int) < (s : Int)) = false := decide_eq_false (by omega)
                      clear h1
                      by_cases c5 : mid < e ∧ e < b
                      · have q5 : (mid : Int) < (e : Int) := by omega
                        have q6 : (e : Int) < (b : Int) := by omega
                        have q5d : decide ((mid : Int) < (e : Int)) = true := decide_eq_true q5
                        try (exfalso; omega)
                        all_goals
                          have p3 : seg d2 mid (e - mid) = seg d s (m - s) := by
                            rw [show e - mid = m - s by omega]
                            exact (seg_congr fun t ht => M2.out.out (mid + t) (by omega) (by omega)).trans V1.out.2.2.1
                          have p4 : seg d2 e (b - e) = seg d e (b - e) := seg_congr fun t ht => (M2.out.out (e + t) (by omega) (by omega)).trans (V1.out.2.2.2 (e + t) (by omega) (by omega))
                          have x3 : NoInv (ltOf cf) (seg d2 mid (e - mid)) := by
                            rw [p3, ← show (seg d a (m - a)).drop (s - a) = seg d s (m - s) by rw [seg_drop _ _ _ _ (by omega), show a + (s - a) = s by omega, show m - a - (s - a) = m - s by omega]]
                            exact hnx.drop _
                          have x4 : NoInv (ltOf cf) (seg d2 e (b - e)) := by
                            rw [p4, ← show (seg d m (b - m)).drop (e - m) = seg d e (b - e) by rw [seg_drop _ _ _ _ (by omega), show m + (e - m) = e by omega, show b - m - (e - m) = b - e by omega]]
                            exact hny.drop _
                          have call := ih mid e b d2 wr (by omega) (by omega) S2.out (by omega) (by omega) (by omega) (by omega) x3 x4
                          rw [z2] at call
                          clear p3 p4 x3 x4
                          go_wp2_with fail
                          go_at_fn 215
                          refine call.mono ?_
                          rintro e3 w3 ⟨rfl, d3, m3, S3⟩
                          have M3 : Hid (Merged (ltOf cf) mid e b d2 d3) := m3
                          clear call m3
                          go_wp2
                          first | go_end0 | ((try simp only [Exit.inBlock, Exit.then]); refine bodyPost_ret (results_none rfl _ _ _) rfl ?_)
                          exact ⟨rfl, d3, merged_parts hw hsa hsm hme heb hb hnx hny HAB.out.1 HAB.out.2 V1.out.1 (by rw [show s + (e - m) = mid by omega]; exact M2.out) (by rw [show s + (e - m) = mid by omega]; exact M3.out), S3⟩
                      · have hfin : ∃ d', Merged (ltOf cf) a m b d d' ∧ SWK enc k w0 blk off d' wr := ⟨d2, merged_parts hw hsa hsm hme heb hb hnx hny HAB.out.1 HAB.out.2 V1.out.1 (by rw [show s + (e - m) = mid by omega]; exact M2.out) (by
                          rw [show s + (e - m) = mid by omega]
                          by_cases h1 : mid < e
                          · rw [show e = b by omega]; exact merged_skip'
                          · rw [show e = mid by omega]; exact merged_skip), S2.out⟩
                        have HFIN : Hid _ := hfin
                        clear hfin
                        by_cases h1 : mid < e
                        · have q5 : (mid : Int) < (e : Int) := by omega
                          have q5d : decide ((mid : Int) < (e : Int)) = true := decide_eq_true q5
                          have q6 : decide ((e : Int) < (b : Int)) = false := decide_eq_false (by omega)
                          try (exfalso; omega)
                          all_goals
                            go_wp2
                            first | go_end0 | ((try simp only [Exit.inBlock, Exit.then]); refine bodyPost_ret (results_none rfl _ _ _) rfl ?_)
                            exact ⟨rfl, HFIN.out⟩
                        · have q5 : decide ((mid : Int) < (e : Int)) = false := decide_eq_false (by omega)
                          try (exfalso; omega)
                          all_goals
                            go_wp2
                            first | go_end0 | ((try simp only [Exit.inBlock, Exit.then]); refine bodyPost_ret (results_none rfl _ _ _) rfl ?_)
                            exact ⟨rfl, HFIN.out⟩
end
end Go.Proofs.YtppgmphojklaeaaGreatDoor
