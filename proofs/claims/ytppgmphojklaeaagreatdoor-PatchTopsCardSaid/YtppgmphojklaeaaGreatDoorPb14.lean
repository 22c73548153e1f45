/- Texts that the next ones stand on: OverMath, Ref16f, Ref16d, CovKit, ShaTabs. -/
import Derived.Test.YtppgmphojklaeaaGreatDoorPb13
import Derived.LaidMore
import Derived.Stop.Joined
import Derived.ChangeMaps5
namespace Go.Proofs.YtppgmphojklaeaaGreatDoor
open Go Go.RowKit Go.Sort Go.Lib

theorem cut_less (a : Lab) {n m : Nat} (h : n ≤ m) : cut (cut a m) n = cut a n := lab_ext fun i hi => by
  rw [bit_cut _ _ _ hi, bit_cut _ _ _ hi, bit_cut _ _ _ hi]
  split
  · rw [if_pos (by omega)]
  · rfl
theorem fork_bits {L : List Itm} (h : RiseI L) (h2 : 2 ≤ L.length) {i : Nat} (hi : i < L.length) : (i < forkC L → bit (L.getD i zeroItm).b (commonL L) = 0) ∧ (¬ i < forkC L → bit (L.getD i zeroItm).b (commonL L) = 1) := by
  have hf := forkC_at h
  have hn := (fork_ends h h2).1
  constructor
  · intro hc
    have h1 := hf.2.1 i hc
    have h3 : ¬ forkP L (commonL L) i = true := by rw [h1]; decide
    rw [forkP_nat] at h3
    have := bit_lt (L.getD i zeroItm).b (commonL L)
    have h4 : ¬ bit (L.getD i zeroItm).b (commonL L) = 1 := fun q => h3 ⟨hn, q⟩
    omega
  · intro hc
    exact ((forkP_nat _ _ _).1 (hf.2.2 i (by omega) hi)).2
theorem getD_take {L : List Itm} {c i : Nat} (h : i < c) : (L.take c).getD i zeroItm = L.getD i zeroItm := by
  rw [List.getD_eq_getElem?_getD, List.getD_eq_getElem?_getD, List.getElem?_take, if_pos h]
theorem getD_drop {L : List Itm} {c i : Nat} : (L.drop c).getD i zeroItm = L.getD (c + i) zeroItm := by
  rw [List.getD_eq_getElem?_getD, List.getD_eq_getElem?_getD, List.getElem?_drop]
/-- Of two that share a bit behind what all have in common. -/
theorem more_common {L : List Itm} (h : RiseI L) (h2 : 2 ≤ L.length) {i j : Nat} (hi : i < L.length) (hj : j < L.length) (hb : bit (L.getD i zeroItm).b (commonL L) = bit (L.getD j zeroItm).b (commonL L)) : commonL L < common (L.getD i zeroItm).b (L.getD j zeroItm).b := by
  have h1 := h.bits hi hj
  have hn := (fork_ends h h2).1
  by_cases e : common (L.getD i zeroItm).b (L.getD j zeroItm).b = commonL L
  · have := (common_is (L.getD i zeroItm).b (L.getD j zeroItm).b).other (by omega)
    rw [e] at this
    exact absurd hb this
  · omega
theorem whole_b : ∀ (f : Nat) (L : List Itm), L.length ≤ f → 0 < L.length → RiseI L → (wholeF f L).b = cut (L.getD 0 zeroItm).b (commonL L) ∧ (2 ≤ L.length → (wholeF f L).n = (commonL L : Int)) := by
  intro f
  induction f with
  | zero => intro L h1 h2; omega
  | succ f ih =>
    intro L hf h0 hr
    by_cases h1 : L.length = 1
    · refine ⟨?_, fun h => by omega⟩
      have e : commonL L = 256 := by
        unfold commonL
        rw [h1]
        exact common_256.2 rfl
      rw [wholeF, if_pos h1, e, cut_256 _ _ (Nat.le_refl _)]
    · have h2 : 2 ≤ L.length := by omega
      obtain ⟨hc0, hcl⟩ := (forkC_at hr).inside hr h2
      have hn := (fork_ends hr h2).1
      obtain ⟨c, hc⟩ : ∃ c, forkC L = c := ⟨_, rfl⟩
      have hfb := fun i (hi : i < L.length) => fork_bits hr h2 hi
      rw [hc] at hc0 hcl hfb
      have lT : (L.take c).length = c := by rw [List.length_take]; omega
      have lD : (L.drop c).length = L.length - c := List.length_drop
      have iA := (ih (L.take c) (by omega) (by omega) (hr.take c)).1
      have iD := (ih (L.drop c) (by omega) (by omega) (hr.drop c)).1
      have cA : commonL L < commonL (L.take c) := by
        unfold commonL
        rw [lT, getD_take (by omega), getD_take (by omega)]
        exact more_common hr h2 (by omega) (by omega) (by rw [(hfb 0 (by omega)).1 (by omega), (hfb (c - 1) (by omega)).1 (by omega)])
      have cD : commonL L < commonL (L.drop c) := by
        unfold commonL
        rw [lD, getD_drop, getD_drop]
        exact more_common hr h2 (by omega) (by omega) (by rw [(hfb (c + 0) (by omega)).2 (by omega), (hfb (c + (L.length - c - 1)) (by omega)).2 (by omega)])
      rw [getD_take (by omega)] at iA
      rw [getD_drop, Nat.add_zero] at iD
      have hcom : common (wholeF f (L.take c)).b (wholeF f (L.drop c)).b = commonL L := by
        refine common_of ⟨by omega, fun i hi => ?_, fun _ => ?_⟩
        · rw [iA, iD, bit_cut _ _ _ (by omega), bit_cut _ _ _ (by omega), if_pos (by omega), if_pos (by omega)]
          exact (common_is (L.getD 0 zeroItm).b (L.getD c zeroItm).b).same i (by have := hr.bits (i := 0) (j := c) (by omega) hcl; omega)
        · rw [iA, iD, bit_cut _ _ _ hn, bit_cut _ _ _ hn, if_pos cA, if_pos cD, (hfb 0 (by omega)).1 hc0, (hfb c hcl).2 (Nat.lt_irrefl _)]
          decide
      rw [wholeF, if_neg h1, hc]
      refine ⟨?_, fun _ => ?_⟩
      · show cut (wholeF f (L.take c)).b (common (wholeF f (L.take c)).b (wholeF f (L.drop c)).b) = _
        rw [hcom, iA, cut_less _ (Nat.le_of_lt cA)]
      · show ((common (wholeF f (L.take c)).b (wholeF f (L.drop c)).b : Nat) : Int) = _
        rw [hcom]
/-- A label touches the top of the tree of leaves just if it begins as the top's item. -/
theorem touch_some {P : List Lf} (K : List Lab) (h0 : 0 < P.length) (hr : RiseI (P.map leafI)) : touchL K (overL (P.map leafI)).1 (overL (P.map leafI)).2 = someR K (wholeF P.length (P.map leafI)) := by
  have hl : (P.map leafI).length = P.length := List.length_map _
  have hw := whole_b P.length (P.map leafI) (by omega) (by omega) hr
  have hle : commonL (P.map leafI) ≤ 256 := common_le _ _
  have key : ∀ (n : Int) (b : Lab), good n b = true → (wholeF P.length (P.map leafI)).n = n → (wholeF P.length (P.map leafI)).b = b → touchL K n b = someR K (wholeF P.length (P.map leafI)) := by
    intro n b hg h1 h2
    unfold touchL someR
    rw [h1, h2]
    congr 1
    funext l
    rw [has_cut, hg, Bool.true_and]
  unfold overL
  rw [hl]
  by_cases h1 : P.length = 1
  · rw [if_pos h1]
    have e : wholeF P.length (P.map leafI) = (P.map leafI).getD 0 zeroItm := by rw [h1, wholeF, if_pos (by omega)]
    refine key _ _ ?_ (by rw [e]) (by rw [e])
    match P, h1 with
    | [y], _ =>
      show good (leafI y).n (leafI y).b = true
      exact good_of (Nat.le_refl _) (cut_cut y.a 256 256 (Nat.le_refl _))
  · rw [if_neg h1]
    refine key _ _ ?_ ?_ hw.1
    · rw [show min (max (commonL (P.map leafI) : Int) 0) 256 = (commonL (P.map leafI) : Int) by omega]
      exact good_of hle (cut_cut _ _ _ (Nat.le_refl _))
    · rw [hw.2 (by omega)]
      omega
end Go.Proofs.YtppgmphojklaeaaGreatDoor
namespace Go.Proofs.YtppgmphojklaeaaGreatDoor
open Go Go.RowKit Go.Lib

@[go_sem ↓] theorem field_ritem (v : Value) (k : Nat) : Instr.field 66 v k = fieldOf 66 v k := rfl
set_option maxRecDepth 100000 in
@[go_sem] theorem field_ritem2 (x : Itm) (w : World) : (fieldOf 66 (.agg (cellsI x)) 2).run Tryz.prog w = .ok (.agg (cellsL x.s)) w :=
  (run_field _ w Tryz.underlying66 rfl).trans (p_I_sum x w)
def topR (L : List Itm) : Lab := if L.length = 0 then shaLab [18] else (wholeF L.length L).s
set_option maxRecDepth 100000 in
set_option maxHeartbeats 2000000 in
theorem r16Top_any (v : Value) (L : List Itm) (hL : L.length ≤ 100000) (hr : RiseI L) (w : World) (hA : AtJ w.heap.size w v L) :
    Calls Tryz.prog 16 #[v] w fun e w' => e = .returned (.agg (cellsL (topR L))) ∧ Below w.heap.size w w' := by
  have b0 : Below w.heap.size w (w.alloc (.cells (cellsL zeroLab) 27)) := (Below.refl _ _).alloc (Nat.le_refl _) _
  have r0 : rowAt (w.alloc (.cells (cellsL zeroLab) 27)) w.heap.size = some (cellsL zeroLab) := rowAt_alloc_at _ _ _ _ rfl
  obtain ⟨m, hm⟩ : ∃ m, L.length = m := ⟨_, rfl⟩
  have hm1 : (m : Int) ≤ 100000 := by omega
  have A1 : AtJ (w.alloc (.cells (cellsL zeroLab) 27)).heap.size (w.alloc (.cells (cellsL zeroLab) 27)) v L := (hA.below (Nat.le_refl _) b0).below b0.size (Below.refl _ _)
  obtain ⟨ao, cap, rfl, _⟩ := hA
  unfold topR
  by_cases h0 : L.length = 0
  · rw [if_pos h0, h0]
    have HS := Lib.hid (r3Sum_any ⟨#[18]⟩ (w.alloc (.cells (cellsL zeroLab) 27)) (by decide))
    rw [show (⟨#[18]⟩ : ByteArray).data.toList = [18] from rfl] at HS
    generalize shaLab [18] = Z at *
    clear A1 hm hr hL h0 hm1
    go_enter Tryz.func16, Tryz.ntmps16
    go_wp2_with fail
    generalize w.alloc (.cells (cellsL zeroLab) 27) = W at *
    refine HS.out.mono ?_
    rintro e w2 ⟨rfl, b2⟩
    have b3 := below_past b0 b2 b0.size
    have r2 := rowAt_past b2 r0
    clear b0 b2 r0 HS
    go_wp2_with fail
    exact row_ret_lab rfl rfl rfl (rowAt_setRow_same r2 _) ⟨rfl, Below.setRow b3 (Nat.le_refl _) _⟩
  · rw [if_neg h0]
    have h1 : ¬ (m : Int) = 0 := by omega
    have HJ := Lib.hid (r16Join_any L.length L _ _ (Nat.le_refl _) (by omega) hr hL A1)
    rw [hm] at HJ ⊢
    generalize wholeF m L = X at *
    clear A1 hm hr hL h0
    go_enter Tryz.func16, Tryz.ntmps16
    go_wp2_with fail
    generalize w.alloc (.cells (cellsL zeroLab) 27) = W at *
    refine HJ.out.mono ?_
    rintro e w2 ⟨rfl, b2⟩
    have b3 := below_past b0 b2 b0.size
    have r2 := rowAt_past b2 r0
    clear b0 b2 r0 HJ
    go_wp2_with fail
    exact row_ret_lab rfl rfl rfl (rowAt_setRow_same r2 _) ⟨rfl, Below.setRow b3 (Nat.le_refl _) _⟩

theorem atJ_nil (n0 : Nat) (w : World) : AtJ n0 w (.slice none 0 0) [] := ⟨none, 0, rfl, fun i hi => absurd hi (Nat.not_lt_zero i)⟩
theorem atJ_one (w : World) (x : Itm) : AtJ (w.alloc (.cells (cellsI x) 66)).heap.size (w.alloc (.cells (cellsI x) 66)) (.slice (some ⟨w.heap.size, 0, none⟩) 1 1) [x] := by
  refine ⟨_, _, rfl, fun i hi => ⟨w.heap.size, 0, cellsI x, rfl, by rw [World.size_alloc]; omega, rowAt_of_heap (World.alloc_heap_new _ _), ?_, ?_⟩⟩
  · have h1 : i = 0 := by simpa using hi
    subst h1
    rw [size_cellsI]
    decide
  · have h1 : i = 0 := by simpa using hi
    subst h1
    exact extract_I x
end Go.Proofs.YtppgmphojklaeaaGreatDoor
namespace Go.Proofs.YtppgmphojklaeaaGreatDoor
open Go Go.RowKit Go.Lib

theorem chk_over {x y : Itm} (hx : goodI x = true) (hy : goodI y = true) : chkI x y = if (overR x y || overR y x || !decide (order x.b y.b = -1)) = true then 3 else 0 := by
  have hc := common_symm x.b y.b
  unfold chkI overR
  rw [if_pos (by rw [hx, hy]; rfl)]
  rw [← hc]
  by_cases h1 : order x.b y.b = -1
  · by_cases h : x.n ≤ (common x.b y.b : Int) ∨ y.n ≤ (common x.b y.b : Int)
    · rw [if_pos (by rcases h with h | h; exact .inl h; exact .inr (.inl h)), if_pos]
      simp only [h1, Bool.or_eq_true, Bool.and_eq_true, decide_eq_true_eq]
      left
      omega
    · rw [if_neg (by omega), if_neg]
      simp only [h1, Bool.or_eq_true, Bool.and_eq_true, decide_eq_true_eq]
      simp
      omega
  · rw [if_pos (.inr (.inr h1)), if_pos]
    simp [h1]
theorem chk_bad {x y : Itm} (hy : goodI y = false) : chkI x y = 1 := by
  unfold chkI
  rw [if_neg (by rw [hy]; simp)]
/-- What is left to check, once some were looked at. -/
def leftC (L : List Itm) (i : Nat) : Int := if i = 0 then (if L.length = 0 then 0 else if goodI (L.getD 0 zeroItm) = false then 1 else chkR L) else chkR (L.drop (i - 1))
theorem leftC_zero {L : List Itm} (h : ¬ 2000 < L.length) : chkL L = leftC L 0 := by
  cases L with
  | nil => rfl
  | cons x r =>
    rw [chkL_cons x r h]
    simp [leftC]
set_option maxRecDepth 100000 in
set_option maxHeartbeats 4000000 in
theorem r16Check_any (v : Value) (L : List Itm) (hL : L.length ≤ 1000000) (w : World) (hA : AtJ w.heap.size w v L) :
    Calls Tryz.prog 12 #[v] w fun e w' => e = .returned (.int .i64 (chkL L)) ∧ Below w.heap.size w w' := by
  obtain ⟨ao, cap, rfl, hA2⟩ := hA
  obtain ⟨B, hB⟩ : ∃ B, w.heap.size = B := ⟨_, rfl⟩
  obtain ⟨m, hm⟩ : ∃ m, L.length = m := ⟨_, rfl⟩
  have HM : Hid (L.length = m) := hm
  have HB : Hid (w.heap.size = B) := hB
  have hm1 : (m : Int) ≤ 1000000 := by omega
  have HA := Lib.hid hA2
  obtain ⟨E, hE⟩ : ∃ E, chkL L = E := ⟨_, rfl⟩
  rw [hm, hB] at HA
  by_cases hbig : 2000 < L.length
  · have hb2 : (2000 : Int) < m := by omega
    obtain rfl : E = 2 := by rw [← hE]; unfold chkL; rw [if_pos hbig]
    rw [hm, hE]
    clear hA2 hm hL hbig hE
    go_enter Tryz.func12, Tryz.ntmps12
    go_wp2
    go_ret
    exact ⟨rfl, Below.refl _ _⟩
  · have hb2 : ¬ (2000 : Int) < m := by omega
    have HE : Hid (leftC L 0 = E) := (leftC_zero hbig).symm.trans hE
    rw [hm, hE, hB]
    clear hA2 hm hL hbig hE hB
    go_enter Tryz.func12, Tryz.ntmps12
    go_wp2
    go_loopw [10] (fun s10 wr => ∃ (i : Nat), s10 = .int .i64 i ∧ i ≤ m ∧ Hid (leftC L i = E ∧ (0 < i → goodI (L.getD (i - 1) zeroItm) = true)) ∧ Below B w wr ∧ B ≤ wr.heap.size) (fun s10 _ => (m - intOf s10).toNat)
    case atStart => exact ⟨0, rfl, Nat.zero_le _, ⟨HE.out, fun h => absurd h (Nat.lt_irrefl 0)⟩, Below.refl _ _, Nat.le_of_eq HB.out.symm⟩
    case round =>
      obtain ⟨i, rfl, hi, HI, B1, S1⟩ := hrel
      by_cases hlt : i < m
      · have hlt' : (i : Int) < m := by omega
        obtain ⟨g, o, cur, rfl, hg, hr0, hsz, hex⟩ := HA.out i hlt
        have hr1 : rowAt wr g = some cur := (rowAt_below B1 hg).trans hr0
        have hsz1 : o + i * 66 + 66 ≤ cur.size := by omega
        have HL : Hid (i < L.length) := by rw [HM.out]; exact hlt
        obtain ⟨x, hx⟩ : ∃ x, L.getD i zeroItm = x := ⟨_, rfl⟩
        rw [hx] at hex
        have HX := Lib.hid hx
        have b2 : Below wr.heap.size wr (wr.alloc (.cells (cellsI x) 66)) := (Below.refl _ _).alloc (Nat.le_refl _) _
        have HG := Lib.hid (r15Good_any x (wr.alloc (.cells (cellsI x) 66)))
        have r1 : rowAt (wr.alloc (.cells (cellsI x) 66)) wr.heap.size = some (cellsI x) := rowAt_of_heap (World.alloc_heap_new _ _)
        have r2 := rowAt_past b2 hr1
        have B2 : Below B w (wr.alloc (.cells (cellsI x) 66)) := B1.trans (b2.mono S1)
        have S2 := Nat.le_trans S1 b2.size
        obtain ⟨gx, hgx⟩ : ∃ gx, goodI x = gx := ⟨_, rfl⟩
        have HGX := Lib.hid hgx
        rw [hgx] at HG
        have H0 : Hid (0 < i → leftC L i = if chkI (L.getD (i - 1) zeroItm) x = 0 then chkR (L.drop i) else chkI (L.getD (i - 1) zeroItm) x) := by
          show _ → _
          intro h0
          have hs := chkR_step L (i - 1) (by rw [show i - 1 + 1 = i by omega]; exact HL.out)
          rw [show i - 1 + 1 = i by omega, hx] at hs
          rw [leftC, if_neg (by omega)]
          exact hs
        have H1 : Hid (i = 0 → leftC L i = if gx = false then 1 else chkR (L.drop i)) := by
          show _ → _
          intro h0
          subst h0
          have := HL.out
          rw [leftC, if_pos rfl, if_neg (by omega), hx, hgx]
          rfl
        have H2 : Hid (chkR (L.drop i) = leftC L (i + 1)) := by
          show _ = _
          rw [leftC, if_neg (by omega), Nat.add_sub_cancel]
        clear hr0 B1 S1 b2 hx hgx
        cases gx
        · obtain rfl : E = 1 := by
            rw [← HI.out.1]
            by_cases h0 : i = 0
            · rw [H1.out h0]; rfl
            · rw [H0.out (by omega), chk_bad HGX.out]; rfl
          clear H0 H1 H2 HI
          go_wp2_with fail
          refine HG.out.mono ?_
          rintro e w3 ⟨rfl, b3⟩
          have B3 := Lib.hid (B2.trans (b3.mono S2))
          clear b3 B2 S2 HG r1 r2 hr1
          go_wp2
          go_ret
          exact ⟨rfl, B3.out⟩
        · go_wp2_with fail
          refine HG.out.mono ?_
          rintro e w3 ⟨rfl, b3⟩
          have B4 := B2.trans (b3.mono S2)
          have S4 := Nat.le_trans S2 b3.size
          have q1 := rowAt_past b3 r1
          have q2 := rowAt_past b3 r2
          clear b3 B2 S2 HG r1 r2 hr1
          have B2 := B4
          have S2 := S4
          clear B4 S4
          by_cases h0 : i = 0
          · have hi0 : ¬ (0 : Int) < i := by omega
            have HN : Hid (leftC L (i + 1) = E ∧ (0 < i + 1 → goodI (L.getD (i + 1 - 1) zeroItm) = true)) := by
              refine ⟨?_, fun _ => by rw [Nat.add_sub_cancel, HX.out]; exact HGX.out⟩
              rw [← HI.out.1, H1.out h0, if_neg (by decide)]
              exact H2.out.symm
            clear H0 H1 H2 HI q1 q2
            subst h0
            go_wp2_with fail
            refine wp_region_past (by kernel_rfl) (by kernel_rfl) ?_
            iterate 32 go_big_quiet_step (fail)
            refine wpQuiet_nil ?_
            intro wn hw2
            obtain ⟨⟨wx, hn⟩, rfl⟩ := hw2
            try dsimp only
            have B3 := B2.trans (hn.mono S2)
            have S3 := Nat.le_trans S2 hn.size
            clear hn B2 S2
            go_wp2
            go_roundw
            case rel => exact ⟨0 + 1, by go_num, hlt, HN.out, B3, S3⟩
            case measure => simp [intOf]; omega
          · have hi0 : decide (0 < i) = true := decide_eq_true (by omega)
            obtain ⟨k, hk⟩ : ∃ k, i = k + 1 := ⟨i - 1, by omega⟩
            have hkz : IntKind.i64.wrap ((i : Int) - 1) = (k : Int) := by rw [IntWalk.i64_in _ (by omega)]; omega
            have hkm : k < m := by omega
            have hkmi : (k : Int) < m := by omega
            have hki : i - 1 = k := by omega
            rw [hki] at H0 HI
            obtain ⟨ao', o', cur', e1, hg', hr', hsz', hex'⟩ := HA.out k hkm
            cases e1
            obtain rfl : cur' = cur := by
              have h1 := (rowAt_below (B2 : Below B w _) hg').trans hr'
              rw [q2] at h1
              exact (Option.some.inj h1).symm
            have hsz2 : o + k * 66 + 66 ≤ cur'.size := by omega
            have hsz3 : o + k * 66 + 1 + 32 ≤ cur'.size := by omega
            have hexb := ext_b hex'
            have HP := Lib.hid (HI.out.2 (by omega))
            have HEq := Lib.hid ((H0.out (by omega)).symm.trans HI.out.1)
            generalize L.getD k zeroItm = p at *
            rw [chk_over HP.out HGX.out] at HEq
            have HO1 := Lib.hid (fun w => r16over_any p x w)
            have HO2 := Lib.hid (fun w => r16over_any x p w)
            have HO3 := Lib.hid (fun w => rOrder_any p.b x.b w)
            have p1 := fun z : Past w3 => Past.row q1 z
            have p2 := fun z : Past w3 => Past.row q2 z
            have HN0 : Hid (0 < i + 1 → goodI (L.getD (i + 1 - 1) zeroItm) = true) := by
              show _ → _
              intro _
              rw [Nat.add_sub_cancel, HX.out]
              exact HGX.out
            generalize overR p x = o1 at *
            generalize overR x p = o2 at *
            generalize hzz : order p.b x.b = z at HO3 HEq
            clear H0 H1 HI q1 q2 h0 hk hki hg' hr' hsz' hzz
            cases o1
            · cases o2
              · by_cases hz : z = -1
                · subst hz
                  have HN : Hid (leftC L (i + 1) = E ∧ (0 < i + 1 → goodI (L.getD (i + 1 - 1) zeroItm) = true)) := by
                    refine ⟨?_, HN0.out⟩
                    rw [← H2.out]
                    simpa using HEq.out
                  clear H2 HEq HN0
                  go_wp2_with fail
                  refine wp_region_past (by kernel_rfl) (by kernel_rfl) ?_
                  iterate 9 go_big_quiet_step (fail)
                  go_big_quiet_step (exact Past.call (HO1.out _))
                  iterate 7 go_big_quiet_step (fail)
                  go_big_quiet_step (exact Past.call (HO2.out _))
                  iterate 10 go_big_quiet_step (fail)
                  go_big_quiet_step (exact Past.call (HO3.out _))
                  iterate 3 go_big_quiet_step (fail)
                  refine wpQuiet_nil ?_
                  intro wn hw2
                  obtain ⟨⟨wx, hn⟩, rfl⟩ := hw2
                  try dsimp only
                  clear p1 p2 HO1 HO2 HO3
                  have B3 := B2.trans (hn.mono S2)
                  have S3 := Nat.le_trans S2 hn.size
                  clear hn B2 S2
                  go_wp2
                  go_roundw
                  case rel => exact ⟨i + 1, by go_num, hlt, HN.out, B3, S3⟩
                  case measure => simp [intOf]; omega
                · have hz2 : (z != -1) = true := bne_iff_ne.2 hz
                  obtain rfl : E = 3 := by
                    have := HEq.out
                    simp [hz] at this
                    exact this.symm
                  clear H2 HEq HN0 hz
                  go_wp2_with fail
                  refine wp_region_past (by kernel_rfl) (by kernel_rfl) ?_
                  iterate 9 go_big_quiet_step (fail)
                  go_big_quiet_step (exact Past.call (HO1.out _))
                  iterate 7 go_big_quiet_step (fail)
                  go_big_quiet_step (exact Past.call (HO2.out _))
                  iterate 10 go_big_quiet_step (fail)
                  go_big_quiet_step (exact Past.call (HO3.out _))
                  iterate 3 go_big_quiet_step (fail)
                  refine wpQuiet_nil ?_
                  intro wn hw2
                  obtain ⟨⟨wx, hn⟩, rfl⟩ := hw2
                  try dsimp only
                  clear p1 p2 HO1 HO2 HO3
                  have B3 := Lib.hid (B2.trans (hn.mono S2))
                  clear hn B2 S2
                  go_wp2
                  go_ret
                  exact ⟨rfl, B3.out⟩
              · obtain rfl : E = 3 := by
                  have := HEq.out
                  simp at this
                  exact this.symm
                clear H2 HEq HN0
                go_wp2_with fail
                refine wp_region_past (by kernel_rfl) (by kernel_rfl) ?_
                iterate 9 go_big_quiet_step (fail)
                go_big_quiet_step (exact Past.call (HO1.out _))
                iterate 7 go_big_quiet_step (fail)
                go_big_quiet_step (exact Past.call (HO2.out _))
                iterate 14 go_big_quiet_step (fail)
                refine wpQuiet_nil ?_
                intro wn hw2
                obtain ⟨⟨wx, hn⟩, rfl⟩ := hw2
                try dsimp only
                clear p1 p2 HO1 HO2 HO3
                have B3 := Lib.hid (B2.trans (hn.mono S2))
                clear hn B2 S2
                go_wp2
                go_ret
                exact ⟨rfl, B3.out⟩
            · obtain rfl : E = 3 := by
                have := HEq.out
                simp at this
                exact this.symm
              clear H2 HEq HN0
              go_wp2_with fail
              refine wp_region_past (by kernel_rfl) (by kernel_rfl) ?_
              iterate 9 go_big_quiet_step (fail)
              go_big_quiet_step (exact Past.call (HO1.out _))
              iterate 22 go_big_quiet_step (fail)
              refine wpQuiet_nil ?_
              intro wn hw2
              obtain ⟨⟨wx, hn⟩, rfl⟩ := hw2
              try dsimp only
              clear p1 p2 HO1 HO2 HO3
              have B3 := Lib.hid (B2.trans (hn.mono S2))
              clear hn B2 S2
              go_wp2
              go_ret
              exact ⟨rfl, B3.out⟩
      · obtain rfl : i = m := by omega
        have hlt' : ¬ (i : Int) < i := by omega
        obtain rfl : E = 0 := by
          rw [← HI.out.1, leftC]
          split
          · rename_i h
            rw [if_pos (by rw [HM.out]; exact h)]
          · rename_i h
            rw [chkR_last L (i - 1) (by rw [HM.out]; omega)]
        have B3 := Lib.hid B1
        clear B1 HI S1
        go_wp2
        go_ret
        exact ⟨rfl, B3.out⟩
end Go.Proofs.YtppgmphojklaeaaGreatDoor
namespace Go.Proofs.YtppgmphojklaeaaGreatDoor
open Go Go.RowKit Go.Sort Go.Lib

theorem cover_nil {L : List Lf} {K : List Lab} (h : chkL (itemsL L) ≠ 0) : coverL L K = ([], []) := by rw [coverL, if_pos h]
theorem cover_is {L : List Lf} {K : List Lab} (h : chkL (itemsL L) = 0) : coverL L K = covF (risingL L).length (touchL K) (risingL L) := by
  rw [coverL, if_neg (by rw [h]; decide), show (risingL L).length = L.length from isortL_length L]
end Go.Proofs.YtppgmphojklaeaaGreatDoor
namespace Go.Proofs.YtppgmphojklaeaaGreatDoor
open Go Go.ChangeShapes Go.WideShapes Go.ChangeAt Go.ChangeMaps Go.RowKit

theorem words_of {P : Program} {W : World} {enc : TypeId × Value → Unit} {sp : Nat → Bool} {T e n g fuel : Nat} {L : List Nat} {cs : Array Value} {ps : List MemPlace} (hcell : ∀ i, W.cell? ⟨g, i, none⟩ = cs[i]?)
    (hu : P.underlying T = some (.array n e)) (he : P.underlying e = some (.int .u32)) (ce : P.cellsOf e = 1) (hn : L.length = n)
    (hd : DataW.trod enc P W 0 sp false fuel T cs.toList = some (.agg (L.map fun k : Nat => .lit (.int .u32 (k : Int))), ps)) : ∀ i, i < n → W.cell? ⟨g, i, none⟩ = some (.int .u32 (L.getD i 0 : Nat)) := by
  obtain ⟨xs, m, _, hx, _, hl, hel⟩ := DataW.trod_array hu hd
  intro i hi
  have h1 := hel i hi
  rw [ce, List.getElem?_eq_getElem (show i < xs.length by omega)] at h1
  obtain ⟨k, e1, e2, _⟩ := DataW.trod_int he h1
  simp only [Prod.mk.injEq, DataW.agg.injEq] at hx
  have h2 : (L.map fun k : Nat => (DataW.lit (.int .u32 (k : Int)) : DataW Unit))[i]? = (xs.map (·.1))[i]? := by rw [hx.1]
  rw [List.getElem?_map, List.getElem?_map, List.getElem?_eq_getElem (show i < xs.length by omega), List.getElem?_eq_getElem (show i < L.length by omega), e2] at h2
  simp only [Option.map_some, Option.some.injEq, DataW.lit.injEq, Lit.int.injEq, true_and] at h2
  rw [hcell i, List.getD_eq_getElem?_getD, List.getElem?_eq_getElem (show i < L.length by omega)]
  have h3 : (List.take 1 (List.drop (i * 1) cs.toList))[0]? = some (.int .u32 k) := by rw [e1]; rfl
  have h4 : cs[i]? = some (.int .u32 k) := by simpa using h3
  rw [h4, ← h2]
  rfl
theorem gCubes : Tryz.prog.globalNamed "chirograph/sha.cubes" = some 0 := by kernel_rfl
theorem tCubes : (Tryz.prog.globals[0]?).map (·.type) = some 187 := by kernel_rfl
def laidSha {H : Type} : List (String × DataW H) := [("chirograph/sha.cubes", Rows.laid_chirograph_sha_cubes)]
theorem cellsOf_w32 : Tryz.prog.cellsOf 177 = 1 := by kernel_rfl
theorem cubesL_wv : ∀ i, i < 64 → wv (cubeT i) = ((cubesL.getD i 0 : Nat) : Int) := by
  have h : ((List.range 64).all fun i => (cubeT i).toNat == cubesL.getD i 0) = true := by decide +kernel
  intro i hi
  have := List.all_eq_true.1 h i (by simpa using hi)
  rw [beq_iff_eq] at this
  rw [wv, this]
theorem cubes_of_cells {W : World} (h : ∀ i, i < 64 → W.cell? ⟨0, i, none⟩ = some (.int .u32 (cubesL.getD i 0 : Nat))) : Cubes W := fun i hi => by
  rw [cubesL_wv i hi]
  exact h i hi
/-- What the condition gives: the table lies there. -/
theorem cubes_of_laid {W : World} (h : laidMetH Tryz.prog laidSha W) : Cubes W := by
  rw [MakeChecks.laidMetH_plain _ _ _ (by kernel_rfl)] at h
  obtain ⟨ps, ⟨g0, t0, cs0, f0, p0, q0, hg0, ht0, hv0, hd0, _, _⟩, _, _⟩ := h
  obtain rfl := Option.some.inj (gCubes.symm.trans hg0)
  obtain rfl := Option.some.inj (tCubes.symm.trans ht0)
  exact cubes_of_cells (words_of (L := cubesL) (World.var?_cell gCubes hv0) Tryz.underlying187 Tryz.underlying177 cellsOf_w32 rfl hd0)
/-- The door's own heap meets the condition. -/
theorem door_sha (os : Os) (args : Array Value) : laidMetH Tryz.prog laidSha ((World.doorLaid Tryz.prog 2000 os).forCall (fun _ _ => 0) ⟨#[], args, []⟩).memory :=
  laidMetH_of_parts3 (fuel := 8) (laidMet_of_run' 8 (by kernel_rfl) (by kernel_rfl)) (by kernel_rfl) (by kernel_rfl)
end Go.Proofs.YtppgmphojklaeaaGreatDoor
