/- Texts that the next ones stand on: Seek, Block3, WrAt, SealMath, Seal1, Seal2, Seal3, Seal4, SealLaw, Block4, Block5. -/
import Derived.Test.YtgegipijappfhaaDoorBM3
import Derived.Deep.Cut
import Derived.BigRegion
import Derived.Deep.DeepCutAuto
import Derived.Deep.RegionHeld3
import Derived.Laws.BitsAllLaws
import Derived.Laws.CopyOwn
import Derived.Lib.IndexLaws
import Derived.Lib.OthersKept
import Derived.WalkLawsBesides
import Derived.WalkSpells
import Derived.Outline
import Derived.IntWalk
import Derived.Test.YtgegipijappfhaaDoorShelf
import Derived.Lib.Hide
import Derived.Laws.BytesArg
import Derived.Laws.IdiomStrings
import Derived.Laws.AppendOwn
namespace Go.Proofs.YtgegipijappfhaaDoor
open Go Go.RowKit

theorem row_ent_tmp {ops : Func} {p q : Tmp} {a : Act} {w : World} {b : Nat} {c : Array Value} {u : Value} {Q : Ending → World → Prop} (h : ops.results = #[.cell p 36, .tmp q]) (hp : a.tmps.getD p undef = .pointer (some ⟨b, 0, none⟩)) (hq : a.tmps.getD q undef = u) (hd : a.defers = [])
    (hr : rowAt w b = some c) (hc : c.size = 3) (hQ : Q (.returned (.tuple #[.agg c, u])) w) : bodyPost Tryd.prog ops Q .ret a w := by
  subst hq
  exact bodyPost_ret (results_row_tmp h a.tmps w b _ _ hp hr Tryd.underlying36 rfl (by rw [hc]; kernel_rfl)) hd hQ
def entA (x : Ent) : Value := .agg #[.string (stx x.key), .string (stx x.val), .bool x.gone]
def smallB (l : List Ent) : Prop := ∀ x ∈ l, x.key.length ≤ 1000000 ∧ x.val.length ≤ 1000000
theorem stx_toList (l : List UInt8) : (stx l).toList = l := by
  rw [ByteArray.toList_eq]
/-- How many entries' keys are below a key. -/
def seekE (l : List Ent) (k : List UInt8) : Nat := l.countP fun x => decide (x.key < k)
theorem seekE_le (l : List Ent) (k : List UInt8) : seekE l k ≤ l.length := List.countP_le_length
theorem seekE_of {l : List Ent} {k : List UInt8} {c : Nat} (hc : c ≤ l.length) (h1 : ∀ t x, t < c → l[t]? = some x → x.key < k) (h2 : ∀ t x, c ≤ t → l[t]? = some x → ¬ x.key < k) : seekE l k = c := by
  unfold seekE
  conv => lhs; rw [← List.take_append_drop c l]
  rw [List.countP_append]
  have e1 : (l.take c).countP (fun x => decide (x.key < k)) = c := by
    rw [List.countP_eq_length.2 (fun x hx => ?_), List.length_take, Nat.min_eq_left hc]
    obtain ⟨t, ht, he⟩ := List.getElem_of_mem hx
    rw [List.length_take] at ht
    rw [List.getElem_take] at he
    exact decide_eq_true (h1 t x (by omega) (by rw [List.getElem?_eq_getElem (by omega), he]))
  have e2 : (l.drop c).countP (fun x => decide (x.key < k)) = 0 := by
    rw [List.countP_eq_zero]
    intro x hx
    obtain ⟨t, ht, he⟩ := List.getElem_of_mem hx
    rw [List.length_drop] at ht
    rw [List.getElem_drop] at he
    simpa using h2 (c + t) x (by omega) (by rw [List.getElem?_eq_getElem (by omega), he])
  rw [e1, e2]
  rfl
theorem rising_at {l : List Ent} (h : rising l) {a b : Nat} {x y : Ent} (hab : a < b) (hx : l[a]? = some x) (hy : l[b]? = some y) : x.key < y.key := by
  obtain ⟨ha, rfl⟩ := List.getElem?_eq_some_iff.1 hx
  obtain ⟨hb, rfl⟩ := List.getElem?_eq_some_iff.1 hy
  exact List.pairwise_iff_getElem.1 h a b ha hb hab
/-- Those ahead of the place are below the key, the others aren't. -/
theorem seekE_lt {l : List Ent} (h : rising l) {k : List UInt8} {t : Nat} {x : Ent} (hx : l[t]? = some x) : x.key < k ↔ t < seekE l k := by
  have ht := (List.getElem?_eq_some_iff.1 hx).1
  have key : ∃ c, c ≤ l.length ∧ (∀ t x, t < c → l[t]? = some x → x.key < k) ∧ (∀ t x, c ≤ t → l[t]? = some x → ¬ x.key < k) := by
    have : ∀ m, (∃ c, c ≤ l.length ∧ (∀ t x, t < c → l[t]? = some x → x.key < k) ∧ (∀ t x, c ≤ t → t < m → l[t]? = some x → ¬ x.key < k)) := by
      intro m
      induction m with
      | zero => exact ⟨0, Nat.zero_le _, fun t x h => absurd h (Nat.not_lt_zero _), fun t x _ h => absurd h (Nat.not_lt_zero _)⟩
      | succ m ih =>
        obtain ⟨c, c1, c2, c3⟩ := ih
        cases hm : l[m]? with
        | none => exact ⟨c, c1, c2, fun t x h1 h2 h3 => by
            by_cases q : t = m
            · subst q; rw [hm] at h3; cases h3
            · exact c3 t x h1 (by omega) h3⟩
        | some y =>
          by_cases hy : y.key < k
          · refine ⟨m + 1, (List.getElem?_eq_some_iff.1 hm).1, fun t x h1 h2 => ?_, fun t x h1 h2 => by omega⟩
            by_cases q : t = m
            · subst q; rw [hm] at h2; cases h2; exact hy
            · exact klt_trans (rising_at h (by omega) h2 hm) hy
          · exact ⟨c, c1, c2, fun t x h1 h2 h3 => by
              by_cases q : t = m
              · subst q; rw [hm] at h3; cases h3; exact hy
              · exact c3 t x h1 (by omega) h3⟩
    obtain ⟨c, c1, c2, c3⟩ := this l.length
    exact ⟨c, c1, c2, fun t x h1 h2 => c3 t x h1 (List.getElem?_eq_some_iff.1 h2).1 h2⟩
  obtain ⟨c, c1, c2, c3⟩ := key
  rw [seekE_of c1 c2 c3]
  constructor
  · intro hk
    by_cases q : t < c
    · exact q
    · exact absurd hk (c3 t x (by omega) hx)
  · exact fun q => c2 t x q hx
set_option maxRecDepth 100000 in
set_option maxHeartbeats 2000000 in
theorem search_any (n : Nat) (p : Nat → Bool) (A B : Value) (w : World) (hn : n ≤ 1000000)
    (hf : ∀ W, Below w.heap.size w W → ∀ i, i < n → Calls Tryd.prog 73 #[.int .i64 i, A, B] W fun e w' => e = .returned (.bool (p i)) ∧ Below W.heap.size W w')
    (hm : ∀ a b, a ≤ b → b < n → p a = true → p b = true) :
    Calls Tryd.prog 69 #[.int .i64 n, .func (.func 73) #[] #[A, B]] w fun e w' => (∃ c : Nat, e = .returned (.int .i64 c) ∧ c ≤ n ∧ (∀ t, t < c → p t = false) ∧ (∀ t, c ≤ t → t < n → p t = true)) ∧ Below w.heap.size w w' := by
  have HF := Lib.hid hf
  have HM := Lib.hid hm
  have hn1 : (n : Int) ≤ 1000000 := by omega
  clear hf hm
  go_enter Tryd.func69, Tryd.ntmps69
  go_wp2_with fail
  go_loopw [5, 6] (fun x y wr => ∃ i j : Nat, x = .int .i64 i ∧ y = .int .i64 j ∧ i ≤ j ∧ j ≤ n ∧ Hid ((∀ t, t < i → p t = false) ∧ (∀ t, j ≤ t → t < n → p t = true)) ∧ Below w.heap.size w wr) (fun x y _ => (intOf y - intOf x).toNat)
  case atStart => exact ⟨0, n, rfl, rfl, Nat.zero_le _, Nat.le_refl _, Lib.hid ⟨fun t h => absurd h (Nat.not_lt_zero _), fun t h1 h2 => by omega⟩, Below.refl _ _⟩
  case round =>
    obtain ⟨i, j, rfl, rfl, hij, hj, HI, b1⟩ := hrel
    by_cases hlt : i < j
    · have h1 : (i : Int) < j := by omega
      have h2 : (i : Int) + j ≤ 2000000 := by omega
      have h0 : (0 : Int) ≤ (i : Int) + j := by omega
      obtain ⟨m, hm⟩ : ∃ m, (i + j) / 2 = m := ⟨_, rfl⟩
      have hm1 : ((i : Int) + j) / 2 = m := by omega
      have hmi : i ≤ m := by omega
      have hmj : m < j := by omega
      have hm2 : (m : Int) ≤ 1000000 := by omega
      have HFM := Lib.hid (HF.out wr b1 m (by omega))
      clear hm
      go_wp2_with fail
      refine HFM.out.mono ?_
      rintro e w1 ⟨rfl, b2⟩
      have b3 := below_past b1 b2 b1.size
      clear HFM b1 b2
      cases hp : p m with
      | false =>
        have HI2 : Hid ((∀ t, t < m + 1 → p t = false) ∧ (∀ t, j ≤ t → t < n → p t = true)) := Lib.hid ⟨(fun t ht => by
          cases h : p t with
          | false => rfl
          | true =>
            have := HM.out t m (by omega) (by omega) h
            rw [hp] at this
            cases this), HI.out.2⟩
        clear hp
        go_wp2_with fail
        exact ⟨⟨m + 1, j, by go_num, rfl, by omega, hj, HI2, b3⟩, by simp [intOf]; omega⟩
      | true =>
        have HI2 : Hid ((∀ t, t < i → p t = false) ∧ (∀ t, m ≤ t → t < n → p t = true)) := Lib.hid ⟨HI.out.1, fun t h1 h2 => HM.out m t h1 h2 hp⟩
        clear hp
        go_wp2_with fail
        exact ⟨⟨i, m, rfl, rfl, hmi, by omega, HI2, b3⟩, by simp [intOf]; omega⟩
    · obtain rfl : i = j := by omega
      go_wp2_with fail
      go_ret
      exact ⟨⟨i, rfl, hj, HI.out.1, HI.out.2⟩, b1⟩
set_option maxRecDepth 100000 in
set_option maxHeartbeats 1000000 in
theorem kSeek1_any (ba bb i : Nat) (v : Value) (l : List Ent) (k : List UInt8) (x : Ent) (W : World) (ha : W.cell? ⟨ba, 0, none⟩ = some v) (hb : W.cell? ⟨bb, 0, none⟩ = some (.string (stx k))) (h : EntsAt W v l) (hx : l[i]? = some x) :
    Calls Tryd.prog 73 #[.int .i64 i, .pointer (some ⟨ba, 0, none⟩), .pointer (some ⟨bb, 0, none⟩)] W fun e w' => e = .returned (.bool (!decide (x.key < k))) ∧ Below W.heap.size W w' := by
  obtain ⟨ao, cap, rfl, h1, h2, h3⟩ := h
  obtain ⟨g, o, rfl, hat⟩ := h3 i x hx
  obtain ⟨n, hn⟩ : ∃ n, l.length = n := ⟨_, rfl⟩
  have hi : i < n := by rw [← hn]; exact (List.getElem?_eq_some_iff.1 hx).1
  rw [hn] at ha h1
  unfold maxLen at h2
  have i1 : (i : Int) < n := by omega
  have i2 : (n : Int) ≤ 9223372036854775807 := by omega
  have hless := lessE (stx x.key).toList (stx k).toList
  have hdd : decide ((stx x.key).toList < (stx k).toList) = decide (x.key < k) := by rw [stx_toList, stx_toList]
  rw [hdd] at hless
  generalize decide (x.key < k) = d at *
  have y0 := fun y : Past W => (y.h.cell (p := ⟨ba, 0, none⟩) (cellLt ha)).trans ha
  have y1 := fun y : Past W => (y.h.cell (p := ⟨bb, 0, none⟩) (cellLt hb)).trans hb
  have y2 := fun y : Past W => (y.h.cell (p := ⟨g, o + i * 3, none⟩) hat.lt).trans hat.1
  clear ha hb h3 hx hat hn hi hdd
  generalize stx x.key = sx at *
  generalize stx k = sk at *
  go_enter Tryd.func73, Tryd.ntmps73
  go_upto_region 1 with fail
  refine wp_region_past (by kernel_rfl) (by kernel_rfl) ?_
  repeat (go_big_quiet_step (fail))
  refine wpQuiet_nil ?_
  intro w2 hw2
  obtain ⟨⟨wn, hn⟩, rfl⟩ := hw2
  try dsimp only
  clear y0 y1 y2
  go_wp2_with fail
  go_ret
  exact ⟨rfl, hn⟩
set_option maxRecDepth 100000 in
set_option maxHeartbeats 1000000 in
theorem kSeek_any (v : Value) (l : List Ent) (k : List UInt8) (w : World) (h : EntsAt w v l) (hr : rising l) (hl : l.length ≤ 1000000) : Calls Tryd.prog 39 #[v, .string (stx k)] w fun e w' => e = .returned (.int .i64 (seekE l k)) ∧ Below w.heap.size w w' := by
  obtain ⟨ao, cap, hv, h1, h2, h3⟩ := id h
  obtain ⟨n, hn⟩ : ∃ n, l.length = n := ⟨_, rfl⟩
  rw [hn] at hv hl
  have b1 : Below w.heap.size w ((w.alloc (.cells #[v] 22)).alloc (.cells #[.string (stx k)] 9)) := ((Below.refl _ _).alloc (Nat.le_refl _) _).alloc (by simp only [World.size_alloc]; omega) _
  have c0 : ((w.alloc (.cells #[v] 22)).alloc (.cells #[.string (stx k)] 9)).cell? ⟨w.heap.size, 0, none⟩ = some v := cell_of_rowAt ((rowAt_alloc_past _ _ _ (by simp only [World.size_alloc]; omega)).trans (rowAt_alloc_at _ _ _ _ rfl)) 0
  have c1 : ((w.alloc (.cells #[v] 22)).alloc (.cells #[.string (stx k)] 9)).cell? ⟨w.heap.size + 1, 0, none⟩ = some (.string (stx k)) := cell_of_rowAt (rowAt_alloc_at _ _ _ _ (by simp only [World.size_alloc])) 0
  have he := h.below b1
  have HS := Lib.hid (search_any n (fun i => !decide ((l.getD i ⟨[], [], false⟩).key < k)) (.pointer (some ⟨w.heap.size, 0, none⟩)) (.pointer (some ⟨w.heap.size + 1, 0, none⟩)) _ hl (fun W hW i hi => by
    have hx : l[i]? = some (l.getD i ⟨[], [], false⟩) := by
      rw [List.getD_eq_getElem?_getD, List.getElem?_eq_getElem (by omega)]
      rfl
    exact kSeek1_any _ _ i v l k _ W ((hW.cell (p := ⟨w.heap.size, 0, none⟩) (cellLt c0)).trans c0) ((hW.cell (p := ⟨w.heap.size + 1, 0, none⟩) (cellLt c1)).trans c1) (he.below hW) hx) (fun a b hab hb hp => by
    simp only [Bool.not_eq_true', decide_eq_false_iff_not] at hp ⊢
    intro hq
    by_cases e : a = b
    · subst e; exact hp hq
    · exact hp (klt_trans (rising_at hr (show a < b by omega) (by rw [List.getD_eq_getElem?_getD, List.getElem?_eq_getElem (by omega)]; rfl) (by rw [List.getD_eq_getElem?_getD, List.getElem?_eq_getElem (by omega)]; rfl)) hq)))
  have HC : Hid (∀ c : Nat, c ≤ n → (∀ t, t < c → (!decide ((l.getD t ⟨[], [], false⟩).key < k)) = false) → (∀ t, c ≤ t → t < n → (!decide ((l.getD t ⟨[], [], false⟩).key < k)) = true) → seekE l k = c) := Lib.hid fun c q1 q2 q3 => seekE_of (by omega) (fun t x q4 q5 => by
    have := q2 t q4
    rw [List.getD_eq_getElem?_getD, q5] at this
    simpa using this) (fun t x q4 q5 => by
    have := q3 t q4 (by rw [← hn]; exact (List.getElem?_eq_some_iff.1 q5).1)
    rw [List.getD_eq_getElem?_getD, q5] at this
    simpa using this)
  have hn1 : (n : Int) ≤ 1000000 := by omega
  clear h h1 h2 h3 hn hr he
  subst hv
  go_enter Tryd.func39, Tryd.ntmps39
  go_wp2_with fail
  refine HS.out.mono ?_
  rintro e w1 ⟨⟨c, rfl, q1, q2, q3⟩, b2⟩
  have HE := Lib.hid (HC.out c q1 q2 q3)
  have b3 := below_past b1 b2 b1.size
  clear HS HC q1 q2 q3 b1 b2 c0 c1
  go_wp2_with fail
  go_ret
  exact ⟨by rw [HE.out]; rfl, b3⟩
end Go.Proofs.YtgegipijappfhaaDoor
namespace Go.Proofs.YtgegipijappfhaaDoor
open Go Go.RowKit

set_option maxRecDepth 100000 in
set_option maxHeartbeats 1000000 in
theorem kcommon_any2 (a b : List UInt8) (w : World) (ha : a.length ≤ 2000000) (hb : b.length ≤ 2000000) : Calls Tryd.prog 78 #[.string (stx a), .string (stx b)] w fun e w' => e = .returned (.int .i64 (commonB a b)) ∧ Below w.heap.size w w' := by
  obtain ⟨n, hn⟩ : ∃ n, a.length = n := ⟨_, rfl⟩
  obtain ⟨m, hm⟩ : ∃ m, b.length = m := ⟨_, rfl⟩
  have hz1 : (stx a).size = n := by rw [stx_size, hn]
  have hz2 : (stx b).size = m := by rw [stx_size, hm]
  obtain ⟨R, hR⟩ : ∃ R, commonB a b = R := ⟨_, rfl⟩
  have HL : Hid (commonB a b ≤ n ∧ commonB a b ≤ m) := Lib.hid (by rw [← hn, ← hm]; exact commonB_le a b)
  have HGE : Hid (∀ k, k ≤ n → k ≤ m → a.take k = b.take k → k ≤ R) := Lib.hid fun k h1 h2 h3 => by rw [← hR]; exact commonB_ge k a b (by omega) (by omega) h3
  have HPT : Hid (∀ k, k < n → k < m → at_ (stx a) k ≠ at_ (stx b) k → R ≤ k) := Lib.hid fun k h1 h2 h3 => by rw [← hR]; exact commonB_part k a b (by omega) (by omega) h3
  have HST : Hid (∀ k, k < n → k < m → a.take k = b.take k → at_ (stx a) k = at_ (stx b) k → a.take (k + 1) = b.take (k + 1)) := Lib.hid fun k h1 h2 h3 h4 => take_getD k a b (by omega) (by omega) h3 h4
  rw [hR] at HL ⊢
  rw [hn] at ha
  rw [hm] at hb
  have hA : (n : Int) ≤ 2000000 := by omega
  have hB : (m : Int) ≤ 2000000 := by omega
  clear hR hn hm
  generalize stx a = sa at *
  generalize stx b = sb at *
  go_enter Tryd.func78, Tryd.ntmps78
  go_wp2_with fail
  go_loopw [5] (fun x wr => ∃ k : Nat, k ≤ n ∧ k ≤ m ∧ x = .int .i64 k ∧ Hid (a.take k = b.take k) ∧ Below w.heap.size w wr) (fun x _ => (n - intOf x).toNat)
  case atStart => exact ⟨0, Nat.zero_le _, Nat.zero_le _, rfl, Lib.hid rfl, Below.refl _ _⟩
  case round =>
    obtain ⟨k, hk1, hk2, rfl, HE, b1⟩ := hrel
    by_cases h1 : k < n
    · have i1 : (k : Int) < n := by omega
      have j1 : decide (k < n) = true := decide_eq_true h1
      by_cases h2 : k < m
      · have i2 : (k : Int) < m := by omega
        have j2 : decide (k < m) = true := decide_eq_true h2
        have g1 := get_at sa k (by omega)
        have g2 := get_at sb k (by omega)
        by_cases h3 : at_ sa k = at_ sb k
        · have HE2 := Lib.hid (HST.out k h1 h2 HE.out h3)
          rw [h3] at g1
          have j3 : ((at_ sb k).toNat == (at_ sb k).toNat) = true := beq_self_eq_true _
          have j4 : (((at_ sb k).toNat : Int) == ((at_ sb k).toNat : Int)) = true := beq_self_eq_true _
          clear HE h3
          generalize at_ sb k = c at *
          go_upto_region 2 with fail
          refine wp_region_past (by kernel_rfl) (by kernel_rfl) ?_
          repeat (go_big_quiet_step (fail))
          refine wpQuiet_nil ?_
          intro w2 hw2
          obtain ⟨⟨wn, hn⟩, rfl⟩ := hw2
          try dsimp only
          have b2 := below_past b1 hn b1.size
          go_wp2_with fail
          exact ⟨⟨k + 1, h1, h2, by go_num, HE2, b2⟩, by simp [intOf]; omega⟩
        · have hRk : R = k := by
            have := HPT.out k h1 h2 h3
            have := HGE.out k hk1 hk2 HE.out
            omega
          have j3 : ((at_ sa k).toNat == (at_ sb k).toNat) = false := by rw [beq_eq_false_iff_ne]; exact fun e => h3 (UInt8.toNat_inj.1 e)
          have j4 : (((at_ sa k).toNat : Int) == ((at_ sb k).toNat : Int)) = false := by rw [beq_eq_false_iff_ne]; exact fun e => h3 (UInt8.toNat_inj.1 (by omega))
          clear HE h3
          generalize at_ sa k = c at *
          generalize at_ sb k = d at *
          have HRK := Lib.hid hRk
          clear hRk
          go_upto_region 2 with fail
          refine wp_region_past (by kernel_rfl) (by kernel_rfl) ?_
          repeat (go_big_quiet_step (fail))
          refine wpQuiet_nil ?_
          intro w2 hw2
          obtain ⟨⟨wn, hn⟩, rfl⟩ := hw2
          try dsimp only
          have b2 := below_past b1 hn b1.size
          go_wp2_with fail
          go_ret
          exact ⟨ret_int (by rw [HRK.out]), b2⟩
      · have hRk : R = k := by
          have := HL.out
          have := HGE.out k hk1 hk2 HE.out
          omega
        have i2 : ¬ (k : Int) < m := by omega
        have j2 : decide (k < m) = false := decide_eq_false h2
        have HRK := Lib.hid hRk
        clear hRk
        go_upto_region 2 with fail
        refine wp_region_past (by kernel_rfl) (by kernel_rfl) ?_
        repeat (go_big_quiet_step (fail))
        refine wpQuiet_nil ?_
        intro w2 hw2
        obtain ⟨⟨wn, hn⟩, rfl⟩ := hw2
        try dsimp only
        have b2 := below_past b1 hn b1.size
        go_wp2_with fail
        go_ret
        exact ⟨ret_int (by rw [HRK.out]), b2⟩
    · have hRk : R = k := by
        have := HL.out
        have := HGE.out k hk1 hk2 HE.out
        omega
      have i1 : ¬ (k : Int) < n := by omega
      have j1 : decide (k < n) = false := decide_eq_false h1
      have HRK := Lib.hid hRk
      clear hRk
      go_upto_region 2 with fail
      refine wp_region_past (by kernel_rfl) (by kernel_rfl) ?_
      repeat (go_big_quiet_step (fail))
      refine wpQuiet_nil ?_
      intro w2 hw2
      obtain ⟨⟨wn, hn⟩, rfl⟩ := hw2
      try dsimp only
      have b2 := below_past b1 hn b1.size
      go_wp2_with fail
      go_ret
      exact ⟨ret_int (by rw [HRK.out]), b2⟩
theorem kcommon_any (a b : List UInt8) (w : World) (ha : a.length ≤ 1000000) (hb : b.length ≤ 1000000) : Calls Tryd.prog 78 #[.string (stx a), .string (stx b)] w fun e w' => e = .returned (.int .i64 (commonB a b)) ∧ Below w.heap.size w w' := kcommon_any2 a b w (by omega) (by omega)
end Go.Proofs.YtgegipijappfhaaDoor
namespace Go.Proofs.YtgegipijappfhaaDoor
open Go Go.RowKit

/-- An entry as an argument. -/
theorem leqE (a b : List UInt8) : (Go.Op.bytesLess a b || a == b) = !decide (b < a) := by
  rw [lessE]
  by_cases h : b < a
  · rw [decide_eq_true h, decide_eq_false (klt_asymm h), beq_eq_false_iff_ne.2 (fun e => klt_ne h e.symm)]
    rfl
  · rw [decide_eq_false h]
    by_cases e : a = b
    · rw [e, beq_self_eq_true, Bool.or_true]
      rfl
    · rw [decide_eq_true (klt_of h (fun q => e q.symm))]
      rfl
theorem empty_of {l : List UInt8} (h : l ≠ []) : (stx l).toList.isEmpty = false := by
  rw [stx_toList]
  cases l with
  | nil => exact absurd rfl h
  | cons a l => rfl
set_option maxRecDepth 100000 in
set_option maxHeartbeats 2000000 in
theorem kcheck_any (x : Ent) (a : List UInt8) (w : World) (hk1 : x.key.length ≤ 1000000) (hv1 : x.val.length ≤ 1000000) : Calls Tryd.prog 74 #[entA x, .string (stx a)] w fun e w' => e = .returned (.int .i64 (oneB x a)) ∧ Below w.heap.size w w' := by
  obtain ⟨k, v, g⟩ := x
  unfold oneB entA
  simp only at hk1 hv1 ⊢
  obtain ⟨n, hn⟩ : ∃ n, k.length = n := ⟨_, rfl⟩
  obtain ⟨m, hm⟩ : ∃ m, v.length = m := ⟨_, rfl⟩
  rw [hn, hm]
  rw [hn] at hk1
  rw [hm] at hv1
  by_cases h1 : k = []
  · rw [if_pos (.inl h1)]
    subst h1
    rw [show stx [] = (⟨#[]⟩ : ByteArray) from rfl]
    have b0 : Below w.heap.size w (w.alloc (.cells #[.string ⟨#[]⟩, .string (stx v), .bool g] 36)) := (Below.refl _ _).alloc (Nat.le_refl _) _
    go_enter Tryd.func74, Tryd.ntmps74
    go_wp2_with fail
    go_ret
    exact ⟨rfl, b0⟩
  · have e1 := empty_of h1
    by_cases h2 : g = true ∧ v ≠ []
    · rw [if_pos (.inr h2)]
      obtain ⟨rfl, h2⟩ := h2
      have e2 := empty_of h2
      have b0 : Below w.heap.size w (w.alloc (.cells #[.string (stx k), .string (stx v), .bool true] 36)) := (Below.refl _ _).alloc (Nat.le_refl _) _
      clear h1 h2
      generalize stx k = sk at *
      generalize stx v = sv at *
      go_enter Tryd.func74, Tryd.ntmps74
      go_wp2_with fail
      go_ret
      exact ⟨rfl, b0⟩
    · rw [if_neg (fun e => e.elim h1 h2)]
      have hk : (stx k).size = n := by rw [stx_size, hn]
      have hv : (stx v).size = m := by rw [stx_size, hm]
      have hb0 : ∀ gg, Below w.heap.size w (w.alloc (.cells #[.string (stx k), .string (stx v), .bool gg] 36)) := fun gg => (Below.refl _ _).alloc (Nat.le_refl _) _
      have hge : g = false ∨ v = [] := by
        cases g with
        | false => exact .inl rfl
        | true => exact .inr (Decidable.not_not.1 fun e => h2 ⟨rfl, e⟩)
      clear h2
      by_cases h3 : 100 < n
      · rw [if_pos (.inl h3)]
        have i3 : (100 : Int) < n := by omega
        have j3 : decide (100 < n) = true := decide_eq_true h3
        rcases hge with rfl | rfl
        · have b0 := hb0 false
          clear hb0 h1
          generalize stx k = sk at *
          generalize stx v = sv at *
          go_enter Tryd.func74, Tryd.ntmps74
          go_wp2_with fail
          go_ret
          exact ⟨rfl, b0⟩
        · have b0 := hb0 g
          rw [show stx [] = (⟨#[]⟩ : ByteArray) from rfl] at b0 ⊢
          clear hb0 h1
          generalize stx k = sk at *
          cases g
          · go_enter Tryd.func74, Tryd.ntmps74
            go_wp2_with fail
            go_ret
            exact ⟨rfl, b0⟩
          · go_enter Tryd.func74, Tryd.ntmps74
            go_wp2_with fail
            go_ret
            exact ⟨rfl, b0⟩
      · have i3 : ¬ (100 : Int) < n := by omega
        have j3 : decide (100 < n) = false := decide_eq_false h3
        by_cases h4 : 4000 < m
        · rw [if_pos (.inr h4)]
          obtain rfl : g = false := by
            rcases hge with h | h
            · exact h
            · rw [h, List.length_nil] at hm
              omega
          have i4 : (4000 : Int) < m := by omega
          have j4 : decide (4000 < m) = true := decide_eq_true h4
          have b0 := hb0 false
          clear hb0 h1
          generalize stx k = sk at *
          generalize stx v = sv at *
          go_enter Tryd.func74, Tryd.ntmps74
          go_wp2_with fail
          go_ret
          exact ⟨rfl, b0⟩
        · rw [if_neg (fun e => e.elim h3 h4)]
          have i4 : ¬ (4000 : Int) < m := by omega
          have j4 : decide (4000 < m) = false := decide_eq_false h4
          by_cases h5 : a < k
          · rw [if_pos h5]
            have hle : (Go.Op.bytesLess (stx k).toList (stx a).toList || (stx k).toList == (stx a).toList) = false := by rw [leqE, stx_toList, stx_toList, decide_eq_true h5]; rfl
            rw [Bool.or_eq_false_iff] at hle
            obtain ⟨l1, l2⟩ := hle
            rcases hge with rfl | rfl
            · have b0 := hb0 false
              clear hb0 h1
              generalize stx k = sk at *
              generalize stx v = sv at *
              try generalize stx a = sa at *
              go_enter Tryd.func74, Tryd.ntmps74
              go_wp2_with fail
              go_ret
              exact ⟨rfl, b0⟩
            · have b0 := hb0 g
              rw [show stx [] = (⟨#[]⟩ : ByteArray) from rfl] at b0 hv ⊢
              obtain rfl : m = 0 := by rw [← hm]; rfl
              clear hb0 h1
              generalize stx k = sk at *
              try generalize stx a = sa at *
              cases g
              · go_enter Tryd.func74, Tryd.ntmps74
                go_wp2_with fail
                go_ret
                exact ⟨rfl, b0⟩
              · go_enter Tryd.func74, Tryd.ntmps74
                go_wp2_with fail
                go_ret
                exact ⟨rfl, b0⟩
          · rw [if_neg h5]
            by_cases h6 : k = a
            · subst h6
              have l1 : ((stx k).toList == (stx k).toList) = true := beq_self_eq_true _
              rcases hge with rfl | rfl
              · have b0 := hb0 false
                clear hb0 h1
                generalize stx k = sk at *
                generalize stx v = sv at *
                try generalize stx a = sa at *
                go_enter Tryd.func74, Tryd.ntmps74
                go_wp2_with fail
                go_ret
                exact ⟨rfl, b0⟩
              · have b0 := hb0 g
                rw [show stx [] = (⟨#[]⟩ : ByteArray) from rfl] at b0 hv ⊢
                obtain rfl : m = 0 := by rw [← hm]; rfl
                clear hb0 h1
                generalize stx k = sk at *
                try generalize stx a = sa at *
                cases g
                · go_enter Tryd.func74, Tryd.ntmps74
                  go_wp2_with fail
                  go_ret
                  exact ⟨rfl, b0⟩
                · go_enter Tryd.func74, Tryd.ntmps74
                  go_wp2_with fail
                  go_ret
                  exact ⟨rfl, b0⟩
            · have l1 : Go.Op.bytesLess (stx k).toList (stx a).toList = true := by rw [lessE, stx_toList, stx_toList, decide_eq_true (klt_of h5 (fun e => h6 e.symm))]
              rcases hge with rfl | rfl
              · have b0 := hb0 false
                clear hb0 h1
                generalize stx k = sk at *
                generalize stx v = sv at *
                try generalize stx a = sa at *
                go_enter Tryd.func74, Tryd.ntmps74
                go_wp2_with fail
                go_ret
                exact ⟨rfl, b0⟩
              · have b0 := hb0 g
                rw [show stx [] = (⟨#[]⟩ : ByteArray) from rfl] at b0 hv ⊢
                obtain rfl : m = 0 := by rw [← hm]; rfl
                clear hb0 h1
                generalize stx k = sk at *
                try generalize stx a = sa at *
                cases g
                · go_enter Tryd.func74, Tryd.ntmps74
                  go_wp2_with fail
                  go_ret
                  exact ⟨rfl, b0⟩
                · go_enter Tryd.func74, Tryd.ntmps74
                  go_wp2_with fail
                  go_ret
                  exact ⟨rfl, b0⟩
end Go.Proofs.YtgegipijappfhaaDoor
namespace Go.Proofs.YtgegipijappfhaaDoor
open Go Go.RowKit

set_option maxRecDepth 100000 in
set_option maxHeartbeats 2000000 in
theorem kCheck_any (v : Value) (l : List Ent) (w : World) (h : EntsAt w v l) (hs : smallB l) : Calls Tryd.prog 40 #[v] w fun e w' => e = .returned (.int .i64 (checkB l)) ∧ Below w.heap.size w w' := by
  obtain ⟨ao, cap, rfl, hc1, hc2, h3⟩ := h
  have H3 := Lib.hid h3
  have HS := Lib.hid hs
  obtain ⟨n, hn⟩ : ∃ n, l.length = n := ⟨_, rfl⟩
  have HN := Lib.hid hn
  have hmx : n ≤ maxLen := by omega
  unfold maxLen at hmx
  unfold checkB
  rw [hn]
  by_cases hbig : 256 < n
  · rw [if_pos hbig]
    have i1 : (256 : Int) < n := by omega
    have j1 : decide (256 < n) = true := decide_eq_true hbig
    clear h3 hs hn
    go_enter Tryd.func40, Tryd.ntmps40
    go_wp2_with fail
    go_ret
    exact ⟨rfl, Below.refl _ _⟩
  · rw [if_neg hbig]
    have i1 : ¬ (256 : Int) < n := by omega
    have j1 : decide (256 < n) = false := decide_eq_false hbig
    have hn2 : (n : Int) ≤ 256 := by omega
    obtain ⟨R, hR⟩ : ∃ R, goB [] l = R := ⟨_, rfl⟩
    have HR : Hid (goB [] (l.drop 0) = R) := Lib.hid hR
    rw [hR]
    clear h3 hs hR hn hc1 hc2 hmx
    go_enter Tryd.func40, Tryd.ntmps40
    go_wp2_with fail
    go_loopw [3, 12] (fun u x wr => ∃ (i : Nat) (K : List UInt8), i ≤ n ∧ x = .int .i64 i ∧ u = .string (stx K) ∧ Hid (goB K (l.drop i) = R) ∧ Below w.heap.size w wr) (fun _ x _ => (n - intOf x).toNat)
    case atStart => exact ⟨0, [], Nat.zero_le _, rfl, rfl, HR, Below.refl _ _⟩
    case round =>
      obtain ⟨i, K, hi, rfl, rfl, HI, b1⟩ := hrel
      clear HR
      by_cases hlt : i < n
      · have hlt' : (i : Int) < n := by omega
        obtain ⟨x, hx⟩ : ∃ x, l[i]? = some x := ⟨_, List.getElem?_eq_getElem (by rw [HN.out]; exact hlt)⟩
        obtain ⟨g, o, rfl, hat⟩ := H3.out i x hx
        obtain ⟨c1, c2, c3⟩ := hat.below b1
        have hgo := goB_drop (a := K) hx
        rw [HI.out] at hgo
        have hsx := HS.out x (List.mem_of_getElem? hx)
        have HK := Lib.hid (fun w => kcheck_any x K w hsx.1 hsx.2)
        unfold entA at HK
        have b2 := b1.alloc b1.size (.cells #[.string (stx x.key), .string (stx x.val), .bool x.gone] 36)
        have r2 := rowAt_alloc_at wr #[.string (stx x.key), .string (stx x.val), .bool x.gone] 36 _ rfl
        obtain ⟨E, hE⟩ : ∃ E, oneB x K = E := ⟨_, rfl⟩
        rw [hE] at hgo HK
        have HGO := Lib.hid hgo
        clear hgo hE hx hat hsx HI
        go_wp2_with fail
        generalize wr.alloc (.cells #[.string (stx x.key), .string (stx x.val), .bool x.gone] 36) = W at *
        refine (HK.out _).mono ?_
        rintro e w1 ⟨rfl, b3⟩
        have b4 := below_past b2 b3 b2.size
        have r3 := rowAt_past b3 r2
        have c0 := cell_of_rowAt r3 0
        clear c1 c2 c3 b1 b2 b3 r2 r3 HK
        by_cases h0 : E = 0
        · subst h0
          have HI2 := Lib.hid (HGO.out.trans (if_pos rfl))
          clear HGO
          go_wp2_with fail
          exact ⟨⟨i + 1, x.key, hlt, by go_num, rfl, Lib.hid HI2.out.symm, b4⟩, by simp [intOf]; omega⟩
        · have HI2 := Lib.hid (HGO.out.trans (if_neg h0))
          have e1 : ((E : Int) != 0) = true := by rw [bne_iff_ne]; omega
          have e2 : (E != 0) = true := by rw [bne_iff_ne]; exact h0
          clear HGO
          go_wp2_with fail
          go_ret
          exact ⟨ret_int (by rw [HI2.out]), b4⟩
      · obtain rfl : i = n := by omega
        have HR0 : Hid (0 = R) := Lib.hid (by rw [← HI.out, List.drop_eq_nil_of_le (by rw [HN.out]; exact Nat.le_refl _)]; rfl)
        clear HI
        go_wp2_with fail
        go_ret
        exact ⟨ret_int (by rw [← HR0.out]; rfl), b1⟩
end Go.Proofs.YtgegipijappfhaaDoor
namespace Go.Proofs.YtgegipijappfhaaDoor
open Go Go.RowKit

/-- What a writer holds of the bytes that it was told: all, or too many. -/
def capB (bs F : List UInt8) : Prop := bs = F ∨ (65536 < bs.length ∧ 65536 < F.length)
theorem capB_add {bs F : List UInt8} (h : capB bs F) (s : List UInt8) : capB (added bs 0 s) (F ++ s) := by
  unfold added
  rcases h with rfl | ⟨h1, h2⟩
  · by_cases hb : bs.length ≤ 65536
    · rw [if_pos ⟨rfl, hb⟩]
      exact .inl rfl
    · rw [if_neg (fun e => hb e.2)]
      refine .inr ⟨by omega, ?_⟩
      rw [List.length_append]
      omega
  · rw [if_neg (fun e => by omega)]
    refine .inr ⟨h1, ?_⟩
    rw [List.length_append]
    omega
def WrAt (B b : Nat) (F : List UInt8) (w : World) : Prop := ∃ bs, WriterAt B b bs 0 w ∧ capB bs F
theorem WrAt.below {B b : Nat} {F : List UInt8} {w w' : World} (h : WrAt B b F w) (k : Below w.heap.size w w') : WrAt B b F w' := by
  obtain ⟨bs, h1, h2⟩ := h
  exact ⟨bs, h1.below k, h2⟩
theorem WrAt.lt {B b : Nat} {F : List UInt8} {w : World} (h : WrAt B b F w) : b < w.heap.size := by
  obtain ⟨bs, ⟨ao, cap, h1, _⟩, _⟩ := h
  exact heap_lt h1
theorem wrAt_new (w : World) (n : Nat) (hn : n = w.heap.size) : WrAt n n [] (w.alloc (.cells #[.slice none 0 0, .int .i64 0] 84)) := by
  subst hn
  exact ⟨[], ⟨none, 0, heap_alloc_new w _, World.ownsRow_nil _ _ _ _, by simp [Value.ownBlock]⟩, .inl rfl⟩
theorem WNum_at {B b : Nat} {F : List UInt8} {w : World} (h : WrAt B b F w) (n : Nat) (hn : n < 9223372036854775808) (hBw : B ≤ w.heap.size) :
    Calls Tryd.prog 41 #[.pointer (some ⟨b, 0, none⟩), .int .i64 n] w fun r w' => r = .returned (.tuple #[]) ∧ WrAt B b (F ++ numBytes n) w' ∧ Near B b w w' := by
  obtain ⟨bs, h1, h2⟩ := h
  refine (Number_any B b bs 0 n w h1 hn hBw).mono ?_
  rintro e w' ⟨h3, h4, h5⟩
  exact ⟨h3, ⟨_, h4, capB_add h2 _⟩, h5⟩
theorem WText_at {B b : Nat} {F : List UInt8} {w : World} (h : WrAt B b F w) (s : List UInt8) (hs : s.length ≤ 65536) (hBw : B ≤ w.heap.size) :
    Calls Tryd.prog 54 #[.pointer (some ⟨b, 0, none⟩), .string (stx s)] w fun r w' => r = .returned (.tuple #[]) ∧ WrAt B b (F ++ (numBytes s.length ++ s)) w' ∧ Near B b w w' := by
  obtain ⟨bs, h1, h2⟩ := h
  refine (Text_any B b bs 0 (stx s) w h1 (by rw [stx_size]; exact hs) hBw).mono ?_
  rintro e w' ⟨h3, h4, h5⟩
  rw [stx_size, show (stx s).data.toList = s from rfl] at h4
  refine ⟨h3, ⟨_, h4, ?_⟩, h5⟩
  rw [← List.append_assoc]
  exact capB_add (capB_add h2 _) _
theorem WFlag_at {B b : Nat} {F : List UInt8} {w : World} (h : WrAt B b F w) (v : Bool) (hBw : B ≤ w.heap.size) :
    Calls Tryd.prog 79 #[.pointer (some ⟨b, 0, none⟩), .bool v] w fun r w' => r = .returned (.tuple #[]) ∧ WrAt B b (F ++ [if v then 1 else 0]) w' ∧ Near B b w w' := by
  obtain ⟨bs, h1, h2⟩ := h
  refine (Flag_any B b bs 0 v w h1 hBw).mono ?_
  rintro e w' ⟨h3, h4, h5⟩
  exact ⟨h3, ⟨_, h4, capB_add h2 _⟩, h5⟩
theorem WDone_at {B b : Nat} {F : List UInt8} {w : World} (h : WrAt B b F w) :
    Calls Tryd.prog 43 #[.pointer (some ⟨b, 0, none⟩)] w fun r w' => r = .returned (if F.length ≤ 65536 then .tuple #[.string (stx F), .int .i64 0] else .tuple #[.string ⟨#[]⟩, .int .i64 2]) ∧ Below w.heap.size w w' := by
  obtain ⟨bs, h1, h2⟩ := h
  refine (Done_any B b bs 0 w h1).mono ?_
  rintro e w' ⟨rfl, hb⟩
  refine ⟨?_, hb⟩
  rw [if_neg (by simp)]
  rcases h2 with rfl | ⟨k1, k2⟩
  · by_cases hl : bs.length ≤ 65536
    · rw [if_neg (by omega), if_pos hl]
    · rw [if_pos (by omega), if_neg hl]
  · rw [if_pos k1, if_neg (by omega)]
/-- What holds no bytes stays where a writer is told. -/
theorem near_cells {B b k : Nat} {w w' : World} {cs : Array Value} {T : TypeId} {fr : Nat × Nat} (n : Near B b w w') (h : w.heap[k]? = some (.cells cs T fr)) (hT : T ≠ 5) (hk : k ≠ b) : w'.heap[k]? = some (.cells cs T fr) :=
  (n.far k (heap_lt h) hk fun cs2 fr2 q => by
    rw [h] at q
    simp only [Option.some.injEq, Obj.cells.injEq] at q
    exact hT q.2.1).trans h
end Go.Proofs.YtgegipijappfhaaDoor
namespace Go.Proofs.YtgegipijappfhaaDoor
open Go

def lowL : List Nat := [0, 1996959894, 3993919788, 2567524794, 124634137, 1886057615, 3915621685, 2657392035, 249268274, 2044508324, 3772115230, 2547177864, 162941995, 2125561021, 3887607047, 2428444049]
def highL : List Nat := [0, 498536548, 997073096, 651767980, 1994146192, 1802195444, 1303535960, 1342533948, 3988292384, 4027552580, 3604390888, 3412177804, 2607071920, 2262029012, 2685067896, 3183342108]
def lowT (i : Nat) : Nat := lowL.getD i 0
def highT (i : Nat) : Nat := highL.getD i 0
theorem lowT_lt : ∀ i : Fin 16, lowT i.val < 4294967296 := by decide +kernel
theorem highT_lt : ∀ i : Fin 16, highT i.val < 4294967296 := by decide +kernel
/-- What goes out of the sum with a byte. -/
def outB (c : Nat) (b : UInt8) : Nat := (c % 256) ^^^ b.toNat
theorem outB_lt (c : Nat) (b : UInt8) : outB c b < 256 := Nat.xor_lt_two_pow (n := 8) (Nat.mod_lt _ (by decide)) b.toNat_lt
def stepC (c : Nat) (b : UInt8) : Nat := c / 256 ^^^ lowT (outB c b % 16) ^^^ highT (outB c b / 16)
theorem stepC_lt (c : Nat) (b : UInt8) (h : c < 4294967296) : stepC c b < 4294967296 := by
  have h1 := lowT_lt ⟨outB c b % 16, Nat.mod_lt _ (by decide)⟩
  have h2 := highT_lt ⟨outB c b / 16, by have := outB_lt c b; omega⟩
  exact Nat.xor_lt_two_pow (n := 32) (Nat.xor_lt_two_pow (n := 32) (by omega) h1) h2
def crcF (c : Nat) (l : List UInt8) : Nat := l.foldl stepC c
theorem crcF_lt (c : Nat) (l : List UInt8) (h : c < 4294967296) : crcF c l < 4294967296 := by
  induction l generalizing c with
  | nil => exact h
  | cons b l ih => exact ih _ (stepC_lt c b h)
theorem crcF_append (c : Nat) (l m : List UInt8) : crcF c (l ++ m) = crcF (crcF c l) m := by simp [crcF]
theorem crcF_put (c : Nat) (l : List UInt8) (b : UInt8) : crcF c (l ++ [b]) = stepC (crcF c l) b := by simp [crcF]
/-- The cyclic sum. -/
def crc (l : List UInt8) : Nat := 4294967295 - crcF 4294967295 l
theorem crc_lt (l : List UInt8) : crc l < 4294967296 := by unfold crc; omega
/-- A word's bytes, the highest first. -/
def be4 (n : Nat) : List UInt8 := [UInt8.ofNat (n / 16777216), UInt8.ofNat (n / 65536), UInt8.ofNat (n / 256), UInt8.ofNat n]
def sizeB (n : Nat) : List UInt8 := be4 (1577058304 + n)
/-- The frame of a text. -/
def frame (s : List UInt8) : List UInt8 := sizeB s.length ++ (be4 (crc (sizeB s.length ++ s)) ++ s)
theorem be4_length (n : Nat) : (be4 n).length = 4 := rfl
theorem frame_length (s : List UInt8) : (frame s).length = 8 + s.length := by
  rw [frame, List.length_append, List.length_append, sizeB, be4_length, be4_length]
  omega
/-- The word of the first four bytes. -/
def num4 (l : List UInt8) : Nat := (l.getD 0 0).toNat * 16777216 + (l.getD 1 0).toNat * 65536 + (l.getD 2 0).toNat * 256 + (l.getD 3 0).toNat
theorem num4_lt (l : List UInt8) : num4 l < 4294967296 := by
  have h0 := (l.getD 0 0).toNat_lt
  have h1 := (l.getD 1 0).toNat_lt
  have h2 := (l.getD 2 0).toNat_lt
  have h3 := (l.getD 3 0).toNat_lt
  unfold num4
  omega
theorem num4_be4 (n : Nat) (h : n < 4294967296) (r : List UInt8) : num4 (be4 n ++ r) = n := by
  show (UInt8.ofNat (n / 16777216)).toNat * 16777216 + (UInt8.ofNat (n / 65536)).toNat * 65536 + (UInt8.ofNat (n / 256)).toNat * 256 + (UInt8.ofNat n).toNat = n
  simp only [UInt8.toNat_ofNat']
  omega
/-- Why a text isn't a frame: the error's number; 0, if it begins with one. -/
def opE (l : List UInt8) : Int :=
  if l.length < 8 then 5
  else if (l.getD 0 0).toNat ≠ 94 ∨ 65536 < num4 l % 16777216 then 4
  else if l.length - 8 < num4 l % 16777216 then 5
  else if num4 (l.drop 4) ≠ crc (l.take 4 ++ (l.drop 8).take (num4 l % 16777216)) then 6
  else 0
def opS (l : List UInt8) : List UInt8 := if opE l = 0 then (l.drop 8).take (num4 l % 16777216) else []
def opN (l : List UInt8) : Nat := if opE l = 0 then 8 + num4 l % 16777216 else 0
/-- A frame is opened. -/
theorem open_frame (s r : List UInt8) (h : s.length ≤ 65536) : opE (frame s ++ r) = 0 ∧ opS (frame s ++ r) = s ∧ opN (frame s ++ r) = 8 + s.length := by
  have e : frame s ++ r = sizeB s.length ++ (be4 (crc (sizeB s.length ++ s)) ++ (s ++ r)) := by simp [frame]
  have hl : (frame s ++ r).length = 8 + s.length + r.length := by rw [List.length_append, frame_length]
  have hn : num4 (frame s ++ r) = 1577058304 + s.length := by rw [e, sizeB]; exact num4_be4 _ (by omega) _
  have hm : num4 (frame s ++ r) % 16777216 = s.length := by omega
  have h0 : ((frame s ++ r).getD 0 0).toNat = 94 := by
    rw [e]
    show (UInt8.ofNat ((1577058304 + s.length) / 16777216)).toNat = 94
    rw [UInt8.toNat_ofNat']
    omega
  have d4 : (frame s ++ r).drop 4 = be4 (crc (sizeB s.length ++ s)) ++ (s ++ r) := by rw [e]; rfl
  have d8 : (frame s ++ r).drop 8 = s ++ r := by rw [e]; rfl
  have t4 : (frame s ++ r).take 4 = sizeB s.length := by rw [e]; rfl
  have hE : opE (frame s ++ r) = 0 := by
    rw [opE, if_neg (by omega), if_neg (by rw [hm, h0]; omega), if_neg (by omega), if_neg]
    rw [d4, d8, t4, hm, num4_be4 _ (crc_lt _), List.take_left]
    exact fun k => k rfl
  refine ⟨hE, ?_, ?_⟩
  · rw [opS, if_pos hE, d8, hm, List.take_left]
  · rw [opN, if_pos hE, hm]
theorem opE_range (l : List UInt8) : opE l = 0 ∨ opE l = 4 ∨ opE l = 5 ∨ opE l = 6 := by
  unfold opE
  split
  · simp
  · split
    · simp
    · split
      · simp
      · split <;> simp
theorem opN_le (l : List UInt8) : opN l ≤ l.length ∧ (opE l = 0 → 8 ≤ opN l) ∧ (opS l).length ≤ 65536 := by
  unfold opN opS
  by_cases h : opE l = 0
  · rw [if_pos h, if_pos h]
    have h2 := h
    unfold opE at h2
    split at h2
    · cases h2
    · split at h2
      · cases h2
      · split at h2
        · cases h2
        · refine ⟨by omega, fun _ => by omega, ?_⟩
          rw [List.length_take]
          omega
  · rw [if_neg h, if_neg h]
    exact ⟨Nat.zero_le _, fun e => absurd e h, Nat.zero_le _⟩
/-- All frames from place at on: their texts, and where they end. -/
def allF : Nat → List UInt8 → Nat → List (List UInt8) × Nat
  | 0, _, n => ([], n)
  | f + 1, l, n => if opE (l.drop n) = 0 then ((opS (l.drop n)) :: (allF f l (n + opN (l.drop n))).1, (allF f l (n + opN (l.drop n))).2) else ([], n)
end Go.Proofs.YtgegipijappfhaaDoor
namespace Go.Proofs.YtgegipijappfhaaDoor
open Go Go.RowKit

/-- The tables lie where the program lays them. -/
def Tabs (w : World) : Prop := (∀ i, i < 16 → w.cell? ⟨0, i, none⟩ = some (.int .u32 (lowT i))) ∧ (∀ i, i < 16 → w.cell? ⟨1, i, none⟩ = some (.int .u32 (highT i)))
theorem Tabs.below {w w' : World} (h : Tabs w) (k : Below w.heap.size w w') : Tabs w' := by
  refine ⟨fun i hi => ?_, fun i hi => ?_⟩
  · have := h.1 i hi
    exact (k.cell (p := ⟨0, i, none⟩) (cellLt this)).trans this
  · have := h.2 i hi
    exact (k.cell (p := ⟨1, i, none⟩) (cellLt this)).trans this

theorem u32_wrap (n : Nat) (h : n < 4294967296) : IntKind.u32.wrap (n : Int) = n := by
  show (n : Int) % 2 ^ IntKind.u32.bits = n
  rw [show (2 : Int) ^ IntKind.u32.bits = 4294967296 from rfl]
  omega
set_option maxRecDepth 100000 in
theorem further_any (c : Nat) (s : ByteArray) (w : World) (hc : c < 4294967296) (hs : s.size ≤ 281474976710656) (ht : Tabs w) :
    Calls Tryd.prog 92 #[.int .u32 c, .string s] w fun e w' => e = .returned (.int .u32 (crcF c s.data.toList)) ∧ Below w.heap.size w w' := by
  have HT := Lib.hid ht
  have HC := Lib.hid hc
  have hs' : (s.size : Int) ≤ 281474976710656 := by omega
  clear ht hc hs
  go_enter Tryd.func92, Tryd.ntmps92
  go_wp2_with fail
  go_loopw [0, 9] (fun x t wr => ∃ i : Nat, i ≤ s.size ∧ t = .int .i64 i ∧ Hid (x = .int .u32 (crcF c (s.data.toList.take i))) ∧ Below w.heap.size w wr) (fun _ t _ => (s.size - intOf t).toNat)
  case atStart => exact ⟨0, Nat.zero_le _, rfl, Lib.hid rfl, Below.refl _ _⟩
  case round =>
    obtain ⟨i, hi, rfl, HX, b0⟩ := hrel
    obtain ⟨n, hn⟩ : ∃ n, crcF c (s.data.toList.take i) = n := ⟨_, rfl⟩
    have hx := HX.out
    rw [hn] at hx
    subst hx
    by_cases hlt : i < s.size
    · have hlt' : (i : Int) < s.size := by omega
      have hn32 : n < 4294967296 := by rw [← hn]; exact crcF_lt _ _ HC.out
      have hat := atB_get s i hlt
      obtain ⟨y, hy⟩ : ∃ y, atB s i = y := ⟨_, rfl⟩
      rw [hy] at hat
      have hyb := y.toNat_lt
      have ho := outB_lt n y
      have hxor : bits .xor .u8 ((n : Int) % 256) (y.toNat : Int) = (outB n y : Int) := by
        rw [show (n : Int) % 256 = ((n % 256 : Nat) : Int) by omega, u8_xor_nat _ _ (by omega) hyb]
        rfl
      obtain ⟨o, ho1⟩ : ∃ o, outB n y = o := ⟨_, rfl⟩
      rw [ho1] at ho hxor
      obtain ⟨p, hp⟩ : ∃ p, o % 16 = p := ⟨_, rfl⟩
      obtain ⟨q, hq⟩ : ∃ q, o / 16 = q := ⟨_, rfl⟩
      have hp16 : p < 16 := by omega
      have hq16 : q < 16 := by omega
      have hp16' : (p : Int) < 16 := by omega
      have hq16' : (q : Int) < 16 := by omega
      have T := HT.out.below b0
      have c1 := T.1 p hp16
      have c2 := T.2 q hq16
      have hpl := lowT_lt ⟨p, hp16⟩
      have hqh := highT_lt ⟨q, hq16⟩
      have hand : bits .and .u8 (o : Int) 15 = (p : Int) := by
        rw [show (15 : Int) = ((15 : Nat) : Int) from rfl, u8_and_nat _ _ (by omega) (by decide), ← hp]
        congr 1
        exact Nat.and_two_pow_sub_one_eq_mod o 4
      have hdiv : (o : Int) / 16 = (q : Int) := by omega
      have hx1 : bits .xor .u32 ((n : Int) / 256) (lowT p : Int) = ((n / 256 ^^^ lowT p : Nat) : Int) := by
        rw [show (n : Int) / 256 = ((n / 256 : Nat) : Int) by omega, u32_xor_nat _ _ (by omega) hpl]
      have hl1 : n / 256 ^^^ lowT p < 4294967296 := Nat.xor_lt_two_pow (n := 32) (by omega) hpl
      have hx2 := u32_xor_nat (n / 256 ^^^ lowT p) (highT q) hl1 hqh
      have HS : Hid (crcF c (s.data.toList.take (i + 1)) = (n / 256 ^^^ lowT p) ^^^ highT q) := Lib.hid (by
        have hl : i < s.data.toList.length := hlt
        have hy2 : s.data.toList[i] = y := by
          rw [← hy, atB, List.getD_eq_getElem?_getD, List.getElem?_eq_getElem hl]
          rfl
        rw [List.take_succ_eq_append_getElem hl, crcF_put, hn, hy2, stepC, ho1, hp, hq])
      clear hn hy ho1 hp hq ho T hpl hqh hl1 hp16 hq16 HX
      generalize lowT p = a at *
      generalize highT q = b at *
      go_wp2_with fail
      go_region
      go_wp2_with fail
      exact ⟨⟨i + 1, hlt, by go_num, Lib.hid (by rw [HS.out]), b0.drew⟩, by simp [intOf]; omega⟩
    · obtain rfl : i = s.size := by omega
      have HN := Lib.hid hn
      clear hn HX
      go_wp2_with fail
      go_ret
      exact ⟨by rw [← HN.out, List.take_of_length_le (show s.data.toList.length ≤ s.size from Nat.le_refl _)]; rfl, b0⟩

theorem xor_ones (n : Nat) (h : n < 4294967296) : 4294967295 ^^^ n = 4294967295 - n := by
  have h1 := BitVec.toNat_not (x := BitVec.ofNat 32 n)
  rw [← BitVec.xor_allOnes, BitVec.toNat_xor, BitVec.toNat_allOnes, BitVec.toNat_ofNat, Nat.mod_eq_of_lt h] at h1
  rw [Nat.xor_comm]
  exact h1
theorem or_add (a b k : Nat) (h : b < 2 ^ k) : a * 2 ^ k ||| b = a * 2 ^ k + b := by
  have := Nat.shiftLeft_add_eq_or_of_lt h a
  rw [Nat.shiftLeft_eq] at this
  exact this.symm
theorem crc_of (l : List UInt8) : ∃ n : Nat, n < 4294967296 ∧ crcF 4294967295 l = n ∧ crc l = 4294967295 - n := ⟨_, crcF_lt _ _ (by decide), rfl, rfl⟩
set_option maxRecDepth 100000 in
theorem joint_any (a b : ByteArray) (w : World) (ha : a.size ≤ 281474976710656) (hb : b.size ≤ 281474976710656) (ht : Tabs w) :
    Calls Tryd.prog 81 #[.string a, .string b] w fun e w' => e = .returned (.int .u32 (crc (a.data.toList ++ b.data.toList))) ∧ Below w.heap.size w w' := by
  obtain ⟨n, hn, h1, h2⟩ := crc_of (a.data.toList ++ b.data.toList)
  have H1 := Lib.hid (further_any 4294967295 a w (by decide) ha ht)
  have H2 : ∀ w, Tabs w → Hid (Calls Tryd.prog 92 #[.int .u32 (crcF 4294967295 a.data.toList), .string b] w fun e w' => e = .returned (.int .u32 n) ∧ Below w.heap.size w w') := fun w ht => Lib.hid (by
    have := further_any (crcF 4294967295 a.data.toList) b w (crcF_lt _ _ (by decide)) hb ht
    rwa [← crcF_append, h1] at this)
  have HC := Lib.hid h2
  have HT := Lib.hid ht
  clear h1 h2 ha hb ht
  go_enter Tryd.func81, Tryd.ntmps81
  go_wp2_with fail
  refine H1.out.mono ?_
  rintro e w1 ⟨rfl, b1⟩
  go_wp2_with fail
  refine (H2 _ (HT.out.below b1)).out.mono ?_
  rintro e w2 ⟨rfl, b2⟩
  have b3 := below_past b1 b2 b1.size
  have hmax : bits .xor .u32 IntKind.u32.max (n : Int) = ((4294967295 - n : Nat) : Int) := by
    rw [← xor_ones n hn]
    exact u32_xor_nat 4294967295 n (by decide) hn
  have hsg : IntKind.u32.signed = false := rfl
  clear b1 b2
  go_wp2_with fail
  go_ret
  exact ⟨by rw [HC.out]; rfl, b3⟩
theorem cells_be4 (n : Nat) (w : World) (hn : n < 4294967296) :
    (convert 54 9 (.slice (some ⟨w.heap.size, 0, none⟩) 4 4)).run Tryd.prog (w.alloc (.cells #[.int .u8 ((n : Int) / 16777216), .int .u8 ((n : Int) / 65536 % 256), .int .u8 ((n : Int) / 256 % 256), .int .u8 ((n : Int) % 256)] 5)) = .ok (.string (stx (be4 n))) (w.alloc (.cells #[.int .u8 ((n : Int) / 16777216), .int .u8 ((n : Int) / 65536 % 256), .int .u8 ((n : Int) / 256 % 256), .int .u8 ((n : Int) % 256)] 5)) := by
  refine run_convert_bytes_back _ _ _ _ ⟨w.heap.size, 0, none⟩ 4 (be4 n) Tryd.underlying54 Tryd.underlying5 Tryd.underlying9 fun j hj => ?_
  have r := rowAt_alloc_at w #[.int .u8 ((n : Int) / 16777216), .int .u8 ((n : Int) / 65536 % 256), .int .u8 ((n : Int) / 256 % 256), .int .u8 ((n : Int) % 256)] 5 _ rfl
  rw [show (⟨w.heap.size, 0, none⟩ : Addr).add j = ⟨w.heap.size, j, none⟩ by simp [Addr.add]; exact fun e => e.symm, cell_of_rowAt r]
  have hb : ∀ m : Nat, ((UInt8.ofNat m).toNat : Int) = (m : Int) % 256 := fun m => by rw [UInt8.toNat_ofNat']; omega
  match j, hj with
  | 0, _ => exact congrArg (fun x => some (Value.int .u8 x)) (show (n : Int) / 16777216 = ((UInt8.ofNat (n / 16777216)).toNat : Int) by rw [hb]; omega)
  | 1, _ => exact congrArg (fun x => some (Value.int .u8 x)) (show (n : Int) / 65536 % 256 = ((UInt8.ofNat (n / 65536)).toNat : Int) by rw [hb]; omega)
  | 2, _ => exact congrArg (fun x => some (Value.int .u8 x)) (show (n : Int) / 256 % 256 = ((UInt8.ofNat (n / 256)).toNat : Int) by rw [hb]; omega)
  | 3, _ => exact congrArg (fun x => some (Value.int .u8 x)) (show (n : Int) % 256 = ((UInt8.ofNat n).toNat : Int) by rw [hb])
set_option maxRecDepth 100000 in
theorem spelled_any (n : Nat) (w : World) (hn : n < 4294967296) :
    Calls Tryd.prog 80 #[.int .u32 n] w fun e w' => e = .returned (.string (stx (be4 n))) ∧ Below w.heap.size w w' := by
  have hc := cells_be4 n w
  have b0 : Below w.heap.size w (w.alloc (.cells #[.int .u8 ((n : Int) / 16777216), .int .u8 ((n : Int) / 65536 % 256), .int .u8 ((n : Int) / 256 % 256), .int .u8 ((n : Int) % 256)] 5)) := (Below.refl _ _).alloc (Nat.le_refl _) _
  go_enter Tryd.func80, Tryd.ntmps80
  go_wp2_with fail
  try rw [hc hn]
  try simp only [Result.andThen]
  try rw [Oper.upon_value]
  go_wp2_with fail
  go_ret
  exact ⟨rfl, b0⟩
set_option maxRecDepth 100000 in
theorem number_any (s : ByteArray) (w : World) (hs : 4 ≤ s.size) :
    Calls Tryd.prog 82 #[.string s] w fun e w' => e = .returned (.int .u32 (num4 s.data.toList)) ∧ Below w.heap.size w w' := by
  have g0 := atB_get s 0 (by omega)
  have g1 := atB_get s 1 (by omega)
  have g2 := atB_get s 2 (by omega)
  have g3 := atB_get s 3 (by omega)
  have h0 := (atB s 0).toNat_lt
  have h1 := (atB s 1).toNat_lt
  have h2 := (atB s 2).toNat_lt
  have h3 := (atB s 3).toNat_lt
  have hs0 : 0 < s.size := by omega
  have hs1 : 1 < s.size := by omega
  have hs2 : 2 < s.size := by omega
  have hs3 : 3 < s.size := by omega
  have HN : Hid (num4 s.data.toList = (atB s 0).toNat * 16777216 + (atB s 1).toNat * 65536 + (atB s 2).toNat * 256 + (atB s 3).toNat) := Lib.hid rfl
  generalize atB s 0 = x0 at *
  generalize atB s 1 = x1 at *
  generalize atB s 2 = x2 at *
  generalize atB s 3 = x3 at *
  obtain ⟨a, ha⟩ : ∃ a, x0.toNat = a := ⟨_, rfl⟩
  obtain ⟨b, hb⟩ : ∃ a, x1.toNat = a := ⟨_, rfl⟩
  obtain ⟨c, hc⟩ : ∃ a, x2.toNat = a := ⟨_, rfl⟩
  obtain ⟨d, hd⟩ : ∃ a, x3.toNat = a := ⟨_, rfl⟩
  rw [ha] at h0
  rw [hb] at h1
  rw [hc] at h2
  rw [hd] at h3
  have e1 : bits .or .u32 ((a : Int) * 16777216) ((b : Int) * 65536) = ((a * 16777216 + b * 65536 : Nat) : Int) := by
    rw [show (a : Int) * 16777216 = ((a * 16777216 : Nat) : Int) by omega, show (b : Int) * 65536 = ((b * 65536 : Nat) : Int) by omega, u32_or_nat _ _ (by omega) (by omega)]
    exact congrArg Nat.cast (or_add a (b * 65536) 24 (by omega))
  have e2 : bits .or .u32 ((a * 16777216 + b * 65536 : Nat) : Int) ((c : Int) * 256) = ((a * 16777216 + b * 65536 + c * 256 : Nat) : Int) := by
    rw [show (c : Int) * 256 = ((c * 256 : Nat) : Int) by omega, u32_or_nat _ _ (by omega) (by omega)]
    have := or_add (a * 256 + b) (c * 256) 16 (by omega)
    rw [show (a * 256 + b) * 2 ^ 16 = a * 16777216 + b * 65536 by omega] at this
    rw [this]
  have e3 : bits .or .u32 ((a * 16777216 + b * 65536 + c * 256 : Nat) : Int) (d : Int) = ((a * 16777216 + b * 65536 + c * 256 + d : Nat) : Int) := by
    rw [u32_or_nat _ _ (by omega) (by omega)]
    have := or_add (a * 65536 + b * 256 + c) d 8 (by omega)
    rw [show (a * 65536 + b * 256 + c) * 2 ^ 8 = a * 16777216 + b * 65536 + c * 256 by omega] at this
    rw [this]
  have HN2 : Hid (num4 s.data.toList = a * 16777216 + b * 65536 + c * 256 + d) := Lib.hid (by rw [HN.out, ha, hb, hc, hd])
  have E1 := Lib.hid e1
  have E2 := Lib.hid e2
  have E3 := Lib.hid e3
  clear e1 e2 e3 HN
  go_enter Tryd.func82, Tryd.ntmps82
  go_wp2_with fail
  go_region
  rw [E1.out, E2.out, E3.out]
  go_wp2_with fail
  go_ret
  exact ⟨by rw [HN2.out]; rfl, (Below.refl _ _).drew⟩
end Go.Proofs.YtgegipijappfhaaDoor
namespace Go.Proofs.YtgegipijappfhaaDoor
open Go Go.RowKit

set_option maxRecDepth 100000 in
theorem Wrap_big (s : ByteArray) (w : World) (hs : 65536 < s.size) :
    Calls Tryd.prog 44 #[.string s] w fun e w' => e = .returned (.tuple #[.string ⟨#[]⟩, .int .i64 2]) ∧ Below w.heap.size w w' := by
  have hs' : decide (65536 < (s.size : Int)) = true := decide_eq_true (by omega)
  clear hs
  go_enter Tryd.func44, Tryd.ntmps44
  go_wp2_with fail
  go_ret2
  exact ⟨rfl, Below.refl _ _⟩
set_option maxRecDepth 100000 in
theorem Wrap_any (s : ByteArray) (w : World) (hs : s.size ≤ 65536) (ht : Tabs w) :
    Calls Tryd.prog 44 #[.string s] w fun e w' => e = .returned (.tuple #[.string (stx (frame s.data.toList)), .int .i64 0]) ∧ Below w.heap.size w w' := by
  have hs' : decide (65536 < (s.size : Int)) = false := decide_eq_false (by omega)
  obtain ⟨n, hn⟩ : ∃ n, s.size = n := ⟨_, rfl⟩
  rw [hn] at hs'
  have hor : bits .or .u32 1577058304 (n : Int) = ((1577058304 + n : Nat) : Int) := by
    have h := u32_or_nat 1577058304 n (by decide) (by omega)
    rw [show ((1577058304 : Nat) : Int) = 1577058304 from rfl] at h
    rw [h]
    exact congrArg Nat.cast (or_add 94 n 24 (by omega))
  have H1 : ∀ w, Hid (Calls Tryd.prog 80 #[.int .u32 (1577058304 + (n : Int))] w fun e w' => e = .returned (.string (stx (sizeB n))) ∧ Below w.heap.size w w') := fun w => Lib.hid (by
    have := spelled_any (1577058304 + n) w (by omega)
    rwa [show ((1577058304 + n : Nat) : Int) = 1577058304 + (n : Int) by omega] at this)
  have H2 : ∀ w, Tabs w → Hid (Calls Tryd.prog 81 #[.string (stx (sizeB n)), .string s] w fun e w' => e = .returned (.int .u32 (crc (sizeB n ++ s.data.toList))) ∧ Below w.heap.size w w') := fun w ht => Lib.hid (joint_any _ s w (by rw [stx_size]; show 4 ≤ _; decide) (by omega) ht)
  have H3 : ∀ w, Hid (Calls Tryd.prog 80 #[.int .u32 (crc (sizeB n ++ s.data.toList))] w fun e w' => e = .returned (.string (stx (be4 (crc (sizeB n ++ s.data.toList))))) ∧ Below w.heap.size w w') := fun w => Lib.hid (spelled_any _ w (crc_lt _))
  have HF : Hid (stx (sizeB n) ++ stx (be4 (crc (sizeB n ++ s.data.toList))) ++ s = stx (frame s.data.toList)) := Lib.hid (by
    rw [show s = stx s.data.toList from rfl, stx_append, stx_append, frame, List.append_assoc]
    rw [show s.data.toList.length = s.size from rfl, hn])
  have hn1 : (n : Int) ≤ 65536 := by omega
  have z1 : (stx (sizeB n)).size = 4 := by rw [stx_size]; rfl
  have z2 : (stx (be4 (crc (sizeB n ++ s.data.toList)))).size = 4 := by rw [stx_size]; rfl
  have HT := Lib.hid ht
  generalize crc (sizeB n ++ s.data.toList) = k at *
  generalize stx (be4 k) = B at *
  generalize stx (sizeB n) = A at *
  have hs2 : s.size ≤ 65536 := hs
  clear hs ht
  go_enter Tryd.func44, Tryd.ntmps44
  go_wp2_with fail
  refine (H1 _).out.mono ?_
  rintro e w1 ⟨rfl, b1⟩
  have T1 := Lib.hid (HT.out.below b1)
  go_wp2_with fail
  refine (H2 _ T1.out).out.mono ?_
  rintro e w2 ⟨rfl, b2⟩
  have b3 := below_past b1 b2 b1.size
  clear b1 b2 T1
  go_wp2_with fail
  refine (H3 _).out.mono ?_
  rintro e w3 ⟨rfl, b1⟩
  have b4 := below_past b3 b1 b3.size
  clear b1 b3
  have hz : (A ++ B).size = 8 := by rw [ByteArray.size_append, z1, z2]
  have hz2 : (A ++ B ++ s).size = 8 + n := by rw [ByteArray.size_append, hz, hn]
  go_wp2_with fail
  go_ret2
  exact ⟨by rw [← HF.out]; rfl, b4⟩
end Go.Proofs.YtgegipijappfhaaDoor
namespace Go.Proofs.YtgegipijappfhaaDoor
open Go Go.RowKit

theorem Past.tabs {W : World} (h : Tabs W) (x : Past W) : Tabs x.w := h.below x.h
/-- What Open answers. -/
def OpenR (l : List UInt8) : Value := .tuple #[.string (stx (opS l)), .int .i64 (opN l), .int .i64 (opE l)]
theorem OpenR_err (l : List UInt8) (e : Int) (h : opE l = e) (h0 : e ≠ 0) : OpenR l = .tuple #[.string ⟨#[]⟩, .int .i64 0, .int .i64 e] := by
  rw [OpenR, opS, opN, if_neg (by omega), if_neg (by omega), h]
  rfl

set_option maxRecDepth 100000 in
set_option maxHeartbeats 1000000 in
theorem sOpen_any (s : ByteArray) (w : World) (hs : s.size ≤ 281474976710656) (ht : Tabs w) :
    Calls Tryd.prog 45 #[.string s] w fun e w' => e = .returned (OpenR s.data.toList) ∧ Below w.heap.size w w' := by
  obtain ⟨n, hn⟩ : ∃ n, s.size = n := ⟨_, rfl⟩
  have hl : s.data.toList.length = n := hn
  obtain ⟨R, hR⟩ : ∃ R, OpenR s.data.toList = R := ⟨_, rfl⟩
  have HT := Lib.hid ht
  have hn48 : (n : Int) ≤ 281474976710656 := by omega
  rw [hR]
  by_cases h8 : n < 8
  · have h8' : decide ((n : Int) < 8) = true := decide_eq_true (by omega)
    have hE : opE s.data.toList = 5 := by rw [opE, if_pos (by omega)]
    have HR := Lib.hid (hR.symm.trans (OpenR_err _ 5 hE (by decide)))
    clear hR hE h8 hs ht hl
    go_enter Tryd.func45, Tryd.ntmps45
    go_wp2_with fail
    go_ret3
    exact ⟨by rw [HR.out]; rfl, Below.refl _ _⟩
  · have h8' : decide ((n : Int) < 8) = false := decide_eq_false (by omega)
    have h8n : (8 : Int) ≤ n := by omega
    obtain ⟨N, hN⟩ : ∃ N, num4 s.data.toList = N := ⟨_, rfl⟩
    have hN32 : N < 4294967296 := by rw [← hN]; exact num4_lt _
    have HN : Hid (∀ w, Calls Tryd.prog 82 #[.string s] w fun e w' => e = .returned (.int .u32 N) ∧ Below w.heap.size w w') := Lib.hid fun w => by
      have := number_any s w (by omega)
      rwa [hN] at this
    obtain ⟨m, hm⟩ : ∃ m, N % 16777216 = m := ⟨_, rfl⟩
    have hm24 : m < 16777216 := by omega
    have hand : bits .andNot .u32 (N : Int) 4278190080 = (m : Int) := by
      have h := u32_andNot_nat N 4278190080 hN32 (by decide)
      rw [show ((4278190080 : Nat) : Int) = 4278190080 from rfl] at h
      rw [h, ← hm]
      exact congrArg Nat.cast (Nat.and_two_pow_sub_one_eq_mod N 24)
    have hs0 : 0 < s.size := by omega
    have g0 := atB_get s 0 hs0
    obtain ⟨x, hx⟩ : ∃ x, atB s 0 = x := ⟨_, rfl⟩
    rw [hx] at g0
    have hx2 : s.data.toList.getD 0 0 = x := hx
    have hm1 : (m : Int) < 16777216 := by omega
    by_cases hx94 : x.toNat = 94
    · have hx' : ((x.toNat : Int) != 94) = false := by simp; omega
      by_cases hbig : 65536 < m
      · have hb' : decide (65536 < (m : Int)) = true := decide_eq_true (by omega)
        have hE : opE s.data.toList = 4 := by rw [opE, if_neg (by omega), if_pos (.inr (by rw [hN, hm]; exact hbig))]
        have HR := Lib.hid (hR.symm.trans (OpenR_err _ 4 hE (by decide)))
        clear hR hE h8 hs ht hl hN hm hx hx2 hx94 hbig
        go_enter Tryd.func45, Tryd.ntmps45
        go_wp2_with fail
        refine (HN.out _).mono ?_
        rintro e w1 ⟨rfl, b1⟩
        go_wp2_with fail
        go_ret3
        exact ⟨by rw [HR.out]; rfl, b1⟩
      · have hb' : decide (65536 < (m : Int)) = false := decide_eq_false (by omega)
        have hno : ¬ ((s.data.toList.getD 0 0).toNat ≠ 94 ∨ 65536 < num4 s.data.toList % 16777216) := by
          rw [hx2, hN, hm]
          omega
        by_cases hsh : n - 8 < m
        · have hq : decide ((n : Int) - 8 < m) = true := decide_eq_true (by omega)
          have hE : opE s.data.toList = 5 := by rw [opE, if_neg (by omega), if_neg hno, if_pos (by rw [hl, hN, hm]; exact hsh)]
          have HR := Lib.hid (hR.symm.trans (OpenR_err _ 5 hE (by decide)))
          clear hR hE h8 hs ht hl hN hm hx hx2 hx94 hbig hno hsh
          go_enter Tryd.func45, Tryd.ntmps45
          go_wp2_with fail
          refine (HN.out _).mono ?_
          rintro e w1 ⟨rfl, b1⟩
          go_wp2_with fail
          go_ret3
          exact ⟨by rw [HR.out]; rfl, b1⟩
        · have hq : decide ((n : Int) - 8 < m) = false := decide_eq_false (by omega)
          have x1 : s.extract 8 (8 + m) = stx ((s.data.toList.drop 8).take m) := by
            have := stx_extract s.data.toList 8 (8 + m)
            rwa [List.drop_take, show 8 + m - 8 = m by omega] at this
          have x2 : s.extract 4 n = stx (s.data.toList.drop 4) := by
            have := stx_extract s.data.toList 4 n
            rwa [List.take_of_length_le (by omega)] at this
          have x3 : s.extract 0 4 = stx (s.data.toList.take 4) := stx_extract s.data.toList 0 4
          have y1 : (stx ((s.data.toList.drop 8).take m)).size ≤ 65536 := by rw [stx_size, List.length_take]; omega
          have y2 : 4 ≤ (stx (s.data.toList.drop 4)).size := by rw [stx_size, List.length_drop]; omega
          have y3 : (stx (s.data.toList.take 4)).size ≤ 65536 := by rw [stx_size, List.length_take]; omega
          have H4 : Hid (∀ w, Calls Tryd.prog 82 #[.string (stx (s.data.toList.drop 4))] w fun e w' => e = .returned (.int .u32 (num4 (s.data.toList.drop 4))) ∧ Below w.heap.size w w') := Lib.hid fun w => number_any _ w y2
          have H5 : Hid (∀ w, Tabs w → Calls Tryd.prog 81 #[.string (stx (s.data.toList.take 4)), .string (stx ((s.data.toList.drop 8).take m))] w fun e w' => e = .returned (.int .u32 (crc (s.data.toList.take 4 ++ (s.data.toList.drop 8).take m))) ∧ Below w.heap.size w w') := Lib.hid fun w ht => joint_any _ _ w (by omega) (by omega) ht
          have H6 : Hid (∀ w, Calls Tryd.prog 34 #[.string (stx ((s.data.toList.drop 8).take m))] w fun e w' => e = .returned (.string (stx ((s.data.toList.drop 8).take m))) ∧ Below w.heap.size w w') := Lib.hid fun w => sClone_any _ w (by omega)
          have hj : (8 : Int) + m ≤ n := by omega
          have hj0 : (0 : Int) ≤ 8 + m := by omega
          have hj1 : (8 : Int) ≤ 8 + m := by omega
          have hj2 : ((8 : Int) + m).toNat = 8 + m := by omega
          have hm0 : (0 : Int) ≤ m := by omega
          have HL : Hid (s.data.toList.length - 8 = n - 8) := Lib.hid (by rw [hl])
          obtain ⟨k, hk⟩ : ∃ k, num4 (s.data.toList.drop 4) = k := ⟨_, rfl⟩
          obtain ⟨j, hjj⟩ : ∃ j, crc (s.data.toList.take 4 ++ (s.data.toList.drop 8).take m) = j := ⟨_, rfl⟩
          have hEE : opE s.data.toList = if k ≠ j then 6 else 0 := by
            rw [opE, if_neg (by omega), if_neg hno, if_neg (by rw [hl, hN, hm]; exact hsh), hN, hm, hk, hjj]
          have hSS : opE s.data.toList = 0 → OpenR s.data.toList = .tuple #[.string (stx ((s.data.toList.drop 8).take m)), .int .i64 (8 + (m : Int)), .int .i64 0] := fun e => by
            rw [OpenR, opS, opN, if_pos e, if_pos e, e, hN, hm]
            rfl
          rw [hk] at H4
          rw [hjj] at H5
          by_cases hkj : k = j
          · subst hkj
            rw [if_neg (fun e => e rfl)] at hEE
            have HR := Lib.hid (hR.symm.trans (hSS hEE))
            have X1 := Lib.hid x1
            clear hR hEE hSS h8 hs ht hl hN hm hx hx2 hx94 hbig hno hsh y1 y2 y3 hk hjj
            generalize stx (s.data.toList.take 4) = A at *
            generalize stx (s.data.toList.drop 4) = B at *
            generalize stx ((s.data.toList.drop 8).take m) = C at *
            go_enter Tryd.func45, Tryd.ntmps45
            go_wp2_with fail
            refine (HN.out _).mono ?_
            rintro e w1 ⟨rfl, b1⟩
            go_wp2_with fail
            have TW := Lib.hid (HT.out.below b1)
            refine wp_region_past (by kernel_rfl) (by kernel_rfl) ?_
            repeat (go_big_quiet_step (first | (go_at_call 82; exact Past.call (H4.out _)) | (go_at_call 81; exact Past.call (H5.out _ (Past.tabs TW.out _)))))
            refine wpQuiet_nil ?_
            intro w2 hw2
            obtain ⟨⟨wn, hn⟩, rfl⟩ := hw2
            try dsimp only
            have b3 := below_past b1 hn b1.size
            clear b1 hn TW
            go_wp2_with fail
            refine (H6.out _).mono ?_
            rintro e w3 ⟨rfl, b4⟩
            have b5 := below_past b3 b4 b3.size
            clear b3 b4
            go_wp2_with fail
            go_ret3
            exact ⟨by rw [HR.out]; rfl, b5⟩
          · rw [if_pos hkj] at hEE
            have HR := Lib.hid (hR.symm.trans (OpenR_err _ 6 hEE (by decide)))
            have hkj' : ((k : Int) != j) = true := by simp; omega
            clear hR hEE hSS h8 hs ht hl hN hm hx hx2 hx94 hbig hno hsh y1 y2 y3 hk hjj
            generalize stx (s.data.toList.take 4) = A at *
            generalize stx (s.data.toList.drop 4) = B at *
            generalize stx ((s.data.toList.drop 8).take m) = C at *
            go_enter Tryd.func45, Tryd.ntmps45
            go_wp2_with fail
            refine (HN.out _).mono ?_
            rintro e w1 ⟨rfl, b1⟩
            go_wp2_with fail
            have TW := Lib.hid (HT.out.below b1)
            refine wp_region_past (by kernel_rfl) (by kernel_rfl) ?_
            repeat (go_big_quiet_step (first | (go_at_call 82; exact Past.call (H4.out _)) | (go_at_call 81; exact Past.call (H5.out _ (Past.tabs TW.out _)))))
            refine wpQuiet_nil ?_
            intro w2 hw2
            obtain ⟨⟨wn, hn⟩, rfl⟩ := hw2
            try dsimp only
            have b3 := below_past b1 hn b1.size
            clear b1 hn TW
            go_wp2_with fail
            go_ret3
            exact ⟨by rw [HR.out]; rfl, b3⟩
    · have hx' : ((x.toNat : Int) != 94) = true := by simp; omega
      have hE : opE s.data.toList = 4 := by rw [opE, if_neg (by omega), if_pos (.inl (by rw [hx2]; exact hx94))]
      have HR := Lib.hid (hR.symm.trans (OpenR_err _ 4 hE (by decide)))
      clear hR hE h8 hs ht hl hN hm hx hx2 hx94
      go_enter Tryd.func45, Tryd.ntmps45
      go_wp2_with fail
      refine (HN.out _).mono ?_
      rintro e w1 ⟨rfl, b1⟩
      go_wp2_with fail
      go_ret3
      exact ⟨by rw [HR.out]; rfl, b1⟩
end Go.Proofs.YtgegipijappfhaaDoor
namespace Go.Proofs.YtgegipijappfhaaDoor
open Go Go.RowKit

/-- All frames' texts, and where they end. -/
def allR (l : List UInt8) : List (List UInt8) × Nat := allF (l.length + 1) l 0
def AllRet (w : World) (l : List UInt8) (e : Ending) (w' : World) : Prop :=
  ∃ v, e = .returned (.tuple #[v, .int .i64 (allR l).2]) ∧ OwnStrs w' w.heap.size v (allR l).1 ∧ Below w.heap.size w w'

end Go.Proofs.YtgegipijappfhaaDoor
namespace Go.Proofs.YtgegipijappfhaaDoor
open Go Go.RowKit

theorem aw4_f : frame [] = [94, 0, 0, 0] ++ (be4 (crc [94, 0, 0, 0]) ++ []) := rfl
theorem aw4_all : allR (frame [] ++ frame [] ++ [120]) = ([[], []], 16) := by decide +kernel
theorem aw4_crc : crc [49, 50, 51, 52, 53, 54, 55, 56, 57] = 3421780262 := by decide +kernel
end Go.Proofs.YtgegipijappfhaaDoor
namespace Go.Proofs.YtgegipijappfhaaDoor
open Go Go.RowKit

theorem ent_ne_u8 : 36 ≠ 5 := by decide
set_option maxRecDepth 100000 in
set_option maxHeartbeats 2000000 in
theorem kwrite_any (B b : Nat) (F : List UInt8) (x : Ent) (a : List UInt8) (w : World) (h : WrAt B b F w) (hBw : B ≤ w.heap.size) (hk : x.key.length ≤ 65536) (hv : x.val.length ≤ 65536) (ha : a.length ≤ 65536) :
    Calls Tryd.prog 42 #[.pointer (some ⟨b, 0, none⟩), entA x, .string (stx a)] w fun e w' => e = .returned (.tuple #[]) ∧ WrAt B b (F ++ encE a x) w' ∧ Near B b w w' := by
  obtain ⟨k, v, g⟩ := x
  unfold encE entA
  simp only at hk hv ⊢
  obtain ⟨hc1, hc2⟩ := commonB_le a k
  have HC := Lib.hid (fun w => kcommon_any a k w (by omega) (by omega))
  obtain ⟨n, hn⟩ : ∃ n, commonB a k = n := ⟨_, rfl⟩
  rw [hn] at HC hc1 hc2 ⊢
  have b0 : Below w.heap.size w (w.alloc (.cells #[.string (stx k), .string (stx v), .bool g] 36)) := (Below.refl _ _).alloc (Nat.le_refl _) _
  have hx : (w.alloc (.cells #[.string (stx k), .string (stx v), .bool g] 36)).heap[w.heap.size]? = some (.cells #[.string (stx k), .string (stx v), .bool g] 36) := heap_alloc_new w _
  have hne : w.heap.size ≠ b := Nat.ne_of_gt h.lt
  have H0 := Lib.hid (h.below b0)
  have B1 : Near B b w (w.alloc (.cells #[.string (stx k), .string (stx v), .bool g] 36)) := b0.near hBw
  have c0 := (Lib.cell_of_heap hx 0).trans (rfl : _ = some (Value.string (stx k)))
  obtain ⟨m, hm⟩ : ∃ m, k.length = m := ⟨_, rfl⟩
  have hsz : (stx k).size = m := by rw [stx_size, hm]
  rw [hm] at hk hc2 ⊢
  have hn1 : (n : Int) ≤ m := by omega
  have hn0 : (0 : Int) ≤ n := by omega
  have hm1 : (m : Int) ≤ 65536 := by omega
  have HEX : Hid ((stx k).extract n m = stx (k.drop n)) := Lib.hid (by
    apply ByteArray.ext
    rw [ByteArray.data_extract]
    apply Array.toList_inj.1
    simp [List.extract_eq_take_drop]
    rw [← hm]
    exact List.take_of_length_le (by simp))
  have HDL : Hid ((k.drop n).length = m - n ∧ (k.drop n).length ≤ 65536 ∧ n < 9223372036854775808) := Lib.hid (by rw [List.length_drop]; omega)
  have HV : Hid (v.length ≤ 65536) := Lib.hid hv
  clear h hn hc1 hc2 ha hm hk hv
  go_enter Tryd.func42, Tryd.ntmps42
  go_wp2_with fail
  generalize w.alloc (.cells #[.string (stx k), .string (stx v), .bool g] 36) = W at *
  refine (HC.out _).mono ?_
  rintro e w1 ⟨rfl, b1⟩
  have HW1 := Lib.hid (H0.out.below b1)
  have hx1 := (b1.block _ (heap_lt hx)).trans hx
  have hB1 : B ≤ W.heap.size := Nat.le_trans hBw b0.size
  have N1 := B1.trans (b1.near hB1)
  have hB2 : B ≤ w1.heap.size := Nat.le_trans hB1 b1.size
  have HN := Lib.hid (WNum_at HW1.out n HDL.out.2.2 hB2)
  clear HC b1 hx H0 HW1 B1 c0 b0 hB1
  go_wp2_with fail
  refine HN.out.mono ?_
  rintro e w2 ⟨rfl, h2, n2⟩
  have hx2 := near_cells n2 hx1 ent_ne_u8 hne
  have N2 := N1.trans n2
  have hB3 : B ≤ w2.heap.size := Nat.le_trans hB2 n2.size
  have c0 := (Lib.cell_of_heap hx2 0).trans (rfl : _ = some (Value.string (stx k)))
  have HT := Lib.hid (WText_at h2 (k.drop n) HDL.out.2.1 hB3)
  rw [HDL.out.1] at HT
  clear HN hx1 n2 N1 h2 hB2
  go_wp2_with fail
  rw [HEX.out]
  refine HT.out.mono ?_
  rintro e w3 ⟨rfl, h3, n3⟩
  have hx3 := near_cells n3 hx2 ent_ne_u8 hne
  have N3 := N2.trans n3
  have hB4 : B ≤ w3.heap.size := Nat.le_trans hB3 n3.size
  have c2 := (Lib.cell_of_heap hx3 2).trans (rfl : _ = some (Value.bool g))
  have HF := Lib.hid (WFlag_at h3 g hB4)
  clear HT hx2 n3 N2 h3 hB3 c0 HEX HDL
  go_wp2_with fail
  refine HF.out.mono ?_
  rintro e w4 ⟨rfl, h4, n4⟩
  have hx4 := near_cells n4 hx3 ent_ne_u8 hne
  have N4 := N3.trans n4
  have hB5 : B ≤ w4.heap.size := Nat.le_trans hB4 n4.size
  clear HF hx3 n4 N3 hB4 c2
  have c2 := (Lib.cell_of_heap hx4 2).trans (rfl : _ = some (Value.bool g))
  cases g with
  | true =>
    have H4 := Lib.hid h4
    clear h4 hx4
    go_wp2_with fail
    go_end0
    refine ⟨rfl, ?_, N4⟩
    have := H4.out
    simp only [List.append_assoc, if_true] at this ⊢
    exact this
  | false =>
    have HT := Lib.hid (WText_at h4 v HV.out hB5)
    have c1 := (Lib.cell_of_heap hx4 1).trans (rfl : _ = some (Value.string (stx v)))
    clear h4 hx4
    go_wp2_with fail
    refine HT.out.mono ?_
    rintro e w5 ⟨rfl, h5, n5⟩
    have N5 := N4.trans n5
    have H5 := Lib.hid h5
    clear HT h5 n5 N4
    go_wp2_with fail
    go_end0
    refine ⟨rfl, ?_, N5⟩
    have := H5.out
    simp only [List.append_assoc, Bool.false_eq_true, if_false, List.cons_append, List.nil_append] at this ⊢
    exact this
/-- Make's answer. -/
def makeB (l : List Ent) : List UInt8 × Nat := if checkB l ≠ 0 then ([], checkB l) else if (textB l).length ≤ 65536 then (frame (textB l), 0) else ([], 2)
def MakeR (l : List Ent) : Value := .tuple #[.string (stx (makeB l).1), .int .i64 (makeB l).2]
theorem encB_step {l : List Ent} {i : Nat} {x : Ent} {K : List UInt8} (h : l[i]? = some x) (hK : K = if 0 < i then (l.getD (i - 1) x).key else []) : encB [] (l.take (i + 1)) = encB [] (l.take i) ++ encE K x := by
  rw [encB_take l i x [] h, hK]
theorem lastK_step {l : List Ent} {i : Nat} {x y : Ent} (h : l[i]? = some x) : x.key = if 0 < i + 1 then (l.getD (i + 1 - 1) y).key else [] := by
  rw [if_pos (by omega), show i + 1 - 1 = i by omega, List.getD_eq_getElem?_getD, h]
  rfl
theorem lastK_zero (l : List Ent) (y : Ent) : ([] : List UInt8) = if 0 < 0 then (l.getD (0 - 1) y).key else [] := rfl
theorem checkB_len {l : List Ent} (h : checkB l = 0) : l.length ≤ 256 ∧ ∀ x ∈ l, x.key.length ≤ 100 ∧ x.val.length ≤ 4000 := by
  unfold checkB at h
  split at h
  · cases h
  · exact ⟨by omega, fun x hx => ⟨((goB_zero h).2 x hx).2.2.1, ((goB_zero h).2 x hx).2.2.2.1⟩⟩
end Go.Proofs.YtgegipijappfhaaDoor
namespace Go.Proofs.YtgegipijappfhaaDoor
open Go Go.RowKit

set_option maxRecDepth 100000 in
set_option maxHeartbeats 2000000 in
theorem kMake_bad (v : Value) (l : List Ent) (w : World) (h : EntsAt w v l) (hs : smallB l) (hc : checkB l ≠ 0) : Calls Tryd.prog 19 #[v] w fun e w' => e = .returned (MakeR l) ∧ Below w.heap.size w w' := by
  have HC := Lib.hid (kCheck_any v l w h hs)
  unfold MakeR makeB
  rw [if_pos hc]
  generalize checkB l = E at *
  have e1 : ((E : Int) != 0) = true := by rw [bne_iff_ne]; omega
  have e2 : (E != 0) = true := by rw [bne_iff_ne]; exact hc
  clear h hc
  go_enter Tryd.func19, Tryd.ntmps19
  go_wp2_with fail
  refine HC.out.mono ?_
  rintro e w1 ⟨rfl, b1⟩
  clear HC
  go_wp2_with fail
  go_ret2
  exact ⟨rfl, b1⟩
set_option maxRecDepth 100000 in
set_option maxHeartbeats 4000000 in
theorem kMake_good (v : Value) (l : List Ent) (w : World) (h : EntsAt w v l) (ht : Tabs w) (hs : smallB l) (hc : checkB l = 0) : Calls Tryd.prog 19 #[v] w fun e w' => e = .returned (MakeR l) ∧ Below w.heap.size w w' := by
  have HC := Lib.hid (kCheck_any v l w h hs)
  obtain ⟨hl, hk⟩ := checkB_len hc
  have HR : Hid (MakeR l = if (textB l).length ≤ 65536 then .tuple #[.string (stx (frame (textB l))), .int .i64 0] else .tuple #[.string ⟨#[]⟩, .int .i64 2]) := Lib.hid (by
    unfold MakeR makeB
    rw [if_neg (by rw [hc]; simp)]
    split <;> rfl)
  rw [hc] at HC
  obtain ⟨ao, cap, rfl, hc1, hc2, h3⟩ := h
  have H3 := Lib.hid h3
  have HK := Lib.hid hk
  have HT := Lib.hid ht
  obtain ⟨n, hn⟩ : ∃ n, l.length = n := ⟨_, rfl⟩
  have HN := Lib.hid hn
  have HTX : Hid (numBytes n ++ encB [] (l.take n) = textB l) := Lib.hid (by rw [← hn, List.take_of_length_le (Nat.le_refl _)]; rfl)
  rw [hn] at hl HC ⊢
  have hn2 : (n : Int) ≤ 256 := by omega
  have hnn : n < 9223372036854775808 := by omega
  have HF0 : Hid (([] ++ numBytes n : List UInt8) = numBytes n ++ encB [] (l.take 0)) := Lib.hid (by simp [encB])
  obtain ⟨T, hT⟩ : ∃ T, textB l = T := ⟨_, rfl⟩
  rw [hT] at HR HTX
  obtain ⟨RR, hRR⟩ : ∃ RR, MakeR l = RR := ⟨_, rfl⟩
  rw [hRR] at HR ⊢
  clear h3 hk hn hT hRR hc hs ht hc1 hc2
  go_enter Tryd.func19, Tryd.ntmps19
  go_wp2_with fail
  refine HC.out.mono ?_
  rintro e w1 ⟨rfl, b1⟩
  have bq : Below w1.heap.size w1 (w1.alloc (.cells #[.slice none 0 0, .int .i64 0] 84)) := (Below.refl _ _).alloc (Nat.le_refl _) _
  have k0 := wrAt_new w1 _ rfl
  have HNU := Lib.hid (WNum_at k0 n hnn bq.size)
  have hw1 := b1.size
  clear HC k0
  go_wp2_with fail
  generalize hB : w1.heap.size = B at *
  generalize (w1.alloc (.cells #[.slice none 0 0, .int .i64 0] 84)) = W1 at *
  refine HNU.out.mono ?_
  rintro e w2 ⟨rfl, k2, n2⟩
  rw [HF0.out] at k2
  have b2 : Below B w1 w2 := bq.trans (n2.below (Nat.le_refl _) (Nat.le_refl _))
  have b3 : Below w.heap.size w w2 := below_past b1 (by rw [hB]; exact b2) b1.size
  have hB2 : B ≤ w2.heap.size := by rw [← hB]; exact b2.size
  have HB := Lib.hid hB
  clear HNU n2 bq b2 HF0 hB b1
  go_wp2_with fail
  go_loopw [6, 21] (fun u x wr => ∃ (i : Nat) (K : List UInt8), i ≤ n ∧ x = .int .i64 i ∧ u = .string (stx K) ∧ Hid (∀ y : Ent, K = if 0 < i then (l.getD (i - 1) y).key else []) ∧ Hid (K.length ≤ 100) ∧ WrAt B B (numBytes n ++ encB [] (l.take i)) wr ∧ Below w.heap.size w wr ∧ B ≤ wr.heap.size) (fun _ x _ => (n - intOf x).toNat)
  case atStart => exact ⟨0, [], Nat.zero_le _, rfl, rfl, Lib.hid (fun y => rfl), Lib.hid (by decide), k2, b3, hB2⟩
  case round =>
    obtain ⟨i, K, hi, rfl, rfl, HKK, HKL, kr, b4, hBr⟩ := hrel
    clear k2 b3 hB2
    by_cases hlt : i < n
    · have hlt' : (i : Int) < n := by omega
      obtain ⟨x, hx⟩ : ∃ x, l[i]? = some x := ⟨_, List.getElem?_eq_getElem (by rw [HN.out]; exact hlt)⟩
      obtain ⟨g, o, rfl, hat⟩ := H3.out i x hx
      obtain ⟨c1, c2, c3⟩ := hat.below b4
      have hkx := HK.out x (List.mem_of_getElem? hx)
      have HST := Lib.hid (encB_step hx (HKK.out x))
      have HLS := Lib.hid (fun y => lastK_step (y := y) hx)
      have bq : Below wr.heap.size wr (wr.alloc (.cells #[.string (stx x.key), .string (stx x.val), .bool x.gone] 36)) := (Below.refl _ _).alloc (Nat.le_refl _) _
      have h2 : (wr.alloc (.cells #[.string (stx x.key), .string (stx x.val), .bool x.gone] 36)).heap[wr.heap.size]? = some (.cells #[.string (stx x.key), .string (stx x.val), .bool x.gone] 36) := heap_alloc_new wr _
      have hne : wr.heap.size ≠ B := Nat.ne_of_gt kr.lt
      have k4 := kr.below bq
      have hB4 := Nat.le_trans hBr bq.size
      have HW := Lib.hid (kwrite_any B B _ x K _ k4 hB4 (by omega) (by omega) (by have := HKL.out; omega))
      unfold entA at HW
      rw [List.append_assoc, ← HST.out] at HW
      have HX100 := Lib.hid hkx.1
      have b5 := below_past b4 bq b4.size
      clear hx hat hkx HKK HKL kr bq k4 HST b4
      go_wp2_with fail
      generalize (wr.alloc (.cells #[.string (stx x.key), .string (stx x.val), .bool x.gone] 36)) = W at *
      refine HW.out.mono ?_
      rintro e w5 ⟨rfl, k5, n5⟩
      have h5 := near_cells n5 h2 ent_ne_u8 hne
      have c0 := (Lib.cell_of_heap h5 0).trans (rfl : _ = some (Value.string (stx x.key)))
      have b6 : Below w.heap.size w w5 := b5.trans (n5.below hw1 hw1)
      have hB5 := Nat.le_trans hB4 n5.size
      clear HW n5 h2 h5 b5 hB4 c1 c2 c3 hBr
      go_wp2_with fail
      exact ⟨⟨i + 1, x.key, hlt, by go_num, rfl, HLS, HX100, k5, b6, hB5⟩, by simp [intOf]; omega⟩
    · obtain rfl : i = n := by omega
      rw [HTX.out] at kr
      have HD := Lib.hid (WDone_at kr)
      clear kr HKK HKL
      by_cases hlen : T.length ≤ 65536
      · rw [if_pos hlen] at HD HR
        have HWR := Lib.hid (fun w ht => Wrap_any (stx T) w (by rw [stx_size]; exact hlen) ht)
        rw [show (stx T).data.toList = T from rfl] at HWR
        have HT5 := Lib.hid (HT.out.below b4)
        clear HT hlen
        go_wp2_with fail
        refine HD.out.mono ?_
        rintro e w6 ⟨rfl, b6⟩
        have T6 := HT5.out.below b6
        have b7 := below_past b4 b6 b4.size
        have HW6 := Lib.hid (HWR.out _ T6)
        clear HD b4 b6 T6 HWR HT5
        go_wp2_with fail
        refine HW6.out.mono ?_
        rintro e w7 ⟨rfl, b8⟩
        have b9 := below_past b7 b8 b7.size
        clear HW6 b7 b8
        go_wp2_with fail
        go_ret2
        exact ⟨by rw [HR.out]; rfl, b9⟩
      · rw [if_neg hlen] at HD HR
        clear HT hlen
        go_wp2_with fail
        refine HD.out.mono ?_
        rintro e w6 ⟨rfl, b6⟩
        have b7 := below_past b4 b6 b4.size
        clear HD b4 b6
        go_wp2_with fail
        go_ret2
        exact ⟨by rw [HR.out]; rfl, b7⟩
theorem kMake_any (v : Value) (l : List Ent) (w : World) (h : EntsAt w v l) (ht : Tabs w) (hs : smallB l) : Calls Tryd.prog 19 #[v] w fun e w' => e = .returned (MakeR l) ∧ Below w.heap.size w w' := by
  by_cases hc : checkB l = 0
  · exact kMake_good v l w h ht hs hc
  · exact kMake_bad v l w h hs hc
end Go.Proofs.YtgegipijappfhaaDoor
