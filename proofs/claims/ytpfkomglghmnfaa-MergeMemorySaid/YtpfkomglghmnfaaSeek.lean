/- Entries: keys are sought. Conditions: entries of rising keys. -/
import Derived.Test.YtpfkomglghmnfaaEnts2
import Derived.Test.YtpfkomglghmnfaaEnts5
import Derived.Deep.Cut
import Derived.BigRegion
import Derived.Deep.DeepCutAuto
import Derived.Deep.RegionHeld3
import Derived.Laws.BitsAllLaws
import Derived.Laws.CopyOwn
import Derived.Lib.IndexLaws
import Derived.Lib.OthersKept
import Derived.WalkLawsBesides
import Derived.WalkSpells
import Derived.Outline
namespace Go.Proofs.Ytpfkomglghmnfaa
open Go Go.RowKit

theorem row_ent_tmp {ops : Func} {p q : Tmp} {a : Act} {w : World} {b : Nat} {c : Array Value} {u : Value} {Q : Ending → World → Prop} (h : ops.results = #[.cell p 28, .tmp q]) (hp : a.tmps.getD p undef = .pointer (some ⟨b, 0, none⟩)) (hq : a.tmps.getD q undef = u) (hd : a.defers = [])
    (hr : rowAt w b = some c) (hc : c.size = 3) (hQ : Q (.returned (.tuple #[.agg c, u])) w) : bodyPost Try.prog ops Q .ret a w := by
  subst hq
  exact bodyPost_ret (results_row_tmp h a.tmps w b _ _ hp hr Try.underlying28 rfl (by rw [hc]; kernel_rfl)) hd hQ
def entA (x : Ent) : Value := .agg #[.string (stx x.key), .string (stx x.val), .bool x.gone]
def smallB (l : List Ent) : Prop := ∀ x ∈ l, x.key.length ≤ 1000000 ∧ x.val.length ≤ 1000000
theorem stx_toList (l : List UInt8) : (stx l).toList = l := by
  rw [ByteArray.toList_eq]
/-- How many entries' keys are below a key. -/
def seekE (l : List Ent) (k : List UInt8) : Nat := l.countP fun x => decide (x.key < k)
theorem seekE_le (l : List Ent) (k : List UInt8) : seekE l k ≤ l.length := List.countP_le_length
theorem seekE_of {l : List Ent} {k : List UInt8} {c : Nat} (hc : c ≤ l.length) (h1 : ∀ t x, t < c → l[t]? = some x → x.key < k) (h2 : ∀ t x, c ≤ t → l[t]? = some x → ¬ x.key < k) : seekE l k = c := by
  unfold seekE
  conv => lhs; rw [← List.take_append_drop c l]
  rw [List.countP_append]
  have e1 : (l.take c).countP (fun x => decide (x.key < k)) = c := by
    rw [List.countP_eq_length.2 (fun x hx => ?_), List.length_take, Nat.min_eq_left hc]
    obtain ⟨t, ht, he⟩ := List.getElem_of_mem hx
    rw [List.length_take] at ht
    rw [List.getElem_take] at he
    exact decide_eq_true (h1 t x (by omega) (by rw [List.getElem?_eq_getElem (by omega), he]))
  have e2 : (l.drop c).countP (fun x => decide (x.key < k)) = 0 := by
    rw [List.countP_eq_zero]
    intro x hx
    obtain ⟨t, ht, he⟩ := List.getElem_of_mem hx
    rw [List.length_drop] at ht
    rw [List.getElem_drop] at he
    simpa using h2 (c + t) x (by omega) (by rw [List.getElem?_eq_getElem (by omega), he])
  rw [e1, e2]
  rfl
theorem rising_at {l : List Ent} (h : rising l) {a b : Nat} {x y : Ent} (hab : a < b) (hx : l[a]? = some x) (hy : l[b]? = some y) : x.key < y.key := by
  obtain ⟨ha, rfl⟩ := List.getElem?_eq_some_iff.1 hx
  obtain ⟨hb, rfl⟩ := List.getElem?_eq_some_iff.1 hy
  exact List.pairwise_iff_getElem.1 h a b ha hb hab
/-- Those ahead of the place are below the key, the others aren't. -/
theorem seekE_lt {l : List Ent} (h : rising l) {k : List UInt8} {t : Nat} {x : Ent} (hx : l[t]? = some x) : x.key < k ↔ t < seekE l k := by
  have ht := (List.getElem?_eq_some_iff.1 hx).1
  have key : ∃ c, c ≤ l.length ∧ (∀ t x, t < c → l[t]? = some x → x.key < k) ∧ (∀ t x, c ≤ t → l[t]? = some x → ¬ x.key < k) := by
    have : ∀ m, (∃ c, c ≤ l.length ∧ (∀ t x, t < c → l[t]? = some x → x.key < k) ∧ (∀ t x, c ≤ t → t < m → l[t]? = some x → ¬ x.key < k)) := by
      intro m
      induction m with
      | zero => exact ⟨0, Nat.zero_le _, fun t x h => absurd h (Nat.not_lt_zero _), fun t x _ h => absurd h (Nat.not_lt_zero _)⟩
      | succ m ih =>
        obtain ⟨c, c1, c2, c3⟩ := ih
        cases hm : l[m]? with
        | none => exact ⟨c, c1, c2, fun t x h1 h2 h3 => by
            by_cases q : t = m
            · subst q; rw [hm] at h3; cases h3
            · exact c3 t x h1 (by omega) h3⟩
        | some y =>
          by_cases hy : y.key < k
          · refine ⟨m + 1, (List.getElem?_eq_some_iff.1 hm).1, fun t x h1 h2 => ?_, fun t x h1 h2 => by omega⟩
            by_cases q : t = m
            · subst q; rw [hm] at h2; cases h2; exact hy
            · exact klt_trans (rising_at h (by omega) h2 hm) hy
          · exact ⟨c, c1, c2, fun t x h1 h2 h3 => by
              by_cases q : t = m
              · subst q; rw [hm] at h3; cases h3; exact hy
              · exact c3 t x h1 (by omega) h3⟩
    obtain ⟨c, c1, c2, c3⟩ := this l.length
    exact ⟨c, c1, c2, fun t x h1 h2 => c3 t x h1 (List.getElem?_eq_some_iff.1 h2).1 h2⟩
  obtain ⟨c, c1, c2, c3⟩ := key
  rw [seekE_of c1 c2 c3]
  constructor
  · intro hk
    by_cases q : t < c
    · exact q
    · exact absurd hk (c3 t x (by omega) hx)
  · exact fun q => c2 t x q hx
set_option maxRecDepth 100000 in
set_option maxHeartbeats 2000000 in
theorem search_any (n : Nat) (p : Nat → Bool) (A B : Value) (w : World) (hn : n ≤ 1000000)
    (hf : ∀ W, Below w.heap.size w W → ∀ i, i < n → Calls Try.prog 31 #[.int .i64 i, A, B] W fun e w' => e = .returned (.bool (p i)) ∧ Below W.heap.size W w')
    (hm : ∀ a b, a ≤ b → b < n → p a = true → p b = true) :
    Calls Try.prog 29 #[.int .i64 n, .func (.func 31) #[] #[A, B]] w fun e w' => (∃ c : Nat, e = .returned (.int .i64 c) ∧ c ≤ n ∧ (∀ t, t < c → p t = false) ∧ (∀ t, c ≤ t → t < n → p t = true)) ∧ Below w.heap.size w w' := by
  have HF := Lib.hid hf
  have HM := Lib.hid hm
  have hn1 : (n : Int) ≤ 1000000 := by omega
  clear hf hm
  go_enter Try.func29, Try.ntmps29
  go_wp2_with fail
  go_loopw [5, 6] (fun x y wr => ∃ i j : Nat, x = .int .i64 i ∧ y = .int .i64 j ∧ i ≤ j ∧ j ≤ n ∧ Hid ((∀ t, t < i → p t = false) ∧ (∀ t, j ≤ t → t < n → p t = true)) ∧ Below w.heap.size w wr) (fun x y _ => (intOf y - intOf x).toNat)
  case atStart => exact ⟨0, n, rfl, rfl, Nat.zero_le _, Nat.le_refl _, Lib.hid ⟨fun t h => absurd h (Nat.not_lt_zero _), fun t h1 h2 => by omega⟩, Below.refl _ _⟩
  case round =>
    obtain ⟨i, j, rfl, rfl, hij, hj, HI, b1⟩ := hrel
    by_cases hlt : i < j
    · have h1 : (i : Int) < j := by omega
      have h2 : (i : Int) + j ≤ 2000000 := by omega
      have h0 : (0 : Int) ≤ (i : Int) + j := by omega
      obtain ⟨m, hm⟩ : ∃ m, (i + j) / 2 = m := ⟨_, rfl⟩
      have hm1 : ((i : Int) + j) / 2 = m := by omega
      have hmi : i ≤ m := by omega
      have hmj : m < j := by omega
      have hm2 : (m : Int) ≤ 1000000 := by omega
      have HFM := Lib.hid (HF.out wr b1 m (by omega))
      clear hm
      go_wp2_with fail
      refine HFM.out.mono ?_
      rintro e w1 ⟨rfl, b2⟩
      have b3 := below_past b1 b2 b1.size
      clear HFM b1 b2
      cases hp : p m with
      | false =>
        have HI2 : Hid ((∀ t, t < m + 1 → p t = false) ∧ (∀ t, j ≤ t → t < n → p t = true)) := Lib.hid ⟨(fun t ht => by
          cases h : p t with
          | false => rfl
          | true =>
            have := HM.out t m (by omega) (by omega) h
            rw [hp] at this
            cases this), HI.out.2⟩
        clear hp
        go_wp2_with fail
        exact ⟨⟨m + 1, j, by go_num, rfl, by omega, hj, HI2, b3⟩, by simp [intOf]; omega⟩
      | true =>
        have HI2 : Hid ((∀ t, t < i → p t = false) ∧ (∀ t, m ≤ t → t < n → p t = true)) := Lib.hid ⟨HI.out.1, fun t h1 h2 => HM.out m t h1 h2 hp⟩
        clear hp
        go_wp2_with fail
        exact ⟨⟨i, m, rfl, rfl, hmi, by omega, HI2, b3⟩, by simp [intOf]; omega⟩
    · obtain rfl : i = j := by omega
      go_wp2_with fail
      go_ret
      exact ⟨⟨i, rfl, hj, HI.out.1, HI.out.2⟩, b1⟩
set_option maxRecDepth 100000 in
set_option maxHeartbeats 1000000 in
theorem kSeek1_any (ba bb i : Nat) (v : Value) (l : List Ent) (k : List UInt8) (x : Ent) (W : World) (ha : W.cell? ⟨ba, 0, none⟩ = some v) (hb : W.cell? ⟨bb, 0, none⟩ = some (.string (stx k))) (h : EntsAt W v l) (hx : l[i]? = some x) :
    Calls Try.prog 31 #[.int .i64 i, .pointer (some ⟨ba, 0, none⟩), .pointer (some ⟨bb, 0, none⟩)] W fun e w' => e = .returned (.bool (!decide (x.key < k))) ∧ Below W.heap.size W w' := by
  obtain ⟨ao, cap, rfl, h1, h2, h3⟩ := h
  obtain ⟨g, o, rfl, hat⟩ := h3 i x hx
  obtain ⟨n, hn⟩ : ∃ n, l.length = n := ⟨_, rfl⟩
  have hi : i < n := by rw [← hn]; exact (List.getElem?_eq_some_iff.1 hx).1
  rw [hn] at ha h1
  unfold maxLen at h2
  have i1 : (i : Int) < n := by omega
  have i2 : (n : Int) ≤ 9223372036854775807 := by omega
  have hless := lessE (stx x.key).toList (stx k).toList
  have hdd : decide ((stx x.key).toList < (stx k).toList) = decide (x.key < k) := by rw [stx_toList, stx_toList]
  rw [hdd] at hless
  generalize decide (x.key < k) = d at *
  have y0 := fun y : Past W => (y.h.cell (p := ⟨ba, 0, none⟩) (cellLt ha)).trans ha
  have y1 := fun y : Past W => (y.h.cell (p := ⟨bb, 0, none⟩) (cellLt hb)).trans hb
  have y2 := fun y : Past W => (y.h.cell (p := ⟨g, o + i * 3, none⟩) hat.lt).trans hat.1
  clear ha hb h3 hx hat hn hi hdd
  generalize stx x.key = sx at *
  generalize stx k = sk at *
  go_enter Try.func31, Try.ntmps31
  go_upto_region 1 with fail
  refine wp_region_past (by kernel_rfl) (by kernel_rfl) ?_
  repeat (go_big_quiet_step (fail))
  refine wpQuiet_nil ?_
  intro w2 hw2
  obtain ⟨⟨wn, hn⟩, rfl⟩ := hw2
  try dsimp only
  clear y0 y1 y2
  go_wp2_with fail
  go_ret
  exact ⟨rfl, hn⟩
set_option maxRecDepth 100000 in
set_option maxHeartbeats 1000000 in
theorem kSeek_any (v : Value) (l : List Ent) (k : List UInt8) (w : World) (h : EntsAt w v l) (hr : rising l) (hl : l.length ≤ 1000000) : Calls Try.prog 22 #[v, .string (stx k)] w fun e w' => e = .returned (.int .i64 (seekE l k)) ∧ Below w.heap.size w w' := by
  obtain ⟨ao, cap, hv, h1, h2, h3⟩ := id h
  obtain ⟨n, hn⟩ : ∃ n, l.length = n := ⟨_, rfl⟩
  rw [hn] at hv hl
  have b1 : Below w.heap.size w ((w.alloc (.cells #[v] 22)).alloc (.cells #[.string (stx k)] 9)) := ((Below.refl _ _).alloc (Nat.le_refl _) _).alloc (by simp only [World.size_alloc]; omega) _
  have c0 : ((w.alloc (.cells #[v] 22)).alloc (.cells #[.string (stx k)] 9)).cell? ⟨w.heap.size, 0, none⟩ = some v := cell_of_rowAt ((rowAt_alloc_past _ _ _ (by simp only [World.size_alloc]; omega)).trans (rowAt_alloc_at _ _ _ _ rfl)) 0
  have c1 : ((w.alloc (.cells #[v] 22)).alloc (.cells #[.string (stx k)] 9)).cell? ⟨w.heap.size + 1, 0, none⟩ = some (.string (stx k)) := cell_of_rowAt (rowAt_alloc_at _ _ _ _ (by simp only [World.size_alloc])) 0
  have he := h.below b1
  have HS := Lib.hid (search_any n (fun i => !decide ((l.getD i ⟨[], [], false⟩).key < k)) (.pointer (some ⟨w.heap.size, 0, none⟩)) (.pointer (some ⟨w.heap.size + 1, 0, none⟩)) _ hl (fun W hW i hi => by
    have hx : l[i]? = some (l.getD i ⟨[], [], false⟩) := by
      rw [List.getD_eq_getElem?_getD, List.getElem?_eq_getElem (by omega)]
      rfl
    exact kSeek1_any _ _ i v l k _ W ((hW.cell (p := ⟨w.heap.size, 0, none⟩) (cellLt c0)).trans c0) ((hW.cell (p := ⟨w.heap.size + 1, 0, none⟩) (cellLt c1)).trans c1) (he.below hW) hx) (fun a b hab hb hp => by
    simp only [Bool.not_eq_true', decide_eq_false_iff_not] at hp ⊢
    intro hq
    by_cases e : a = b
    · subst e; exact hp hq
    · exact hp (klt_trans (rising_at hr (show a < b by omega) (by rw [List.getD_eq_getElem?_getD, List.getElem?_eq_getElem (by omega)]; rfl) (by rw [List.getD_eq_getElem?_getD, List.getElem?_eq_getElem (by omega)]; rfl)) hq)))
  have HC : Hid (∀ c : Nat, c ≤ n → (∀ t, t < c → (!decide ((l.getD t ⟨[], [], false⟩).key < k)) = false) → (∀ t, c ≤ t → t < n → (!decide ((l.getD t ⟨[], [], false⟩).key < k)) = true) → seekE l k = c) := Lib.hid fun c q1 q2 q3 => seekE_of (by omega) (fun t x q4 q5 => by
    have := q2 t q4
    rw [List.getD_eq_getElem?_getD, q5] at this
    simpa using this) (fun t x q4 q5 => by
    have := q3 t q4 (by rw [← hn]; exact (List.getElem?_eq_some_iff.1 q5).1)
    rw [List.getD_eq_getElem?_getD, q5] at this
    simpa using this)
  have hn1 : (n : Int) ≤ 1000000 := by omega
  clear h h1 h2 h3 hn hr he
  subst hv
  go_enter Try.func22, Try.ntmps22
  go_wp2_with fail
  refine HS.out.mono ?_
  rintro e w1 ⟨⟨c, rfl, q1, q2, q3⟩, b2⟩
  have HE := Lib.hid (HC.out c q1 q2 q3)
  have b3 := below_past b1 b2 b1.size
  clear HS HC q1 q2 q3 b1 b2 c0 c1
  go_wp2_with fail
  go_ret
  exact ⟨by rw [HE.out]; rfl, b3⟩
end Go.Proofs.Ytpfkomglghmnfaa
