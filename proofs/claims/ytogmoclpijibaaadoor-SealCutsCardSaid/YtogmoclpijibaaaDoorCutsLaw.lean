/- For every list of texts and every place the law SealCuts returns true. Conditions: the listed tables are as the program lays them. -/
import Derived.Test.YtogmoclpijibaaaDoorCutsMath
import Derived.Test.YtogmoclpijibaaaDoorTabs
import Derived.Test.YtogmoclpijibaaaDoorTie
import Derived.Test.YtogmoclpijibaaaDoorCards
import Derived.SevenTiedAt
import Derived.Deep.Strs
namespace Go.Proofs.YtogmoclpijibaaaDoor.frames
open Go Go.ChangeShapes Go.WideShapes Go.ChangeAt Go.ChangeMaps Go.RowKit Go.Proofs.YtogmoclpijibaaaDoor

/-- A list of texts that came in. -/
def InStrs (w : World) (v : Value) (len : Nat) (S : Nat → ByteArray) : Prop :=
  ∃ ao cap, v = .slice ao len cap ∧ ∀ i, i < len → ∃ a, ao = some a ∧ w.cell? (a.add i) = some (.string (S i))
theorem in_strs {P : Program} {H : Type} {enc : TypeId × Value → H} {W : World} {sp : Nat → Bool} {held : Bool} {base t e : TypeId} {v : Value} {d : DataW H} {p : List MemPlace} (ht : P.underlying t = some (.slice e)) (he : P.underlying e = some .string) (ce : P.cellsOf e = 1) (hval : Value.okWide P W .any base t v) (hd : DataW.Trod enc P W 0 sp held t v d p) :
    ∃ (len : Nat) (S : Nat → ByteArray), InStrs W v len S := by
  obtain ⟨ao, len, cap, rfl⟩ := okWide_slice ht hval
  obtain ⟨fuel, hf⟩ := hd
  rcases Deep.open_strs ht he ce hf with ⟨h, _⟩ | ⟨a, len', cap', m, S, hcs, _, hl, hm, hmm, _, hx⟩
  · have hc : ao = none ∧ len = 0 ∧ cap = 0 := by simpa [Value.cells] using h
    obtain ⟨rfl, rfl, rfl⟩ := hc
    exact ⟨0, fun _ => ⟨#[]⟩, none, 0, rfl, fun i hi => absurd hi (Nat.not_lt_zero i)⟩
  · have hc : (ao = some a ∧ len = len' ∧ cap = cap') := by simpa [Value.cells] using hcs
    obtain ⟨rfl, rfl, rfl⟩ := hc
    have hlm : len ≤ m := by rw [hmm]; split <;> omega
    exact ⟨len, S, some a, cap, rfl, fun i hi => ⟨a, rfl, (hx i (by omega)).1⟩⟩

def OwnInts (w : World) (B : Nat) (v : Value) (xs : List Nat) : Prop := w.ownsRow B 3 1 v xs.length (xs.map fun (n : Nat) => Value.int .i64 n)
theorem OwnInts.below {w w' : World} {B : Nat} {v : Value} {ts : List Nat} (h : OwnInts w B v ts) (k : Below w.heap.size w w') : OwnInts w' B v ts :=
  World.ownsRow.kept h (row := none) ⟨k.os, k.tape, k.output, k.size, fun j hj _ => k.block j hj⟩ (by cases hv : v.ownBlock <;> simp)
/-- A row of another type stays as it is. -/
theorem own_other {w w' : World} {B C e1 e2 s1 s2 n m : Nat} {v u : Value} {xs ys : List Value} (h1 : w.ownsRow B e1 s1 v n xs) (h2 : w.ownsRow C e2 s2 u m ys) (he : e1 ≠ e2) (hg : w.grownBy w' u.ownBlock) : w'.ownsRow B e1 s1 v n xs := by
  refine h1.kept hg ?_
  rcases h1.2 with ⟨a1, _⟩ | ⟨g, cap, cur, a1, _, a3, _⟩
  · left; rw [a1]; rfl
  · right
    rcases h2.2 with ⟨c1, _⟩ | ⟨g2, cap2, cur2, c1, _, c3, _⟩
    · rw [a1, c1]; simp [Value.ownBlock]
    · rw [a1, c1]
      intro e
      have : g = g2 := by simpa [Value.ownBlock] using e
      subst this
      rw [a3] at c3
      injection c3 with c3
      injection c3 with _ c4
      exact he c4
theorem info_int : ∃ i : TypeInfo, Tryd.prog.info? 3 = some i ∧ i.zero = some (.int .i64 0) ∧ i.size = 1 ∧ i.bytes = 8 := by
  have h : (Tryd.prog.info? 3).map (fun i => (i.zero, i.size, i.bytes)) = some (some (.int .i64 0), 1, 8) := by kernel_rfl
  cases hq : Tryd.prog.info? 3 with
  | none => rw [hq] at h; cases h
  | some i =>
    rw [hq] at h
    simp only [Option.map_some, Option.some.injEq, Prod.mk.injEq] at h
    exact ⟨i, rfl, h.1, h.2.1, h.2.2⟩
theorem one_cell {w : World} {T : TypeId} (x : Value) : ∀ j u, [x][j]? = some u → (w.alloc (.cells #[x] T)).cell? ((⟨w.heap.size, 0, none⟩ : Addr).add j) = some u := by
  intro j u hu
  have hj : j = 0 := by
    have := (List.getElem?_eq_some_iff.1 hu).1
    simpa using this
  subst hj
  have hu2 : x = u := by simpa using hu
  rw [← hu2, show (⟨w.heap.size, 0, none⟩ : Addr).add 0 = ⟨w.heap.size, 0, none⟩ by simp [Addr.add]]
  exact cell_of_rowAt (rowAt_alloc_at w #[x] T _ rfl) 0

def txts (S : Nat → ByteArray) (m : Nat) : List (List UInt8) := (List.range m).map fun i => (S i).data.toList.take 200
theorem txts_length (S : Nat → ByteArray) (m : Nat) : (txts S m).length = m := by simp [txts]
theorem txts_succ (S : Nat → ByteArray) (m : Nat) : txts S (m + 1) = txts S m ++ [(S m).data.toList.take 200] := by simp [txts, List.range_succ]
theorem txts_short (S : Nat → ByteArray) (m : Nat) : ∀ t ∈ txts S m, t.length ≤ 200 := by
  intro t ht
  obtain ⟨i, _, rfl⟩ := List.mem_map.1 ht
  exact List.length_take_le _ _
theorem cat_small (S : Nat → ByteArray) (m : Nat) : (cat (txts S m)).length ≤ 208 * m := by
  induction m with
  | zero => exact Nat.le_refl _
  | succ m ih =>
    rw [txts_succ, cat_append, List.length_append]
    have : (cat [(S m).data.toList.take 200]).length = 8 + ((S m).data.toList.take 200).length := by
      rw [cat, List.length_append, frame_length]
      rfl
    have h2 : ((S m).data.toList.take 200).length ≤ 200 := List.length_take_le _ _
    omega
def ends (S : Nat → ByteArray) (m : Nat) : List Nat := (List.range (m + 1)).map fun i => (cat (txts S i)).length
theorem ends_succ (S : Nat → ByteArray) (m : Nat) : ends S (m + 1) = ends S m ++ [(cat (txts S (m + 1))).length] := by
  rw [ends, List.range_succ, List.map_append]
  rfl
theorem ends_length (S : Nat → ByteArray) (m : Nat) : (ends S m).length = m + 1 := by simp [ends]
theorem txts_take (S : Nat → ByteArray) (m k : Nat) (h : k ≤ m) : (txts S m).take k = txts S k := by
  rw [txts, ← List.map_take, List.take_range, Nat.min_eq_left h]
  rfl
theorem ends_get (S : Nat → ByteArray) (m k : Nat) (h : k ≤ m) : (ends S m)[k]? = some (endAt (txts S m) k) := by
  rw [ends, List.getElem?_map, List.getElem?_range (by omega), endAt, txts_take S m k h]
  rfl

theorem OwnInts.lie {w : World} {B : Nat} {v : Value} {xs : List Nat} (h : OwnInts w B v xs) (hx : 0 < xs.length) : ∃ g cap, v = .slice (some ⟨g, 0, none⟩) xs.length cap ∧ ∀ (k n : Nat), xs[k]? = some n → w.cell? ⟨g, k, none⟩ = some (.int .i64 n) := by
  have h' := h
  rcases h.2 with ⟨_, h2⟩ | ⟨g, cap, cur, h1, _⟩
  · omega
  · refine ⟨g, cap, h1, fun k n hk => ?_⟩
    have hb : v.ownBlock = some g := by rw [h1]; rfl
    have := World.ownsRow.cells h' hb k (.int .i64 n) (by rw [List.getElem?_map, hk]; rfl)
    rw [← this]
    congr 1
    exact (show (⟨g, 0, none⟩ : Addr).add k = ⟨g, k, none⟩ by simp [Addr.add]; exact fun e => e.symm).symm
theorem OwnStrs.solid {w : World} {B : Nat} {v : Value} {ts : List (List UInt8)} (h : OwnStrs w B v ts) (hv : v ≠ .slice none 0 0) : ∃ g cap, v = .slice (some ⟨g, 0, none⟩) ts.length cap ∧ ts.length ≤ cap := by
  rcases h.2 with ⟨h1, _⟩ | ⟨g, cap, cur, h1, _, _, h4, _⟩
  · exact absurd h1 hv
  · exact ⟨g, cap, h1, h4⟩
/-- What the rest of the law needs of where it was cut. -/
theorem cut_fact (S : Nat → ByteArray) (m c : Nat) (hc : c ≤ (cat (txts S m)).length) : ∃ K en : Nat, K ≤ m ∧ allR ((cat (txts S m)).take c) = ((txts S m).take K, en) ∧ endAt (txts S m) K = en ∧ (∀ k, k ≤ m → (endAt (txts S m) k ≤ c ↔ k ≤ K)) := by
  have h1 := whole_le (txts S m) c
  rw [txts_length] at h1
  refine ⟨whole (txts S m) c, endAt (txts S m) (whole (txts S m) c), h1, all_of_cut (txts S m) c (fun t ht => by have := txts_short S m t ht; omega) hc, rfl, fun k hk => whole_iff _ _ _ (by rw [txts_length]; exact hk)⟩

set_option maxRecDepth 100000 in
set_option maxHeartbeats 2000000 in
theorem walk (v : Value) (len : Nat) (S : Nat → ByteArray) (cut : Int) (w : World) (h : InStrs w v len S) (ht : Tabs w) : Calls Tryd.prog 11 #[v, .int .i64 cut] w fun e w' => e = .returned (.bool true) ∧ Below w.heap.size w w' := by
  obtain ⟨ao, cap0, rfl, hS⟩ := h
  have HS := Lib.hid hS
  have HT := Lib.hid ht
  obtain ⟨i0, hi, hz0, hz1, hz2⟩ := info_str
  obtain ⟨j0, hj, hy0, hy1, hy2⟩ := info_int
  have a0 : Below w.heap.size w ((w.alloc (.cells #[.int .i64 0] 3)).alloc (.cells #[] 9)) := ((Below.refl _ _).alloc (Nat.le_refl _) _).alloc (by simp only [World.size_alloc]; omega) _
  have e0 : OwnInts (w.alloc (.cells #[.int .i64 0] 3)) w.heap.size (.slice (some ⟨w.heap.size, 0, none⟩) 1 1) (ends S 0) :=
    ⟨rfl, .inr ⟨w.heap.size, 1, #[.int .i64 0], rfl, Nat.le_refl _, heap_alloc_new w _, Nat.le_refl _, by unfold maxLen; decide, rfl, rfl⟩⟩
  have e1 := e0.below (Below.alloc (Below.refl _ _) (Nat.le_refl _) (.cells #[] 9))
  have o1 : OwnStrs ((w.alloc (.cells #[.int .i64 0] 3)).alloc (.cells #[] 9)) w.heap.size (.slice (some ⟨w.heap.size + 1, 0, none⟩) 0 0) (txts S 0) := by
    have := ownStrs_empty (w.alloc (.cells #[.int .i64 0] 3))
    rw [show (w.alloc (.cells #[.int .i64 0] 3)).heap.size = w.heap.size + 1 by simp only [World.size_alloc]] at this
    refine ⟨rfl, .inr ⟨w.heap.size + 1, 0, #[], rfl, Nat.le_succ _, ?_, Nat.le_refl _, Nat.zero_le _, rfl, rfl⟩⟩
    have h2 := heap_alloc_new (w.alloc (.cells #[.int .i64 0] 3)) (.cells #[] 9)
    simp only [World.size_alloc] at h2
    exact h2
  clear hS ht e0
  go_enter Tryd.func11, Tryd.ntmps11
  go_wp2_with fail
  generalize (w.alloc (.cells #[.int .i64 0] 3)).alloc (.cells #[] 9) = W0 at *
  have bs0 := a0.size
  generalize hB : w.heap.size = B at *
  have HB := Lib.hid hB
  clear hB
  go_loopw [5, 6, 7, 8] (fun s v u x wr => ∃ i : Nat, i ≤ len ∧ i ≤ 10 ∧ x = .int .i64 i ∧ Hid (s = .string (stx (cat (txts S i)))) ∧ Hid (u ≠ .slice none 0 0) ∧ OwnInts wr B v (ends S i) ∧ OwnStrs wr B u (txts S i) ∧ Below B w wr) (fun _ _ _ x _ => (10 - intOf x).toNat)
  case atStart => exact ⟨0, Nat.zero_le _, Nat.zero_le _, rfl, Lib.hid rfl, Lib.hid (by simp), e1, o1, a0⟩
  case round =>
    obtain ⟨i, hi1, hi2, rfl, HX, HU, ei, oi, b0⟩ := hrel
    clear e1 o1 a0 bs0
    have hx := HX.out
    have hcs := cat_small S i
    by_cases hgo : i < len ∧ i < 10
    · obtain ⟨g1, g2⟩ := hgo
      have g1' : decide (i < len) = true := decide_eq_true g1
      have g2' : decide ((i : Int) < 10) = true := decide_eq_true (by omega)
      have g1n : (i : Int) < len := by omega
      obtain ⟨a, rfl, hc⟩ := HS.out i g1
      have c1 := (b0.cell (p := a.add i) (by rw [← HB.out]; exact cellLt hc)).trans hc
      have hsuc := txts_succ S i
      obtain ⟨L, hL⟩ : ∃ L, (S i).data.toList.take 200 = L := ⟨_, rfl⟩
      have hl2 : L.length ≤ 200 := by rw [← hL]; exact List.length_take_le _ _
      have HK : Hid (∀ w, Calls Tryd.prog 15 #[.string (S i), .int .i64 200] w fun e w' => e = .returned (.string (stx L)) ∧ w' = w) := Lib.hid fun w => by
        have := l3Cut_any (S i) 200 w (by decide)
        rwa [hL] at this
      have HW : Hid (∀ w, Tabs w → Calls Tryd.prog 27 #[.string (stx L)] w fun e w' => e = .returned (.tuple #[.string (stx (frame L)), .int .i64 0]) ∧ Below w.heap.size w w') := Lib.hid fun w ht => Wrap_any (stx L) w (by rw [stx_size]; omega) ht
      have z1 : (stx L).size = L.length := stx_size L
      have z2 : (stx (frame L)).size = L.length + 8 := by rw [stx_size, frame_length]; omega
      have z3 : (stx (cat (txts S i))).size = (cat (txts S i)).length := stx_size _
      have z5 : (cat (txts S (i + 1))).length = (cat (txts S i)).length + (L.length + 8) := by
        rw [hsuc, hL, cat_append, List.length_append, cat, List.length_append, frame_length, cat, List.length_nil]
        omega
      have HCAT : Hid (stx (cat (txts S i)) ++ stx (frame L) = stx (cat (txts S (i + 1)))) := Lib.hid (by
        rw [stx_append, hsuc, hL, cat_append, cat, cat, List.append_nil])
      have HTX : Hid (txts S (i + 1) = txts S i ++ [L]) := Lib.hid (by rw [hsuc, hL])
      have HEN : Hid (ends S (i + 1) = ends S i ++ [(cat (txts S i)).length + (L.length + 8)]) := Lib.hid (by rw [ends_succ, z5])
      have z4 : (stx (cat (txts S i)) ++ stx (frame L)).size = (cat (txts S i)).length + (L.length + 8) := by rw [ByteArray.size_append, z3, z2]
      have hll : (txts S i).length = i := txts_length S i
      have hl10 : (txts S i).length ≤ 10 := by omega
      have hl11 : (ends S i).length ≤ 11 := by rw [ends_length]; omega
      have hel : (ends S i).length = i + 1 := ends_length S i
      have T0 := Lib.hid (HT.out.below (by rw [HB.out]; exact b0))
      have EI := Lib.hid ei
      have OI := Lib.hid oi
      have HLL := Lib.hid hll
      have HEL := Lib.hid hel
      have hlt1 : i + 1 ≤ len := g1
      have hlt2 : i + 1 ≤ 10 := g2
      have hn1 : ((cat (txts S i)).length : Int) ≤ 2080 := by omega
      have hn2 : (L.length : Int) ≤ 200 := by omega
      subst hx
      clear hcs hL hsuc z5 hll hel ei oi hc HX g1 g2
      generalize hcn : (cat (txts S i)).length = cn at *
      generalize hln : L.length = ln at *
      clear hcn hln
      have hbs := b0.size
      have hBr : B ≤ wr.heap.size := by rw [← HB.out]; exact hbs
      go_wp2_with fail
      refine (HK.out _).mono ?_
      rintro e w1 ⟨rfl, rfl⟩
      go_wp2_with fail
      refine (HW.out _ T0.out).mono ?_
      rintro e w2 ⟨rfl, b1⟩
      have b3 := below_past b0 b1 hBr
      have ei2 := EI.out.below b1
      have oi2 := OI.out.below b1
      have hB2 : B ≤ w2.heap.size := Nat.le_trans hBr b1.size
      have a1 : Below w2.heap.size w2 (w2.alloc (.cells #[.string (stx L)] 9)) := (Below.refl _ _).alloc (Nat.le_refl _) _
      have ei3 := ei2.below a1
      have oi3 : (w2.alloc (.cells #[.string (stx L)] 9)).ownsRow B 9 1 u7 (txts S i).length (strCells (txts S i)) := oi2.below a1
      have b4 := below_past b3 a1 hB2
      have EI3 := Lib.hid ei3
      clear EI OI b0 b1 c1 ei2 oi2 ei3
      go_wp2_with (at_builtin; refine wpList_append_own _ rfl _ _ 30 rfl B 9 i0 (.string ⟨#[]⟩) 1 16 Tryd.underlying30 hi hz0 hz1 hz2 rfl (by decide) _ _ _ rfl oi3 ⟨w2.heap.size, 0, none⟩ 1 1 [.string (stx L)] rfl rfl ?c1 ?c2 ?c3 ?c4 ?c5 ?_)
      case c1 => exact one_cell _
      case c2 =>
        intro u hu
        have hu2 : u = Value.string (stx L) := by simpa using hu
        rw [hu2]
        rfl
      case c3 => unfold maxLen; omega
      case c4 => omega
      case c5 => exact Nat.le_trans hB2 a1.size
      intro v1 w3 hown hgrow hnil
      have b5 := b4.grown hgrow (Nat.le_trans hB2 a1.size) (fun k hk => (oi3.lt k hk).1)
      have ei4 : OwnInts w3 B u6 (ends S i) := own_other EI3.out oi3 (by decide) hgrow
      have hown2 : OwnStrs w3 B v1 (txts S (i + 1)) := by
        rw [HTX.out]
        show w3.ownsRow B 9 1 v1 (txts S i ++ [L]).length (strCells (txts S i ++ [L]))
        rw [List.length_append, ← strCells_put]
        exact hown
      have HN1 := Lib.hid hnil
      have hB3 : B ≤ w3.heap.size := Nat.le_trans (Nat.le_trans hB2 a1.size) hgrow.size
      have a2 : Below w3.heap.size w3 (w3.alloc (.cells #[.int .i64 (cn + (ln + 8) : Nat)] 3)) := (Below.refl _ _).alloc (Nat.le_refl _) _
      have ei5 : (w3.alloc (.cells #[.int .i64 (cn + (ln + 8) : Nat)] 3)).ownsRow B 3 1 u6 (ends S i).length ((ends S i).map fun (n : Nat) => Value.int .i64 n) := ei4.below a2
      have OI5 := Lib.hid (hown2.below a2)
      have b6 := below_past b5 a2 hB3
      have hc8 : ((cn + (ln + 8) : Nat) : Int) = cn + (ln + 8) := by omega
      rw [hc8] at a2 ei5 OI5 b6
      clear hown hgrow hnil ei4 hown2 EI3 oi3 b3 b4 b5 a1
      go_wp2_with (at_builtin; refine wpList_append_own _ rfl _ _ 57 rfl B 3 j0 (.int .i64 0) 1 8 Tryd.underlying57 hj hy0 hy1 hy2 rfl (by decide) _ _ _ rfl ei5 ⟨w3.heap.size, 0, none⟩ 1 1 [.int .i64 ((cn : Int) + (ln + 8))] rfl rfl ?c1 ?c2 ?c3 ?c4 ?c5 ?_)
      case c1 => exact one_cell _
      case c2 =>
        intro u hu
        have hu2 : u = Value.int .i64 ((cn : Int) + (ln + 8)) := by simpa using hu
        rw [hu2]
        rfl
      case c3 => unfold maxLen; omega
      case c4 => omega
      case c5 => exact Nat.le_trans hB3 a2.size
      intro v2 w4 hown hgrow hnil
      have b7 := b6.grown hgrow (Nat.le_trans hB3 a2.size) (fun k hk => (ei5.lt k hk).1)
      have oi6 : OwnStrs w4 B v1 (txts S (i + 1)) := own_other OI5.out ei5 (by decide) hgrow
      have hown2 : OwnInts w4 B v2 (ends S (i + 1)) := by
        rw [HEN.out]
        show w4.ownsRow B 3 1 v2 (ends S i ++ [cn + (ln + 8)]).length ((ends S i ++ [cn + (ln + 8)]).map fun (n : Nat) => Value.int .i64 n)
        rw [List.length_append, List.map_append]
        rw [show ([cn + (ln + 8)].map fun (n : Nat) => Value.int .i64 n) = [Value.int .i64 ((cn : Int) + (ln + 8))] by simp only [List.map_cons, List.map_nil, hc8]]
        exact hown
      have OI6 := Lib.hid oi6
      have EI6 := Lib.hid hown2
      clear hown hgrow hnil oi6 hown2 OI5 ei5 b6 a2 hc8
      go_wp2_with fail
      exact ⟨⟨i + 1, hlt1, hlt2, by go_num, Lib.hid (by rw [← HCAT.out]), HN1, EI6.out, OI6.out, b7⟩, by simp [intOf]; omega⟩
    · by_cases g1 : i < len
      · have g1' : decide (i < len) = true := decide_eq_true g1
        have g2' : decide ((i : Int) < 10) = false := decide_eq_false (by omega)
        by_cases n1 : cut < 0
        · have n1' : decide (cut < 0) = true := decide_eq_true n1
          obtain ⟨c, hcz⟩ : ∃ c, (cat (txts S i)).length = c := ⟨_, rfl⟩
          have zc : (stx (cat (txts S i))).size = c := by rw [stx_size]; exact hcz
          clear n1
          obtain ⟨K, en, hKm, hAll, hEn, hIff⟩ := cut_fact S i c (by omega)
          have HALL : Hid (∀ w, Tabs w → Calls Tryd.prog 34 #[.string (stx ((cat (txts S i)).take c))] w fun e w' => ∃ gv, e = .returned (.tuple #[gv, .int .i64 en]) ∧ OwnStrs w' w.heap.size gv ((txts S i).take K) ∧ Below w.heap.size w w') := Lib.hid fun w ht => by
            have := All_any (stx ((cat (txts S i)).take c)) w (by rw [stx_size, List.length_take]; omega) ht
            unfold AllRet at this
            rw [show (stx ((cat (txts S i)).take c)).data.toList = (cat (txts S i)).take c from rfl, hAll] at this
            exact this
          have x1 : (stx (cat (txts S i))).extract 0 c = stx ((cat (txts S i)).take c) := stx_extract (cat (txts S i)) 0 c
          obtain ⟨g, cap2, hv, CE⟩ := ei.lie (by rw [ends_length]; exact Nat.succ_pos i)
          obtain ⟨g2, cap3, hu, hcap⟩ := OwnStrs.solid oi HU.out
          rw [ends_length] at hv
          rw [txts_length] at hu hcap
          have hK10 : K ≤ 10 := by omega
          have CE2 : Hid (∀ k, k ≤ i → wr.cell? ⟨g, k, none⟩ = some (.int .i64 (endAt (txts S i) k : Nat))) := Lib.hid fun k hk => CE k _ (ends_get S i k hk)
          obtain ⟨_, _, hu3, ST⟩ := oi.lie.take K (by rw [txts_length]; exact hKm)
          rw [hu] at hu3
          have hST : StrsAt wr (.slice (some ⟨g2, 0, none⟩) K cap3) ((txts S i).take K) := by
            injection hu3 with e1 _ e3
            rw [e1, e3]
            exact ST
          have HST := Lib.hid hST
          have HIFF := Lib.hid hIff
          have HEN := Lib.hid hEn
          have HLK : Hid (((txts S i).take K).length ≤ 1000000) := Lib.hid (by rw [List.length_take, txts_length]; omega)
          have T0 := Lib.hid (HT.out.below (by rw [HB.out]; exact b0))
          have hBr : B ≤ wr.heap.size := by rw [← HB.out]; exact b0.size
          have hKc : (K : Int) ≤ cap3 := by omega
          have hi10 : (i : Int) ≤ 10 := by omega
          subst hv
          subst hu
          subst hx
          clear hAll hEn hIff CE ei oi HU hu3 ST hST HX hcap
          generalize (txts S i).take K = tk at *
          generalize stx ((cat (txts S i)).take c) = CT at *
          go_wp2_with fail
          refine (HALL.out _ T0.out).mono ?_
          rintro e w2 ⟨gv, rfl, og, b1⟩
          have kg := og.lie
          have b2 := below_past b0 b1 hBr
          have HST2 := Lib.hid (HST.out.below b1)
          have hB2 : B ≤ w2.heap.size := Nat.le_trans hBr b1.size
          have CE3 : Hid (∀ k, k ≤ i → w2.cell? ⟨g, k, none⟩ = some (.int .i64 (endAt (txts S i) k : Nat))) := Lib.hid fun k hk => (b1.cell (p := ⟨g, k, none⟩) (cellLt (CE2.out k hk))).trans (CE2.out k hk)
          have T2 := Lib.hid (HT.out.below (by rw [HB.out]; exact b2))
          have KG := Lib.hid kg
          clear HALL og b1 b0 CE2 HST kg T0
          go_wp2_with fail
          go_loop [14] (fun x => ∃ k : Nat, k ≤ K ∧ x = .int .i64 k) (fun x => (K - intOf x).toNat)
          case atStart => exact ⟨0, Nat.zero_le _, rfl⟩
          case round =>
            obtain ⟨k, hk, rfl⟩ := hrel
            by_cases hkK : k < K
            · have q1 : decide ((k : Int) + 1 < i + 1) = true := decide_eq_true (by omega)
              have q1b : decide (k + 1 < i + 1) = true := decide_eq_true (by omega)
              have q1c : decide (k < i) = true := decide_eq_true (by omega)
              have q3 : (k : Int) + 1 < i + 1 := by omega
              have q4 : (k : Int) < i := by omega
              have c1 := CE3.out (k + 1) (by omega)
              have c2 := (HIFF.out (k + 1) (by omega)).2 (by omega)
              generalize endAt (txts S i) (k + 1) = ek at c1 c2
              have q2 : decide (ek ≤ c) = true := decide_eq_true c2
              have hk10 : (k : Int) ≤ 10 := by omega
              clear c2
              go_wp2_with fail
              exact ⟨⟨k + 1, hkK, by go_num⟩, by simp [intOf]; omega⟩
            · obtain rfl : k = K := by omega
              have HS3 : Hid (∀ w', Below w2.heap.size w2 w' → Calls Tryd.prog 36 #[gv, .slice (some ⟨g2, 0, none⟩) k cap3] w' fun e w'' => e = .returned (.bool true) ∧ Below w'.heap.size w' w'') := Lib.hid fun w' hb => same_any _ _ _ w' (KG.out.below hb) (HST2.out.below hb) HLK.out
              have cK := CE3.out k hKm
              rw [HEN.out] at cK
              have hk10 : (k : Int) ≤ 10 := by omega
              by_cases hend : k < i
              · have q1 : decide ((k : Int) + 1 < i + 1) = true := decide_eq_true (by omega)
                have q1b : decide (k + 1 < i + 1) = true := decide_eq_true (by omega)
                have q1c : decide (k < i) = true := decide_eq_true (by omega)
                have q3 : (k : Int) + 1 < i + 1 := by omega
                have q4 : (k : Int) < i := by omega
                have c1 := CE3.out (k + 1) (by omega)
                have c2 : ¬ endAt (txts S i) (k + 1) ≤ c := fun e => by have := (HIFF.out (k + 1) (by omega)).1 e; omega
                generalize endAt (txts S i) (k + 1) = ek at c1 c2
                have q2 : decide (ek ≤ c) = false := decide_eq_false c2
                clear c2
                go_wp2_with fail
                refine (awake4 _ T2.out).mono ?_
                rintro e w3 ⟨rfl, b3⟩
                have cK3 := (b3.cell (p := ⟨g, k, none⟩) (cellLt cK)).trans cK
                have HS4 := Lib.hid (HS3.out _ b3)
                have b4 := below_past b2 b3 hB2
                have hB3 := Nat.le_trans hB2 b3.size
                clear cK b2 b3 HS3
                go_wp2_with fail
                refine HS4.out.mono ?_
                rintro e w4 ⟨rfl, b5⟩
                have b6 := below_past b4 b5 hB3
                clear b4 b5 cK3 HS4
                go_wp2_with fail
                go_ret
                exact ⟨rfl, by rw [HB.out]; exact b6⟩
              · have q1 : decide ((k : Int) + 1 < i + 1) = false := decide_eq_false (by omega)
                have q1b : decide (k + 1 < i + 1) = false := decide_eq_false (by omega)
                have q1c : decide (k < i) = false := decide_eq_false (by omega)
                have q4 : (k : Int) < i + 1 := by omega
                go_wp2_with fail
                refine (awake4 _ T2.out).mono ?_
                rintro e w3 ⟨rfl, b3⟩
                have cK3 := (b3.cell (p := ⟨g, k, none⟩) (cellLt cK)).trans cK
                have HS4 := Lib.hid (HS3.out _ b3)
                have b4 := below_past b2 b3 hB2
                have hB3 := Nat.le_trans hB2 b3.size
                clear cK b2 b3 HS3
                go_wp2_with fail
                refine HS4.out.mono ?_
                rintro e w4 ⟨rfl, b5⟩
                have b6 := below_past b4 b5 hB3
                clear b4 b5 cK3 HS4
                go_wp2_with fail
                go_ret
                exact ⟨rfl, by rw [HB.out]; exact b6⟩
        · have n1' : decide (cut < 0) = false := decide_eq_false n1
          obtain ⟨z, hcz⟩ : ∃ z, (cat (txts S i)).length = z := ⟨_, rfl⟩
          have zc : (stx (cat (txts S i))).size = z := by rw [stx_size]; exact hcz
          by_cases n2 : (z : Int) < cut
          · have n2' : decide ((z : Int) < cut) = true := decide_eq_true n2
            obtain ⟨c, rfl⟩ : ∃ c, c = z := ⟨_, rfl⟩
            clear n1 n2
            obtain ⟨K, en, hKm, hAll, hEn, hIff⟩ := cut_fact S i c (by omega)
            have HALL : Hid (∀ w, Tabs w → Calls Tryd.prog 34 #[.string (stx ((cat (txts S i)).take c))] w fun e w' => ∃ gv, e = .returned (.tuple #[gv, .int .i64 en]) ∧ OwnStrs w' w.heap.size gv ((txts S i).take K) ∧ Below w.heap.size w w') := Lib.hid fun w ht => by
              have := All_any (stx ((cat (txts S i)).take c)) w (by rw [stx_size, List.length_take]; omega) ht
              unfold AllRet at this
              rw [show (stx ((cat (txts S i)).take c)).data.toList = (cat (txts S i)).take c from rfl, hAll] at this
              exact this
            have x1 : (stx (cat (txts S i))).extract 0 c = stx ((cat (txts S i)).take c) := stx_extract (cat (txts S i)) 0 c
            obtain ⟨g, cap2, hv, CE⟩ := ei.lie (by rw [ends_length]; exact Nat.succ_pos i)
            obtain ⟨g2, cap3, hu, hcap⟩ := OwnStrs.solid oi HU.out
            rw [ends_length] at hv
            rw [txts_length] at hu hcap
            have hK10 : K ≤ 10 := by omega
            have CE2 : Hid (∀ k, k ≤ i → wr.cell? ⟨g, k, none⟩ = some (.int .i64 (endAt (txts S i) k : Nat))) := Lib.hid fun k hk => CE k _ (ends_get S i k hk)
            obtain ⟨_, _, hu3, ST⟩ := oi.lie.take K (by rw [txts_length]; exact hKm)
            rw [hu] at hu3
            have hST : StrsAt wr (.slice (some ⟨g2, 0, none⟩) K cap3) ((txts S i).take K) := by
              injection hu3 with e1 _ e3
              rw [e1, e3]
              exact ST
            have HST := Lib.hid hST
            have HIFF := Lib.hid hIff
            have HEN := Lib.hid hEn
            have HLK : Hid (((txts S i).take K).length ≤ 1000000) := Lib.hid (by rw [List.length_take, txts_length]; omega)
            have T0 := Lib.hid (HT.out.below (by rw [HB.out]; exact b0))
            have hBr : B ≤ wr.heap.size := by rw [← HB.out]; exact b0.size
            have hKc : (K : Int) ≤ cap3 := by omega
            have hi10 : (i : Int) ≤ 10 := by omega
            subst hv
            subst hu
            subst hx
            clear hAll hEn hIff CE ei oi HU hu3 ST hST HX hcap
            generalize (txts S i).take K = tk at *
            generalize stx ((cat (txts S i)).take c) = CT at *
            go_wp2_with fail
            refine (HALL.out _ T0.out).mono ?_
            rintro e w2 ⟨gv, rfl, og, b1⟩
            have kg := og.lie
            have b2 := below_past b0 b1 hBr
            have HST2 := Lib.hid (HST.out.below b1)
            have hB2 : B ≤ w2.heap.size := Nat.le_trans hBr b1.size
            have CE3 : Hid (∀ k, k ≤ i → w2.cell? ⟨g, k, none⟩ = some (.int .i64 (endAt (txts S i) k : Nat))) := Lib.hid fun k hk => (b1.cell (p := ⟨g, k, none⟩) (cellLt (CE2.out k hk))).trans (CE2.out k hk)
            have T2 := Lib.hid (HT.out.below (by rw [HB.out]; exact b2))
            have KG := Lib.hid kg
            clear HALL og b1 b0 CE2 HST kg T0
            go_wp2_with fail
            go_loop [14] (fun x => ∃ k : Nat, k ≤ K ∧ x = .int .i64 k) (fun x => (K - intOf x).toNat)
            case atStart => exact ⟨0, Nat.zero_le _, rfl⟩
            case round =>
              obtain ⟨k, hk, rfl⟩ := hrel
              by_cases hkK : k < K
              · have q1 : decide ((k : Int) + 1 < i + 1) = true := decide_eq_true (by omega)
                have q1b : decide (k + 1 < i + 1) = true := decide_eq_true (by omega)
                have q1c : decide (k < i) = true := decide_eq_true (by omega)
                have q3 : (k : Int) + 1 < i + 1 := by omega
                have q4 : (k : Int) < i := by omega
                have c1 := CE3.out (k + 1) (by omega)
                have c2 := (HIFF.out (k + 1) (by omega)).2 (by omega)
                generalize endAt (txts S i) (k + 1) = ek at c1 c2
                have q2 : decide (ek ≤ c) = true := decide_eq_true c2
                have hk10 : (k : Int) ≤ 10 := by omega
                clear c2
                go_wp2_with fail
                exact ⟨⟨k + 1, hkK, by go_num⟩, by simp [intOf]; omega⟩
              · obtain rfl : k = K := by omega
                have HS3 : Hid (∀ w', Below w2.heap.size w2 w' → Calls Tryd.prog 36 #[gv, .slice (some ⟨g2, 0, none⟩) k cap3] w' fun e w'' => e = .returned (.bool true) ∧ Below w'.heap.size w' w'') := Lib.hid fun w' hb => same_any _ _ _ w' (KG.out.below hb) (HST2.out.below hb) HLK.out
                have cK := CE3.out k hKm
                rw [HEN.out] at cK
                have hk10 : (k : Int) ≤ 10 := by omega
                by_cases hend : k < i
                · have q1 : decide ((k : Int) + 1 < i + 1) = true := decide_eq_true (by omega)
                  have q1b : decide (k + 1 < i + 1) = true := decide_eq_true (by omega)
                  have q1c : decide (k < i) = true := decide_eq_true (by omega)
                  have q3 : (k : Int) + 1 < i + 1 := by omega
                  have q4 : (k : Int) < i := by omega
                  have c1 := CE3.out (k + 1) (by omega)
                  have c2 : ¬ endAt (txts S i) (k + 1) ≤ c := fun e => by have := (HIFF.out (k + 1) (by omega)).1 e; omega
                  generalize endAt (txts S i) (k + 1) = ek at c1 c2
                  have q2 : decide (ek ≤ c) = false := decide_eq_false c2
                  clear c2
                  go_wp2_with fail
                  refine (awake4 _ T2.out).mono ?_
                  rintro e w3 ⟨rfl, b3⟩
                  have cK3 := (b3.cell (p := ⟨g, k, none⟩) (cellLt cK)).trans cK
                  have HS4 := Lib.hid (HS3.out _ b3)
                  have b4 := below_past b2 b3 hB2
                  have hB3 := Nat.le_trans hB2 b3.size
                  clear cK b2 b3 HS3
                  go_wp2_with fail
                  refine HS4.out.mono ?_
                  rintro e w4 ⟨rfl, b5⟩
                  have b6 := below_past b4 b5 hB3
                  clear b4 b5 cK3 HS4
                  go_wp2_with fail
                  go_ret
                  exact ⟨rfl, by rw [HB.out]; exact b6⟩
                · have q1 : decide ((k : Int) + 1 < i + 1) = false := decide_eq_false (by omega)
                  have q1b : decide (k + 1 < i + 1) = false := decide_eq_false (by omega)
                  have q1c : decide (k < i) = false := decide_eq_false (by omega)
                  have q4 : (k : Int) < i + 1 := by omega
                  go_wp2_with fail
                  refine (awake4 _ T2.out).mono ?_
                  rintro e w3 ⟨rfl, b3⟩
                  have cK3 := (b3.cell (p := ⟨g, k, none⟩) (cellLt cK)).trans cK
                  have HS4 := Lib.hid (HS3.out _ b3)
                  have b4 := below_past b2 b3 hB2
                  have hB3 := Nat.le_trans hB2 b3.size
                  clear cK b2 b3 HS3
                  go_wp2_with fail
                  refine HS4.out.mono ?_
                  rintro e w4 ⟨rfl, b5⟩
                  have b6 := below_past b4 b5 hB3
                  clear b4 b5 cK3 HS4
                  go_wp2_with fail
                  go_ret
                  exact ⟨rfl, by rw [HB.out]; exact b6⟩
          · have n2' : decide ((z : Int) < cut) = false := decide_eq_false n2
            obtain ⟨c, rfl⟩ : ∃ c : Nat, cut = c := ⟨cut.toNat, by omega⟩
            have n2n : decide (z < c) = false := decide_eq_false (by omega)
            have hczn : (c : Int) ≤ z := by omega
            clear n1
            obtain ⟨K, en, hKm, hAll, hEn, hIff⟩ := cut_fact S i c (by omega)
            have HALL : Hid (∀ w, Tabs w → Calls Tryd.prog 34 #[.string (stx ((cat (txts S i)).take c))] w fun e w' => ∃ gv, e = .returned (.tuple #[gv, .int .i64 en]) ∧ OwnStrs w' w.heap.size gv ((txts S i).take K) ∧ Below w.heap.size w w') := Lib.hid fun w ht => by
              have := All_any (stx ((cat (txts S i)).take c)) w (by rw [stx_size, List.length_take]; omega) ht
              unfold AllRet at this
              rw [show (stx ((cat (txts S i)).take c)).data.toList = (cat (txts S i)).take c from rfl, hAll] at this
              exact this
            have x1 : (stx (cat (txts S i))).extract 0 c = stx ((cat (txts S i)).take c) := stx_extract (cat (txts S i)) 0 c
            obtain ⟨g, cap2, hv, CE⟩ := ei.lie (by rw [ends_length]; exact Nat.succ_pos i)
            obtain ⟨g2, cap3, hu, hcap⟩ := OwnStrs.solid oi HU.out
            rw [ends_length] at hv
            rw [txts_length] at hu hcap
            have hK10 : K ≤ 10 := by omega
            have CE2 : Hid (∀ k, k ≤ i → wr.cell? ⟨g, k, none⟩ = some (.int .i64 (endAt (txts S i) k : Nat))) := Lib.hid fun k hk => CE k _ (ends_get S i k hk)
            obtain ⟨_, _, hu3, ST⟩ := oi.lie.take K (by rw [txts_length]; exact hKm)
            rw [hu] at hu3
            have hST : StrsAt wr (.slice (some ⟨g2, 0, none⟩) K cap3) ((txts S i).take K) := by
              injection hu3 with e1 _ e3
              rw [e1, e3]
              exact ST
            have HST := Lib.hid hST
            have HIFF := Lib.hid hIff
            have HEN := Lib.hid hEn
            have HLK : Hid (((txts S i).take K).length ≤ 1000000) := Lib.hid (by rw [List.length_take, txts_length]; omega)
            have T0 := Lib.hid (HT.out.below (by rw [HB.out]; exact b0))
            have hBr : B ≤ wr.heap.size := by rw [← HB.out]; exact b0.size
            have hKc : (K : Int) ≤ cap3 := by omega
            have hi10 : (i : Int) ≤ 10 := by omega
            subst hv
            subst hu
            subst hx
            clear hAll hEn hIff CE ei oi HU hu3 ST hST HX hcap
            generalize (txts S i).take K = tk at *
            generalize stx ((cat (txts S i)).take c) = CT at *
            go_wp2_with fail
            refine (HALL.out _ T0.out).mono ?_
            rintro e w2 ⟨gv, rfl, og, b1⟩
            have kg := og.lie
            have b2 := below_past b0 b1 hBr
            have HST2 := Lib.hid (HST.out.below b1)
            have hB2 : B ≤ w2.heap.size := Nat.le_trans hBr b1.size
            have CE3 : Hid (∀ k, k ≤ i → w2.cell? ⟨g, k, none⟩ = some (.int .i64 (endAt (txts S i) k : Nat))) := Lib.hid fun k hk => (b1.cell (p := ⟨g, k, none⟩) (cellLt (CE2.out k hk))).trans (CE2.out k hk)
            have T2 := Lib.hid (HT.out.below (by rw [HB.out]; exact b2))
            have KG := Lib.hid kg
            clear HALL og b1 b0 CE2 HST kg T0
            go_wp2_with fail
            go_loop [14] (fun x => ∃ k : Nat, k ≤ K ∧ x = .int .i64 k) (fun x => (K - intOf x).toNat)
            case atStart => exact ⟨0, Nat.zero_le _, rfl⟩
            case round =>
              obtain ⟨k, hk, rfl⟩ := hrel
              by_cases hkK : k < K
              · have q1 : decide ((k : Int) + 1 < i + 1) = true := decide_eq_true (by omega)
                have q1b : decide (k + 1 < i + 1) = true := decide_eq_true (by omega)
                have q1c : decide (k < i) = true := decide_eq_true (by omega)
                have q3 : (k : Int) + 1 < i + 1 := by omega
                have q4 : (k : Int) < i := by omega
                have c1 := CE3.out (k + 1) (by omega)
                have c2 := (HIFF.out (k + 1) (by omega)).2 (by omega)
                generalize endAt (txts S i) (k + 1) = ek at c1 c2
                have q2 : decide (ek ≤ c) = true := decide_eq_true c2
                have hk10 : (k : Int) ≤ 10 := by omega
                clear c2
                go_wp2_with fail
                exact ⟨⟨k + 1, hkK, by go_num⟩, by simp [intOf]; omega⟩
              · obtain rfl : k = K := by omega
                have HS3 : Hid (∀ w', Below w2.heap.size w2 w' → Calls Tryd.prog 36 #[gv, .slice (some ⟨g2, 0, none⟩) k cap3] w' fun e w'' => e = .returned (.bool true) ∧ Below w'.heap.size w' w'') := Lib.hid fun w' hb => same_any _ _ _ w' (KG.out.below hb) (HST2.out.below hb) HLK.out
                have cK := CE3.out k hKm
                rw [HEN.out] at cK
                have hk10 : (k : Int) ≤ 10 := by omega
                by_cases hend : k < i
                · have q1 : decide ((k : Int) + 1 < i + 1) = true := decide_eq_true (by omega)
                  have q1b : decide (k + 1 < i + 1) = true := decide_eq_true (by omega)
                  have q1c : decide (k < i) = true := decide_eq_true (by omega)
                  have q3 : (k : Int) + 1 < i + 1 := by omega
                  have q4 : (k : Int) < i := by omega
                  have c1 := CE3.out (k + 1) (by omega)
                  have c2 : ¬ endAt (txts S i) (k + 1) ≤ c := fun e => by have := (HIFF.out (k + 1) (by omega)).1 e; omega
                  generalize endAt (txts S i) (k + 1) = ek at c1 c2
                  have q2 : decide (ek ≤ c) = false := decide_eq_false c2
                  clear c2
                  go_wp2_with fail
                  refine (awake4 _ T2.out).mono ?_
                  rintro e w3 ⟨rfl, b3⟩
                  have cK3 := (b3.cell (p := ⟨g, k, none⟩) (cellLt cK)).trans cK
                  have HS4 := Lib.hid (HS3.out _ b3)
                  have b4 := below_past b2 b3 hB2
                  have hB3 := Nat.le_trans hB2 b3.size
                  clear cK b2 b3 HS3
                  go_wp2_with fail
                  refine HS4.out.mono ?_
                  rintro e w4 ⟨rfl, b5⟩
                  have b6 := below_past b4 b5 hB3
                  clear b4 b5 cK3 HS4
                  go_wp2_with fail
                  go_ret
                  exact ⟨rfl, by rw [HB.out]; exact b6⟩
                · have q1 : decide ((k : Int) + 1 < i + 1) = false := decide_eq_false (by omega)
                  have q1b : decide (k + 1 < i + 1) = false := decide_eq_false (by omega)
                  have q1c : decide (k < i) = false := decide_eq_false (by omega)
                  have q4 : (k : Int) < i + 1 := by omega
                  go_wp2_with fail
                  refine (awake4 _ T2.out).mono ?_
                  rintro e w3 ⟨rfl, b3⟩
                  have cK3 := (b3.cell (p := ⟨g, k, none⟩) (cellLt cK)).trans cK
                  have HS4 := Lib.hid (HS3.out _ b3)
                  have b4 := below_past b2 b3 hB2
                  have hB3 := Nat.le_trans hB2 b3.size
                  clear cK b2 b3 HS3
                  go_wp2_with fail
                  refine HS4.out.mono ?_
                  rintro e w4 ⟨rfl, b5⟩
                  have b6 := below_past b4 b5 hB3
                  clear b4 b5 cK3 HS4
                  go_wp2_with fail
                  go_ret
                  exact ⟨rfl, by rw [HB.out]; exact b6⟩
      · have g1' : decide (i < len) = false := decide_eq_false g1
        by_cases n1 : cut < 0
        · have n1' : decide (cut < 0) = true := decide_eq_true n1
          obtain ⟨c, hcz⟩ : ∃ c, (cat (txts S i)).length = c := ⟨_, rfl⟩
          have zc : (stx (cat (txts S i))).size = c := by rw [stx_size]; exact hcz
          clear n1
          obtain ⟨K, en, hKm, hAll, hEn, hIff⟩ := cut_fact S i c (by omega)
          have HALL : Hid (∀ w, Tabs w → Calls Tryd.prog 34 #[.string (stx ((cat (txts S i)).take c))] w fun e w' => ∃ gv, e = .returned (.tuple #[gv, .int .i64 en]) ∧ OwnStrs w' w.heap.size gv ((txts S i).take K) ∧ Below w.heap.size w w') := Lib.hid fun w ht => by
            have := All_any (stx ((cat (txts S i)).take c)) w (by rw [stx_size, List.length_take]; omega) ht
            unfold AllRet at this
            rw [show (stx ((cat (txts S i)).take c)).data.toList = (cat (txts S i)).take c from rfl, hAll] at this
            exact this
          have x1 : (stx (cat (txts S i))).extract 0 c = stx ((cat (txts S i)).take c) := stx_extract (cat (txts S i)) 0 c
          obtain ⟨g, cap2, hv, CE⟩ := ei.lie (by rw [ends_length]; exact Nat.succ_pos i)
          obtain ⟨g2, cap3, hu, hcap⟩ := OwnStrs.solid oi HU.out
          rw [ends_length] at hv
          rw [txts_length] at hu hcap
          have hK10 : K ≤ 10 := by omega
          have CE2 : Hid (∀ k, k ≤ i → wr.cell? ⟨g, k, none⟩ = some (.int .i64 (endAt (txts S i) k : Nat))) := Lib.hid fun k hk => CE k _ (ends_get S i k hk)
          obtain ⟨_, _, hu3, ST⟩ := oi.lie.take K (by rw [txts_length]; exact hKm)
          rw [hu] at hu3
          have hST : StrsAt wr (.slice (some ⟨g2, 0, none⟩) K cap3) ((txts S i).take K) := by
            injection hu3 with e1 _ e3
            rw [e1, e3]
            exact ST
          have HST := Lib.hid hST
          have HIFF := Lib.hid hIff
          have HEN := Lib.hid hEn
          have HLK : Hid (((txts S i).take K).length ≤ 1000000) := Lib.hid (by rw [List.length_take, txts_length]; omega)
          have T0 := Lib.hid (HT.out.below (by rw [HB.out]; exact b0))
          have hBr : B ≤ wr.heap.size := by rw [← HB.out]; exact b0.size
          have hKc : (K : Int) ≤ cap3 := by omega
          have hi10 : (i : Int) ≤ 10 := by omega
          subst hv
          subst hu
          subst hx
          clear hAll hEn hIff CE ei oi HU hu3 ST hST HX hcap
          generalize (txts S i).take K = tk at *
          generalize stx ((cat (txts S i)).take c) = CT at *
          go_wp2_with fail
          refine (HALL.out _ T0.out).mono ?_
          rintro e w2 ⟨gv, rfl, og, b1⟩
          have kg := og.lie
          have b2 := below_past b0 b1 hBr
          have HST2 := Lib.hid (HST.out.below b1)
          have hB2 : B ≤ w2.heap.size := Nat.le_trans hBr b1.size
          have CE3 : Hid (∀ k, k ≤ i → w2.cell? ⟨g, k, none⟩ = some (.int .i64 (endAt (txts S i) k : Nat))) := Lib.hid fun k hk => (b1.cell (p := ⟨g, k, none⟩) (cellLt (CE2.out k hk))).trans (CE2.out k hk)
          have T2 := Lib.hid (HT.out.below (by rw [HB.out]; exact b2))
          have KG := Lib.hid kg
          clear HALL og b1 b0 CE2 HST kg T0
          go_wp2_with fail
          go_loop [14] (fun x => ∃ k : Nat, k ≤ K ∧ x = .int .i64 k) (fun x => (K - intOf x).toNat)
          case atStart => exact ⟨0, Nat.zero_le _, rfl⟩
          case round =>
            obtain ⟨k, hk, rfl⟩ := hrel
            by_cases hkK : k < K
            · have q1 : decide ((k : Int) + 1 < i + 1) = true := decide_eq_true (by omega)
              have q1b : decide (k + 1 < i + 1) = true := decide_eq_true (by omega)
              have q1c : decide (k < i) = true := decide_eq_true (by omega)
              have q3 : (k : Int) + 1 < i + 1 := by omega
              have q4 : (k : Int) < i := by omega
              have c1 := CE3.out (k + 1) (by omega)
              have c2 := (HIFF.out (k + 1) (by omega)).2 (by omega)
              generalize endAt (txts S i) (k + 1) = ek at c1 c2
              have q2 : decide (ek ≤ c) = true := decide_eq_true c2
              have hk10 : (k : Int) ≤ 10 := by omega
              clear c2
              go_wp2_with fail
              exact ⟨⟨k + 1, hkK, by go_num⟩, by simp [intOf]; omega⟩
            · obtain rfl : k = K := by omega
              have HS3 : Hid (∀ w', Below w2.heap.size w2 w' → Calls Tryd.prog 36 #[gv, .slice (some ⟨g2, 0, none⟩) k cap3] w' fun e w'' => e = .returned (.bool true) ∧ Below w'.heap.size w' w'') := Lib.hid fun w' hb => same_any _ _ _ w' (KG.out.below hb) (HST2.out.below hb) HLK.out
              have cK := CE3.out k hKm
              rw [HEN.out] at cK
              have hk10 : (k : Int) ≤ 10 := by omega
              by_cases hend : k < i
              · have q1 : decide ((k : Int) + 1 < i + 1) = true := decide_eq_true (by omega)
                have q1b : decide (k + 1 < i + 1) = true := decide_eq_true (by omega)
                have q1c : decide (k < i) = true := decide_eq_true (by omega)
                have q3 : (k : Int) + 1 < i + 1 := by omega
                have q4 : (k : Int) < i := by omega
                have c1 := CE3.out (k + 1) (by omega)
                have c2 : ¬ endAt (txts S i) (k + 1) ≤ c := fun e => by have := (HIFF.out (k + 1) (by omega)).1 e; omega
                generalize endAt (txts S i) (k + 1) = ek at c1 c2
                have q2 : decide (ek ≤ c) = false := decide_eq_false c2
                clear c2
                go_wp2_with fail
                refine (awake4 _ T2.out).mono ?_
                rintro e w3 ⟨rfl, b3⟩
                have cK3 := (b3.cell (p := ⟨g, k, none⟩) (cellLt cK)).trans cK
                have HS4 := Lib.hid (HS3.out _ b3)
                have b4 := below_past b2 b3 hB2
                have hB3 := Nat.le_trans hB2 b3.size
                clear cK b2 b3 HS3
                go_wp2_with fail
                refine HS4.out.mono ?_
                rintro e w4 ⟨rfl, b5⟩
                have b6 := below_past b4 b5 hB3
                clear b4 b5 cK3 HS4
                go_wp2_with fail
                go_ret
                exact ⟨rfl, by rw [HB.out]; exact b6⟩
              · have q1 : decide ((k : Int) + 1 < i + 1) = false := decide_eq_false (by omega)
                have q1b : decide (k + 1 < i + 1) = false := decide_eq_false (by omega)
                have q1c : decide (k < i) = false := decide_eq_false (by omega)
                have q4 : (k : Int) < i + 1 := by omega
                go_wp2_with fail
                refine (awake4 _ T2.out).mono ?_
                rintro e w3 ⟨rfl, b3⟩
                have cK3 := (b3.cell (p := ⟨g, k, none⟩) (cellLt cK)).trans cK
                have HS4 := Lib.hid (HS3.out _ b3)
                have b4 := below_past b2 b3 hB2
                have hB3 := Nat.le_trans hB2 b3.size
                clear cK b2 b3 HS3
                go_wp2_with fail
                refine HS4.out.mono ?_
                rintro e w4 ⟨rfl, b5⟩
                have b6 := below_past b4 b5 hB3
                clear b4 b5 cK3 HS4
                go_wp2_with fail
                go_ret
                exact ⟨rfl, by rw [HB.out]; exact b6⟩
        · have n1' : decide (cut < 0) = false := decide_eq_false n1
          obtain ⟨z, hcz⟩ : ∃ z, (cat (txts S i)).length = z := ⟨_, rfl⟩
          have zc : (stx (cat (txts S i))).size = z := by rw [stx_size]; exact hcz
          by_cases n2 : (z : Int) < cut
          · have n2' : decide ((z : Int) < cut) = true := decide_eq_true n2
            obtain ⟨c, rfl⟩ : ∃ c, c = z := ⟨_, rfl⟩
            clear n1 n2
            obtain ⟨K, en, hKm, hAll, hEn, hIff⟩ := cut_fact S i c (by omega)
            have HALL : Hid (∀ w, Tabs w → Calls Tryd.prog 34 #[.string (stx ((cat (txts S i)).take c))] w fun e w' => ∃ gv, e = .returned (.tuple #[gv, .int .i64 en]) ∧ OwnStrs w' w.heap.size gv ((txts S i).take K) ∧ Below w.heap.size w w') := Lib.hid fun w ht => by
              have := All_any (stx ((cat (txts S i)).take c)) w (by rw [stx_size, List.length_take]; omega) ht
              unfold AllRet at this
              rw [show (stx ((cat (txts S i)).take c)).data.toList = (cat (txts S i)).take c from rfl, hAll] at this
              exact this
            have x1 : (stx (cat (txts S i))).extract 0 c = stx ((cat (txts S i)).take c) := stx_extract (cat (txts S i)) 0 c
            obtain ⟨g, cap2, hv, CE⟩ := ei.lie (by rw [ends_length]; exact Nat.succ_pos i)
            obtain ⟨g2, cap3, hu, hcap⟩ := OwnStrs.solid oi HU.out
            rw [ends_length] at hv
            rw [txts_length] at hu hcap
            have hK10 : K ≤ 10 := by omega
            have CE2 : Hid (∀ k, k ≤ i → wr.cell? ⟨g, k, none⟩ = some (.int .i64 (endAt (txts S i) k : Nat))) := Lib.hid fun k hk => CE k _ (ends_get S i k hk)
            obtain ⟨_, _, hu3, ST⟩ := oi.lie.take K (by rw [txts_length]; exact hKm)
            rw [hu] at hu3
            have hST : StrsAt wr (.slice (some ⟨g2, 0, none⟩) K cap3) ((txts S i).take K) := by
              injection hu3 with e1 _ e3
              rw [e1, e3]
              exact ST
            have HST := Lib.hid hST
            have HIFF := Lib.hid hIff
            have HEN := Lib.hid hEn
            have HLK : Hid (((txts S i).take K).length ≤ 1000000) := Lib.hid (by rw [List.length_take, txts_length]; omega)
            have T0 := Lib.hid (HT.out.below (by rw [HB.out]; exact b0))
            have hBr : B ≤ wr.heap.size := by rw [← HB.out]; exact b0.size
            have hKc : (K : Int) ≤ cap3 := by omega
            have hi10 : (i : Int) ≤ 10 := by omega
            subst hv
            subst hu
            subst hx
            clear hAll hEn hIff CE ei oi HU hu3 ST hST HX hcap
            generalize (txts S i).take K = tk at *
            generalize stx ((cat (txts S i)).take c) = CT at *
            go_wp2_with fail
            refine (HALL.out _ T0.out).mono ?_
            rintro e w2 ⟨gv, rfl, og, b1⟩
            have kg := og.lie
            have b2 := below_past b0 b1 hBr
            have HST2 := Lib.hid (HST.out.below b1)
            have hB2 : B ≤ w2.heap.size := Nat.le_trans hBr b1.size
            have CE3 : Hid (∀ k, k ≤ i → w2.cell? ⟨g, k, none⟩ = some (.int .i64 (endAt (txts S i) k : Nat))) := Lib.hid fun k hk => (b1.cell (p := ⟨g, k, none⟩) (cellLt (CE2.out k hk))).trans (CE2.out k hk)
            have T2 := Lib.hid (HT.out.below (by rw [HB.out]; exact b2))
            have KG := Lib.hid kg
            clear HALL og b1 b0 CE2 HST kg T0
            go_wp2_with fail
            go_loop [14] (fun x => ∃ k : Nat, k ≤ K ∧ x = .int .i64 k) (fun x => (K - intOf x).toNat)
            case atStart => exact ⟨0, Nat.zero_le _, rfl⟩
            case round =>
              obtain ⟨k, hk, rfl⟩ := hrel
              by_cases hkK : k < K
              · have q1 : decide ((k : Int) + 1 < i + 1) = true := decide_eq_true (by omega)
                have q1b : decide (k + 1 < i + 1) = true := decide_eq_true (by omega)
                have q1c : decide (k < i) = true := decide_eq_true (by omega)
                have q3 : (k : Int) + 1 < i + 1 := by omega
                have q4 : (k : Int) < i := by omega
                have c1 := CE3.out (k + 1) (by omega)
                have c2 := (HIFF.out (k + 1) (by omega)).2 (by omega)
                generalize endAt (txts S i) (k + 1) = ek at c1 c2
                have q2 : decide (ek ≤ c) = true := decide_eq_true c2
                have hk10 : (k : Int) ≤ 10 := by omega
                clear c2
                go_wp2_with fail
                exact ⟨⟨k + 1, hkK, by go_num⟩, by simp [intOf]; omega⟩
              · obtain rfl : k = K := by omega
                have HS3 : Hid (∀ w', Below w2.heap.size w2 w' → Calls Tryd.prog 36 #[gv, .slice (some ⟨g2, 0, none⟩) k cap3] w' fun e w'' => e = .returned (.bool true) ∧ Below w'.heap.size w' w'') := Lib.hid fun w' hb => same_any _ _ _ w' (KG.out.below hb) (HST2.out.below hb) HLK.out
                have cK := CE3.out k hKm
                rw [HEN.out] at cK
                have hk10 : (k : Int) ≤ 10 := by omega
                by_cases hend : k < i
                · have q1 : decide ((k : Int) + 1 < i + 1) = true := decide_eq_true (by omega)
                  have q1b : decide (k + 1 < i + 1) = true := decide_eq_true (by omega)
                  have q1c : decide (k < i) = true := decide_eq_true (by omega)
                  have q3 : (k : Int) + 1 < i + 1 := by omega
                  have q4 : (k : Int) < i := by omega
                  have c1 := CE3.out (k + 1) (by omega)
                  have c2 : ¬ endAt (txts S i) (k + 1) ≤ c := fun e => by have := (HIFF.out (k + 1) (by omega)).1 e; omega
                  generalize endAt (txts S i) (k + 1) = ek at c1 c2
                  have q2 : decide (ek ≤ c) = false := decide_eq_false c2
                  clear c2
                  go_wp2_with fail
                  refine (awake4 _ T2.out).mono ?_
                  rintro e w3 ⟨rfl, b3⟩
                  have cK3 := (b3.cell (p := ⟨g, k, none⟩) (cellLt cK)).trans cK
                  have HS4 := Lib.hid (HS3.out _ b3)
                  have b4 := below_past b2 b3 hB2
                  have hB3 := Nat.le_trans hB2 b3.size
                  clear cK b2 b3 HS3
                  go_wp2_with fail
                  refine HS4.out.mono ?_
                  rintro e w4 ⟨rfl, b5⟩
                  have b6 := below_past b4 b5 hB3
                  clear b4 b5 cK3 HS4
                  go_wp2_with fail
                  go_ret
                  exact ⟨rfl, by rw [HB.out]; exact b6⟩
                · have q1 : decide ((k : Int) + 1 < i + 1) = false := decide_eq_false (by omega)
                  have q1b : decide (k + 1 < i + 1) = false := decide_eq_false (by omega)
                  have q1c : decide (k < i) = false := decide_eq_false (by omega)
                  have q4 : (k : Int) < i + 1 := by omega
                  go_wp2_with fail
                  refine (awake4 _ T2.out).mono ?_
                  rintro e w3 ⟨rfl, b3⟩
                  have cK3 := (b3.cell (p := ⟨g, k, none⟩) (cellLt cK)).trans cK
                  have HS4 := Lib.hid (HS3.out _ b3)
                  have b4 := below_past b2 b3 hB2
                  have hB3 := Nat.le_trans hB2 b3.size
                  clear cK b2 b3 HS3
                  go_wp2_with fail
                  refine HS4.out.mono ?_
                  rintro e w4 ⟨rfl, b5⟩
                  have b6 := below_past b4 b5 hB3
                  clear b4 b5 cK3 HS4
                  go_wp2_with fail
                  go_ret
                  exact ⟨rfl, by rw [HB.out]; exact b6⟩
          · have n2' : decide ((z : Int) < cut) = false := decide_eq_false n2
            obtain ⟨c, rfl⟩ : ∃ c : Nat, cut = c := ⟨cut.toNat, by omega⟩
            have n2n : decide (z < c) = false := decide_eq_false (by omega)
            have hczn : (c : Int) ≤ z := by omega
            clear n1
            obtain ⟨K, en, hKm, hAll, hEn, hIff⟩ := cut_fact S i c (by omega)
            have HALL : Hid (∀ w, Tabs w → Calls Tryd.prog 34 #[.string (stx ((cat (txts S i)).take c))] w fun e w' => ∃ gv, e = .returned (.tuple #[gv, .int .i64 en]) ∧ OwnStrs w' w.heap.size gv ((txts S i).take K) ∧ Below w.heap.size w w') := Lib.hid fun w ht => by
              have := All_any (stx ((cat (txts S i)).take c)) w (by rw [stx_size, List.length_take]; omega) ht
              unfold AllRet at this
              rw [show (stx ((cat (txts S i)).take c)).data.toList = (cat (txts S i)).take c from rfl, hAll] at this
              exact this
            have x1 : (stx (cat (txts S i))).extract 0 c = stx ((cat (txts S i)).take c) := stx_extract (cat (txts S i)) 0 c
            obtain ⟨g, cap2, hv, CE⟩ := ei.lie (by rw [ends_length]; exact Nat.succ_pos i)
            obtain ⟨g2, cap3, hu, hcap⟩ := OwnStrs.solid oi HU.out
            rw [ends_length] at hv
            rw [txts_length] at hu hcap
            have hK10 : K ≤ 10 := by omega
            have CE2 : Hid (∀ k, k ≤ i → wr.cell? ⟨g, k, none⟩ = some (.int .i64 (endAt (txts S i) k : Nat))) := Lib.hid fun k hk => CE k _ (ends_get S i k hk)
            obtain ⟨_, _, hu3, ST⟩ := oi.lie.take K (by rw [txts_length]; exact hKm)
            rw [hu] at hu3
            have hST : StrsAt wr (.slice (some ⟨g2, 0, none⟩) K cap3) ((txts S i).take K) := by
              injection hu3 with e1 _ e3
              rw [e1, e3]
              exact ST
            have HST := Lib.hid hST
            have HIFF := Lib.hid hIff
            have HEN := Lib.hid hEn
            have HLK : Hid (((txts S i).take K).length ≤ 1000000) := Lib.hid (by rw [List.length_take, txts_length]; omega)
            have T0 := Lib.hid (HT.out.below (by rw [HB.out]; exact b0))
            have hBr : B ≤ wr.heap.size := by rw [← HB.out]; exact b0.size
            have hKc : (K : Int) ≤ cap3 := by omega
            have hi10 : (i : Int) ≤ 10 := by omega
            subst hv
            subst hu
            subst hx
            clear hAll hEn hIff CE ei oi HU hu3 ST hST HX hcap
            generalize (txts S i).take K = tk at *
            generalize stx ((cat (txts S i)).take c) = CT at *
            go_wp2_with fail
            refine (HALL.out _ T0.out).mono ?_
            rintro e w2 ⟨gv, rfl, og, b1⟩
            have kg := og.lie
            have b2 := below_past b0 b1 hBr
            have HST2 := Lib.hid (HST.out.below b1)
            have hB2 : B ≤ w2.heap.size := Nat.le_trans hBr b1.size
            have CE3 : Hid (∀ k, k ≤ i → w2.cell? ⟨g, k, none⟩ = some (.int .i64 (endAt (txts S i) k : Nat))) := Lib.hid fun k hk => (b1.cell (p := ⟨g, k, none⟩) (cellLt (CE2.out k hk))).trans (CE2.out k hk)
            have T2 := Lib.hid (HT.out.below (by rw [HB.out]; exact b2))
            have KG := Lib.hid kg
            clear HALL og b1 b0 CE2 HST kg T0
            go_wp2_with fail
            go_loop [14] (fun x => ∃ k : Nat, k ≤ K ∧ x = .int .i64 k) (fun x => (K - intOf x).toNat)
            case atStart => exact ⟨0, Nat.zero_le _, rfl⟩
            case round =>
              obtain ⟨k, hk, rfl⟩ := hrel
              by_cases hkK : k < K
              · have q1 : decide ((k : Int) + 1 < i + 1) = true := decide_eq_true (by omega)
                have q1b : decide (k + 1 < i + 1) = true := decide_eq_true (by omega)
                have q1c : decide (k < i) = true := decide_eq_true (by omega)
                have q3 : (k : Int) + 1 < i + 1 := by omega
                have q4 : (k : Int) < i := by omega
                have c1 := CE3.out (k + 1) (by omega)
                have c2 := (HIFF.out (k + 1) (by omega)).2 (by omega)
                generalize endAt (txts S i) (k + 1) = ek at c1 c2
                have q2 : decide (ek ≤ c) = true := decide_eq_true c2
                have hk10 : (k : Int) ≤ 10 := by omega
                clear c2
                go_wp2_with fail
                exact ⟨⟨k + 1, hkK, by go_num⟩, by simp [intOf]; omega⟩
              · obtain rfl : k = K := by omega
                have HS3 : Hid (∀ w', Below w2.heap.size w2 w' → Calls Tryd.prog 36 #[gv, .slice (some ⟨g2, 0, none⟩) k cap3] w' fun e w'' => e = .returned (.bool true) ∧ Below w'.heap.size w' w'') := Lib.hid fun w' hb => same_any _ _ _ w' (KG.out.below hb) (HST2.out.below hb) HLK.out
                have cK := CE3.out k hKm
                rw [HEN.out] at cK
                have hk10 : (k : Int) ≤ 10 := by omega
                by_cases hend : k < i
                · have q1 : decide ((k : Int) + 1 < i + 1) = true := decide_eq_true (by omega)
                  have q1b : decide (k + 1 < i + 1) = true := decide_eq_true (by omega)
                  have q1c : decide (k < i) = true := decide_eq_true (by omega)
                  have q3 : (k : Int) + 1 < i + 1 := by omega
                  have q4 : (k : Int) < i := by omega
                  have c1 := CE3.out (k + 1) (by omega)
                  have c2 : ¬ endAt (txts S i) (k + 1) ≤ c := fun e => by have := (HIFF.out (k + 1) (by omega)).1 e; omega
                  generalize endAt (txts S i) (k + 1) = ek at c1 c2
                  have q2 : decide (ek ≤ c) = false := decide_eq_false c2
                  clear c2
                  go_wp2_with fail
                  refine (awake4 _ T2.out).mono ?_
                  rintro e w3 ⟨rfl, b3⟩
                  have cK3 := (b3.cell (p := ⟨g, k, none⟩) (cellLt cK)).trans cK
                  have HS4 := Lib.hid (HS3.out _ b3)
                  have b4 := below_past b2 b3 hB2
                  have hB3 := Nat.le_trans hB2 b3.size
                  clear cK b2 b3 HS3
                  go_wp2_with fail
                  refine HS4.out.mono ?_
                  rintro e w4 ⟨rfl, b5⟩
                  have b6 := below_past b4 b5 hB3
                  clear b4 b5 cK3 HS4
                  go_wp2_with fail
                  go_ret
                  exact ⟨rfl, by rw [HB.out]; exact b6⟩
                · have q1 : decide ((k : Int) + 1 < i + 1) = false := decide_eq_false (by omega)
                  have q1b : decide (k + 1 < i + 1) = false := decide_eq_false (by omega)
                  have q1c : decide (k < i) = false := decide_eq_false (by omega)
                  have q4 : (k : Int) < i + 1 := by omega
                  go_wp2_with fail
                  refine (awake4 _ T2.out).mono ?_
                  rintro e w3 ⟨rfl, b3⟩
                  have cK3 := (b3.cell (p := ⟨g, k, none⟩) (cellLt cK)).trans cK
                  have HS4 := Lib.hid (HS3.out _ b3)
                  have b4 := below_past b2 b3 hB2
                  have hB3 := Nat.le_trans hB2 b3.size
                  clear cK b2 b3 HS3
                  go_wp2_with fail
                  refine HS4.out.mono ?_
                  rintro e w4 ⟨rfl, b5⟩
                  have b6 := below_past b4 b5 hB3
                  clear b4 b5 cK3 HS4
                  go_wp2_with fail
                  go_ret
                  exact ⟨rfl, by rw [HB.out]; exact b6⟩
set_option maxRecDepth 100000 in
theorem lifted (os : Os) (started : os.Started) (H : Type) (enc : TypeId × Value → H) :
    ReturnsInHanded {} Tryd.checked os 11 .any (fun w args => (Rows.sealCutsSpec.pre enc Tryd.prog Tryd.f11 [] false w args ∧ laidMetH Tryd.prog laidSeal w) ∧ sizedMet enc Tryd.prog Tryd.f11 (OpenSpec.ofChange Rows.sealCutsSpec) false w args) (Rows.sealCutsSpec.post enc Tryd.prog Tryd.f11 false true false false) := by
  refine returnsInHanded_of_change_and (C := Tryd.checked) (X := fun w _ => laidMetH Tryd.prog laidSeal w) (fun _ _ _ hh h => h.of_heap hh) own started (by kernel_rfl) Tryd.func11
    (ChangeSpec.witness_shaped (enc := enc) (C := Tryd.checked) (os := os) (X := fun w _ => laidMetH Tryd.prog laidSeal w) false (World.doorLaid Tryd.prog 2000 os) #[.slice none 0 0, .int .i64 0] 8 rfl (World.shaped_of_RefB (by kernel_rfl) (by kernel_rfl)) (by kernel_rfl) (by kernel_rfl) (by kernel_rfl) (door_seal os _)) ?_
  intro W base args ds gs before hval0 hW _ _ hL _
  have hval : ∀ (j : Nat) t v, Tryd.f11.params[j]? = some t → args[j]? = some v → Value.okWide Tryd.prog W .any base t v := hval0
  clear hval0
  have hW' := hW
  obtain ⟨p, q, hA0, hV, rfl, hfz, hnd⟩ := hW
  have hA : DataW.TrodAll enc Tryd.prog W 0 (fun _ => true) true Tryd.f11.params.toList args.toList ds p := hA0
  rw [Tryd.params11] at hA hval
  clear hA0 hfz hnd hV
  have hr : Readable Tryd.f11.params.toList := by
    rw [Tryd.params11]
    exact readable_of_all (by kernel_rfl)
  have fin : ∀ W', Below W.heap.size W W' → Rows.sealCutsSpec.post enc Tryd.prog Tryd.f11 false true false false W args (.bool true) W' := fun W' hb =>
    law_post rfl hW' hr (fun l hl => by
      rw [Tryd.params11] at hl
      match l, hl with
      | [d1, d2], _ => rfl) (by kernel_rfl) hb
  clear hW' hr
  have HT := tabs_of_laid hL
  obtain ⟨v0, v1, d0, d1, p0, p1, rfl, rfl, rfl, h0, h1⟩ := trodAll_two hA; obtain ⟨len, S, hin⟩ := in_strs Tryd.underlying30 Tryd.underlying9 (by kernel_rfl) (hval 0 30 v0 rfl rfl) h0; obtain ⟨c, rfl, _, _, w1⟩ := open_int Tryd.underlying3 (hval 1 3 v1 rfl rfl) h1
  exact (walk v0 len S c W hin HT).mono fun e W' ⟨he, hb⟩ => ⟨_, he, fin W' hb⟩
theorem row_holds : Rows.SealCutsSaid :=
  OpenClaim.holds_of_wide 11 Tryd.f11 rfl rfl rfl rfl rfl rfl rfl ⟨rfl, rfl, rfl, rfl, rfl⟩ rfl rfl rfl rfl rfl (by kernel_rfl) Tryd.func11 (by kernel_rfl)
    (of_decide_eq_true (by kernel_rfl)) (by unfold Func.isWrapper; first | (rw [if_pos (by decide +kernel)]; kernel_rfl) | (rw [if_neg (by decide +kernel)]; exact ⟨rfl, rfl⟩))
    (fun os started H enc _ => lifted os started H enc)
theorem proved : Rows.SealCutsCardSaid :=
  Claim7.holds_tied_plain_at .later [] [.data, .data] true _ false
    row_holds (fun _ h => by cases h) (by kernel_rfl) (fun _ h => by cases h) sealCuts_row_tie rfl ⟨rfl, rfl⟩ (by kernel_rfl) rfl
    (fun f fn hf hfn => by
      obtain rfl : f = 11 := Option.some.inj ((show Tryd.prog.funcNamed "chirograph/chirographlaw04.SealCuts" = some 11 by kernel_rfl).symm.trans hf) |>.symm
      obtain rfl : fn = Tryd.f11 := (Option.some.inj (Tryd.func11.symm.trans hfn)).symm
      exact ⟨by kernel_rfl, fun j t ht => by
        rw [Tryd.params11] at ht
        have hm : t ∈ [30, 3] := by simpa using Array.mem_of_getElem? ht
        have hall : ([30, 3].all fun u => !Tryd.prog.wantsStandIn u) = true := by kernel_rfl
        exact (show Tryd.prog.wantsStandIn t = false by simpa using List.all_eq_true.1 hall t hm)⟩)
    (by kernel_rfl)
end Go.Proofs.YtogmoclpijibaaaDoor.frames
