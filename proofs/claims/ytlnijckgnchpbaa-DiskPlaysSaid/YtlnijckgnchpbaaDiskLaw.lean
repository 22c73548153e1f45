/- Lists of numbers that came in or are the call's own; answers that the document fixes. Conditions: none. -/
import Derived.Test.YtlnijckgnchpbaaDisk10
import Derived.Test.YtlnijckgnchpbaaLists
namespace Go.Proofs.Ytlnijckgnchpbaa
open Go Go.RowKit Go.Maps Go.ChangeShapes Go.WideShapes Go.ChangeAt
attribute [local go_sem] Oper.semAt_some

/-- A list of numbers that came in. -/
def InInts (w : World) (v : Value) (ks : List Int) : Prop :=
  ∃ ao cap, v = .slice ao ks.length cap ∧ ks.length ≤ cap ∧ cap ≤ maxLen ∧ (∀ k ∈ ks, -9223372036854775808 ≤ k ∧ k ≤ 9223372036854775807) ∧ ∀ i, i < ks.length → ∃ a, ao = some a ∧ w.cell? (a.add i) = some (.int .i64 (ks.getD i 0))
theorem InInts.below {w w' : World} {v : Value} {ks : List Int} (h : InInts w v ks) (k : Below w.heap.size w w') : InInts w' v ks := by
  obtain ⟨ao, cap, h1, h0, hm, h2, h3⟩ := h
  refine ⟨ao, cap, h1, h0, hm, h2, fun i hi => ?_⟩
  obtain ⟨a, h4, h5⟩ := h3 i hi
  exact ⟨a, h4, (k.cell (p := a.add i) (cellLt h5)).trans h5⟩
theorem InInts.at_ {B : Nat} {w w1 : World} {v : Value} {ks : List Int} (h : InInts w v ks) (b : Below w.heap.size w w1) (hB : w.heap.size ≤ B) : IntsAt B w1 v ks := by
  obtain ⟨ao, cap, h1, _, _, h2, h3⟩ := h
  refine ⟨ao, cap, h1, h2, fun i hi => ?_⟩
  obtain ⟨a, h4, h5⟩ := h3 i hi
  refine ⟨a, h4, fun w' s => ?_⟩
  have hlt := cellLt h5
  exact (World.cell?_of_block (s.block _ (Nat.lt_of_lt_of_le hlt hB))).trans ((b.cell (p := a.add i) hlt).trans h5)
theorem in_ints {P : Program} {H : Type} {enc : TypeId × Value → H} {W : World} {sp : Nat → Bool} {held : Bool} {base t e : TypeId} {v : Value} {d : DataW H} {p : List MemPlace} (ht : P.underlying t = some (.slice e)) (he : P.underlying e = some (.int .i64)) (ce : P.cellsOf e = 1) (hval : Value.okWide P W .any base t v) (hd : DataW.Trod enc P W 0 sp held t v d p) :
    ∃ ks : List Int, InInts W v ks := by
  obtain ⟨ao, len, cap, rfl⟩ := okWide_slice ht hval
  obtain ⟨fuel, hf⟩ := hd
  rcases open_ints ht he ce hf with ⟨h, _⟩ | ⟨a, len', cap', zs, hcs, _, hl, hm, hz, _, hx, hw⟩
  · have hc : ao = none ∧ len = 0 ∧ cap = 0 := by simpa [Value.cells] using h
    obtain ⟨rfl, rfl, rfl⟩ := hc
    exact ⟨[], none, 0, rfl, Nat.le_refl _, Nat.zero_le _, (fun k hk => (by cases hk)), fun i hi => absurd hi (Nat.not_lt_zero i)⟩
  · have hc : (ao = some a ∧ len = len' ∧ cap = cap') := by simpa [Value.cells] using hcs
    obtain ⟨rfl, rfl, rfl⟩ := hc
    have hlz : len ≤ zs.length := by rw [hz]; split <;> omega
    have hlt : (zs.take len).length = len := by rw [List.length_take]; omega
    refine ⟨zs.take len, some a, cap, by rw [hlt], by rw [hlt]; exact hl, hm, fun k hk => ?_, fun i hi => ⟨a, rfl, ?_⟩⟩
    · have := hw k (List.mem_of_mem_take hk)
      simpa [Lit.wf, IntKind.min, IntKind.max, IntKind.signed, IntKind.bits] using this
    · rw [hlt] at hi
      rw [hx i (by omega)]
      congr 2
      rw [List.getD_eq_getElem?_getD, List.getD_eq_getElem?_getD, List.getElem?_take, if_pos hi]
def intCells (ks : List Int) : List Value := ks.map (Value.int .i64)
def OwnInts (w : World) (B : Nat) (v : Value) (ks : List Int) : Prop := w.ownsRow B 3 1 v ks.length (intCells ks)
theorem OwnInts.at_ {B C : Nat} {w : World} {v : Value} {ks : List Int} (h : OwnInts w C v ks) (hr : ∀ k ∈ ks, -9223372036854775808 ≤ k ∧ k ≤ 9223372036854775807) : IntsAt B w v ks := by
  obtain ⟨ao, cap, rfl⟩ := own_shape h
  refine ⟨ao, cap, rfl, hr, fun i hi => ?_⟩
  obtain ⟨g, rfl, _, _⟩ := own_cell h i hi
  refine ⟨_, rfl, fun w' s => ?_⟩
  obtain ⟨g', e, h1, _⟩ := own_cell (s.row h (by decide)) i hi
  obtain rfl : g = g' := by simpa using e
  rw [show (⟨g, 0, none⟩ : Addr).add i = ⟨g, i, none⟩ by simp [Addr.add]; exact fun e => e.symm, h1]
  simp [intCells, hi]

/-- What a disk comes to. -/
def w0 : DDisk := ⟨100, -1, false, []⟩
def w1' : DDisk := aD w0 [97] [120, 121, 122]
def w2' : DDisk := sD w1' [97]
def w3' : DDisk := aD w2' [97] [117, 118]
def w4' : DDisk := crashD w3' [1]
theorem max100 : max (100 : Int) 0 = 100 := by decide
set_option maxRecDepth 100000 in
set_option maxHeartbeats 1000000 in
theorem awake5 (w : World) : Calls Try.prog 6 #[] w fun e w' => e = .returned (.bool true) ∧ Below w.heap.size w w' := by
  have H0 := Lib.hid (dNew_any 100 w ⟨by decide, by decide⟩)
  rw [max100] at H0
  have HA : ∀ B b w, DiskAt B b w0 w → Hid (Calls Try.prog 15 #[.pointer (some ⟨b, 0, none⟩), .string ⟨#[97]⟩, .string ⟨#[120, 121, 122]⟩] w fun e w' => e = .returned (.int .i64 0) ∧ DiskAt B b w1' w' ∧ Stir B w w') := fun B b w h => Lib.hid (by
    have := dAppend_any B b w0 ⟨#[97]⟩ ⟨#[120, 121, 122]⟩ w h (by decide) (by decide +kernel)
    rwa [show aE w0 (⟨#[97]⟩ : ByteArray).data.toList (⟨#[120, 121, 122]⟩ : ByteArray).data.toList = 0 by decide +kernel] at this)
  have HS : ∀ B b w, DiskAt B b w1' w → Hid (Calls Try.prog 16 #[.pointer (some ⟨b, 0, none⟩), .string ⟨#[97]⟩] w fun e w' => e = .returned (.int .i64 0) ∧ DiskAt B b w2' w' ∧ Stir B w w') := fun B b w h => Lib.hid (by
    have := dSync_any B b w1' ⟨#[97]⟩ w h (by decide)
    rwa [show sE w1' (⟨#[97]⟩ : ByteArray).data.toList = 0 by decide +kernel] at this)
  have HA2 : ∀ B b w, DiskAt B b w2' w → Hid (Calls Try.prog 15 #[.pointer (some ⟨b, 0, none⟩), .string ⟨#[97]⟩, .string ⟨#[117, 118]⟩] w fun e w' => e = .returned (.int .i64 0) ∧ DiskAt B b w3' w' ∧ Stir B w w') := fun B b w h => Lib.hid (by
    have := dAppend_any B b w2' ⟨#[97]⟩ ⟨#[117, 118]⟩ w h (by decide) (by decide +kernel)
    rwa [show aE w2' (⟨#[97]⟩ : ByteArray).data.toList (⟨#[117, 118]⟩ : ByteArray).data.toList = 0 by decide +kernel] at this)
  have HC : ∀ B b v w, DiskAt B b w3' w → IntsAt B w v [1] → Hid (Calls Try.prog 17 #[.pointer (some ⟨b, 0, none⟩), v] w fun e w' => e = .returned (.tuple #[]) ∧ DiskAt B b w4' w' ∧ Stir B w w') := fun B b v w h hk => Lib.hid
    (dCrash_any B b w3' v [1] w h hk (by decide) (by decide +kernel) (by decide +kernel) (by decide +kernel))
  have HR : ∀ B b w, DiskAt B b w4' w → Hid (Calls Try.prog 8 #[.pointer (some ⟨b, 0, none⟩), .string ⟨#[97]⟩] w fun e w' => e = .returned (.tuple #[.string ⟨#[120, 121, 122, 117]⟩, .int .i64 0]) ∧ w' = w) := fun B b w h => Lib.hid (by
    have := dRead_any B b w4' ⟨#[97]⟩ w h (by decide)
    rwa [show findE w4' (⟨#[97]⟩ : ByteArray).data.toList = 0 by decide +kernel, show rdB w4' (⟨#[97]⟩ : ByteArray).data.toList = [120, 121, 122, 117] by decide +kernel] at this)
  have HU : ∀ B b w, DiskAt B b w4' w → Hid (Calls Try.prog 11 #[.pointer (some ⟨b, 0, none⟩)] w fun e w' => e = .returned (.int .i64 4) ∧ w' = w) := fun B b w h => Lib.hid (by
    have := dUsed_any B b w4' w h
    rwa [show dUsed w4'.files = 4 by decide +kernel] at this)
  go_enter Try.func6, Try.ntmps6
  go_wp2_with fail
  refine H0.out.mono ?_
  rintro e w1 ⟨b, rfl, hb, d0, b0⟩
  obtain ⟨B, hB⟩ : ∃ B, w.heap.size = B := ⟨_, rfl⟩
  have HB := Lib.hid hB
  rw [hB] at hb d0 b0
  clear H0 hB
  go_wp2_with fail
  refine (HA _ _ _ d0).out.mono ?_
  rintro e w2 ⟨rfl, d1, s1⟩
  have b1 := b0.trans s1.below
  clear HA d0 s1 b0
  go_wp2_with fail
  refine (HS _ _ _ d1).out.mono ?_
  rintro e w3 ⟨rfl, d2, s2⟩
  have b2 := b1.trans s2.below
  clear HS d1 s2 b1
  go_wp2_with fail
  refine (HA2 _ _ _ d2).out.mono ?_
  rintro e w4 ⟨rfl, d3, s3⟩
  have b3 := b2.trans s3.below
  clear HA2 d2 s3 b2
  have a4 : Below w4.heap.size w4 (w4.alloc (.cells #[.int .i64 1] 3)) := (Below.refl _ _).alloc (Nat.le_refl _) _
  have d4 := d3.kept a4
  have o4 : OwnInts (w4.alloc (.cells #[.int .i64 1] 3)) w4.heap.size (.slice (some ⟨w4.heap.size, 0, none⟩) 1 1) [1] :=
    ⟨rfl, .inr ⟨w4.heap.size, 1, _, rfl, Nat.le_refl _, heap_alloc_new w4 _, Nat.le_refl _, by decide, rfl, rfl⟩⟩
  have k4 := o4.at_ (B := B) (by decide)
  have b4 := b3.trans (Below.stir a4 (Nat.le_trans (Nat.le_of_lt (Nat.lt_of_le_of_lt d3.low.1 d3.low.2)) (Nat.le_refl _))).below
  go_wp2_with fail
  generalize w4.alloc (.cells #[.int .i64 1] 3) = W4 at *
  clear d3 a4 o4 b3
  refine (HC _ _ _ _ d4 k4).out.mono ?_
  rintro e w5 ⟨rfl, d5, s5⟩
  have b5 := b4.trans s5.below
  clear HC d4 k4 s5 b4
  go_wp2_with fail
  refine (HR _ _ _ d5).out.mono ?_
  rintro e w6 ⟨rfl, rfl⟩
  go_wp2_with fail
  refine (HU _ _ _ d5).out.mono ?_
  rintro e w7 ⟨rfl, rfl⟩
  go_wp2_with fail
  go_ret
  exact ⟨rfl, by rw [HB.out]; exact b5⟩
theorem info_int : ∃ i : TypeInfo, Try.prog.info? 3 = some i ∧ i.zero = some (.int .i64 0) ∧ i.size = 1 ∧ i.bytes = 8 := by
  have h : (Try.prog.info? 3).map (fun i => (i.zero, i.size, i.bytes)) = some (some (.int .i64 0), 1, 8) := by kernel_rfl
  cases hq : Try.prog.info? 3 with
  | none => rw [hq] at h; cases h
  | some i =>
    rw [hq] at h
    simp only [Option.map_some, Option.some.injEq, Prod.mk.injEq] at h
    exact ⟨i, rfl, h.1, h.2.1, h.2.2⟩
/-- Nothing is put behind an empty row. -/
theorem wpList_app_zero {P : Program} {w : World} {ops : Array Oper} {rest : List Oper} {o : Oper} {a : Act} {Q : Exit → Act → World → Prop} (hgd : o.guard = none) (s x : Operand) (t : TypeId)
    (ho : o.op = .call { callee := .builtin .append, args := #[s, x], argTypes := #[t, t] }) (e : TypeId) (i : TypeInfo) (ht : P.underlying t = some (.slice e)) (hi : P.info? e = some i)
    (g : Addr) (hs : a.eval s = .slice (some g) 0 0) (ao : Option Addr) (cap : Nat) (hx : a.eval x = .slice ao 0 cap) (h : wpList P ops Q rest (a.put o.dst (.slice (some g) 0 0)) w) : wpList P ops Q (o :: rest) a w := by
  refine wpList_plain hgd fun K hK => ?_
  have hr : (Builtin.append_ #[t, t] o.type #[.slice (some g) 0 0, .slice ao 0 cap]).run P w = .ok (.slice (some g) 0 0) w := by
    cases ao <;> simp [Builtin.append_, run_underlying ht, sizeOf, typeInfo, hi, Builtin.lenOf, Builtin.firstCells, loadCells, loadCellsFrom, storeCells, Result.andThen]
  unfold Oper.wp execOp
  simp only [ho, resolve, invoke, builtin, Sem.run_bind, Sem.run_pure, Result.andThen_ok, List.map_toArray, List.map_cons, List.map_nil, hs, hx, hr]
  exact hK _ _ h
set_option maxRecDepth 100000 in
set_option maxHeartbeats 1000000 in
theorem few5_any (v : Value) (ks : List Int) (n : Nat) (w : World) (h : InInts w v ks) (hn : n ≤ 1000) :
    Calls Try.prog 27 #[v, .int .i64 n] w fun e w' => ∃ v', e = .returned v' ∧ OwnInts w' w.heap.size v' (ks.take n) ∧ Below w.heap.size w w' := by
  obtain ⟨ao, cap, rfl, hcap, hcm, hr, hc⟩ := h
  obtain ⟨i0, hi, hz0, hz1, hz2⟩ := info_int
  obtain ⟨len, hlen⟩ : ∃ len, ks.length = len := ⟨_, rfl⟩
  rw [hlen] at hc hcap ⊢
  have b1 : Below w.heap.size w (w.alloc (.cells #[] 3)) := (Below.refl _ _).alloc (Nat.le_refl _) _
  have o1 : (w.alloc (.cells #[] 3)).ownsRow w.heap.size 3 1 (.slice (some ⟨w.heap.size, 0, none⟩) 0 0) 0 [] :=
    ⟨rfl, .inr ⟨w.heap.size, 0, #[], rfl, Nat.le_refl _, heap_alloc_new w _, Nat.le_refl _, Nat.zero_le _, rfl, rfl⟩⟩
  have z1 : w.heap.size ≤ (w.alloc (.cells #[] 3)).heap.size := by simp
  have hni : (n : Int) ≤ 1000 := by omega
  by_cases hz : len = 0 ∨ n = 0
  · have hk : ks.take n = [] := by
      rcases hz with h | h
      · have hk0 : ks = [] := List.eq_nil_of_length_eq_zero (by rw [hlen]; exact h)
        rw [hk0, List.take_nil]
      · rw [h, List.take_zero]
    rw [hk]
    by_cases hgt : n < len
    · obtain rfl : n = 0 := by omega
      have hq : decide ((0 : Int) < len) = true := decide_eq_true (by omega)
      have hq2 : decide (0 < len) = true := decide_eq_true (by omega)
      obtain ⟨a, rfl, _⟩ := hc 0 (by omega)
      clear hz hk hlen hc hr
      go_enter Try.func27, Try.ntmps27
      go_wp2_with (at_builtin; refine wpList_app_zero rfl _ _ 30 rfl 3 i0 Try.underlying30 hi _ rfl _ _ rfl ?_)
      go_wp2_with fail
      go_ret
      exact ⟨_, rfl, o1, b1⟩
    · have h0 : len = 0 := by omega
      subst h0
      have hq : decide ((n : Int) < 0) = false := decide_eq_false (by omega)
      have hq2 : decide (n < 0) = false := decide_eq_false (by omega)
      clear hz hk hlen hc hr hgt
      go_enter Try.func27, Try.ntmps27
      go_wp2_with (at_builtin; refine wpList_app_zero rfl _ _ 30 rfl 3 i0 Try.underlying30 hi _ rfl _ _ rfl ?_)
      go_wp2_with fail
      go_ret
      exact ⟨_, rfl, o1, b1⟩
  · obtain ⟨a, rfl, _⟩ := hc 0 (by omega)
    have hcell : ∀ m, m ≤ len → ∀ j u, (intCells (ks.take m))[j]? = some u → (w.alloc (.cells #[] 3)).cell? (a.add j) = some u := fun m hm j u hj => by
      have hl : j < (ks.take m).length := by
        have := (List.getElem?_eq_some_iff.1 hj).1
        simpa [intCells] using this
      rw [List.length_take] at hl
      obtain ⟨a', e, h1⟩ := hc j (by omega)
      obtain rfl : a = a' := by simpa using e
      rw [b1.cell (p := a.add j) (cellLt h1), h1, ← hj, intCells, List.getElem?_map, List.getElem?_take, if_pos (by omega)]
      have : j < ks.length := by omega
      simp [this]
    have hone : ∀ m, ∀ u ∈ intCells (ks.take m), u.oneCell' = true := fun m u hu => by
      obtain ⟨k, _, rfl⟩ := List.mem_map.1 hu
      rfl
    by_cases hgt : n < len
    · have hq : decide ((n : Int) < len) = true := decide_eq_true (by omega)
      have hq2 : decide (n < len) = true := decide_eq_true hgt
      have hl : (intCells (ks.take n)).length = n * 1 := by simp [intCells, hlen]; omega
      have hcn := hcell n (by omega)
      have hln : (ks.take n).length = n := by rw [List.length_take, hlen]; omega
      have HLN := Lib.hid hln
      have hO := hone n
      have hnc : (n : Int) ≤ cap := by omega
      have hcm2 : (cap : Int) ≤ 9223372036854775807 := by unfold maxLen at hcm; omega
      have hn0 : n ≤ cap := by omega
      clear hz hlen hc hr hcell hln hone hcap hcm hgt
      go_enter Try.func27, Try.ntmps27
      go_wp2_with (at_builtin; refine wpList_append_own_at _ rfl _ _ 30 rfl w.heap.size 3 i0 (.int .i64 0) 1 8 Try.underlying30 hi hz0 hz1 hz2 rfl (by decide) _ 0 [] rfl o1 a n cap (intCells (ks.take n)) rfl hl hcn hO ?c1 ?c2 z1 ?_)
      case c1 => unfold maxLen; omega
      case c2 => omega
      intro v' w2 h1 h2 _ h4
      have b2 := b1.grown h2 z1 (fun k hk => (World.ownsRow.lt o1 k hk).1)
      go_wp2_with fail
      go_ret
      refine ⟨_, rfl, ?_, b2⟩
      unfold OwnInts
      rw [HLN.out]
      simpa using h1
    · have hq : decide ((n : Int) < len) = false := decide_eq_false (by omega)
      have hq2 : decide (n < len) = false := decide_eq_false hgt
      have hk : ks.take n = ks := List.take_of_length_le (by omega)
      have hl : (intCells ks).length = len * 1 := by simp [intCells, hlen]
      have hcn := hcell len (Nat.le_refl _)
      have hO := hone len
      rw [List.take_of_length_le (by omega)] at hcn hO
      have HLN := Lib.hid hlen
      have hln : len ≤ 1000 := by omega
      rw [hk]
      clear hz hlen hc hr hcell hone hcap hcm hgt hk
      go_enter Try.func27, Try.ntmps27
      go_wp2_with (at_builtin; refine wpList_append_own_at _ rfl _ _ 30 rfl w.heap.size 3 i0 (.int .i64 0) 1 8 Try.underlying30 hi hz0 hz1 hz2 rfl (by decide) _ 0 [] rfl o1 a len cap (intCells ks) rfl hl hcn hO ?c1 ?c2 z1 ?_)
      case c1 => unfold maxLen; omega
      case c2 => omega
      intro v' w2 h1 h2 _ h4
      have b2 := b1.grown h2 z1 (fun k hk => (World.ownsRow.lt o1 k hk).1)
      go_wp2_with fail
      go_ret
      refine ⟨_, rfl, ?_, b2⟩
      unfold OwnInts
      rw [HLN.out]
      simpa using h1
end Go.Proofs.Ytlnijckgnchpbaa
