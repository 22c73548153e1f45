/- Lists of calls on a disk that came in. Conditions: none. -/
import Derived.Test.YtlnijckgnchpbaaDiskLaw
namespace Go.Proofs.Ytlnijckgnchpbaa
open Go Go.RowKit Go.Maps Go.ChangeShapes Go.WideShapes Go.ChangeAt

/-- A call. -/
structure DAct where
  kind : Int
  name : ByteArray
  to : ByteArray
  b : ByteArray
  n : Int
  kv : Value
  ks : List Int
def cellsA (x : DAct) : List Value := [.int .i64 x.kind, .string x.name, .string x.to, .string x.b, .int .i64 x.n, x.kv]
/-- A list of calls that came in. -/
def InActs (w : World) (v : Value) (len : Nat) (A : Nat → DAct) : Prop :=
  ∃ ao cap, v = .slice ao len cap ∧ ∀ i, i < len → (∃ a, ao = some a ∧ ∀ j, j < 6 → w.cell? (a.add (i * 6 + j)) = (cellsA (A i))[j]?) ∧ InInts w (A i).kv (A i).ks ∧
    (A i).name.size ≤ 9223372036854775807 ∧ (A i).to.size ≤ 9223372036854775807 ∧ (-9223372036854775808 ≤ (A i).n ∧ (A i).n ≤ 9223372036854775807)
theorem add_two (a : Addr) (m j : Nat) : (a.add m).add j = a.add (m + j) := by
  unfold Addr.add
  by_cases hm : m = 0
  · simp [hm]
  · by_cases hj : j = 0
    · simp [hj]
    · simp [hm, hj, Nat.add_assoc]
theorem addB (a : Addr) (i : Nat) : (a.add i).block = a.block := by unfold Addr.add; split <;> rfl
theorem InActs.below {w w' : World} {v : Value} {len : Nat} {A : Nat → DAct} (h : InActs w v len A) (k : Below w.heap.size w w') : InActs w' v len A := by
  obtain ⟨ao, cap, h1, h2⟩ := h
  refine ⟨ao, cap, h1, fun i hi => ?_⟩
  obtain ⟨⟨a, h3, h4⟩, h5, h6⟩ := h2 i hi
  refine ⟨⟨a, h3, fun j hj => ?_⟩, h5.below k, h6⟩
  have h7 := h4 j hj
  obtain ⟨u, hu⟩ : ∃ u, (cellsA (A i))[j]? = some u := ⟨_, List.getElem?_eq_getElem (by show j < 6; exact hj)⟩
  rw [hu] at h7 ⊢
  exact (k.cell (p := a.add (i * 6 + j)) (cellLt h7)).trans h7
section
variable {P : Program} {H : Type} {enc : TypeId × Value → H} {W : World} {sp : Nat → Bool} {held : Bool}
theorem ints_of {t e : TypeId} {cs : List Value} {x : DataW H × List MemPlace} {fuel : Nat} (ht : P.underlying t = some (.slice e)) (he : P.underlying e = some (.int .i64)) (ce : P.cellsOf e = 1) (hf : DataW.trod enc P W 0 sp held fuel t cs = some x) :
    ∃ v ks, cs = [v] ∧ InInts W v ks := by
  rcases open_ints ht he ce hf with ⟨h, _⟩ | ⟨a, len', cap', zs, hcs, _, hl, hm, hz, _, hx, hw⟩
  · exact ⟨_, [], h, none, 0, rfl, Nat.le_refl _, Nat.zero_le _, (fun k hk => (by cases hk)), fun i hi => absurd hi (Nat.not_lt_zero i)⟩
  · have hlz : len' ≤ zs.length := by rw [hz]; split <;> omega
    have hlt : (zs.take len').length = len' := by rw [List.length_take]; omega
    refine ⟨_, zs.take len', hcs, some a, cap', by rw [hlt], by rw [hlt]; exact hl, hm, fun k hk => ?_, fun i hi => ⟨a, rfl, ?_⟩⟩
    · have := hw k (List.mem_of_mem_take hk)
      simpa [Lit.wf, IntKind.min, IntKind.max, IntKind.signed, IntKind.bits] using this
    · rw [hlt] at hi
      rw [hx i (by omega)]
      congr 2
      rw [List.getD_eq_getElem?_getD, List.getD_eq_getElem?_getD, List.getElem?_take, if_pos hi]
theorem mapM_get {α : Type} (f : Nat → Option α) (n : Nat) (l : List α) (h : (List.range n).mapM f = some l) : l.length = n ∧ ∀ i, i < n → f i = l[i]? := by
  induction n generalizing l with
  | zero =>
    have : l = [] := by simpa using h.symm
    subst this
    exact ⟨rfl, fun i hi => absurd hi (Nat.not_lt_zero i)⟩
  | succ n ih =>
    rw [List.range_succ, List.mapM_append] at h
    cases h1 : (List.range n).mapM f with
    | none => rw [h1] at h; cases h
    | some l1 =>
      rw [h1] at h
      cases h2 : f n with
      | none => simp [h2] at h
      | some y =>
        have hl : l = l1 ++ [y] := by simpa [h2] using h.symm
        obtain ⟨i1, i2⟩ := ih l1 h1
        subst hl
        refine ⟨by simp [i1], fun i hi => ?_⟩
        by_cases e : i < n
        · rw [List.getElem?_append_left (by omega)]
          exact i2 i e
        · obtain rfl : i = n := by omega
          rw [List.getElem?_append_right (by omega), i1]
          simp [h2]
/-- One call, opened. -/
theorem act_of {t ti ts tk te : TypeId} {f0 f1 f2 f3 f4 f5 : Field} (hs : P.underlying t = some (.struct #[f0, f1, f2, f3, f4, f5])) (ct : P.cellsOf t = 6)
    (t0 : f0.type = ti) (t1 : f1.type = ts) (t2 : f2.type = ts) (t3 : f3.type = ts) (t4 : f4.type = ti) (t5 : f5.type = tk) (o0 : f0.offset = 0) (o1 : f1.offset = 1) (o2 : f2.offset = 2) (o3 : f3.offset = 3) (o4 : f4.offset = 4) (o5 : f5.offset = 5)
    (hi : P.underlying ti = some (.int .i64)) (ci : P.cellsOf ti = 1) (hss : P.underlying ts = some .string) (cs1 : P.cellsOf ts = 1) (hk : P.underlying tk = some (.slice te)) (ck : P.cellsOf tk = 1) (he : P.underlying te = some (.int .i64)) (ce : P.cellsOf te = 1)
    {fuel : Nat} {cs : List Value} {x : DataW H × List MemPlace} (hf : DataW.trod enc P W 0 sp held fuel t cs = some x) :
    ∃ A : DAct, cs = cellsA A ∧ InInts W A.kv A.ks ∧ A.name.size ≤ 9223372036854775807 ∧ A.to.size ≤ 9223372036854775807 ∧ (-9223372036854775808 ≤ A.n ∧ A.n ≤ 9223372036854775807) := by
  obtain ⟨xs, n, _, _, hl, hn, hfs⟩ := DataW.trod_struct hs hf
  rw [ct] at hl
  match cs, hl with
  | [c0, c1, c2, c3, c4, c5], _ =>
    have hx : xs.length = 6 := hn
    have g0 := hfs 0 f0 rfl
    have g1 := hfs 1 f1 rfl
    have g2 := hfs 2 f2 rfl
    have g3 := hfs 3 f3 rfl
    have g4 := hfs 4 f4 rfl
    have g5 := hfs 5 f5 rfl
    rw [List.getElem?_eq_getElem (by omega)] at g0 g1 g2 g3 g4 g5
    rw [t0, o0, ci] at g0
    rw [t1, o1, cs1] at g1
    rw [t2, o2, cs1] at g2
    rw [t3, o3, cs1] at g3
    rw [t4, o4, ci] at g4
    rw [t5, o5, ck] at g5
    obtain ⟨k, e0, _, w0⟩ := DataW.trod_int hi g0
    obtain ⟨s1, e1, _, w1⟩ := DataW.trod_string hss g1
    obtain ⟨s2, e2, _, w2⟩ := DataW.trod_string hss g2
    obtain ⟨s3, e3, _, w3⟩ := DataW.trod_string hss g3
    obtain ⟨m, e4, _, w4⟩ := DataW.trod_int hi g4
    obtain ⟨v, ks, e5, w5⟩ := ints_of hk he ce g5
    simp only [List.drop_zero, List.drop_succ_cons, List.take_succ_cons, List.take_zero, List.cons.injEq, and_true] at e0 e1 e2 e3 e4 e5
    subst e0 e1 e2 e3 e4 e5
    refine ⟨⟨k, s1, s2, s3, m, _, ks⟩, rfl, w5, ?_, ?_, ?_⟩
    · unfold maxLen at w1; exact w1
    · unfold maxLen at w2; exact w2
    · simpa [Lit.wf, IntKind.min, IntKind.max, IntKind.signed, IntKind.bits] using w4
end
set_option maxRecDepth 100000 in
theorem in_acts {H : Type} {enc : TypeId × Value → H} {W : World} {sp : Nat → Bool} {held : Bool} {base : TypeId} {v : Value} {d : DataW H} {p : List MemPlace} (hval : Value.okWide Try.prog W .any base 22 v) (hd : DataW.Trod enc Try.prog W 0 sp held 22 v d p) :
    ∃ (len : Nat) (A : Nat → DAct), InActs W v len A := by
  obtain ⟨ao, len, cap, rfl⟩ := okWide_slice Try.underlying22 hval
  obtain ⟨fuel, hf⟩ := hd
  have ce : Try.prog.cellsOf 32 = 6 := by kernel_rfl
  rcases DataW.trod_slice Try.underlying22 hf with ⟨h, _⟩ | ⟨a, len', cap', elems, rest, n, _, hcs, _, _, hl, hm, hlen, hel, _, _⟩
  · have hc : ao = none ∧ len = 0 ∧ cap = 0 := by simpa [Value.cells] using h
    obtain ⟨rfl, rfl, rfl⟩ := hc
    exact ⟨0, fun _ => ⟨0, ⟨#[]⟩, ⟨#[]⟩, ⟨#[]⟩, 0, undef, []⟩, none, 0, rfl, fun i hi => absurd hi (Nat.not_lt_zero i)⟩
  · have hc : (ao = some a ∧ len = len' ∧ cap = cap') := by simpa [Value.cells] using hcs
    obtain ⟨rfl, rfl, rfl⟩ := hc
    rw [ce] at hel
    have key : ∀ i, i < len → ∃ A : DAct, (∀ j, j < 6 → W.cell? (a.add (i * 6 + j)) = (cellsA A)[j]?) ∧ InInts W A.kv A.ks ∧ A.name.size ≤ 9223372036854775807 ∧ A.to.size ≤ 9223372036854775807 ∧ (-9223372036854775808 ≤ A.n ∧ A.n ≤ 9223372036854775807) := fun i hi => by
      have h1 := hel i hi
      rw [List.getElem?_eq_getElem (by omega)] at h1
      cases hc : W.cells? 0 (a.add (i * 6)) 6 with
      | none => rw [hc] at h1; cases h1
      | some cs =>
        rw [hc] at h1
        have h2 : DataW.trod enc Try.prog W 0 sp held n 32 cs = some elems[i] := h1
        obtain ⟨A, e, h3⟩ := act_of Try.underlying32 ce rfl rfl rfl rfl rfl rfl rfl rfl rfl rfl rfl rfl Try.underlying3 (by kernel_rfl) Try.underlying9 (by kernel_rfl) Try.underlying30 (by kernel_rfl) Try.underlying3 (by kernel_rfl) h2
        refine ⟨A, fun j hj => ?_, h3⟩
        unfold World.cells? at hc
        rw [if_pos (Nat.zero_le _)] at hc
        have := (mapM_get _ 6 cs hc).2 j hj
        rw [← e, ← this, add_two]
    refine ⟨len, fun i => if h : i < len then Classical.choose (key i h) else ⟨0, ⟨#[]⟩, ⟨#[]⟩, ⟨#[]⟩, 0, undef, []⟩, some a, cap, rfl, fun i hi => ?_⟩
    simp only [dif_pos hi]
    have := Classical.choose_spec (key i hi)
    exact ⟨⟨a, rfl, this.1⟩, this.2⟩
end Go.Proofs.Ytlnijckgnchpbaa
