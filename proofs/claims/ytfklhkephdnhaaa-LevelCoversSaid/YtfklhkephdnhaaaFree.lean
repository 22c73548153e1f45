/- A region that draws its order: first operations that read or call (callees may make memory of their own), then new variables, then a tail that waits for all of them: one walk, in the order of the text. Conditions: none. -/
import Derived.Test.YtfklhkephdnhaaaQuiet
import Derived.StillTail
namespace Go.Proofs.Ytfklhkephdnhaaa
open Go Go.RowKit

section
variable {P : Program} {ops : Array Oper}

/-- ONE VALUE, in every world in which W lies; a callee leaves what it found. -/
def YieldsS (P : Program) (ops : Array Oper) (W : World) (o : Oper) (v : Value) (a : Act) : Prop :=
  (Region.wanted o (yielded ops a.tmps) = true ∧ ∀ x : Past W, o.quietAt P a (fun w' => ∃ y : Past x.w, w' = y.w) x.w v) ∨
  (Region.wanted o (yielded ops a.tmps) = false ∧ v = undef)

theorem YieldsS.put {W : World} {o : Oper} {v u : Value} {a : Act} {dst : Option Tmp} (hs : ∀ cs b, o.op ≠ .select cs b) (hd : ∀ d, dst = some d → d ∉ o.looksAt ops) :
    YieldsS P ops W o v (a.put dst u) ↔ YieldsS P ops W o v a := by
  unfold YieldsS Oper.quietAt
  rw [execOp_put o hs a dst u hd, wanted_put o a dst u hd]
theorem YieldsS.past {W W' : World} {o : Oper} {v : Value} {a : Act} (hb : Below W.heap.size W W') (h : YieldsS P ops W o v a) : YieldsS P ops W' o v a := by
  rcases h with ⟨h1, h2⟩ | h
  · exact .inl ⟨h1, fun x => h2 ⟨x.w, Below.step hb x.h⟩⟩
  · exact .inr h

/-- What is left of the head, in the order of the text. -/
def wpHead (P : Program) (ops : Array Oper) (W : World) (Qh : Act → Prop) : List Nat → Act → Prop
  | [], a => Qh a
  | i :: is, a => ∃ o v, ops[i]? = some o ∧ YieldsS P ops W o v a ∧ wpHead P ops W Qh is (a.put o.dst v)

theorem wpHead_past {W W' : World} {Qh : Act → Prop} (hb : Below W.heap.size W W') : ∀ (is : List Nat) (a : Act), wpHead P ops W Qh is a → wpHead P ops W' Qh is a
  | [], _, h => h
  | _ :: is, _, ⟨o, v, h1, h2, h3⟩ => ⟨o, v, h1, h2.past hb, wpHead_past hb is _ h3⟩

def apartAt (ops : Array Oper) (i j : Nat) : Prop := ∀ oi oj, ops[i]? = some oi → ops[j]? = some oj → oi.apart ops oj = true

theorem wpHead_take {W : World} {Qh : Act → Prop} (hsel : ∀ (j : Nat) (o : Oper) cs b, ops[j]? = some o → o.op ≠ .select cs b) {j : Nat} {oj : Oper} (hj : ops[j]? = some oj) :
    ∀ (is : List Nat) (a : Act), is.Pairwise (· < ·) → j ∈ is → (∀ k ∈ is, k < j → apartAt ops k j) → wpHead P ops W Qh is a →
      ∃ v, YieldsS P ops W oj v a ∧ wpHead P ops W Qh (is.erase j) (a.put oj.dst v)
  | i :: is, a, hp, hm, hap, ⟨o, v, h1, h2, h3⟩ => by
    by_cases hij : i = j
    · subst hij
      obtain rfl : o = oj := Option.some.inj (h1.symm.trans hj)
      exact ⟨v, h2, by simpa using h3⟩
    · have hm' : j ∈ is := by
        rcases List.mem_cons.1 hm with e | e
        · exact absurd e.symm hij
        · exact e
      have hlt : i < j := (List.pairwise_cons.1 hp).1 j hm'
      obtain ⟨u, y1, y2⟩ := wpHead_take hsel hj is (a.put o.dst v) (List.pairwise_cons.1 hp).2 hm' (fun k hk => hap k (List.mem_cons_of_mem _ hk)) h3
      obtain ⟨s1, s2, s3⟩ := Oper.apart_spec (hap i (by simp) hlt o oj h1 hj)
      refine ⟨u, (YieldsS.put (hsel j oj · · hj) s1).1 y1, ?_⟩
      rw [List.erase_cons_tail (by simpa using hij)]
      refine ⟨o, v, h1, (YieldsS.put (hsel i o · · h1) s3).2 h2, ?_⟩
      rw [← Act.put_comm a v u s2]
      exact y2
  | [], _, _, hm, _, _ => by cases hm

theorem wpHead_put {W : World} {Qh : Act → Prop} (hsel : ∀ (j : Nat) (o : Oper) cs b, ops[j]? = some o → o.op ≠ .select cs b) {j : Nat} {oj : Oper} (hj : ops[j]? = some oj) {u : Value}
    (hQ : ∀ a, Qh a → Qh (a.put oj.dst u)) : ∀ (is : List Nat) (a : Act), (∀ k ∈ is, apartAt ops k j) → wpHead P ops W Qh is a → wpHead P ops W Qh is (a.put oj.dst u)
  | [], _, _, h => hQ _ h
  | i :: is, a, hap, ⟨o, v, h1, h2, h3⟩ => by
    obtain ⟨s1, s2, s3⟩ := Oper.apart_spec (hap i (by simp) o oj h1 hj)
    refine ⟨o, v, h1, (YieldsS.put (hsel i o · · h1) s3).2 h2, ?_⟩
    rw [← Act.put_comm a v u s2]
    exact wpHead_put hsel hj hQ is _ (fun k hk => hap k (List.mem_cons_of_mem _ hk)) h3

theorem wpHead_step {W : World} {Qh : Act → Prop} {i : Nat} {is : List Nat} {a : Act} {o : Oper} (ho : ops[i]? = some o)
    (h : ∀ K : Act → Prop, (∀ a, wpHead P ops W Qh is a → K a) → if Region.wanted o (yielded ops a.tmps) then ∃ v, (∀ x : Past W, o.quietAt P a (fun w' => ∃ y : Past x.w, w' = y.w) x.w v) ∧ K (a.put o.dst v) else K (a.put o.dst undef)) : wpHead P ops W Qh (i :: is) a := by
  have h1 := h _ fun _ h => h
  by_cases hw : Region.wanted o (yielded ops a.tmps) = true
  · rw [if_pos hw] at h1
    obtain ⟨v, h2, h3⟩ := h1
    exact ⟨o, v, ho, .inl ⟨hw, h2⟩, h3⟩
  · rw [if_neg hw] at h1
    exact ⟨o, undef, ho, .inr ⟨by simpa using hw, rfl⟩, h1⟩
theorem call_yields {x : World} {f : FuncId} {args : Array Value} {v : Value} (h : Calls P f args x fun e w' => e = .returned v ∧ Below x.heap.size x w') : Calls P f args x fun e w'' => e = .returned v ∧ ∃ y : Past x, w'' = y.w :=
  h.mono fun _ w'' ⟨he, hb⟩ => ⟨he, ⟨w'', hb⟩, rfl⟩
/-- A frame, but for some slots. -/
def atS (lit : Act) : List (Option Tmp) → Act → Prop
  | [], a => a = lit
  | d :: ds, a => ∃ v, atS (lit.put d v) ds a

/-- The head's end, whatever lies in the new variables' slots. -/
def slots (Q1 : Act → Prop) : List (Option Tmp) → Act → Prop
  | [], a => Q1 a
  | d :: ds, a => ∀ v, slots Q1 ds (a.put d v)
theorem put_put (a : Act) (d : Option Tmp) (u v : Value) : (a.put d u).put d v = a.put d v := by
  cases d with
  | none => rfl
  | some d =>
    simp only [Act.put]
    congr 1
    apply Array.ext_getElem?
    intro i
    simp only [Array.getElem?_setIfInBounds, Array.size_setIfInBounds]
    split <;> rfl
theorem put_comm' (a : Act) (d e : Option Tmp) (u v : Value) (h : d ≠ e) : (a.put d u).put e v = (a.put e v).put d u :=
  Act.put_comm a u v (fun _ hx hy => h (hx.trans hy.symm))
theorem slots_put {Q1 : Act → Prop} {d : Option Tmp} (u : Value) : ∀ (ds : List (Option Tmp)) (a : Act), d ∈ ds → slots Q1 ds a → slots Q1 ds (a.put d u)
  | e :: ds, a, hm, h => fun v => by
    by_cases hde : d = e
    · subst hde
      rw [put_put]
      exact h v
    · rw [put_comm' a d e u v hde]
      refine slots_put u ds _ ?_ (h v)
      rcases List.mem_cons.1 hm with e2 | e2
      · exact absurd e2 hde
      · exact e2
  | [], _, hm, _ => by cases hm
theorem put_self (a : Act) (d : Option Tmp) : ∃ v, a.put d v = a := by
  cases d with
  | none => exact ⟨undef, rfl⟩
  | some d =>
    refine ⟨a.tmps.getD d undef, ?_⟩
    have e : a.tmps.setIfInBounds d (a.tmps.getD d undef) = a.tmps := by
      apply Array.ext_getElem?
      intro i
      simp only [Array.getElem?_setIfInBounds]
      split
      · rename_i hi
        subst hi
        split
        · rename_i hlt; simp [hlt]
        · rename_i hlt; simp [hlt]
      · rfl
    show ({ a with tmps := a.tmps.setIfInBounds d (a.tmps.getD d undef) } : Act) = a
    rw [e]
theorem slots_mono {Q1 Q2 : Act → Prop} (h : ∀ a, Q1 a → Q2 a) : ∀ (ds : List (Option Tmp)) (a : Act), slots Q1 ds a → slots Q2 ds a
  | [], _, hs => h _ hs
  | _ :: ds, _, hs => fun v => slots_mono h ds _ (hs v)
theorem slots_atS : ∀ (ds : List (Option Tmp)) (lit : Act), slots (atS lit ds) ds lit
  | [], _ => rfl
  | d :: ds, lit => fun v => slots_mono (fun _ h => ⟨v, h⟩) ds _ (slots_atS ds (lit.put d v))
theorem slots_end {Q1 : Act → Prop} : ∀ (ds : List (Option Tmp)) (a : Act), slots Q1 ds a → Q1 a
  | [], _, h => h
  | d :: ds, a, h => by
    obtain ⟨v, hv⟩ := put_self a d
    have := slots_end ds _ (h v)
    rwa [hv] at this

def waits (ops : Array Oper) (j k : Nat) : Bool := Region.waitsFor .any ops j k
/-- .. or for one that waits for it. -/
def waits2 (ops : Array Oper) (j k : Nat) : Bool := waits ops j k || (List.range ops.size).any fun q => waits ops j q && waits ops q k
/-- What is listed had all it waits for listed. -/
def Closed (ops : Array Oper) (listed : Array Bool) : Prop := ∀ q k, q < ops.size → listed.getD q true = true → waits ops q k = true → listed.getD k false = true
/-- n operations that read or call, then new variables up to m, then a tail. -/
def freeB (ops : Array Oper) (n m : Nat) (l : Nat := ops.size) : Bool :=
  Region.noSelect ops && decide (n ≤ m) && decide (m ≤ ops.size) &&
  ((List.range m).all fun j => match ops[j]? with | some o => o.after.all (fun e => !Region.binds .any e || decide (e.on < j)) | none => false) &&
  ((List.range m).all fun j => (List.range m).all fun k => !decide (k < j) || waits ops j k || (match ops[k]?, ops[j]? with | some x, some y => x.apart ops y | _, _ => false)) &&
  ((List.range ops.size).all fun t => decide (t < m) || (List.range m).all fun k => k == l || waits2 ops t k) &&
  ((List.range m).all fun j => (List.range m).all fun k => k == j || (match ops[k]?, ops[j]? with | some x, some y => x.dst.isNone || x.dst != y.dst | _, _ => false)) &&
  Region.seqB .any ops (ops.size - m) m ((Array.range ops.size).map fun i => decide (i < m)) && (decide (l < n) || decide (ops.size ≤ l))

structure Free (ops : Array Oper) (n m l : Nat) : Prop where
  sel : ∀ (j : Nat) (o : Oper) cs b, ops[j]? = some o → o.op ≠ .select cs b
  nm : n ≤ m
  size : m ≤ ops.size
  deps : ∀ j o, j < m → ops[j]? = some o → ∀ e ∈ o.after, Region.binds .any e = true → e.on < j
  apart : ∀ j k, j < m → k < j → waits ops j k = true ∨ apartAt ops k j
  tail : ∀ t k, m ≤ t → t < ops.size → k < m → k ≠ l → waits2 ops t k = true
  dst : ∀ j k x y d, j < m → k < m → k ≠ j → ops[k]? = some x → ops[j]? = some y → x.dst = some d → y.dst ≠ some d
  seq : Region.seqB .any ops (ops.size - m) m ((Array.range ops.size).map fun i => decide (i < m)) = true
  late : l < n ∨ ops.size ≤ l
theorem Free.of_check {n m l : Nat} (h : freeB ops n m l = true) : Free ops n m l := by
  simp only [freeB, Bool.and_eq_true, decide_eq_true_eq, List.all_eq_true, List.mem_range] at h
  obtain ⟨⟨⟨⟨⟨⟨⟨⟨h1, h2⟩, h3⟩, h4⟩, h5⟩, h6⟩, h7⟩, h8⟩, h9⟩ := h
  refine ⟨Region.noSelect_spec h1, h2, h3, fun j o hj ho e he hb => ?_, fun j k hj hk => ?_, fun t k ht hts hk hkl => ?_, fun j k x y d hj hk hne hx hy hd hy2 => ?_, h8, by simpa using h9⟩
  · have := h4 j hj
    rw [ho] at this
    have := Array.all_eq_true_iff_forall_mem.1 this e he
    simpa [hb] using this
  · have := h5 j hj k (by omega)
    simp only [Bool.or_eq_true, Bool.not_eq_true', decide_eq_false_iff_not] at this
    rcases this with (h | h) | h
    · omega
    · exact .inl h
    · right
      intro oi oj hi hj2
      rw [hi, hj2] at h
      exact h
  · have := h6 t hts
    simp only [Bool.or_eq_true, decide_eq_true_eq, List.all_eq_true, List.mem_range] at this
    rcases this with h | h
    · omega
    · have := h k hk
      simpa [hkl] using this
  · have := h7 j hj k hk
    rw [hx, hy] at this
    simp [hne, hd, hy2] at this
theorem waits_listed {listed : Array Bool} {j k : Nat} (hr : j ∈ Region.ready .any ops listed) (hw : waits ops j k = true) : listed.getD k false = true := by
  obtain ⟨o, ho, e, he, hb, hon⟩ := Region.waitsFor_spec hw
  obtain ⟨_, o2, ho2, hall⟩ := mem_ready.1 hr
  obtain rfl : o = o2 := Option.some.inj (ho.symm.trans ho2)
  rw [← hon]
  exact hall e he hb
theorem waits2_listed {listed : Array Bool} {j k : Nat} (hc : Closed ops listed) (hs : listed.size = ops.size) (hr : j ∈ Region.ready .any ops listed) (hw : waits2 ops j k = true) : listed.getD k false = true := by
  simp only [waits2, Bool.or_eq_true, List.any_eq_true, List.mem_range, Bool.and_eq_true] at hw
  rcases hw with h | ⟨q, hq, h1, h2⟩
  · exact waits_listed hr h
  · refine hc q k hq ?_ h2
    have := waits_listed hr h1
    have hqs : q < listed.size := by omega
    simpa [hqs] using this
theorem Closed.step {listed : Array Bool} {i : Nat} (hc : Closed ops listed) (hr : i ∈ Region.ready .any ops listed) : Closed ops (listed.setIfInBounds i true) := fun q k hq h1 h2 => by
  have : listed.getD k false = true := by
    by_cases e : q = i
    · subst e
      exact waits_listed hr h2
    · rw [getD_set_ne true (Ne.symm e)] at h1
      exact hc q k hq h1 h2
  by_cases e : k = i
  · subst e
    by_cases hk : k < listed.size
    · simp [hk]
    · simp [hk] at this
  · rw [getD_set_ne false (Ne.symm e)]
    exact this
theorem getD_flip {listed : Array Bool} {k : Nat} (hk : k < listed.size) : listed.getD k false = listed.getD k true := by
  simp [hk]

/-- What each new variable is: its slot's block, its cells. -/
structure NewVars (ops : Array Oper) (n m : Nat) (z : Nat → Array Value) (B : Nat) (listed : Array Bool) (bs : Nat → Nat) (a : Act) (w : World) : Prop where
  slot : ∀ j, n ≤ j → j < m → listed.getD j true = true → ∃ o, ops[j]? = some o ∧ ∃ d, o.dst = some d ∧ a.tmps[d]? = some (.pointer (some ⟨bs j, 0, none⟩))
  row : ∀ j, n ≤ j → j < m → listed.getD j true = true → rowAt w (bs j) = some (z j) ∧ B ≤ bs j
  other : ∀ j k, n ≤ j → j < m → listed.getD j true = true → n ≤ k → k < m → listed.getD k true = true → j ≠ k → bs j ≠ bs k

def left (listed : Array Bool) (n : Nat) : List Nat := (List.range n).filter fun i => !listed.getD i true
theorem mem_left {listed : Array Bool} {n i : Nat} : i ∈ left listed n ↔ i < n ∧ listed.getD i true = false := by
  simp [left]
theorem left_sorted (listed : Array Bool) (n : Nat) : (left listed n).Pairwise (· < ·) := List.Pairwise.filter _ List.pairwise_lt_range
theorem left_nodup (listed : Array Bool) (n : Nat) : (left listed n).Nodup := (left_sorted listed n).imp fun h => Nat.ne_of_lt h
theorem left_set {listed : Array Bool} {n i : Nat} (hi : i < listed.size) : left (listed.setIfInBounds i true) n = (left listed n).erase i := by
  rw [(left_nodup listed n).erase_eq_filter, left, left, List.filter_filter]
  apply List.filter_congr
  intro k hk
  by_cases e : k = i
  · subst e
    simp [hi]
  · rw [getD_set_ne true (Ne.symm e)]
    simp [e]
theorem left_out {listed : Array Bool} {n i : Nat} (hi : n ≤ i) : left (listed.setIfInBounds i true) n = left listed n := by
  rw [left, left]
  apply List.filter_congr
  intro k hk
  rw [getD_set_ne true (by have := List.mem_range.1 hk; omega)]

theorem tmps_put_ne {a : Act} {x : Option Tmp} {v : Value} {d : Tmp} (h : x ≠ some d) : (a.put x v).tmps[d]? = a.tmps[d]? := by
  cases x with
  | none => rfl
  | some e =>
    have : e ≠ d := fun h2 => h (by rw [h2])
    simp [Act.put, Array.getElem?_setIfInBounds_ne this]
theorem size_put (a : Act) (x : Option Tmp) (v : Value) : (a.put x v).tmps.size = a.tmps.size := by
  cases x <;> simp [Act.put]

theorem wp_of_quietAt {o : Oper} {a : Act} {w : World} {v : Value} {K : Act → World → Prop} {Q' : Exit → Act → World → Prop} (h : o.quietAt P a (fun w' => ∃ y : Past w, w' = y.w) w v)
    (hK : ∀ w', Below w.heap.size w w' → K (a.put o.dst v) w') : o.wp P a w K Q' := by
  unfold Oper.quietAt at h
  unfold Oper.wp
  generalize (execOp a.eval o).run P w = r at *
  cases r with
  | ok n w' =>
    cases n <;> simp only [Oper.quietUpon] at h <;> simp only [Oper.upon]
    case value u =>
      obtain ⟨e1, e2⟩ := h
      rw [e1, e2]
      exact hK _ (Below.refl _ _)
    case skip =>
      obtain ⟨e1, e2⟩ := h
      rw [e1, ← e2]
      exact hK _ (Below.refl _ _)
    case enter f args =>
      obtain ⟨e1, hc⟩ := h
      rw [e1]
      exact hc.mono fun e w'' ⟨he, y, hy⟩ => by subst he; rw [hy]; exact hK _ y.h
  | halt x w' => simp only [Oper.quietUpon] at h

/-- A new variable of one type, whatever the frame and the world. -/
def NewAt (P : Program) (ops : Array Oper) (z : Nat → Array Value) (N : Nat) (j : Nat) : Prop :=
  ∃ o d t, ops[j]? = some o ∧ o.dst = some d ∧ o.guard = none ∧ d < N ∧ ∀ a w, (execOp (Act.eval a) o).run P w = .ok (.value (.pointer (some ⟨w.heap.size, 0, none⟩))) (w.alloc (.cells (z j) t))

theorem listed_eq {N : Nat} {listed : Array Bool} {p : Nat → Bool} (hs : listed.size = N) (h : ∀ i, i < N → listed.getD i true = p i) : listed = (Array.range N).map p := by
  apply Array.ext
  · simp [hs]
  · intro i h1 h2
    have h3 := h i (by omega)
    simp [h1] at h3
    simp [h3]

theorem wpAny_free {n m l N : Nat} {z : Nat → Array Value} {W0 : World} {Q1 : Act → Prop} {Q' : Exit → Act → World → Prop} (F : Free ops n m l) (hal : ∀ j, n ≤ j → j < m → NewAt P ops z N j)
    (hT : ∀ a w bs, Below W0.heap.size W0 w → NewVars ops n m z W0.heap.size ((Array.range ops.size).map fun i => decide (i < m)) bs a w → Q1 a → wpList P ops Q' (ops.toList.drop m) a w)
    (hL : ∀ a w bs, l < n → Below W0.heap.size W0 w → NewVars ops n m z W0.heap.size ((Array.range ops.size).map fun i => decide (i < m) && i != l) bs a w → wpHead P ops W0 (slots Q1 ((List.range' n (m - n)).map fun j => (ops[j]?).bind (·.dst))) [l] a →
      wpAny P .any ops Q' (1 + (ops.size - m)) ((Array.range ops.size).map fun i => decide (i < m) && i != l) a w) :
    ∀ (f : Nat) (listed : Array Bool) (a : Act) (w : World) (bs : Nat → Nat), Closed ops listed → listed.size = ops.size → a.tmps.size = N → (left listed m).length = f → (∀ t, m ≤ t → t < ops.size → listed.getD t true = false) →
      Below W0.heap.size W0 w → NewVars ops n m z W0.heap.size listed bs a w → wpHead P ops W0 (slots Q1 ((List.range' n (m - n)).map fun j => (ops[j]?).bind (·.dst))) (left listed n) a →
      wpAny P .any ops Q' (f + (ops.size - m)) listed a w
  | 0, listed, a, w, bs, hcl, hs, hN, hf, ht, hb, hv, hh => by
    have hall : ∀ i, i < m → listed.getD i true = true := fun i hi => by
      cases h : listed.getD i true with
      | true => rfl
      | false =>
        have := mem_left.2 ⟨hi, h⟩
        rw [List.eq_nil_of_length_eq_zero hf] at this
        cases this
    have hle : listed = (Array.range ops.size).map fun i => decide (i < m) := listed_eq hs fun i hi => by
      by_cases him : i < m
      · simp [hall i him, him]
      · simp [ht i (by omega) hi, him]
    have hnil : left listed n = [] := by
      apply List.eq_nil_iff_forall_not_mem.2
      intro i hi
      obtain ⟨h1, h2⟩ := mem_left.1 hi
      rw [hall i (Nat.lt_of_lt_of_le h1 F.nm)] at h2
      cases h2
    rw [hnil] at hh
    subst hle
    rw [Nat.zero_add]
    have hlen : (ops.toList.drop m).length = ops.size - m := by simp
    have := wpAny_of_seq (P := P) (ops := ops) (md := .any) (Q' := Q') (ops.toList.drop m) m ((Array.range ops.size).map fun i => decide (i < m)) a w (fun j => by simp) (by rw [hlen]; exact F.seq) (hT a w bs hb hv (slots_end _ _ hh))
    rw [hlen] at this
    exact this
  | f + 1, listed, a, w, bs, hcl, hs, hN, hf, ht, hb, hv, hh => by
    have hne : ∃ i, i < m ∧ listed.getD i true = false := by
      cases hl : left listed m with
      | nil => rw [hl] at hf; cases hf
      | cons i r => exact ⟨i, mem_left.1 (by rw [hl]; simp)⟩
    have hready : ∃ i, i ∈ Region.ready .any ops listed := by
      have : ∀ k i, i < k → i < m → listed.getD i true = false → ∃ j, j ∈ Region.ready .any ops listed := by
        intro k
        induction k with
        | zero => intro i hi; omega
        | succ k ih =>
          intro i hik him hun
          have hsz : i < ops.size := Nat.lt_of_lt_of_le him F.size
          by_cases hd : ∀ e ∈ (ops[i]).after, Region.binds .any e = true → listed.getD e.on false = true
          · exact ⟨i, mem_ready.2 ⟨hun, ops[i], Array.getElem?_eq_getElem hsz, hd⟩⟩
          · obtain ⟨e, he⟩ := Classical.not_forall.1 hd
            obtain ⟨he1, he2⟩ := Classical.not_imp.1 he
            obtain ⟨he2, he3⟩ := Classical.not_imp.1 he2
            have hlt := F.deps i _ him (Array.getElem?_eq_getElem hsz) e he1 he2
            have hun2 : listed.getD e.on true = false := by
              rw [← getD_flip (by omega)]
              simpa using he3
            exact ih e.on (by omega) (by omega) hun2
      obtain ⟨i, him, hun⟩ := hne
      exact this (i + 1) i (by omega) him hun
    by_cases hcore : ∃ k, k < m ∧ k ≠ l ∧ listed.getD k true = false
    case neg =>
      have honly : ∀ k, k < m → k ≠ l → listed.getD k true = true := fun k h1 h2 => by
        cases h : listed.getD k true with
        | true => rfl
        | false => exact absurd ⟨k, h1, h2, h⟩ hcore
      obtain ⟨i, him, hun⟩ := hne
      have hil : i = l := by
        by_cases e : i = l
        · exact e
        · rw [honly i him e] at hun; cases hun
      subst hil
      have hin : i < n := by
        rcases F.late with h | h
        · exact h
        · have := F.size; omega
      have hle : listed = (Array.range ops.size).map fun k => decide (k < m) && k != i := listed_eq hs fun k hk => by
        by_cases e : k = i
        · subst e; simp [hun]
        · by_cases hkm : k < m
          · simp [honly k hkm e, hkm, e]
          · simp [ht k (by omega) hk, hkm]
      have hone : ∀ q, i < q → q ≤ m → left listed q = [i] := fun q h1 h2 => by
        have hnd := left_nodup listed q
        have hmem : ∀ k, k ∈ left listed q ↔ k = i := fun k => by
          rw [mem_left]
          refine ⟨fun ⟨h3, h4⟩ => ?_, fun e => by subst e; exact ⟨h1, hun⟩⟩
          by_cases e : k = i
          · exact e
          · rw [honly k (by omega) e] at h4; cases h4
        revert hnd hmem
        generalize left listed q = L
        intro hnd hmem
        match L, hnd, hmem with
        | [], _, hmem => exact absurd ((hmem i).2 rfl) (by simp)
        | [x], _, hmem => rw [(hmem x).1 (by simp)]
        | x :: y :: r, hnd, hmem =>
          have hx := (hmem x).1 (by simp)
          have hy := (hmem y).1 (by simp)
          simp [hx, hy] at hnd
      have hf1 : f = 0 := by
        rw [hone m him (Nat.le_refl _)] at hf
        simpa using hf.symm
      subst hf1
      rw [hone n hin F.nm] at hh
      subst hle
      exact hL a w bs hin hb hv hh
    rw [show f + 1 + (ops.size - m) = (f + (ops.size - m)) + 1 by omega]
    refine ⟨(fun h0 => by obtain ⟨i, hi⟩ := hready; rw [h0] at hi; cases hi), fun i hi => ?_⟩
    obtain ⟨hun, oi, hoi, hall⟩ := mem_ready.1 hi
    have hisz : i < ops.size := (Array.getElem?_eq_some_iff.1 hoi).1
    have him : i < m := by
      rcases Nat.lt_or_ge i m with h | h
      · exact h
      · obtain ⟨k, hkm, hkl, hk⟩ := hcore
        have := waits2_listed hcl hs hi (F.tail i k h hisz hkm hkl)
        rw [getD_flip (by have := F.size; omega), hk] at this
        cases this
    have hapart : ∀ k ∈ left listed n, k < i → apartAt ops k i := fun k hk hki => by
      obtain ⟨h1, h2⟩ := mem_left.1 hk
      rcases F.apart i k him hki with h | h
      · have := waits_listed hi h
        rw [getD_flip (by omega), h2] at this
        cases this
      · exact h
    have hcount : (left (listed.setIfInBounds i true) m).length = f := by
      rw [left_set (by omega), List.length_erase_of_mem (mem_left.2 ⟨him, hun⟩), hf]
      rfl
    have htail : ∀ t, m ≤ t → t < ops.size → (listed.setIfInBounds i true).getD t true = false := fun t h1 h2 => by
      rw [getD_set_ne true (by omega)]
      exact ht t h1 h2
    unfold wpOp
    simp only [hoi]
    by_cases hin : i < n
    · obtain ⟨v, hy, hrest⟩ := wpHead_take F.sel hoi (left listed n) a (left_sorted _ _) (mem_left.2 ⟨hin, hun⟩) hapart hh
      have hstep : ∀ w', Below w.heap.size w w' → wpAny P .any ops Q' (f + (ops.size - m)) (listed.setIfInBounds i true) (a.put oi.dst v) w' := fun w' hw => by
        refine wpAny_free F hal hT hL f _ _ w' bs (hcl.step hi) (by simpa using hs) ((size_put _ _ _).trans hN) hcount htail (below_past hb hw hb.size) ⟨fun j h1 h2 h3 => ?_, fun j h1 h2 h3 => ?_, fun j k h1 h2 h3 h4 h5 h6 => ?_⟩ ?_
        · rw [getD_set_ne true (by omega)] at h3
          obtain ⟨o, ho, d, hd, hs2⟩ := hv.slot j h1 h2 h3
          refine ⟨o, ho, d, hd, ?_⟩
          rw [tmps_put_ne (fun e => F.dst j i oi o d h2 him (by omega) hoi ho e hd)]
          exact hs2
        · rw [getD_set_ne true (by omega)] at h3
          obtain ⟨h4, h5⟩ := hv.row j h1 h2 h3
          exact ⟨rowAt_past hw h4, h5⟩
        · rw [getD_set_ne true (by omega)] at h3 h6
          exact hv.other j k h1 h2 h3 h4 h5 h6
        · rw [left_set (by omega)]
          exact hrest
      rcases hy with ⟨hw1, hw2⟩ | ⟨hw1, rfl⟩
      · rw [if_pos hw1]
        exact .inl (wp_of_quietAt (hw2 ⟨w, hb⟩) hstep)
      · rw [if_neg (by rw [hw1]; exact Bool.false_ne_true)]
        exact hstep w (Below.refl _ _)
    · obtain ⟨o, d, t, ho, hd, hg, hdN, hrun⟩ := hal i (by omega) him
      obtain rfl : o = oi := Option.some.inj (ho.symm.trans hoi)
      rw [if_pos (by simp [Region.wanted, hg])]
      left
      unfold Oper.wp
      rw [hrun a w]
      simp only [Oper.upon]
      have hba : Below w.heap.size w (w.alloc (.cells (z i) t)) := (Below.refl _ _).alloc (Nat.le_refl _) _
      refine wpAny_free F hal hT hL f _ _ _ (fun j => if j = i then w.heap.size else bs j) (hcl.step hi) (by simpa using hs) ((size_put _ _ _).trans hN) hcount htail (below_past hb hba hb.size) ⟨fun j h1 h2 h3 => ?_, fun j h1 h2 h3 => ?_, fun j k h1 h2 h3 h4 h5 h6 hjk => ?_⟩ ?_
      · by_cases e : j = i
        · subst e
          refine ⟨o, ho, d, hd, ?_⟩
          rw [hd, if_pos rfl]
          simp [Act.put, hN, hdN]
        · rw [getD_set_ne true (Ne.symm e)] at h3
          obtain ⟨o2, ho2, d2, hd2, hs2⟩ := hv.slot j h1 h2 h3
          refine ⟨o2, ho2, d2, hd2, ?_⟩
          rw [if_neg e, tmps_put_ne (fun e3 => F.dst j i o o2 d2 h2 him (Ne.symm e) ho ho2 e3 hd2)]
          exact hs2
      · by_cases e : j = i
        · subst e
          simp only [if_pos]
          exact ⟨rowAt_alloc_at _ _ _ _ rfl, hb.size⟩
        · rw [getD_set_ne true (Ne.symm e)] at h3
          obtain ⟨h4, h5⟩ := hv.row j h1 h2 h3
          simp only [if_neg e]
          exact ⟨rowAt_past hba h4, h5⟩
      · by_cases e : j = i
        · subst e
          have hk : listed.getD k true = true := by rwa [getD_set_ne true hjk] at h6
          have := lt_of_rowAt (hv.row k h4 h5 hk).1
          simp only [if_pos, if_neg (Ne.symm hjk)]
          omega
        · by_cases e2 : k = i
          · subst e2
            have hj : listed.getD j true = true := by rwa [getD_set_ne true (Ne.symm e)] at h3
            have := lt_of_rowAt (hv.row j h1 h2 hj).1
            simp only [if_neg e, if_pos]
            omega
          · rw [getD_set_ne true (Ne.symm e)] at h3
            rw [getD_set_ne true (Ne.symm e2)] at h6
            simp only [if_neg e, if_neg e2]
            exact hv.other j k h1 h2 h3 h4 h5 h6 hjk
      · rw [left_out (by omega)]
        refine wpHead_put F.sel ho (fun a ha => slots_put _ _ _ ?_ ha) _ _ (fun k hk => hapart k hk (by have := (mem_left.1 hk).1; omega)) hh
        rw [List.mem_map]
        exact ⟨i, by rw [List.mem_range'_1]; omega, by rw [ho]; rfl⟩

theorem unlisted (l : List Oper) (k : Nat) (hk : k < l.toArray.size) : (Array.replicate l.toArray.size false).getD k true = false := by
  have : k < l.length := by simpa using hk
  simp [this]
theorem left_all (l : List Oper) (k : Nat) (hk : k ≤ l.toArray.size) : left (Array.replicate l.toArray.size false) k = List.range k := by
  rw [left, List.filter_eq_self]
  intro i hi
  rw [unlisted l i (by have := List.mem_range.1 hi; omega)]
  rfl

/-- THE LAW. What the tail is given: the new variables, each zero, in blocks of their own; below them all is as it was. -/
theorem wp_region_free {id n m : Nat} {z : Nat → Array Value} {Q : Exit → Act → World → Prop} {a : Act} {w : World} {l : List Oper} (Q1 : Act → Prop) (hm : P.follows .mixedOrders = true) (hB : freeB l.toArray n m = true)
    (hal : ∀ j, n ≤ j → j < m → NewAt P l.toArray z a.tmps.size j)
    (hh : wpHead P l.toArray w (slots Q1 ((List.range' n (m - n)).map fun j => (l.toArray[j]?).bind (·.dst))) (List.range n) a)
    (hT : ∀ a' w' bs, Below w.heap.size w w' → NewVars l.toArray n m z w.heap.size ((Array.range l.toArray.size).map fun i => decide (i < m)) bs a' w' → Q1 a' → wpList P l.toArray Q (l.toArray.toList.drop m) a' w') :
    (Code.region id l.toArray true).wp P Q a w := by
  have F := Free.of_check hB
  have hb : Below w.heap.size w w.drew := (Below.refl _ _).drew
  refine wp_region_any hm ?_
  have := wpAny_free (W0 := w) F hal hT (fun _ _ _ h => by have := F.nm; have := F.size; omega) m (Array.replicate l.toArray.size false) a w.drew (fun _ => 0) (fun q _ hq h _ => by rw [unlisted l q hq] at h; cases h) (by simp) rfl (by rw [left_all l m F.size]; simp) (fun t _ h2 => unlisted l t h2) hb
    ⟨(fun j _ h2 h3 => by rw [unlisted l j (by have := F.size; omega)] at h3; cases h3), (fun j _ h2 h3 => by rw [unlisted l j (by have := F.size; omega)] at h3; cases h3), (fun j k _ h2 h3 => by rw [unlisted l j (by have := F.size; omega)] at h3; cases h3)⟩
    (by rw [left_all l n (by have := F.nm; have := F.size; omega)]; exact hh)
  rw [show m + (l.toArray.size - m) = l.toArray.size by have := F.size; omega] at this
  exact this

/-- A last operation of the head that the tail's first, a store, doesn't wait for. -/
def lateB (ops : Array Oper) (n m l : Nat) : Bool :=
  freeB ops n m l && decide (ops.size = m + 2) && decide (l < n) && waits ops (m + 1) m && waits ops (m + 1) l &&
  (match ops[l]?, ops[m]?, ops[m + 1]? with
  | some ol, some st, some o2 => st.dst.isNone && st.guard.isNone && o2.guard.isNone && (match ol.dst with | some d => !(st.looksAt ops).contains d | none => true) | _, _, _ => false) &&
  Region.seqB .any ops 1 (m + 1) ((Array.range ops.size).map fun i => decide (i < m + 1))

theorem wp_region_late {id n m k : Nat} {z : Nat → Array Value} {Q : Exit → Act → World → Prop} {a : Act} {w : World} {l : List Oper} (Q1 : Act → Prop) (hm : P.follows .mixedOrders = true) (hB : lateB l.toArray n m k = true)
    (hal : ∀ j, n ≤ j → j < m → NewAt P l.toArray z a.tmps.size j)
    (hh : wpHead P l.toArray w (slots Q1 ((List.range' n (m - n)).map fun j => (l.toArray[j]?).bind (·.dst))) (List.range n) a)
    (hS : ∀ a' w' bs st o2, l.toArray[m]? = some st → l.toArray[m + 1]? = some o2 → Below w.heap.size w w' → NewVars l.toArray n m z w.heap.size ((Array.range l.toArray.size).map fun i => decide (i < m)) bs a' w' → Q1 a' →
      ∃ w2, (execOp a'.eval st).run P w' = .ok .skip w2 ∧ Below w.heap.size w' w2 ∧ ∀ w3, Below w2.heap.size w2 w3 → wpList P l.toArray Q [o2] a' w3) :
    (Code.region id l.toArray true).wp P Q a w := by
  simp only [lateB, Bool.and_eq_true, decide_eq_true_eq] at hB
  obtain ⟨⟨⟨⟨⟨⟨hF, hsz⟩, hkn⟩, hw1⟩, hw2⟩, hmatch⟩, hseq⟩ := hB
  have F := Free.of_check hF
  have hnm := F.nm
  obtain ⟨ol, hol⟩ : ∃ o, l.toArray[k]? = some o := ⟨_, Array.getElem?_eq_getElem (by omega)⟩
  obtain ⟨st, hst⟩ : ∃ o, l.toArray[m]? = some o := ⟨_, Array.getElem?_eq_getElem (by omega)⟩
  obtain ⟨o2, ho2⟩ : ∃ o, l.toArray[m + 1]? = some o := ⟨_, Array.getElem?_eq_getElem (by omega)⟩
  rw [hol, hst, ho2] at hmatch
  simp only [Bool.and_eq_true, Option.isNone_iff_eq_none] at hmatch
  obtain ⟨⟨⟨hsd, hsg⟩, h2g⟩, hlook⟩ := hmatch
  have hlook' : ∀ d, ol.dst = some d → d ∉ st.looksAt l.toArray := fun d hd => by
    rw [hd] at hlook
    simpa using hlook
  have hdrop : l.toArray.toList.drop m = [st, o2] := by
    apply List.ext_getElem?
    intro i
    rw [List.getElem?_drop]
    match i with
    | 0 => simpa using hst
    | 1 => simpa using ho2
    | i + 2 =>
      have h0 : l.toArray.size = l.length := by simp
      have h1 : l.length ≤ m + (i + 2) := by omega
      simp [h1]
  have hdrop1 : l.toArray.toList.drop (m + 1) = [o2] := by
    have : l.toArray.toList.drop (m + 1) = (l.toArray.toList.drop m).drop 1 := by rw [List.drop_drop]
    rw [this, hdrop]
    rfl
  have ws' : ∀ tmps, Region.wanted st (yielded l.toArray tmps) = true := fun tmps => by simp [Region.wanted, hsg]
  have hT : ∀ a' w' bs, Below w.heap.size w w' → NewVars l.toArray n m z w.heap.size ((Array.range l.toArray.size).map fun i => decide (i < m)) bs a' w' → Q1 a' → wpList P l.toArray Q (l.toArray.toList.drop m) a' w' := fun a' w' bs h1 h2 h3 => by
    obtain ⟨w2, hr, _, h4⟩ := hS a' w' bs st o2 hst ho2 h1 h2 h3
    rw [hdrop]
    unfold wpList
    rw [if_pos (ws' _)]
    left
    unfold Oper.wp
    rw [hr]
    simp only [Oper.upon, hsd]
    exact h4 _ (Below.refl _ _)
  have hb : Below w.heap.size w w.drew := (Below.refl _ _).drew
  have hselk := F.sel
  refine wp_region_any hm ?_
  have := wpAny_free (W0 := w) F hal hT ?hL m (Array.replicate l.toArray.size false) a w.drew (fun _ => 0) (fun q _ hq h _ => by rw [unlisted l q hq] at h; cases h) (by simp) rfl (by rw [left_all l m F.size]; simp) (fun t _ h2 => unlisted l t h2) hb
    ⟨(fun j _ h2 h3 => by rw [unlisted l j (by have := F.size; omega)] at h3; cases h3), (fun j _ h2 h3 => by rw [unlisted l j (by have := F.size; omega)] at h3; cases h3), (fun j k _ h2 h3 => by rw [unlisted l j (by have := F.size; omega)] at h3; cases h3)⟩
    (by rw [left_all l n (by have := F.nm; have := F.size; omega)]; exact hh)
  · rw [show m + (l.toArray.size - m) = l.toArray.size by have := F.size; omega] at this
    exact this
  case hL =>
    intro a' w' bs _ hb' hv hone
    obtain ⟨o, v, ho, hy, hq⟩ := hone
    obtain rfl : o = ol := Option.some.inj (ho.symm.trans hol)
    have hfull : NewVars l.toArray n m z w.heap.size ((Array.range l.toArray.size).map fun i => decide (i < m)) bs (a'.put o.dst v) w' := by
      have hg : ∀ j, n ≤ j → j < m → ((Array.range l.toArray.size).map fun i => decide (i < m) && i != k).getD j true = true := fun j h1 h2 => by
        have h3 : j < l.length := by have : l.toArray.size = l.length := by simp
                                     omega
        have : j ≠ k := by omega
        simp [h3, h2, this]
      refine ⟨fun j h1 h2 _ => ?_, fun j h1 h2 _ => hv.row j h1 h2 (hg j h1 h2), fun j q h1 h2 _ h4 h5 _ hjq => hv.other j q h1 h2 (hg j h1 h2) h4 h5 (hg q h4 h5) hjq⟩
      obtain ⟨oj, hoj, d, hd, hs2⟩ := hv.slot j h1 h2 (hg j h1 h2)
      refine ⟨oj, hoj, d, hd, ?_⟩
      rw [tmps_put_ne (fun e => F.dst j k o oj d h2 (by omega) (by omega) hol hoj e hd)]
      exact hs2
    have hQ1 : Q1 (a'.put o.dst v) := slots_end _ _ hq
    have hrd : ∀ listed : Array Bool, listed.size = l.toArray.size → (∀ i, i < m → i ≠ k → listed.getD i true = true) → listed.getD k true = false → k ∈ Region.ready .any l.toArray listed := fun listed hs h1 h2 => by
      refine mem_ready.2 ⟨h2, o, hol, fun e he hbd => ?_⟩
      have hlt := F.deps k o (by omega) hol e he hbd
      rw [getD_flip (by omega)]
      exact h1 e.on (by omega) (by omega)
    rw [show 1 + (l.toArray.size - m) = 2 + 1 by omega]
    have hsz' : l.length = m + 2 := by simpa using hsz
    have hlist : ∀ (p : Nat → Bool) i, i < m + 2 → ((Array.range l.toArray.size).map p).getD i true = p i := fun p i hi => by
      have : i < l.length := by omega
      simp [this]
    have hkr : k ∈ Region.ready .any l.toArray ((Array.range l.toArray.size).map fun i => decide (i < m) && i != k) :=
      hrd _ (by simp) (fun i h1 h2 => by rw [hlist _ i (by omega)]; simp [h1, h2]) (by rw [hlist _ k (by omega)]; simp)
    refine ⟨(fun h0 => by rw [h0] at hkr; cases hkr), fun i hi => ?_⟩
    obtain ⟨hun, oi, hoi, hall⟩ := mem_ready.1 hi
    have hisz : i < m + 2 := by have := (Array.getElem?_eq_some_iff.1 hoi).1; omega
    rw [hlist _ i hisz] at hun
    have hne : i ≠ m + 1 := fun e => by
      subst e
      have := waits_listed hi hw1
      rw [getD_flip (by simp; omega), hlist _ m (by omega)] at this
      simp at this
    unfold wpOp
    simp only [hoi]
    by_cases him : i = m
    · subst him
      obtain rfl : st = oi := Option.some.inj (hst.symm.trans hoi)
      obtain ⟨w2, hr, hb2, h4⟩ := hS _ w' bs st o2 hst ho2 hb' hfull hQ1
      rw [if_pos (ws' _)]
      left
      rw [execOp_put (ops := l.toArray) st (hselk i st · · hst) a' o.dst v hlook'] at hr
      unfold Oper.wp
      rw [hr]
      simp only [Oper.upon, hsd]
      have hset : ((Array.range l.toArray.size).map fun j => decide (j < i) && j != k).setIfInBounds i true = (Array.range l.toArray.size).map fun j => decide (j < i + 1) && j != k := listed_eq (by simp) fun j hj => by
        by_cases e : j = i
        · subst e
          have : j ≠ k := by omega
          have : j < l.length := by omega
          simp [*]
        · rw [getD_set_ne true (Ne.symm e), hlist _ j (by omega)]
          have : (j < i + 1) ↔ (j < i) := by omega
          simp [this]
      rw [hset]
      show wpAny P .any l.toArray Q (1 + 1) _ a' w2
      have hkr2 : k ∈ Region.ready .any l.toArray ((Array.range l.toArray.size).map fun j => decide (j < i + 1) && j != k) :=
        hrd _ (by simp) (fun j h1 h2 => by rw [hlist _ j (by omega)]; simp [h2]; omega) (by rw [hlist _ k (by omega)]; simp)
      refine ⟨(fun h0 => by rw [h0] at hkr2; cases hkr2), fun j hj => ?_⟩
      obtain ⟨hun3, oj, hoj, _⟩ := mem_ready.1 hj
      have hjsz : j < i + 2 := by have := (Array.getElem?_eq_some_iff.1 hoj).1; omega
      have hjk : j = k := by
        by_cases e : j = i + 1
        · subst e
          have := waits_listed hj hw2
          rw [getD_flip (by simp; omega), hlist _ k (by omega)] at this
          simp at this
        · rw [hlist _ j hjsz] at hun3
          have : j < i + 1 := by omega
          simpa [this] using hun3
      subst hjk
      unfold wpOp
      simp only [hol]
      have hset2 : ((Array.range l.toArray.size).map fun q => decide (q < i + 1) && q != j).setIfInBounds j true = (Array.range l.toArray.size).map fun q => decide (q < i + 1) := listed_eq (by simp) fun q hq => by
        by_cases e : q = j
        · subst e
          have : q < l.length := by omega
          have : q < i + 1 := by omega
          simp [*]
        · rw [getD_set_ne true (Ne.symm e), hlist _ q (by omega)]
          simp [e]
      rw [hset2]
      have hlast : ∀ w3, Below w2.heap.size w2 w3 → wpAny P .any l.toArray Q 1 ((Array.range l.toArray.size).map fun q => decide (q < i + 1)) (a'.put o.dst v) w3 := fun w3 h5 => by
        have := wpAny_of_seq (P := P) (ops := l.toArray) (md := .any) (Q' := Q) (l.toArray.toList.drop (i + 1)) (i + 1) ((Array.range l.toArray.size).map fun q => decide (q < i + 1)) (a'.put o.dst v) w3 (fun j => by simp) (by rw [hdrop1]; exact hseq)
          (by rw [hdrop1]; exact h4 w3 h5)
        rw [hdrop1] at this
        exact this
      rcases hy with ⟨hy1, hy2⟩ | ⟨hy1, rfl⟩
      · rw [if_pos hy1]
        exact .inl (wp_of_quietAt (hy2 ⟨w2, hb'.trans hb2⟩) hlast)
      · rw [if_neg (by rw [hy1]; exact Bool.false_ne_true)]
        exact hlast w2 (Below.refl _ _)
    · have hik : i = k := by
        have : i < m := by omega
        simpa [this] using hun
      subst hik
      obtain rfl : o = oi := Option.some.inj (hol.symm.trans hoi)
      have hset : ((Array.range l.toArray.size).map fun j => decide (j < m) && j != i).setIfInBounds i true = (Array.range l.toArray.size).map fun j => decide (j < m) := listed_eq (by simp) fun j hj => by
        by_cases e : j = i
        · subst e
          have : j < l.length := by omega
          have : j < m := by omega
          simp [*]
        · rw [getD_set_ne true (Ne.symm e), hlist _ j (by omega)]
          simp [e]
      rw [hset]
      have hlast : ∀ w3, Below w'.heap.size w' w3 → wpAny P .any l.toArray Q 2 ((Array.range l.toArray.size).map fun q => decide (q < m)) (a'.put o.dst v) w3 := fun w3 h5 => by
        have hv3 : NewVars l.toArray n m z w.heap.size ((Array.range l.toArray.size).map fun i => decide (i < m)) bs (a'.put o.dst v) w3 :=
          ⟨hfull.slot, fun j h1 h2 h3 => ⟨rowAt_past h5 (hfull.row j h1 h2 h3).1, (hfull.row j h1 h2 h3).2⟩, hfull.other⟩
        have := wpAny_of_seq (P := P) (ops := l.toArray) (md := .any) (Q' := Q) (l.toArray.toList.drop m) m ((Array.range l.toArray.size).map fun q => decide (q < m)) (a'.put o.dst v) w3 (fun j => by simp)
          (by rw [hdrop]; have := F.seq; rwa [show l.toArray.size - m = 2 by omega] at this) (hT _ w3 bs (below_past hb' h5 hb'.size) hv3 hQ1)
        rw [hdrop] at this
        exact this
      rcases hy with ⟨hy1, hy2⟩ | ⟨hy1, rfl⟩
      · rw [if_pos hy1]
        exact .inl (wp_of_quietAt (hy2 ⟨w', hb'⟩) hlast)
      · rw [if_neg (by rw [hy1]; exact Bool.false_ne_true)]
        exact hlast w' (Below.refl _ _)
end
end Go.Proofs.Ytfklhkephdnhaaa
