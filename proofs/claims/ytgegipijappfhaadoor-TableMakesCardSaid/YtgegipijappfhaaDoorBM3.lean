/- Texts that the next ones stand on: Free, Wild, Ents2, Toks, Ents5. -/
import Derived.Test.YtgegipijappfhaaDoorBM2
import Derived.StillTail
import Derived.Deep.RegionLaw
import Derived.Lib.Bytealg
import Derived.Deep.QuietTactic
import Derived.BigQuiet
import Derived.OwnWalk
namespace Go.Proofs.YtgegipijappfhaaDoor
open Go Go.RowKit

section
variable {P : Program} {ops : Array Oper}

/-- ONE VALUE, in every world in which W lies; a callee leaves what it found. -/
def YieldsS (P : Program) (ops : Array Oper) (W : World) (o : Oper) (v : Value) (a : Act) : Prop :=
  (Region.wanted o (yielded ops a.tmps) = true ∧ ∀ x : Past W, o.quietAt P a (fun w' => ∃ y : Past x.w, w' = y.w) x.w v) ∨
  (Region.wanted o (yielded ops a.tmps) = false ∧ v = undef)

theorem YieldsS.put {W : World} {o : Oper} {v u : Value} {a : Act} {dst : Option Tmp} (hs : ∀ cs b, o.op ≠ .select cs b) (hd : ∀ d, dst = some d → d ∉ o.looksAt ops) :
    YieldsS P ops W o v (a.put dst u) ↔ YieldsS P ops W o v a := by
  unfold YieldsS Oper.quietAt
  rw [execOp_put o hs a dst u hd, wanted_put o a dst u hd]
theorem YieldsS.past {W W' : World} {o : Oper} {v : Value} {a : Act} (hb : Below W.heap.size W W') (h : YieldsS P ops W o v a) : YieldsS P ops W' o v a := by
  rcases h with ⟨h1, h2⟩ | h
  · exact .inl ⟨h1, fun x => h2 ⟨x.w, Below.step hb x.h⟩⟩
  · exact .inr h

/-- What is left of the head, in the order of the text. -/
def wpHead (P : Program) (ops : Array Oper) (W : World) (Qh : Act → Prop) : List Nat → Act → Prop
  | [], a => Qh a
  | i :: is, a => ∃ o v, ops[i]? = some o ∧ YieldsS P ops W o v a ∧ wpHead P ops W Qh is (a.put o.dst v)

theorem wpHead_past {W W' : World} {Qh : Act → Prop} (hb : Below W.heap.size W W') : ∀ (is : List Nat) (a : Act), wpHead P ops W Qh is a → wpHead P ops W' Qh is a
  | [], _, h => h
  | _ :: is, _, ⟨o, v, h1, h2, h3⟩ => ⟨o, v, h1, h2.past hb, wpHead_past hb is _ h3⟩

def apartAt (ops : Array Oper) (i j : Nat) : Prop := ∀ oi oj, ops[i]? = some oi → ops[j]? = some oj → oi.apart ops oj = true

theorem wpHead_take {W : World} {Qh : Act → Prop} (hsel : ∀ (j : Nat) (o : Oper) cs b, ops[j]? = some o → o.op ≠ .select cs b) {j : Nat} {oj : Oper} (hj : ops[j]? = some oj) :
    ∀ (is : List Nat) (a : Act), is.Pairwise (· < ·) → j ∈ is → (∀ k ∈ is, k < j → apartAt ops k j) → wpHead P ops W Qh is a →
      ∃ v, YieldsS P ops W oj v a ∧ wpHead P ops W Qh (is.erase j) (a.put oj.dst v)
  | i :: is, a, hp, hm, hap, ⟨o, v, h1, h2, h3⟩ => by
    by_cases hij : i = j
    · subst hij
      obtain rfl : o = oj := Option.some.inj (h1.symm.trans hj)
      exact ⟨v, h2, by simpa using h3⟩
    · have hm' : j ∈ is := by
        rcases List.mem_cons.1 hm with e | e
        · exact absurd e.symm hij
        · exact e
      have hlt : i < j := (List.pairwise_cons.1 hp).1 j hm'
      obtain ⟨u, y1, y2⟩ := wpHead_take hsel hj is (a.put o.dst v) (List.pairwise_cons.1 hp).2 hm' (fun k hk => hap k (List.mem_cons_of_mem _ hk)) h3
      obtain ⟨s1, s2, s3⟩ := Oper.apart_spec (hap i (by simp) hlt o oj h1 hj)
      refine ⟨u, (YieldsS.put (hsel j oj · · hj) s1).1 y1, ?_⟩
      rw [List.erase_cons_tail (by simpa using hij)]
      refine ⟨o, v, h1, (YieldsS.put (hsel i o · · h1) s3).2 h2, ?_⟩
      rw [← Act.put_comm a v u s2]
      exact y2
  | [], _, _, hm, _, _ => by cases hm

theorem wpHead_put {W : World} {Qh : Act → Prop} (hsel : ∀ (j : Nat) (o : Oper) cs b, ops[j]? = some o → o.op ≠ .select cs b) {j : Nat} {oj : Oper} (hj : ops[j]? = some oj) {u : Value}
    (hQ : ∀ a, Qh a → Qh (a.put oj.dst u)) : ∀ (is : List Nat) (a : Act), (∀ k ∈ is, apartAt ops k j) → wpHead P ops W Qh is a → wpHead P ops W Qh is (a.put oj.dst u)
  | [], _, _, h => hQ _ h
  | i :: is, a, hap, ⟨o, v, h1, h2, h3⟩ => by
    obtain ⟨s1, s2, s3⟩ := Oper.apart_spec (hap i (by simp) o oj h1 hj)
    refine ⟨o, v, h1, (YieldsS.put (hsel i o · · h1) s3).2 h2, ?_⟩
    rw [← Act.put_comm a v u s2]
    exact wpHead_put hsel hj hQ is _ (fun k hk => hap k (List.mem_cons_of_mem _ hk)) h3

theorem wpHead_step {W : World} {Qh : Act → Prop} {i : Nat} {is : List Nat} {a : Act} {o : Oper} (ho : ops[i]? = some o)
    (h : ∀ K : Act → Prop, (∀ a, wpHead P ops W Qh is a → K a) → if Region.wanted o (yielded ops a.tmps) then ∃ v, (∀ x : Past W, o.quietAt P a (fun w' => ∃ y : Past x.w, w' = y.w) x.w v) ∧ K (a.put o.dst v) else K (a.put o.dst undef)) : wpHead P ops W Qh (i :: is) a := by
  have h1 := h _ fun _ h => h
  by_cases hw : Region.wanted o (yielded ops a.tmps) = true
  · rw [if_pos hw] at h1
    obtain ⟨v, h2, h3⟩ := h1
    exact ⟨o, v, ho, .inl ⟨hw, h2⟩, h3⟩
  · rw [if_neg hw] at h1
    exact ⟨o, undef, ho, .inr ⟨by simpa using hw, rfl⟩, h1⟩
theorem call_yields {x : World} {f : FuncId} {args : Array Value} {v : Value} (h : Calls P f args x fun e w' => e = .returned v ∧ Below x.heap.size x w') : Calls P f args x fun e w'' => e = .returned v ∧ ∃ y : Past x, w'' = y.w :=
  h.mono fun _ w'' ⟨he, hb⟩ => ⟨he, ⟨w'', hb⟩, rfl⟩
/-- A frame, but for some slots. -/
def atS (lit : Act) : List (Option Tmp) → Act → Prop
  | [], a => a = lit
  | d :: ds, a => ∃ v, atS (lit.put d v) ds a

/-- The head's end, whatever lies in the new variables' slots. -/
def slots (Q1 : Act → Prop) : List (Option Tmp) → Act → Prop
  | [], a => Q1 a
  | d :: ds, a => ∀ v, slots Q1 ds (a.put d v)
theorem put_put (a : Act) (d : Option Tmp) (u v : Value) : (a.put d u).put d v = a.put d v := by
  cases d with
  | none => rfl
  | some d =>
    simp only [Act.put]
    congr 1
    apply Array.ext_getElem?
    intro i
    simp only [Array.getElem?_setIfInBounds, Array.size_setIfInBounds]
    split <;> rfl
theorem put_comm' (a : Act) (d e : Option Tmp) (u v : Value) (h : d ≠ e) : (a.put d u).put e v = (a.put e v).put d u :=
  Act.put_comm a u v (fun _ hx hy => h (hx.trans hy.symm))
theorem slots_put {Q1 : Act → Prop} {d : Option Tmp} (u : Value) : ∀ (ds : List (Option Tmp)) (a : Act), d ∈ ds → slots Q1 ds a → slots Q1 ds (a.put d u)
  | e :: ds, a, hm, h => fun v => by
    by_cases hde : d = e
    · subst hde
      rw [put_put]
      exact h v
    · rw [put_comm' a d e u v hde]
      refine slots_put u ds _ ?_ (h v)
      rcases List.mem_cons.1 hm with e2 | e2
      · exact absurd e2 hde
      · exact e2
  | [], _, hm, _ => by cases hm
theorem put_self (a : Act) (d : Option Tmp) : ∃ v, a.put d v = a := by
  cases d with
  | none => exact ⟨undef, rfl⟩
  | some d =>
    refine ⟨a.tmps.getD d undef, ?_⟩
    have e : a.tmps.setIfInBounds d (a.tmps.getD d undef) = a.tmps := by
      apply Array.ext_getElem?
      intro i
      simp only [Array.getElem?_setIfInBounds]
      split
      · rename_i hi
        subst hi
        split
        · rename_i hlt; simp [hlt]
        · rename_i hlt; simp [hlt]
      · rfl
    show ({ a with tmps := a.tmps.setIfInBounds d (a.tmps.getD d undef) } : Act) = a
    rw [e]
theorem slots_mono {Q1 Q2 : Act → Prop} (h : ∀ a, Q1 a → Q2 a) : ∀ (ds : List (Option Tmp)) (a : Act), slots Q1 ds a → slots Q2 ds a
  | [], _, hs => h _ hs
  | _ :: ds, _, hs => fun v => slots_mono h ds _ (hs v)
theorem slots_atS : ∀ (ds : List (Option Tmp)) (lit : Act), slots (atS lit ds) ds lit
  | [], _ => rfl
  | d :: ds, lit => fun v => slots_mono (fun _ h => ⟨v, h⟩) ds _ (slots_atS ds (lit.put d v))
theorem slots_end {Q1 : Act → Prop} : ∀ (ds : List (Option Tmp)) (a : Act), slots Q1 ds a → Q1 a
  | [], _, h => h
  | d :: ds, a, h => by
    obtain ⟨v, hv⟩ := put_self a d
    have := slots_end ds _ (h v)
    rwa [hv] at this

def waits (ops : Array Oper) (j k : Nat) : Bool := Region.waitsFor .any ops j k
/-- .. or for one that waits for it. -/
def waits2 (ops : Array Oper) (j k : Nat) : Bool := waits ops j k || (List.range ops.size).any fun q => waits ops j q && waits ops q k
/-- What is listed had all it waits for listed. -/
def Closed (ops : Array Oper) (listed : Array Bool) : Prop := ∀ q k, q < ops.size → listed.getD q true = true → waits ops q k = true → listed.getD k false = true
/-- n operations that read or call, then new variables up to m, then a tail. -/
def freeB (ops : Array Oper) (n m : Nat) (l : Nat := ops.size) : Bool :=
  Region.noSelect ops && decide (n ≤ m) && decide (m ≤ ops.size) &&
  ((List.range m).all fun j => match ops[j]? with | some o => o.after.all (fun e => !Region.binds .any e || decide (e.on < j)) | none => false) &&
  ((List.range m).all fun j => (List.range m).all fun k => !decide (k < j) || waits ops j k || (match ops[k]?, ops[j]? with | some x, some y => x.apart ops y | _, _ => false)) &&
  ((List.range ops.size).all fun t => decide (t < m) || (List.range m).all fun k => k == l || waits2 ops t k) &&
  ((List.range m).all fun j => (List.range m).all fun k => k == j || (match ops[k]?, ops[j]? with | some x, some y => x.dst.isNone || x.dst != y.dst | _, _ => false)) &&
  Region.seqB .any ops (ops.size - m) m ((Array.range ops.size).map fun i => decide (i < m)) && (decide (l < n) || decide (ops.size ≤ l))

structure Free (ops : Array Oper) (n m l : Nat) : Prop where
  sel : ∀ (j : Nat) (o : Oper) cs b, ops[j]? = some o → o.op ≠ .select cs b
  nm : n ≤ m
  size : m ≤ ops.size
  deps : ∀ j o, j < m → ops[j]? = some o → ∀ e ∈ o.after, Region.binds .any e = true → e.on < j
  apart : ∀ j k, j < m → k < j → waits ops j k = true ∨ apartAt ops k j
  tail : ∀ t k, m ≤ t → t < ops.size → k < m → k ≠ l → waits2 ops t k = true
  dst : ∀ j k x y d, j < m → k < m → k ≠ j → ops[k]? = some x → ops[j]? = some y → x.dst = some d → y.dst ≠ some d
  seq : Region.seqB .any ops (ops.size - m) m ((Array.range ops.size).map fun i => decide (i < m)) = true
  late : l < n ∨ ops.size ≤ l
theorem Free.of_check {n m l : Nat} (h : freeB ops n m l = true) : Free ops n m l := by
  simp only [freeB, Bool.and_eq_true, decide_eq_true_eq, List.all_eq_true, List.mem_range] at h
  obtain ⟨⟨⟨⟨⟨⟨⟨⟨h1, h2⟩, h3⟩, h4⟩, h5⟩, h6⟩, h7⟩, h8⟩, h9⟩ := h
  refine ⟨Region.noSelect_spec h1, h2, h3, fun j o hj ho e he hb => ?_, fun j k hj hk => ?_, fun t k ht hts hk hkl => ?_, fun j k x y d hj hk hne hx hy hd hy2 => ?_, h8, by simpa using h9⟩
  · have := h4 j hj
    rw [ho] at this
    have := Array.all_eq_true_iff_forall_mem.1 this e he
    simpa [hb] using this
  · have := h5 j hj k (by omega)
    simp only [Bool.or_eq_true, Bool.not_eq_true', decide_eq_false_iff_not] at this
    rcases this with (h | h) | h
    · omega
    · exact .inl h
    · right
      intro oi oj hi hj2
      rw [hi, hj2] at h
      exact h
  · have := h6 t hts
    simp only [Bool.or_eq_true, decide_eq_true_eq, List.all_eq_true, List.mem_range] at this
    rcases this with h | h
    · omega
    · have := h k hk
      simpa [hkl] using this
  · have := h7 j hj k hk
    rw [hx, hy] at this
    simp [hne, hd, hy2] at this
theorem waits_listed {listed : Array Bool} {j k : Nat} (hr : j ∈ Region.ready .any ops listed) (hw : waits ops j k = true) : listed.getD k false = true := by
  obtain ⟨o, ho, e, he, hb, hon⟩ := Region.waitsFor_spec hw
  obtain ⟨_, o2, ho2, hall⟩ := mem_ready.1 hr
  obtain rfl : o = o2 := Option.some.inj (ho.symm.trans ho2)
  rw [← hon]
  exact hall e he hb
theorem waits2_listed {listed : Array Bool} {j k : Nat} (hc : Closed ops listed) (hs : listed.size = ops.size) (hr : j ∈ Region.ready .any ops listed) (hw : waits2 ops j k = true) : listed.getD k false = true := by
  simp only [waits2, Bool.or_eq_true, List.any_eq_true, List.mem_range, Bool.and_eq_true] at hw
  rcases hw with h | ⟨q, hq, h1, h2⟩
  · exact waits_listed hr h
  · refine hc q k hq ?_ h2
    have := waits_listed hr h1
    have hqs : q < listed.size := by omega
    simpa [hqs] using this
theorem Closed.step {listed : Array Bool} {i : Nat} (hc : Closed ops listed) (hr : i ∈ Region.ready .any ops listed) : Closed ops (listed.setIfInBounds i true) := fun q k hq h1 h2 => by
  have : listed.getD k false = true := by
    by_cases e : q = i
    · subst e
      exact waits_listed hr h2
    · rw [getD_set_ne true (Ne.symm e)] at h1
      exact hc q k hq h1 h2
  by_cases e : k = i
  · subst e
    by_cases hk : k < listed.size
    · simp [hk]
    · simp [hk] at this
  · rw [getD_set_ne false (Ne.symm e)]
    exact this
theorem getD_flip {listed : Array Bool} {k : Nat} (hk : k < listed.size) : listed.getD k false = listed.getD k true := by
  simp [hk]

/-- What each new variable is: its slot's block, its cells. -/
structure NewVars (ops : Array Oper) (n m : Nat) (z : Nat → Array Value) (B : Nat) (listed : Array Bool) (bs : Nat → Nat) (a : Act) (w : World) : Prop where
  slot : ∀ j, n ≤ j → j < m → listed.getD j true = true → ∃ o, ops[j]? = some o ∧ ∃ d, o.dst = some d ∧ a.tmps[d]? = some (.pointer (some ⟨bs j, 0, none⟩))
  row : ∀ j, n ≤ j → j < m → listed.getD j true = true → rowAt w (bs j) = some (z j) ∧ B ≤ bs j
  other : ∀ j k, n ≤ j → j < m → listed.getD j true = true → n ≤ k → k < m → listed.getD k true = true → j ≠ k → bs j ≠ bs k

def left (listed : Array Bool) (n : Nat) : List Nat := (List.range n).filter fun i => !listed.getD i true
theorem mem_left {listed : Array Bool} {n i : Nat} : i ∈ left listed n ↔ i < n ∧ listed.getD i true = false := by
  simp [left]
theorem left_sorted (listed : Array Bool) (n : Nat) : (left listed n).Pairwise (· < ·) := List.Pairwise.filter _ List.pairwise_lt_range
theorem left_nodup (listed : Array Bool) (n : Nat) : (left listed n).Nodup := (left_sorted listed n).imp fun h => Nat.ne_of_lt h
theorem left_set {listed : Array Bool} {n i : Nat} (hi : i < listed.size) : left (listed.setIfInBounds i true) n = (left listed n).erase i := by
  rw [(left_nodup listed n).erase_eq_filter, left, left, List.filter_filter]
  apply List.filter_congr
  intro k hk
  by_cases e : k = i
  · subst e
    simp [hi]
  · rw [getD_set_ne true (Ne.symm e)]
    simp [e]
theorem left_out {listed : Array Bool} {n i : Nat} (hi : n ≤ i) : left (listed.setIfInBounds i true) n = left listed n := by
  rw [left, left]
  apply List.filter_congr
  intro k hk
  rw [getD_set_ne true (by have := List.mem_range.1 hk; omega)]

theorem tmps_put_ne {a : Act} {x : Option Tmp} {v : Value} {d : Tmp} (h : x ≠ some d) : (a.put x v).tmps[d]? = a.tmps[d]? := by
  cases x with
  | none => rfl
  | some e =>
    have : e ≠ d := fun h2 => h (by rw [h2])
    simp [Act.put, Array.getElem?_setIfInBounds_ne this]
theorem size_put (a : Act) (x : Option Tmp) (v : Value) : (a.put x v).tmps.size = a.tmps.size := by
  cases x <;> simp [Act.put]

theorem wp_of_quietAt {o : Oper} {a : Act} {w : World} {v : Value} {K : Act → World → Prop} {Q' : Exit → Act → World → Prop} (h : o.quietAt P a (fun w' => ∃ y : Past w, w' = y.w) w v)
    (hK : ∀ w', Below w.heap.size w w' → K (a.put o.dst v) w') : o.wp P a w K Q' := by
  unfold Oper.quietAt at h
  unfold Oper.wp
  generalize (execOp a.eval o).run P w = r at *
  cases r with
  | ok n w' =>
    cases n <;> simp only [Oper.quietUpon] at h <;> simp only [Oper.upon]
    case value u =>
      obtain ⟨e1, e2⟩ := h
      rw [e1, e2]
      exact hK _ (Below.refl _ _)
    case skip =>
      obtain ⟨e1, e2⟩ := h
      rw [e1, ← e2]
      exact hK _ (Below.refl _ _)
    case enter f args =>
      obtain ⟨e1, hc⟩ := h
      rw [e1]
      exact hc.mono fun e w'' ⟨he, y, hy⟩ => by subst he; rw [hy]; exact hK _ y.h
  | halt x w' => simp only [Oper.quietUpon] at h

/-- A new variable of one type, whatever the frame and the world. -/
def NewAt (P : Program) (ops : Array Oper) (z : Nat → Array Value) (N : Nat) (j : Nat) : Prop :=
  ∃ o d t, ops[j]? = some o ∧ o.dst = some d ∧ o.guard = none ∧ d < N ∧ ∀ a w, (execOp (Act.eval a) o).run P w = .ok (.value (.pointer (some ⟨w.heap.size, 0, none⟩))) (w.alloc (.cells (z j) t))

theorem listed_eq {N : Nat} {listed : Array Bool} {p : Nat → Bool} (hs : listed.size = N) (h : ∀ i, i < N → listed.getD i true = p i) : listed = (Array.range N).map p := by
  apply Array.ext
  · simp [hs]
  · intro i h1 h2
    have h3 := h i (by omega)
    simp [h1] at h3
    simp [h3]

theorem wpAny_free {n m l N : Nat} {z : Nat → Array Value} {W0 : World} {Q1 : Act → Prop} {Q' : Exit → Act → World → Prop} (F : Free ops n m l) (hal : ∀ j, n ≤ j → j < m → NewAt P ops z N j)
    (hT : ∀ a w bs, Below W0.heap.size W0 w → NewVars ops n m z W0.heap.size ((Array.range ops.size).map fun i => decide (i < m)) bs a w → Q1 a → wpList P ops Q' (ops.toList.drop m) a w)
    (hL : ∀ a w bs, l < n → Below W0.heap.size W0 w → NewVars ops n m z W0.heap.size ((Array.range ops.size).map fun i => decide (i < m) && i != l) bs a w → wpHead P ops W0 (slots Q1 ((List.range' n (m - n)).map fun j => (ops[j]?).bind (·.dst))) [l] a →
      wpAny P .any ops Q' (1 + (ops.size - m)) ((Array.range ops.size).map fun i => decide (i < m) && i != l) a w) :
    ∀ (f : Nat) (listed : Array Bool) (a : Act) (w : World) (bs : Nat → Nat), Closed ops listed → listed.size = ops.size → a.tmps.size = N → (left listed m).length = f → (∀ t, m ≤ t → t < ops.size → listed.getD t true = false) →
      Below W0.heap.size W0 w → NewVars ops n m z W0.heap.size listed bs a w → wpHead P ops W0 (slots Q1 ((List.range' n (m - n)).map fun j => (ops[j]?).bind (·.dst))) (left listed n) a →
      wpAny P .any ops Q' (f + (ops.size - m)) listed a w
  | 0, listed, a, w, bs, hcl, hs, hN, hf, ht, hb, hv, hh => by
    have hall : ∀ i, i < m → listed.getD i true = true := fun i hi => by
      cases h : listed.getD i true with
      | true => rfl
      | false =>
        have := mem_left.2 ⟨hi, h⟩
        rw [List.eq_nil_of_length_eq_zero hf] at this
        cases this
    have hle : listed = (Array.range ops.size).map fun i => decide (i < m) := listed_eq hs fun i hi => by
      by_cases him : i < m
      · simp [hall i him, him]
      · simp [ht i (by omega) hi, him]
    have hnil : left listed n = [] := by
      apply List.eq_nil_iff_forall_not_mem.2
      intro i hi
      obtain ⟨h1, h2⟩ := mem_left.1 hi
      rw [hall i (Nat.lt_of_lt_of_le h1 F.nm)] at h2
      cases h2
    rw [hnil] at hh
    subst hle
    rw [Nat.zero_add]
    have hlen : (ops.toList.drop m).length = ops.size - m := by simp
    have := wpAny_of_seq (P := P) (ops := ops) (md := .any) (Q' := Q') (ops.toList.drop m) m ((Array.range ops.size).map fun i => decide (i < m)) a w (fun j => by simp) (by rw [hlen]; exact F.seq) (hT a w bs hb hv (slots_end _ _ hh))
    rw [hlen] at this
    exact this
  | f + 1, listed, a, w, bs, hcl, hs, hN, hf, ht, hb, hv, hh => by
    have hne : ∃ i, i < m ∧ listed.getD i true = false := by
      cases hl : left listed m with
      | nil => rw [hl] at hf; cases hf
      | cons i r => exact ⟨i, mem_left.1 (by rw [hl]; simp)⟩
    have hready : ∃ i, i ∈ Region.ready .any ops listed := by
      have : ∀ k i, i < k → i < m → listed.getD i true = false → ∃ j, j ∈ Region.ready .any ops listed := by
        intro k
        induction k with
        | zero => intro i hi; omega
        | succ k ih =>
          intro i hik him hun
          have hsz : i < ops.size := Nat.lt_of_lt_of_le him F.size
          by_cases hd : ∀ e ∈ (ops[i]).after, Region.binds .any e = true → listed.getD e.on false = true
          · exact ⟨i, mem_ready.2 ⟨hun, ops[i], Array.getElem?_eq_getElem hsz, hd⟩⟩
          · obtain ⟨e, he⟩ := Classical.not_forall.1 hd
            obtain ⟨he1, he2⟩ := Classical.not_imp.1 he
            obtain ⟨he2, he3⟩ := Classical.not_imp.1 he2
            have hlt := F.deps i _ him (Array.getElem?_eq_getElem hsz) e he1 he2
            have hun2 : listed.getD e.on true = false := by
              rw [← getD_flip (by omega)]
              simpa using he3
            exact ih e.on (by omega) (by omega) hun2
      obtain ⟨i, him, hun⟩ := hne
      exact this (i + 1) i (by omega) him hun
    by_cases hcore : ∃ k, k < m ∧ k ≠ l ∧ listed.getD k true = false
    case neg =>
      have honly : ∀ k, k < m → k ≠ l → listed.getD k true = true := fun k h1 h2 => by
        cases h : listed.getD k true with
        | true => rfl
        | false => exact absurd ⟨k, h1, h2, h⟩ hcore
      obtain ⟨i, him, hun⟩ := hne
      have hil : i = l := by
        by_cases e : i = l
        · exact e
        · rw [honly i him e] at hun; cases hun
      subst hil
      have hin : i < n := by
        rcases F.late with h | h
        · exact h
        · have := F.size; omega
      have hle : listed = (Array.range ops.size).map fun k => decide (k < m) && k != i := listed_eq hs fun k hk => by
        by_cases e : k = i
        · subst e; simp [hun]
        · by_cases hkm : k < m
          · simp [honly k hkm e, hkm, e]
          · simp [ht k (by omega) hk, hkm]
      have hone : ∀ q, i < q → q ≤ m → left listed q = [i] := fun q h1 h2 => by
        have hnd := left_nodup listed q
        have hmem : ∀ k, k ∈ left listed q ↔ k = i := fun k => by
          rw [mem_left]
          refine ⟨fun ⟨h3, h4⟩ => ?_, fun e => by subst e; exact ⟨h1, hun⟩⟩
          by_cases e : k = i
          · exact e
          · rw [honly k (by omega) e] at h4; cases h4
        revert hnd hmem
        generalize left listed q = L
        intro hnd hmem
        match L, hnd, hmem with
        | [], _, hmem => exact absurd ((hmem i).2 rfl) (by simp)
        | [x], _, hmem => rw [(hmem x).1 (by simp)]
        | x :: y :: r, hnd, hmem =>
          have hx := (hmem x).1 (by simp)
          have hy := (hmem y).1 (by simp)
          simp [hx, hy] at hnd
      have hf1 : f = 0 := by
        rw [hone m him (Nat.le_refl _)] at hf
        simpa using hf.symm
      subst hf1
      rw [hone n hin F.nm] at hh
      subst hle
      exact hL a w bs hin hb hv hh
    rw [show f + 1 + (ops.size - m) = (f + (ops.size - m)) + 1 by omega]
    refine ⟨(fun h0 => by obtain ⟨i, hi⟩ := hready; rw [h0] at hi; cases hi), fun i hi => ?_⟩
    obtain ⟨hun, oi, hoi, hall⟩ := mem_ready.1 hi
    have hisz : i < ops.size := (Array.getElem?_eq_some_iff.1 hoi).1
    have him : i < m := by
      rcases Nat.lt_or_ge i m with h | h
      · exact h
      · obtain ⟨k, hkm, hkl, hk⟩ := hcore
        have := waits2_listed hcl hs hi (F.tail i k h hisz hkm hkl)
        rw [getD_flip (by have := F.size; omega), hk] at this
        cases this
    have hapart : ∀ k ∈ left listed n, k < i → apartAt ops k i := fun k hk hki => by
      obtain ⟨h1, h2⟩ := mem_left.1 hk
      rcases F.apart i k him hki with h | h
      · have := waits_listed hi h
        rw [getD_flip (by omega), h2] at this
        cases this
      · exact h
    have hcount : (left (listed.setIfInBounds i true) m).length = f := by
      rw [left_set (by omega), List.length_erase_of_mem (mem_left.2 ⟨him, hun⟩), hf]
      rfl
    have htail : ∀ t, m ≤ t → t < ops.size → (listed.setIfInBounds i true).getD t true = false := fun t h1 h2 => by
      rw [getD_set_ne true (by omega)]
      exact ht t h1 h2
    unfold wpOp
    simp only [hoi]
    by_cases hin : i < n
    · obtain ⟨v, hy, hrest⟩ := wpHead_take F.sel hoi (left listed n) a (left_sorted _ _) (mem_left.2 ⟨hin, hun⟩) hapart hh
      have hstep : ∀ w', Below w.heap.size w w' → wpAny P .any ops Q' (f + (ops.size - m)) (listed.setIfInBounds i true) (a.put oi.dst v) w' := fun w' hw => by
        refine wpAny_free F hal hT hL f _ _ w' bs (hcl.step hi) (by simpa using hs) ((size_put _ _ _).trans hN) hcount htail (below_past hb hw hb.size) ⟨fun j h1 h2 h3 => ?_, fun j h1 h2 h3 => ?_, fun j k h1 h2 h3 h4 h5 h6 => ?_⟩ ?_
        · rw [getD_set_ne true (by omega)] at h3
          obtain ⟨o, ho, d, hd, hs2⟩ := hv.slot j h1 h2 h3
          refine ⟨o, ho, d, hd, ?_⟩
          rw [tmps_put_ne (fun e => F.dst j i oi o d h2 him (by omega) hoi ho e hd)]
          exact hs2
        · rw [getD_set_ne true (by omega)] at h3
          obtain ⟨h4, h5⟩ := hv.row j h1 h2 h3
          exact ⟨rowAt_past hw h4, h5⟩
        · rw [getD_set_ne true (by omega)] at h3 h6
          exact hv.other j k h1 h2 h3 h4 h5 h6
        · rw [left_set (by omega)]
          exact hrest
      rcases hy with ⟨hw1, hw2⟩ | ⟨hw1, rfl⟩
      · rw [if_pos hw1]
        exact .inl (wp_of_quietAt (hw2 ⟨w, hb⟩) hstep)
      · rw [if_neg (by rw [hw1]; exact Bool.false_ne_true)]
        exact hstep w (Below.refl _ _)
    · obtain ⟨o, d, t, ho, hd, hg, hdN, hrun⟩ := hal i (by omega) him
      obtain rfl : o = oi := Option.some.inj (ho.symm.trans hoi)
      rw [if_pos (by simp [Region.wanted, hg])]
      left
      unfold Oper.wp
      rw [hrun a w]
      simp only [Oper.upon]
      have hba : Below w.heap.size w (w.alloc (.cells (z i) t)) := (Below.refl _ _).alloc (Nat.le_refl _) _
      refine wpAny_free F hal hT hL f _ _ _ (fun j => if j = i then w.heap.size else bs j) (hcl.step hi) (by simpa using hs) ((size_put _ _ _).trans hN) hcount htail (below_past hb hba hb.size) ⟨fun j h1 h2 h3 => ?_, fun j h1 h2 h3 => ?_, fun j k h1 h2 h3 h4 h5 h6 hjk => ?_⟩ ?_
      · by_cases e : j = i
        · subst e
          refine ⟨o, ho, d, hd, ?_⟩
          rw [hd, if_pos rfl]
          simp [Act.put, hN, hdN]
        · rw [getD_set_ne true (Ne.symm e)] at h3
          obtain ⟨o2, ho2, d2, hd2, hs2⟩ := hv.slot j h1 h2 h3
          refine ⟨o2, ho2, d2, hd2, ?_⟩
          rw [if_neg e, tmps_put_ne (fun e3 => F.dst j i o o2 d2 h2 him (Ne.symm e) ho ho2 e3 hd2)]
          exact hs2
      · by_cases e : j = i
        · subst e
          simp only [if_pos]
          exact ⟨rowAt_alloc_at _ _ _ _ rfl, hb.size⟩
        · rw [getD_set_ne true (Ne.symm e)] at h3
          obtain ⟨h4, h5⟩ := hv.row j h1 h2 h3
          simp only [if_neg e]
          exact ⟨rowAt_past hba h4, h5⟩
      · by_cases e : j = i
        · subst e
          have hk : listed.getD k true = true := by rwa [getD_set_ne true hjk] at h6
          have := lt_of_rowAt (hv.row k h4 h5 hk).1
          simp only [if_pos, if_neg (Ne.symm hjk)]
          omega
        · by_cases e2 : k = i
          · subst e2
            have hj : listed.getD j true = true := by rwa [getD_set_ne true (Ne.symm e)] at h3
            have := lt_of_rowAt (hv.row j h1 h2 hj).1
            simp only [if_neg e, if_pos]
            omega
          · rw [getD_set_ne true (Ne.symm e)] at h3
            rw [getD_set_ne true (Ne.symm e2)] at h6
            simp only [if_neg e, if_neg e2]
            exact hv.other j k h1 h2 h3 h4 h5 h6 hjk
      · rw [left_out (by omega)]
        refine wpHead_put F.sel ho (fun a ha => slots_put _ _ _ ?_ ha) _ _ (fun k hk => hapart k hk (by have := (mem_left.1 hk).1; omega)) hh
        rw [List.mem_map]
        exact ⟨i, by rw [List.mem_range'_1]; omega, by rw [ho]; rfl⟩

theorem unlisted (l : List Oper) (k : Nat) (hk : k < l.toArray.size) : (Array.replicate l.toArray.size false).getD k true = false := by
  have : k < l.length := by simpa using hk
  simp [this]
theorem left_all (l : List Oper) (k : Nat) (hk : k ≤ l.toArray.size) : left (Array.replicate l.toArray.size false) k = List.range k := by
  rw [left, List.filter_eq_self]
  intro i hi
  rw [unlisted l i (by have := List.mem_range.1 hi; omega)]
  rfl

/-- THE LAW. What the tail is given: the new variables, each zero, in blocks of their own; below them all is as it was. -/
theorem wp_region_free {id n m : Nat} {z : Nat → Array Value} {Q : Exit → Act → World → Prop} {a : Act} {w : World} {l : List Oper} (Q1 : Act → Prop) (hm : P.follows .mixedOrders = true) (hB : freeB l.toArray n m = true)
    (hal : ∀ j, n ≤ j → j < m → NewAt P l.toArray z a.tmps.size j)
    (hh : wpHead P l.toArray w (slots Q1 ((List.range' n (m - n)).map fun j => (l.toArray[j]?).bind (·.dst))) (List.range n) a)
    (hT : ∀ a' w' bs, Below w.heap.size w w' → NewVars l.toArray n m z w.heap.size ((Array.range l.toArray.size).map fun i => decide (i < m)) bs a' w' → Q1 a' → wpList P l.toArray Q (l.toArray.toList.drop m) a' w') :
    (Code.region id l.toArray true).wp P Q a w := by
  have F := Free.of_check hB
  have hb : Below w.heap.size w w.drew := (Below.refl _ _).drew
  refine wp_region_any hm ?_
  have := wpAny_free (W0 := w) F hal hT (fun _ _ _ h => by have := F.nm; have := F.size; omega) m (Array.replicate l.toArray.size false) a w.drew (fun _ => 0) (fun q _ hq h _ => by rw [unlisted l q hq] at h; cases h) (by simp) rfl (by rw [left_all l m F.size]; simp) (fun t _ h2 => unlisted l t h2) hb
    ⟨(fun j _ h2 h3 => by rw [unlisted l j (by have := F.size; omega)] at h3; cases h3), (fun j _ h2 h3 => by rw [unlisted l j (by have := F.size; omega)] at h3; cases h3), (fun j k _ h2 h3 => by rw [unlisted l j (by have := F.size; omega)] at h3; cases h3)⟩
    (by rw [left_all l n (by have := F.nm; have := F.size; omega)]; exact hh)
  rw [show m + (l.toArray.size - m) = l.toArray.size by have := F.size; omega] at this
  exact this

/-- A last operation of the head that the tail's first, a store, doesn't wait for. -/
def lateB (ops : Array Oper) (n m l : Nat) : Bool :=
  freeB ops n m l && decide (ops.size = m + 2) && decide (l < n) && waits ops (m + 1) m && waits ops (m + 1) l &&
  (match ops[l]?, ops[m]?, ops[m + 1]? with
  | some ol, some st, some o2 => st.dst.isNone && st.guard.isNone && o2.guard.isNone && (match ol.dst with | some d => !(st.looksAt ops).contains d | none => true) | _, _, _ => false) &&
  Region.seqB .any ops 1 (m + 1) ((Array.range ops.size).map fun i => decide (i < m + 1))

theorem wp_region_late {id n m k : Nat} {z : Nat → Array Value} {Q : Exit → Act → World → Prop} {a : Act} {w : World} {l : List Oper} (Q1 : Act → Prop) (hm : P.follows .mixedOrders = true) (hB : lateB l.toArray n m k = true)
    (hal : ∀ j, n ≤ j → j < m → NewAt P l.toArray z a.tmps.size j)
    (hh : wpHead P l.toArray w (slots Q1 ((List.range' n (m - n)).map fun j => (l.toArray[j]?).bind (·.dst))) (List.range n) a)
    (hS : ∀ a' w' bs st o2, l.toArray[m]? = some st → l.toArray[m + 1]? = some o2 → Below w.heap.size w w' → NewVars l.toArray n m z w.heap.size ((Array.range l.toArray.size).map fun i => decide (i < m)) bs a' w' → Q1 a' →
      ∃ w2, (execOp a'.eval st).run P w' = .ok .skip w2 ∧ Below w.heap.size w' w2 ∧ ∀ w3, Below w2.heap.size w2 w3 → wpList P l.toArray Q [o2] a' w3) :
    (Code.region id l.toArray true).wp P Q a w := by
  simp only [lateB, Bool.and_eq_true, decide_eq_true_eq] at hB
  obtain ⟨⟨⟨⟨⟨⟨hF, hsz⟩, hkn⟩, hw1⟩, hw2⟩, hmatch⟩, hseq⟩ := hB
  have F := Free.of_check hF
  have hnm := F.nm
  obtain ⟨ol, hol⟩ : ∃ o, l.toArray[k]? = some o := ⟨_, Array.getElem?_eq_getElem (by omega)⟩
  obtain ⟨st, hst⟩ : ∃ o, l.toArray[m]? = some o := ⟨_, Array.getElem?_eq_getElem (by omega)⟩
  obtain ⟨o2, ho2⟩ : ∃ o, l.toArray[m + 1]? = some o := ⟨_, Array.getElem?_eq_getElem (by omega)⟩
  rw [hol, hst, ho2] at hmatch
  simp only [Bool.and_eq_true, Option.isNone_iff_eq_none] at hmatch
  obtain ⟨⟨⟨hsd, hsg⟩, h2g⟩, hlook⟩ := hmatch
  have hlook' : ∀ d, ol.dst = some d → d ∉ st.looksAt l.toArray := fun d hd => by
    rw [hd] at hlook
    simpa using hlook
  have hdrop : l.toArray.toList.drop m = [st, o2] := by
    apply List.ext_getElem?
    intro i
    rw [List.getElem?_drop]
    match i with
    | 0 => simpa using hst
    | 1 => simpa using ho2
    | i + 2 =>
      have h0 : l.toArray.size = l.length := by simp
      have h1 : l.length ≤ m + (i + 2) := by omega
      simp [h1]
  have hdrop1 : l.toArray.toList.drop (m + 1) = [o2] := by
    have : l.toArray.toList.drop (m + 1) = (l.toArray.toList.drop m).drop 1 := by rw [List.drop_drop]
    rw [this, hdrop]
    rfl
  have ws' : ∀ tmps, Region.wanted st (yielded l.toArray tmps) = true := fun tmps => by simp [Region.wanted, hsg]
  have hT : ∀ a' w' bs, Below w.heap.size w w' → NewVars l.toArray n m z w.heap.size ((Array.range l.toArray.size).map fun i => decide (i < m)) bs a' w' → Q1 a' → wpList P l.toArray Q (l.toArray.toList.drop m) a' w' := fun a' w' bs h1 h2 h3 => by
    obtain ⟨w2, hr, _, h4⟩ := hS a' w' bs st o2 hst ho2 h1 h2 h3
    rw [hdrop]
    unfold wpList
    rw [if_pos (ws' _)]
    left
    unfold Oper.wp
    rw [hr]
    simp only [Oper.upon, hsd]
    exact h4 _ (Below.refl _ _)
  have hb : Below w.heap.size w w.drew := (Below.refl _ _).drew
  have hselk := F.sel
  refine wp_region_any hm ?_
  have := wpAny_free (W0 := w) F hal hT ?hL m (Array.replicate l.toArray.size false) a w.drew (fun _ => 0) (fun q _ hq h _ => by rw [unlisted l q hq] at h; cases h) (by simp) rfl (by rw [left_all l m F.size]; simp) (fun t _ h2 => unlisted l t h2) hb
    ⟨(fun j _ h2 h3 => by rw [unlisted l j (by have := F.size; omega)] at h3; cases h3), (fun j _ h2 h3 => by rw [unlisted l j (by have := F.size; omega)] at h3; cases h3), (fun j k _ h2 h3 => by rw [unlisted l j (by have := F.size; omega)] at h3; cases h3)⟩
    (by rw [left_all l n (by have := F.nm; have := F.size; omega)]; exact hh)
  · rw [show m + (l.toArray.size - m) = l.toArray.size by have := F.size; omega] at this
    exact this
  case hL =>
    intro a' w' bs _ hb' hv hone
    obtain ⟨o, v, ho, hy, hq⟩ := hone
    obtain rfl : o = ol := Option.some.inj (ho.symm.trans hol)
    have hfull : NewVars l.toArray n m z w.heap.size ((Array.range l.toArray.size).map fun i => decide (i < m)) bs (a'.put o.dst v) w' := by
      have hg : ∀ j, n ≤ j → j < m → ((Array.range l.toArray.size).map fun i => decide (i < m) && i != k).getD j true = true := fun j h1 h2 => by
        have h3 : j < l.length := by have : l.toArray.size = l.length := by simp
                                     omega
        have : j ≠ k := by omega
        simp [h3, h2, this]
      refine ⟨fun j h1 h2 _ => ?_, fun j h1 h2 _ => hv.row j h1 h2 (hg j h1 h2), fun j q h1 h2 _ h4 h5 _ hjq => hv.other j q h1 h2 (hg j h1 h2) h4 h5 (hg q h4 h5) hjq⟩
      obtain ⟨oj, hoj, d, hd, hs2⟩ := hv.slot j h1 h2 (hg j h1 h2)
      refine ⟨oj, hoj, d, hd, ?_⟩
      rw [tmps_put_ne (fun e => F.dst j k o oj d h2 (by omega) (by omega) hol hoj e hd)]
      exact hs2
    have hQ1 : Q1 (a'.put o.dst v) := slots_end _ _ hq
    have hrd : ∀ listed : Array Bool, listed.size = l.toArray.size → (∀ i, i < m → i ≠ k → listed.getD i true = true) → listed.getD k true = false → k ∈ Region.ready .any l.toArray listed := fun listed hs h1 h2 => by
      refine mem_ready.2 ⟨h2, o, hol, fun e he hbd => ?_⟩
      have hlt := F.deps k o (by omega) hol e he hbd
      rw [getD_flip (by omega)]
      exact h1 e.on (by omega) (by omega)
    rw [show 1 + (l.toArray.size - m) = 2 + 1 by omega]
    have hsz' : l.length = m + 2 := by simpa using hsz
    have hlist : ∀ (p : Nat → Bool) i, i < m + 2 → ((Array.range l.toArray.size).map p).getD i true = p i := fun p i hi => by
      have : i < l.length := by omega
      simp [this]
    have hkr : k ∈ Region.ready .any l.toArray ((Array.range l.toArray.size).map fun i => decide (i < m) && i != k) :=
      hrd _ (by simp) (fun i h1 h2 => by rw [hlist _ i (by omega)]; simp [h1, h2]) (by rw [hlist _ k (by omega)]; simp)
    refine ⟨(fun h0 => by rw [h0] at hkr; cases hkr), fun i hi => ?_⟩
    obtain ⟨hun, oi, hoi, hall⟩ := mem_ready.1 hi
    have hisz : i < m + 2 := by have := (Array.getElem?_eq_some_iff.1 hoi).1; omega
    rw [hlist _ i hisz] at hun
    have hne : i ≠ m + 1 := fun e => by
      subst e
      have := waits_listed hi hw1
      rw [getD_flip (by simp; omega), hlist _ m (by omega)] at this
      simp at this
    unfold wpOp
    simp only [hoi]
    by_cases him : i = m
    · subst him
      obtain rfl : st = oi := Option.some.inj (hst.symm.trans hoi)
      obtain ⟨w2, hr, hb2, h4⟩ := hS _ w' bs st o2 hst ho2 hb' hfull hQ1
      rw [if_pos (ws' _)]
      left
      rw [execOp_put (ops := l.toArray) st (hselk i st · · hst) a' o.dst v hlook'] at hr
      unfold Oper.wp
      rw [hr]
      simp only [Oper.upon, hsd]
      have hset : ((Array.range l.toArray.size).map fun j => decide (j < i) && j != k).setIfInBounds i true = (Array.range l.toArray.size).map fun j => decide (j < i + 1) && j != k := listed_eq (by simp) fun j hj => by
        by_cases e : j = i
        · subst e
          have : j ≠ k := by omega
          have : j < l.length := by omega
          simp [*]
        · rw [getD_set_ne true (Ne.symm e), hlist _ j (by omega)]
          have : (j < i + 1) ↔ (j < i) := by omega
          simp [this]
      rw [hset]
      show wpAny P .any l.toArray Q (1 + 1) _ a' w2
      have hkr2 : k ∈ Region.ready .any l.toArray ((Array.range l.toArray.size).map fun j => decide (j < i + 1) && j != k) :=
        hrd _ (by simp) (fun j h1 h2 => by rw [hlist _ j (by omega)]; simp [h2]; omega) (by rw [hlist _ k (by omega)]; simp)
      refine ⟨(fun h0 => by rw [h0] at hkr2; cases hkr2), fun j hj => ?_⟩
      obtain ⟨hun3, oj, hoj, _⟩ := mem_ready.1 hj
      have hjsz : j < i + 2 := by have := (Array.getElem?_eq_some_iff.1 hoj).1; omega
      have hjk : j = k := by
        by_cases e : j = i + 1
        · subst e
          have := waits_listed hj hw2
          rw [getD_flip (by simp; omega), hlist _ k (by omega)] at this
          simp at this
        · rw [hlist _ j hjsz] at hun3
          have : j < i + 1 := by omega
          simpa [this] using hun3
      subst hjk
      unfold wpOp
      simp only [hol]
      have hset2 : ((Array.range l.toArray.size).map fun q => decide (q < i + 1) && q != j).setIfInBounds j true = (Array.range l.toArray.size).map fun q => decide (q < i + 1) := listed_eq (by simp) fun q hq => by
        by_cases e : q = j
        · subst e
          have : q < l.length := by omega
          have : q < i + 1 := by omega
          simp [*]
        · rw [getD_set_ne true (Ne.symm e), hlist _ q (by omega)]
          simp [e]
      rw [hset2]
      have hlast : ∀ w3, Below w2.heap.size w2 w3 → wpAny P .any l.toArray Q 1 ((Array.range l.toArray.size).map fun q => decide (q < i + 1)) (a'.put o.dst v) w3 := fun w3 h5 => by
        have := wpAny_of_seq (P := P) (ops := l.toArray) (md := .any) (Q' := Q) (l.toArray.toList.drop (i + 1)) (i + 1) ((Array.range l.toArray.size).map fun q => decide (q < i + 1)) (a'.put o.dst v) w3 (fun j => by simp) (by rw [hdrop1]; exact hseq)
          (by rw [hdrop1]; exact h4 w3 h5)
        rw [hdrop1] at this
        exact this
      rcases hy with ⟨hy1, hy2⟩ | ⟨hy1, rfl⟩
      · rw [if_pos hy1]
        exact .inl (wp_of_quietAt (hy2 ⟨w2, hb'.trans hb2⟩) hlast)
      · rw [if_neg (by rw [hy1]; exact Bool.false_ne_true)]
        exact hlast w2 (Below.refl _ _)
    · have hik : i = k := by
        have : i < m := by omega
        simpa [this] using hun
      subst hik
      obtain rfl : o = oi := Option.some.inj (hol.symm.trans hoi)
      have hset : ((Array.range l.toArray.size).map fun j => decide (j < m) && j != i).setIfInBounds i true = (Array.range l.toArray.size).map fun j => decide (j < m) := listed_eq (by simp) fun j hj => by
        by_cases e : j = i
        · subst e
          have : j < l.length := by omega
          have : j < m := by omega
          simp [*]
        · rw [getD_set_ne true (Ne.symm e), hlist _ j (by omega)]
          simp [e]
      rw [hset]
      have hlast : ∀ w3, Below w'.heap.size w' w3 → wpAny P .any l.toArray Q 2 ((Array.range l.toArray.size).map fun q => decide (q < m)) (a'.put o.dst v) w3 := fun w3 h5 => by
        have hv3 : NewVars l.toArray n m z w.heap.size ((Array.range l.toArray.size).map fun i => decide (i < m)) bs (a'.put o.dst v) w3 :=
          ⟨hfull.slot, fun j h1 h2 h3 => ⟨rowAt_past h5 (hfull.row j h1 h2 h3).1, (hfull.row j h1 h2 h3).2⟩, hfull.other⟩
        have := wpAny_of_seq (P := P) (ops := l.toArray) (md := .any) (Q' := Q) (l.toArray.toList.drop m) m ((Array.range l.toArray.size).map fun q => decide (q < m)) (a'.put o.dst v) w3 (fun j => by simp)
          (by rw [hdrop]; have := F.seq; rwa [show l.toArray.size - m = 2 by omega] at this) (hT _ w3 bs (below_past hb' h5 hb'.size) hv3 hQ1)
        rw [hdrop] at this
        exact this
      rcases hy with ⟨hy1, hy2⟩ | ⟨hy1, rfl⟩
      · rw [if_pos hy1]
        exact .inl (wp_of_quietAt (hy2 ⟨w', hb'⟩) hlast)
      · rw [if_neg (by rw [hy1]; exact Bool.false_ne_true)]
        exact hlast w' (Below.refl _ _)
end
end Go.Proofs.YtgegipijappfhaaDoor
namespace Go.Proofs.YtgegipijappfhaaDoor
open Go Go.RowKit

section
variable {P : Program} {ops : Array Oper}

/-- What is asked of a wild operation: it yields some value, in a world in which all that it found is as it was. -/
def wildUpon (P : Program) (w : World) (K : Value → World → Prop) : Result Next → Prop
  | .ok (.value v) w' => Below w.heap.size w w' ∧ K v w'
  | .ok (.enter f args) w' => w' = w ∧ Calls P f args w fun e w'' => ∃ v, e = .returned v ∧ Below w.heap.size w w'' ∧ K v w''
  | _ => False
def wildAt (P : Program) (o : Oper) (a : Act) (w : World) (K : Value → World → Prop) : Prop := wildUpon P w K ((execOp a.eval o).run P w)
theorem wildAt_mono {o : Oper} {a : Act} {w : World} {K K' : Value → World → Prop} (h : wildAt P o a w K) (hk : ∀ v w', Below w.heap.size w w' → K v w' → K' v w') : wildAt P o a w K' := by
  unfold wildAt at *
  generalize (execOp a.eval o).run P w = r at *
  cases r with
  | ok n w' =>
    cases n <;> simp only [wildUpon] at h ⊢
    case value u => exact ⟨h.1, hk _ _ h.1 h.2⟩
    case enter f args => exact ⟨h.1, h.2.mono fun e w'' ⟨v, h1, h2, h3⟩ => ⟨v, h1, h2, hk _ _ h2 h3⟩⟩
  | halt x w' => simp only [wildUpon] at h
theorem wildAt_put {o : Oper} {a : Act} {w : World} {K : Value → World → Prop} {dst : Option Tmp} {u : Value} (hs : ∀ cs b, o.op ≠ .select cs b) (hd : ∀ d, dst = some d → d ∉ o.looksAt ops) : wildAt P o (a.put dst u) w K ↔ wildAt P o a w K := by
  unfold wildAt
  rw [execOp_put o hs a dst u hd]
theorem wp_of_wildAt {o : Oper} {a : Act} {w : World} {K : Act → World → Prop} {Q' : Exit → Act → World → Prop} {K2 : Value → World → Prop} (h : wildAt P o a w K2) (hK : ∀ v w', Below w.heap.size w w' → K2 v w' → K (a.put o.dst v) w') : o.wp P a w K Q' := by
  unfold wildAt at h
  unfold Oper.wp
  generalize (execOp a.eval o).run P w = r at *
  cases r with
  | ok n w' =>
    cases n <;> simp only [wildUpon] at h <;> simp only [Oper.upon]
    case value u => exact hK _ _ h.1 h.2
    case enter f args =>
      obtain ⟨e1, hc⟩ := h
      rw [e1]
      exact hc.mono fun e w'' ⟨v, he, hb, hk⟩ => by subst he; exact hK _ _ hb hk
  | halt x w' => simp only [wildUpon] at h

/-- The walk in the order of the text: W is what all that follows may rely on. -/
def wpWild (P : Program) (ops : Array Oper) (wild : List Nat) (Qh : World → Act → Prop) : List Nat → World → Act → Prop
  | [], W, a => Qh W a
  | i :: is, W, a => ∃ o, ops[i]? = some o ∧
      ((i ∉ wild ∧ ∃ v, YieldsS P ops W o v a ∧ wpWild P ops wild Qh is W (a.put o.dst v)) ∨
       (i ∈ wild ∧ Region.wanted o (yielded ops a.tmps) = true ∧ ∀ x : Past W, wildAt P o a x.w fun v w' => wpWild P ops wild Qh is w' (a.put o.dst v)))
theorem wpWild_past {wild : List Nat} {Qh : World → Act → Prop} (hQ : ∀ W W' a, Below W.heap.size W W' → Qh W a → Qh W' a) : ∀ (is : List Nat) (W W' : World) (a : Act), Below W.heap.size W W' → wpWild P ops wild Qh is W a → wpWild P ops wild Qh is W' a
  | [], _, _, _, hb, h => hQ _ _ _ hb h
  | _ :: is, W, W', _, hb, ⟨o, h1, h2⟩ => by
    refine ⟨o, h1, ?_⟩
    rcases h2 with ⟨hn, v, h3, h4⟩ | ⟨hn, h3, h4⟩
    · exact .inl ⟨hn, v, h3.past hb, wpWild_past hQ is _ _ _ hb h4⟩
    · exact .inr ⟨hn, h3, fun x => h4 ⟨x.w, Below.step hb x.h⟩⟩

theorem wpWild_take {wild : List Nat} {Qh : World → Act → Prop} (hsel : ∀ (j : Nat) (o : Oper) cs b, ops[j]? = some o → o.op ≠ .select cs b) {j : Nat} {oj : Oper} (hj : ops[j]? = some oj) :
    ∀ (is : List Nat) (W : World) (a : Act), is.Pairwise (· < ·) → j ∈ is → (∀ k ∈ is, k < j → apartAt ops k j ∧ k ∉ wild) → wpWild P ops wild Qh is W a →
      (j ∉ wild ∧ ∃ v, YieldsS P ops W oj v a ∧ wpWild P ops wild Qh (is.erase j) W (a.put oj.dst v)) ∨
      (j ∈ wild ∧ Region.wanted oj (yielded ops a.tmps) = true ∧ ∀ x : Past W, wildAt P oj a x.w fun v w' => wpWild P ops wild Qh (is.erase j) w' (a.put oj.dst v))
  | i :: is, W, a, hp, hm, hap, ⟨o, h1, h2⟩ => by
    by_cases hij : i = j
    · subst hij
      obtain rfl : o = oj := Option.some.inj (h1.symm.trans hj)
      simpa using h2
    · have hm' : j ∈ is := by
        rcases List.mem_cons.1 hm with e | e
        · exact absurd e.symm hij
        · exact e
      have hlt : i < j := (List.pairwise_cons.1 hp).1 j hm'
      obtain ⟨hapi, hni⟩ := hap i (by simp) hlt
      rcases h2 with ⟨_, v, h2, h3⟩ | ⟨hw, _⟩
      case inr => exact absurd hw hni
      obtain ⟨s1, s2, s3⟩ := Oper.apart_spec (hapi o oj h1 hj)
      have hrec := wpWild_take hsel hj is W (a.put o.dst v) (List.pairwise_cons.1 hp).2 hm' (fun k hk => hap k (List.mem_cons_of_mem _ hk)) h3
      rw [List.erase_cons_tail (by simpa using hij)]
      rcases hrec with ⟨hn, u, y1, y2⟩ | ⟨hn, y1, y2⟩
      · refine .inl ⟨hn, u, (YieldsS.put (hsel j oj · · hj) s1).1 y1, o, h1, .inl ⟨hni, v, (YieldsS.put (hsel i o · · h1) s3).2 h2, ?_⟩⟩
        rw [← Act.put_comm a v u s2]
        exact y2
      · refine .inr ⟨hn, ?_, fun x => ?_⟩
        · rwa [wanted_put oj a o.dst v s1] at y1
        · refine wildAt_mono ((wildAt_put (ops := ops) (hsel j oj · · hj) s1).1 (y2 x)) fun u w' hb hk => ?_
          refine ⟨o, h1, .inl ⟨hni, v, (YieldsS.put (hsel i o · · h1) s3).2 (h2.past (Below.step x.h hb)), ?_⟩⟩
          rw [← Act.put_comm a v u s2]
          exact hk
  | [], _, _, _, hm, _, _ => by cases hm

/-- What waits for operation k, be it by way of others. -/
def waitsT (ops : Array Oper) (k : Nat) : List Nat := (List.range ops.size).foldl (fun acc j => if waits ops j k || acc.any fun q => waits ops j q then j :: acc else acc) []
def Sat (ops : Array Oper) (listed : Array Bool) (q : Nat) : Prop := ∀ k, waits ops q k = true → listed.getD k false = true
def Dep (ops : Array Oper) (q k : Nat) : Prop := q < ops.size ∧ ∀ listed, Closed ops listed → listed.size = ops.size → Sat ops listed q → listed.getD k false = true
theorem foldl_keep {α β : Type} (f : β → α → β) (p : β → Prop) : ∀ (l : List α) (b : β), p b → (∀ b a, a ∈ l → p b → p (f b a)) → p (l.foldl f b)
  | [], _, h, _ => h
  | a :: l, b, h, hf => foldl_keep f p l (f b a) (hf b a (by simp) h) fun b x hx => hf b x (by simp [hx])
theorem waitsT_dep (k : Nat) : ∀ q ∈ waitsT ops k, Dep ops q k := by
  unfold waitsT
  refine foldl_keep _ (fun acc => ∀ q ∈ acc, Dep ops q k) _ _ (fun q h => by cases h) fun acc j hj hacc => ?_
  split
  · rename_i hw
    have hjs : j < ops.size := List.mem_range.1 hj
    intro q hq
    rcases List.mem_cons.1 hq with rfl | hq
    · refine ⟨hjs, fun listed hc hs hsat => ?_⟩
      rw [Bool.or_eq_true, List.any_eq_true] at hw
      rcases hw with hw | ⟨p, hp, hw⟩
      · exact hsat k hw
      · obtain ⟨hps, hd⟩ := hacc p hp
        have hl := hsat p hw
        refine hd listed hc hs fun m hm => hc p m hps ?_ hm
        simpa [show p < listed.size by omega] using hl
    · exact hacc q hq
  · exact hacc

/-- n operations, some of them wild, then a tail. -/
def wildB (ops : Array Oper) (wild : List Nat) (n : Nat) : Bool :=
  Region.noSelect ops && decide (n ≤ ops.size) &&
  ((List.range n).all fun j => match ops[j]? with | some o => o.after.all (fun e => !Region.binds .any e || decide (e.on < j)) | none => false) &&
  ((List.range n).all fun j => (List.range n).all fun k => !decide (k < j) || wild.contains k || waits ops j k || (match ops[k]?, ops[j]? with | some x, some y => x.apart ops y | _, _ => false)) &&
  (wild.all fun k => let T := waitsT ops k; (List.range n).all fun j => decide (j ≤ k) || T.contains j) &&
  (decide (n = ops.size) || (List.range n).all fun k => let T := waitsT ops k; (List.range ops.size).all fun t => decide (t < n) || T.contains t) &&
  Region.seqB .any ops (ops.size - n) n ((Array.range ops.size).map fun i => decide (i < n))
structure WildOk (ops : Array Oper) (wild : List Nat) (n : Nat) : Prop where
  sel : ∀ (j : Nat) (o : Oper) cs b, ops[j]? = some o → o.op ≠ .select cs b
  size : n ≤ ops.size
  deps : ∀ j o, j < n → ops[j]? = some o → ∀ e ∈ o.after, Region.binds .any e = true → e.on < j
  apart : ∀ j k, j < n → k < j → Dep ops j k ∨ (apartAt ops k j ∧ k ∉ wild)
  tail : ∀ t k, n ≤ t → t < ops.size → k < n → Dep ops t k
  seq : Region.seqB .any ops (ops.size - n) n ((Array.range ops.size).map fun i => decide (i < n)) = true
theorem WildOk.of_check {wild : List Nat} {n : Nat} (h : wildB ops wild n = true) : WildOk ops wild n := by
  simp only [wildB, Bool.and_eq_true, decide_eq_true_eq, List.all_eq_true, List.mem_range] at h
  obtain ⟨⟨⟨⟨⟨⟨h1, h2⟩, h3⟩, h4⟩, h5⟩, h6⟩, h7⟩ := h
  refine ⟨Region.noSelect_spec h1, h2, fun j o hj ho e he hb => ?_, fun j k hj hk => ?_, fun t k ht hts hk => ?_, h7⟩
  · have := h3 j hj
    rw [ho] at this
    have := Array.all_eq_true_iff_forall_mem.1 this e he
    simpa [hb] using this
  · by_cases hw : k ∈ wild
    · left
      have := h5 k hw j hj
      simp only [Bool.or_eq_true, decide_eq_true_eq, List.contains_iff_mem] at this
      rcases this with h | h
      · omega
      · exact waitsT_dep k j h
    · have := h4 j hj k (by omega)
      simp only [Bool.or_eq_true, Bool.not_eq_true', decide_eq_false_iff_not, List.contains_iff_mem] at this
      rcases this with ((h | h) | h) | h
      · omega
      · exact absurd h hw
      · exact .inl ⟨by omega, fun listed _ _ hs => hs k h⟩
      · right
        refine ⟨fun oi oj hi hj2 => ?_, hw⟩
        rw [hi, hj2] at h
        exact h
  · simp only [Bool.or_eq_true, decide_eq_true_eq, List.all_eq_true, List.mem_range] at h6
    rcases h6 with h | h
    · omega
    · have := h k hk t hts
      rw [List.contains_iff_mem] at this
      rcases this with h | h
      · omega
      · exact waitsT_dep k t h

theorem wpAny_wild {n : Nat} {wild : List Nat} {Q' : Exit → Act → World → Prop} {T : Act → World → Prop} (F : WildOk ops wild n) (hT : ∀ a w, T a w → wpList P ops Q' (ops.toList.drop n) a w) :
    ∀ (f : Nat) (listed : Array Bool) (a : Act) (w W : World), Closed ops listed → listed.size = ops.size → (left listed n).length = f → (∀ t, n ≤ t → t < ops.size → listed.getD t true = false) →
      Below W.heap.size W w → wpWild P ops wild (fun W a => ∀ x : Past W, T a x.w) (left listed n) W a → wpAny P .any ops Q' (f + (ops.size - n)) listed a w
  | 0, listed, a, w, W, hcl, hs, hf, ht, hb, hh => by
    have hall : ∀ i, i < n → listed.getD i true = true := fun i hi => by
      cases h : listed.getD i true with
      | true => rfl
      | false =>
        have := mem_left.2 ⟨hi, h⟩
        rw [List.eq_nil_of_length_eq_zero hf] at this
        cases this
    have hle : listed = (Array.range ops.size).map fun i => decide (i < n) := listed_eq hs fun i hi => by
      by_cases him : i < n
      · simp [hall i him, him]
      · simp [ht i (by omega) hi, him]
    rw [List.eq_nil_of_length_eq_zero hf] at hh
    subst hle
    rw [Nat.zero_add]
    have hlen : (ops.toList.drop n).length = ops.size - n := by simp
    have := wpAny_of_seq (P := P) (ops := ops) (md := .any) (Q' := Q') (ops.toList.drop n) n ((Array.range ops.size).map fun i => decide (i < n)) a w (fun j => by simp) (by rw [hlen]; exact F.seq) (hT a w (hh ⟨w, hb⟩))
    rw [hlen] at this
    exact this
  | f + 1, listed, a, w, W, hcl, hs, hf, ht, hb, hh => by
    have hne : ∃ i, i < n ∧ listed.getD i true = false := by
      cases hl : left listed n with
      | nil => rw [hl] at hf; cases hf
      | cons i r => exact ⟨i, mem_left.1 (by rw [hl]; simp)⟩
    have hready : ∃ i, i ∈ Region.ready .any ops listed := by
      have : ∀ k i, i < k → i < n → listed.getD i true = false → ∃ j, j ∈ Region.ready .any ops listed := by
        intro k
        induction k with
        | zero => intro i hi; omega
        | succ k ih =>
          intro i hik him hun
          have hsz : i < ops.size := Nat.lt_of_lt_of_le him F.size
          by_cases hd : ∀ e ∈ (ops[i]).after, Region.binds .any e = true → listed.getD e.on false = true
          · exact ⟨i, mem_ready.2 ⟨hun, ops[i], Array.getElem?_eq_getElem hsz, hd⟩⟩
          · obtain ⟨e, he⟩ := Classical.not_forall.1 hd
            obtain ⟨he1, he2⟩ := Classical.not_imp.1 he
            obtain ⟨he2, he3⟩ := Classical.not_imp.1 he2
            have hlt := F.deps i _ him (Array.getElem?_eq_getElem hsz) e he1 he2
            have hun2 : listed.getD e.on true = false := by
              rw [← getD_flip (by omega)]
              simpa using he3
            exact ih e.on (by omega) (by omega) hun2
      obtain ⟨i, him, hun⟩ := hne
      exact this (i + 1) i (by omega) him hun
    rw [show f + 1 + (ops.size - n) = (f + (ops.size - n)) + 1 by omega]
    refine ⟨(fun h0 => by obtain ⟨i, hi⟩ := hready; rw [h0] at hi; cases hi), fun i hi => ?_⟩
    obtain ⟨hun, oi, hoi, hall⟩ := mem_ready.1 hi
    have hisz : i < ops.size := (Array.getElem?_eq_some_iff.1 hoi).1
    have hsat : Sat ops listed i := fun k hk => waits_listed hi hk
    have him : i < n := by
      rcases Nat.lt_or_ge i n with h | h
      · exact h
      · obtain ⟨k, hkm, hk⟩ := hne
        have := (F.tail i k h hisz hkm).2 listed hcl hs hsat
        rw [getD_flip (by have := F.size; omega), hk] at this
        cases this
    have hap : ∀ k ∈ left listed n, k < i → apartAt ops k i ∧ k ∉ wild := fun k hk hki => by
      obtain ⟨h1, h2⟩ := mem_left.1 hk
      rcases F.apart i k him hki with h | h
      · have := h.2 listed hcl hs hsat
        rw [getD_flip (by omega), h2] at this
        cases this
      · exact h
    have hcount : (left (listed.setIfInBounds i true) n).length = f := by
      rw [left_set (by omega), List.length_erase_of_mem (mem_left.2 ⟨him, hun⟩), hf]
      rfl
    have htail : ∀ t, n ≤ t → t < ops.size → (listed.setIfInBounds i true).getD t true = false := fun t h1 h2 => by
      rw [getD_set_ne true (by omega)]
      exact ht t h1 h2
    have hstep : ∀ W' w' v, Below W'.heap.size W' w' → wpWild P ops wild (fun W a => ∀ x : Past W, T a x.w) ((left listed n).erase i) W' (a.put oi.dst v) → wpAny P .any ops Q' (f + (ops.size - n)) (listed.setIfInBounds i true) (a.put oi.dst v) w' := fun W' w' v hw hk => by
      refine wpAny_wild F hT f _ _ w' W' (hcl.step hi) (by simpa using hs) hcount htail hw ?_
      rw [left_set (by omega)]
      exact hk
    unfold wpOp
    simp only [hoi]
    rcases wpWild_take F.sel hoi (left listed n) W a (left_sorted _ _) (mem_left.2 ⟨him, hun⟩) hap hh with ⟨_, v, hy, hrest⟩ | ⟨_, hw1, hy⟩
    · rcases hy with ⟨hw1, hw2⟩ | ⟨hw1, rfl⟩
      · rw [if_pos hw1]
        exact .inl (wp_of_quietAt (hw2 ⟨w, hb⟩) fun w' hw => hstep W w' v (below_past hb hw hb.size) hrest)
      · rw [if_neg (by rw [hw1]; exact Bool.false_ne_true)]
        exact hstep W w undef hb hrest
    · rw [if_pos hw1]
      exact .inl (wp_of_wildAt (hy ⟨w, hb⟩) fun v w' _ hk => hstep w' w' v (Below.refl _ _) hk)

/-- THE LAW. -/
theorem wp_region_wild {id : Nat} {Q : Exit → Act → World → Prop} {a : Act} {w : World} {l : List Oper} (wild : List Nat) (n : Nat) (hm : P.follows .mixedOrders = true) (hB : wildB l.toArray wild n = true)
    (h : wpWild P l.toArray wild (fun W a => ∀ x : Past W, wpList P l.toArray Q (l.drop n) a x.w) (List.range n) w a) : (Code.region id l.toArray true).wp P Q a w := by
  have F := WildOk.of_check hB
  have hb : Below w.heap.size w w.drew := (Below.refl _ _).drew
  refine wp_region_any hm ?_
  have := wpAny_wild (P := P) (Q' := Q) (T := fun a w => wpList P l.toArray Q (l.drop n) a w) F (fun a w h => h) n (Array.replicate l.toArray.size false) a w.drew w (fun q _ hq h _ => by rw [unlisted l q hq] at h; cases h) (by simp) (by rw [left_all l n F.size]; simp) (fun t _ h2 => unlisted l t h2) hb
    (by rw [left_all l n F.size]; exact h)
  rw [show n + (l.toArray.size - n) = l.toArray.size by have := F.size; omega] at this
  exact this

/-- One operation that is no call: the kit's own quiet step serves. -/
def noCall : Op → Bool
  | .call _ | .go _ | .defer _ | .send _ _ | .recv _ _ _ | .select _ _ => false
  | _ => true
theorem andThen_value {α : Type} {r : Result α} {f : FuncId} {args : Array Value} {w : World} {g : α → Value} (h : r.andThen (fun a w' => Result.ok (Next.value (g a)) w') = .ok (.enter f args) w) : False := by
  cases r with
  | ok a w' => simp [Result.andThen] at h
  | halt x w' => simp [Result.andThen] at h
theorem andThen_skip {α : Type} {r : Result α} {f : FuncId} {args : Array Value} {w : World} (h : r.andThen (fun _ w' => Result.ok Next.skip w') = .ok (.enter f args) w) : False := by
  cases r with
  | ok a w' => simp [Result.andThen] at h
  | halt x w' => simp [Result.andThen] at h
theorem andThen_some {α β : Type} {r : Result α} {k : α → World → Result β} {v : β} {w : World} (h : r.andThen k = .ok v w) : ∃ a w1, r = .ok a w1 ∧ k a w1 = .ok v w := by
  cases r with
  | ok a w' => exact ⟨a, w', rfl, h⟩
  | halt x w' => simp [Result.andThen] at h
theorem halts {v : Next} {w w' : World} (h : (runtimePanic .nilDeref : Sem Next).run P w = .ok v w') : False := by
  simp only [runtimePanic, Sem.run_bind] at h
  obtain ⟨a, w1, _, h⟩ := andThen_some h
  simp [goPanic] at h
theorem no_enter {o : Oper} (h : noCall o.op = true) (ρ : Operand → Value) (w w' : World) (f : FuncId) (args : Array Value) (he : (execOp ρ o).run P w = .ok (.enter f args) w') : False := by
  unfold execOp at he
  cases hq : o.op <;> rw [hq] at h he <;> first | (simp only [noCall, Bool.false_eq_true] at h; done) | skip
  all_goals (simp only [] at he)
  all_goals first | (simp only [Sem.run_bind, Sem.run_pure] at he; first | exact andThen_value he | exact andThen_skip he | (simp at he; done)) | skip
  split at he
  · exact halts he
  · exact halts he
  · exact halts he
  · split at he
    · exact halts he
    · simp only [Sem.run_bind] at he
      obtain ⟨a, w1, _, he⟩ := andThen_some he
      obtain ⟨b, w2, _, he⟩ := andThen_some he
      split at he
      · simp only [Sem.run_bind, Sem.run_pure] at he
        obtain ⟨_, _, _, he⟩ := andThen_some he
        simp at he
      · simp [Sem.run_pure] at he
    · simp [Sem.run_pure] at he
  · simp [Sem.run_pure] at he

/-- The same walk, the operations that are left written out, from number i on. -/
def wpWildL (P : Program) (ops : Array Oper) (wild : List Nat) (Qh : World → Act → Prop) : Nat → List Oper → World → Act → Prop
  | _, [], W, a => Qh W a
  | i, o :: rest, W, a =>
      (i ∉ wild ∧ ∃ v, YieldsS P ops W o v a ∧ wpWildL P ops wild Qh (i + 1) rest W (a.put o.dst v)) ∨
      (i ∈ wild ∧ Region.wanted o (yielded ops a.tmps) = true ∧ ∀ x : Past W, wildAt P o a x.w fun v w' => wpWildL P ops wild Qh (i + 1) rest w' (a.put o.dst v))
theorem wpWild_of_L {wild : List Nat} {Qh : World → Act → Prop} : ∀ (rest : List Oper) (i : Nat) (W : World) (a : Act), (∀ j, j < rest.length → rest[j]? = ops[i + j]?) → wpWildL P ops wild Qh i rest W a → wpWild P ops wild Qh (List.range' i rest.length) W a
  | [], _, _, _, _, h => h
  | o :: rest, i, W, a, hr, h => by
    have h0 : ops[i]? = some o := by simpa using (hr 0 (by simp)).symm
    have hr' : ∀ j, j < rest.length → rest[j]? = ops[(i + 1) + j]? := fun j hj => by
      have := hr (j + 1) (by simpa using hj)
      simpa [Nat.add_assoc, Nat.add_comm 1 j] using this
    rw [List.length_cons, List.range'_succ]
    refine ⟨o, h0, ?_⟩
    rcases h with ⟨hn, v, h1, h2⟩ | ⟨hn, h1, h2⟩
    · exact .inl ⟨hn, v, h1, wpWild_of_L rest _ _ _ hr' h2⟩
    · exact .inr ⟨hn, h1, fun x => wildAt_mono (h2 x) fun v w' _ hk => wpWild_of_L rest _ _ _ hr' hk⟩
/-- THE LAW, at a region that is written out: its first operations, then its tail. -/
theorem wp_region_wildL {id : Nat} {Q : Exit → Act → World → Prop} {a : Act} {w : World} {l : List Oper} (wild : List Nat) (n : Nat) (hm : P.follows .mixedOrders = true) (hB : wildB l.toArray wild n = true)
    (h : wpWildL P l.toArray wild (fun W a => ∀ x : Past W, wpList P l.toArray Q (l.drop n) a x.w) 0 (l.take n) w a) : (Code.region id l.toArray true).wp P Q a w := by
  refine wp_region_wild wild n hm hB ?_
  have hs := (WildOk.of_check hB).size
  have hl : (l.take n).length = n := by rw [List.length_take]; simp at hs; omega
  have := wpWild_of_L (l.take n) 0 w a (fun j hj => by
    rw [hl] at hj
    rw [List.getElem?_take, if_pos hj]
    simp) h
  rw [hl, ← List.range_eq_range'] at this
  exact this

section
variable {wild : List Nat} {Qh : World → Act → Prop} {i : Nat} {rest : List Oper} {W : World} {a : Act} {o : Oper}
theorem wildL_nil (h : Qh W a) : wpWildL P ops wild Qh i [] W a := h
/-- An operation that reads. -/
theorem wildL_val (hn : i ∉ wild) (hw : Region.wanted o (yielded ops a.tmps) = true) (hc : noCall o.op = true)
    (h : ∀ K : Act → Prop, (∀ a, wpWildL P ops wild Qh (i + 1) rest W a → K a) → o.quiet P a (fun w' => ∃ x : Past W, w' = x.w) K) : wpWildL P ops wild Qh i (o :: rest) W a := by
  obtain ⟨v, h1, h2⟩ := h _ fun _ h => h
  refine .inl ⟨hn, v, .inl ⟨hw, fun x => ?_⟩, h2⟩
  have := h1 x.w ⟨x, rfl⟩
  unfold Oper.quietAt at this ⊢
  generalize hr : (execOp a.eval o).run P x.w = r at *
  cases r with
  | ok n w' =>
    cases n
    case enter f args => exact (no_enter hc _ _ _ _ _ hr).elim
    all_goals exact this
  | halt y w' => exact this
/-- An operation that is passed over. -/
theorem wildL_skip (hn : i ∉ wild) (hw : Region.wanted o (yielded ops a.tmps) = false) (h : wpWildL P ops wild Qh (i + 1) rest W (a.put o.dst undef)) : wpWildL P ops wild Qh i (o :: rest) W a :=
  .inl ⟨hn, undef, .inr ⟨hw, rfl⟩, h⟩
theorem put_inj {d : Tmp} {u v : Value} (hd : d < a.tmps.size) (h : a.put (some d) u = a.put (some d) v) : u = v := by
  have := congrArg (fun b : Act => b.tmps[d]?) h
  simpa [Act.put, hd] using this
/-- A call whose value is one, whatever the world. -/
theorem wildL_call (hn : i ∉ wild) (hw : Region.wanted o (yielded ops a.tmps) = true) (hd : (match o.dst with | some d => decide (d < a.tmps.size) | none => false) = true)
    (hx : ∃ A, (∀ (x : Past W) (K : Act → Prop), (∀ a', a' = A → K a') → o.quiet P a (fun w' => ∃ y : Past x.w, w' = y.w) K) ∧ wpWildL P ops wild Qh (i + 1) rest W A) : wpWildL P ops wild Qh i (o :: rest) W a := by
  obtain ⟨A, h, hA⟩ := hx
  have h' : ∀ x : Past W, ∃ v, o.quietAt P a (fun w' => ∃ y : Past x.w, w' = y.w) x.w v ∧ a.put o.dst v = A := fun x => by
    obtain ⟨v, h1, h2⟩ := h x (fun a' => a' = A) fun _ h => h
    exact ⟨v, h1 x.w ⟨⟨x.w, Below.refl _ _⟩, rfl⟩, h2⟩
  obtain ⟨v, _, hv⟩ := h' ⟨W, Below.refl _ _⟩
  refine .inl ⟨hn, v, .inl ⟨hw, fun x => ?_⟩, by rw [hv]; exact hA⟩
  obtain ⟨u, h1, h2⟩ := h' x
  cases hq : o.dst with
  | none => rw [hq] at hd; cases hd
  | some d =>
    rw [hq] at hd h2 hv
    obtain rfl := put_inj (by simpa using hd) (h2.trans hv.symm)
    exact h1
theorem Past.two {W : World} {x : Past W} (y : Past x.w) : Below W.heap.size W y.w := Below.step x.h y.h
theorem call_back {x : World} {f : FuncId} {args : Array Value} {v : Value} {y : Past x} (h : Calls P f args y.w fun e w' => e = .returned v ∧ Below y.w.heap.size y.w w') : Calls P f args y.w fun e w'' => e = .returned v ∧ ∃ z : Past x, w'' = z.w :=
  h.mono fun _ w'' ⟨he, hb⟩ => ⟨he, ⟨w'', Below.step y.h hb⟩, rfl⟩
/-- An operation whose value hangs on the world. -/
theorem wildL_wild (hn : i ∈ wild) (hw : Region.wanted o (yielded ops a.tmps) = true)
    (h : ∀ (x : Past W) (K : Value → World → Prop), (∀ v w', wpWildL P ops wild Qh (i + 1) rest w' (a.put o.dst v) → K v w') → wildAt P o a x.w K) : wpWildL P ops wild Qh i (o :: rest) W a :=
  .inr ⟨hn, hw, fun x => h x _ fun _ _ h => h⟩
@[go_sem] theorem wildUpon_value (w w' : World) (K : Value → World → Prop) (v : Value) : wildUpon P w K (.ok (.value v) w') = (Below w.heap.size w w' ∧ K v w') := rfl
@[go_sem] theorem wildUpon_enter (w w' : World) (K : Value → World → Prop) (f : FuncId) (args : Array Value) : wildUpon P w K (.ok (.enter f args) w') = (w' = w ∧ Calls P f args w fun e w'' => ∃ v, e = .returned v ∧ Below w.heap.size w w'' ∧ K v w'') := rfl
end
end
end Go.Proofs.YtgegipijappfhaaDoor
namespace Go.Proofs.YtgegipijappfhaaDoor
open Go Go.RowKit

theorem cmp_lt : ∀ {a b : List UInt8}, a < b → Lib.compareBytes a b = -1
  | [], [], h => absurd h (klt_irrefl _)
  | [], _ :: _, _ => rfl
  | x :: a, [], h => by simp at h
  | x :: a, y :: b, h => by
    unfold Lib.compareBytes
    rcases List.cons_lt_cons_iff.1 h with h1 | ⟨h1, h2⟩
    · rw [if_pos h1]
    · subst h1
      rw [if_neg (UInt8.lt_irrefl _), if_neg (UInt8.lt_irrefl _)]
      exact cmp_lt h2
theorem cmp_gt : ∀ {a b : List UInt8}, b < a → Lib.compareBytes a b = 1
  | [], [], h => absurd h (klt_irrefl _)
  | [], _ :: _, h => by simp at h
  | x :: a, [], _ => rfl
  | x :: a, y :: b, h => by
    unfold Lib.compareBytes
    rcases List.cons_lt_cons_iff.1 h with h1 | ⟨h1, h2⟩
    · rw [if_neg (fun h => UInt8.lt_irrefl _ (UInt8.lt_trans h h1)), if_pos h1]
    · subst h1
      rw [if_neg (UInt8.lt_irrefl _), if_neg (UInt8.lt_irrefl _)]
      exact cmp_gt h2
theorem cmp_eq : ∀ (a : List UInt8), Lib.compareBytes a a = 0
  | [] => rfl
  | x :: a => by
    unfold Lib.compareBytes
    rw [if_neg (UInt8.lt_irrefl _), if_neg (UInt8.lt_irrefl _)]
    exact cmp_eq a
theorem lessE : ∀ a b : List UInt8, Go.Op.bytesLess a b = decide (a < b)
  | _, [] => by simp [Go.Op.bytesLess]
  | [], _ :: _ => by simp [Go.Op.bytesLess]
  | a :: x, b :: y => by
    rw [Go.Op.bytesLess, lessE x y]
    by_cases h : a < b
    · simp [h, List.cons_lt_cons_iff]
    · by_cases e : a = b
      · subst e
        simp
      · simp [h, e, List.cons_lt_cons_iff]
def lenV : Value → Nat
  | .slice _ n _ => n
  | _ => 0

/-- One entry is put behind a list of the call's own, as a step of a region that draws its order. -/
theorem step_put_ent {ops : Array Oper} {o : Oper} {a : Act} {w : World} {K : Act → World → Prop} {Q : Exit → Act → World → Prop} {E : Prop} (hgd : o.guard = none) (s x : Operand)
    (ho : o.op = .call { callee := .builtin .append, args := #[s, x], argTypes := #[22, 22] }) (B : Nat) (v : Value) (es : List Ent) (hs : a.eval s = v) (hown : OwnEnts w B v es)
    (t : Ent) (g c : Nat) (hx : a.eval x = .slice (some ⟨g, 0, none⟩) 1 c) (hcell : EntAt w g 0 t) (hB : B ≤ w.heap.size) (hl : es.length ≤ 1000000)
    (h : ∀ g' c' w', OwnEnts w' B (.slice (some ⟨g', 0, none⟩) (es.length + 1) c') (es ++ [t]) → w.grownBy w' v.ownBlock → K (a.put o.dst (.slice (some ⟨g', 0, none⟩) (es.length + 1) c')) w') :
    if Region.wanted o (yielded ops a.tmps) = true then Oper.wp Tryd.prog o a w K Q else E := by
  obtain ⟨i0, hi, hz0, hz1, hz2⟩ := info_ent
  refine step_append_lies (P := Tryd.prog) w hgd s x 22 ho B 36 i0 _ 3 40 Tryd.underlying22 hi hz0 hz1 hz2 rfl (by decide) v es.length (entCells es) hs hown ⟨g, 0, none⟩ 1 c (entC t) hx rfl ?_ (oneE t) (by decide) (by unfold maxLen; omega) (by omega) hB w.heap.size rfl ?_
  · intro j u hu
    rw [add_lit, Nat.zero_add]
    obtain ⟨k0, k1, k2⟩ := hcell
    match j, hu with
    | 0, hu => rw [k0]; exact hu
    | 1, hu => rw [k1]; exact hu
    | 2, hu => rw [k2]; exact hu
  · intro g' c' w' h1 h2 _ _
    refine h g' c' w' ?_ h2
    unfold OwnEnts
    rw [entCells_append, entCells_one, List.length_append]
    exact h1
theorem entAt_new (w : World) (x : Ent) (n : Nat) (hn : n = w.heap.size) : EntAt (w.alloc (.cells #[.string (stx x.key), .string (stx x.val), .bool x.gone] 36)) n 0 x := by
  subst hn
  have r := rowAt_alloc_at w #[.string (stx x.key), .string (stx x.val), .bool x.gone] 36 _ rfl
  exact ⟨cell_of_rowAt r 0, cell_of_rowAt r 1, cell_of_rowAt r 2⟩
theorem OwnEnts.grown' {w w' : World} {B : Nat} {v : Value} {es : List Ent} {a : World} (h : w.ownsRow B 36 3 v es.length (entCells es)) (hg : w.grownBy w' v.ownBlock) (b : Below B a w) (hB : B ≤ w.heap.size) : Below B a w' :=
  b.grown hg hB (fun k hk => (World.ownsRow.lt h k hk).1)
/-- What s[1:] is. -/
theorem EntsAt.tail {w : World} {g p n k : Nat} {x : Ent} {xs : List Ent} (h : EntsAt w (.slice (some ⟨g, p, none⟩) n k) (x :: xs)) : EntsAt w (.slice (if k = 1 then some ⟨g, p, none⟩ else some ⟨g, p + 3, none⟩) xs.length (k - 1)) xs := by
  have hn : n = xs.length + 1 := by
    obtain ⟨A, c, h1, _⟩ := h
    have : n = (x :: xs).length := by injection h1
    rw [this, List.length_cons]
  have := EntsAt.drop (k := 1) h (by simp)
  rw [List.drop_one, List.tail_cons] at this
  unfold cutV at this
  rw [hn, Nat.add_sub_cancel, Option.map_some, add_lit, Nat.one_mul] at this
  exact this
/-- What s[k:] is, run. -/
theorem run_cut (A : Option Addr) (n cap k : Nat) (hk : k ≤ n) (w : World) : (Instr.slice 22 (.slice A n cap) (some (.int .i64 k)) none none).run Tryd.prog w = .ok (cutV A n cap k) w := by
  have hu : Tryd.prog.underlying 22 = some (.slice 36) := Tryd.underlying22
  obtain ⟨i0, hi, hz0, hz1, hz2⟩ := info_ent
  have h1 : (Instr.sliceBounds true n cap (some (.int .i64 k)) none none).run Tryd.prog w = .ok (k, n, cap) w := by
    simp [Instr.sliceBounds, Instr.sliceBound, asIntOf, hk]
  unfold Instr.slice
  simp [run_underlying hu, sizeOf, typeInfo, hi, hz1, h1, Result.andThen, cutV]
end Go.Proofs.YtgegipijappfhaaDoor
namespace Go.Proofs.YtgegipijappfhaaDoor
open Go Go.RowKit

section
variable {P : Program} {ops : Array Oper}

/-- A world in which all lies that operation j may rely on: what lay there at first, and what those made that it waits for. -/
def Good (W : World) (tok : List Nat) (τ : Nat → Value × World) (p : Nat → Bool) (w : World) : Prop :=
  Below W.heap.size W w ∧ ∀ i ∈ tok, p i = true → Below (τ i).2.heap.size (τ i).2 w
theorem Good.step {W : World} {tok : List Nat} {τ : Nat → Value × World} {p : Nat → Bool} {w w' : World} (h : Good W tok τ p w) (k : Below w.heap.size w w') : Good W tok τ p w' :=
  ⟨Below.step h.1 k, fun i hi hp => Below.step (h.2 i hi hp) k⟩
def depB (ops : Array Oper) (j i : Nat) : Bool := (waitsT ops i).contains j
/-- Whatever function it enters, it is none of those that run at the start. -/
def Late (P : Program) (o : Oper) (a : Act) (w : World) : Prop := ∀ f args w', (execOp a.eval o).run P w = .ok (.enter f args) w' → P.inits.idxOf? f = none
def YieldsT (P : Program) (ops : Array Oper) (G : World → Prop) (o : Oper) (v : Value) (a : Act) : Prop :=
  (Region.wanted o (yielded ops a.tmps) = true ∧ ∀ w, G w → o.quietAt P a (fun w' => ∃ y : Past w, w' = y.w) w v ∧ Late P o a w) ∨
  (Region.wanted o (yielded ops a.tmps) = false ∧ v = undef)
theorem YieldsT.put {G : World → Prop} {o : Oper} {v u : Value} {a : Act} {dst : Option Tmp} (hs : ∀ cs b, o.op ≠ .select cs b) (hd : ∀ d, dst = some d → d ∉ o.looksAt ops) :
    YieldsT P ops G o v (a.put dst u) ↔ YieldsT P ops G o v a := by
  unfold YieldsT Oper.quietAt Late
  rw [execOp_put o hs a dst u hd, wanted_put o a dst u hd]
/-- Two contracts on one call speak of one end. -/
theorem calls_agree {f : FuncId} {args : Array Value} {w : World} {v u : Value} {R R' : World → Prop}
    (h : Calls P f args w fun e w' => e = .returned v ∧ R w') (h' : Calls P f args w fun e w' => e = .returned u ∧ R' w') (hi : P.inits.idxOf? f = none) : v = u := by
  obtain ⟨n, v1, w1, e1, r1⟩ := Calls.done (R := fun x _ => x = v) (h.mono fun e w' ⟨he, _⟩ => by subst he; rfl) hi
  obtain ⟨m, v2, w2, e2, r2⟩ := Calls.done (R := fun x _ => x = u) (h'.mono fun e w' ⟨he, _⟩ => by subst he; rfl) hi
  have a := runN_ended e1 m
  have b := runN_ended e2 n
  rw [Nat.add_comm, a] at b
  injection b with ho hw
  injection ho with hv
  exact r1.symm.trans (hv.trans r2)
/-- At one world two values are one. -/
theorem quiet_two {o : Oper} {a : Act} {w : World} {v u : Value} (h1 : o.quietAt P a (fun w' => ∃ y : Past w, w' = y.w) w v) (h2 : o.quietAt P a (fun w' => ∃ y : Past w, w' = y.w) w u) (hl : Late P o a w) : v = u := by
  unfold Late at hl
  unfold Oper.quietAt at h1 h2
  generalize (execOp a.eval o).run P w = r at *
  cases r with
  | ok n w' =>
    cases n <;> simp only [Oper.quietUpon] at h1 h2
    case value x => exact h1.2.symm.trans h2.2
    case skip => exact h1.2.trans h2.2.symm
    case enter f args => exact calls_agree h1.2 h2.2 (hl f args w' rfl)
  | halt x w' => simp only [Oper.quietUpon] at h1
/-- A call of a function by its name. -/
def calleeOf : Op → Option FuncId
  | .call c => match c.callee with
    | .value (.func k) => some k
    | _ => none
  | _ => none
theorem late_static {o : Oper} {k : FuncId} (ho : calleeOf o.op = some k) (hi : P.inits.idxOf? k = none) (hf : (P.funcs[k]?).map (fun fn => fn.name == "runtime.NumGoroutine" || fn.body.isNone) = some false) (a : Act) (w : World) : Late P o a w := by
  intro f args w' he
  unfold calleeOf at ho
  split at ho
  · rename_i c hc
    split at ho
    · rename_i k' hk
      obtain rfl := Option.some.inj ho
      unfold execOp at he
      rw [hc] at he
      obtain ⟨fn, hfn, hff⟩ := Option.map_eq_some_iff.1 hf
      rw [Bool.or_eq_false_iff] at hff
      simp only [hk, resolve, invoke, Sem.run_bind, Act.eval, Deferred.ofValue, Sem.run_pure, Result.andThen_ok, callFunc, show (program : Sem Program).run P w = .ok P w from rfl, hfn, hff.1, hff.2, Bool.false_eq_true, if_false] at he
      injection he with he _
      injection he with he _
      rw [← he]
      exact hi
    · cases ho
  · cases ho
theorem late_none {o : Oper} (h : noCall o.op = true) (a : Act) (w : World) : Late P o a w := fun _ _ _ he => (no_enter h _ _ _ _ _ he).elim

/-- The walk in the order of the text. -/
def wpTok (P : Program) (ops : Array Oper) (W : World) (tok : List Nat) (R : Nat → Value → World → Prop) (Qh : Act → World → Prop) (τ : Nat → Value × World) : List Nat → Act → Prop
  | [], a => ∀ w, Good W tok τ (fun _ => true) w → Qh a w
  | j :: is, a => ∃ o, ops[j]? = some o ∧
      ((j ∉ tok ∧ ∃ v, YieldsT P ops (Good W tok τ (depB ops j)) o v a ∧ wpTok P ops W tok R Qh τ is (a.put o.dst v)) ∨
       (j ∈ tok ∧ Region.wanted o (yielded ops a.tmps) = true ∧ (∀ w, Good W tok τ (depB ops j) w → wildAt P o a w (R j)) ∧ wpTok P ops W tok R Qh τ is (a.put o.dst (τ j).1)))

theorem wpTok_take {W : World} {tok : List Nat} {R : Nat → Value → World → Prop} {Qh : Act → World → Prop} {τ : Nat → Value × World} (hsel : ∀ (j : Nat) (o : Oper) cs b, ops[j]? = some o → o.op ≠ .select cs b) {j : Nat} {oj : Oper} (hj : ops[j]? = some oj) :
    ∀ (is : List Nat) (a : Act), is.Pairwise (· < ·) → j ∈ is → (∀ k ∈ is, k < j → apartAt ops k j) → wpTok P ops W tok R Qh τ is a →
      (j ∉ tok ∧ ∃ v, YieldsT P ops (Good W tok τ (depB ops j)) oj v a ∧ wpTok P ops W tok R Qh τ (is.erase j) (a.put oj.dst v)) ∨
      (j ∈ tok ∧ Region.wanted oj (yielded ops a.tmps) = true ∧ (∀ w, Good W tok τ (depB ops j) w → wildAt P oj a w (R j)) ∧ wpTok P ops W tok R Qh τ (is.erase j) (a.put oj.dst (τ j).1))
  | i :: is, a, hp, hm, hap, ⟨o, h1, h2⟩ => by
    by_cases hij : i = j
    · subst hij
      obtain rfl : o = oj := Option.some.inj (h1.symm.trans hj)
      simpa using h2
    · have hm' : j ∈ is := by
        rcases List.mem_cons.1 hm with e | e
        · exact absurd e.symm hij
        · exact e
      have hlt : i < j := (List.pairwise_cons.1 hp).1 j hm'
      obtain ⟨s1, s2, s3⟩ := Oper.apart_spec (hap i (by simp) hlt o oj h1 hj)
      rw [List.erase_cons_tail (by simpa using hij)]
      have hcont : ∀ u : Value, (∀ vi, wpTok P ops W tok R Qh τ (is.erase j) ((a.put o.dst vi).put oj.dst u) → wpTok P ops W tok R Qh τ (is.erase j) ((a.put oj.dst u).put o.dst vi)) := fun u vi h => by
        rw [← Act.put_comm a vi u s2]
        exact h
      have hback : ∀ vi, wpTok P ops W tok R Qh τ is (a.put o.dst vi) →
          ((∀ u, wpTok P ops W tok R Qh τ (is.erase j) ((a.put o.dst vi).put oj.dst u) → wpTok P ops W tok R Qh τ (i :: is.erase j) (a.put oj.dst u))) →
          (j ∉ tok ∧ ∃ v, YieldsT P ops (Good W tok τ (depB ops j)) oj v a ∧ wpTok P ops W tok R Qh τ (i :: is.erase j) (a.put oj.dst v)) ∨
          (j ∈ tok ∧ Region.wanted oj (yielded ops a.tmps) = true ∧ (∀ w, Good W tok τ (depB ops j) w → wildAt P oj a w (R j)) ∧ wpTok P ops W tok R Qh τ (i :: is.erase j) (a.put oj.dst (τ j).1)) := fun vi h hc => by
        rcases wpTok_take hsel hj is (a.put o.dst vi) (List.pairwise_cons.1 hp).2 hm' (fun k hk => hap k (List.mem_cons_of_mem _ hk)) h with ⟨hn, u, y1, y2⟩ | ⟨hn, y1, y2, y3⟩
        · exact .inl ⟨hn, u, (YieldsT.put (hsel j oj · · hj) s1).1 y1, hc u y2⟩
        · refine .inr ⟨hn, ?_, fun w hw => (wildAt_put (ops := ops) (hsel j oj · · hj) s1).1 (y2 w hw), hc _ y3⟩
          rwa [wanted_put oj a o.dst vi s1] at y1
      rcases h2 with ⟨hni, v, h2, h3⟩ | ⟨hni, h2, h3, h4⟩
      · exact hback v h3 fun u hu => ⟨o, h1, .inl ⟨hni, v, (YieldsT.put (hsel i o · · h1) s3).2 h2, hcont u v hu⟩⟩
      · exact hback _ h4 fun u hu => ⟨o, h1, .inr ⟨hni, by rw [wanted_put o a oj.dst u s3]; exact h2, fun w hw => (wildAt_put (ops := ops) (hsel i o · · h1) s3).2 (h3 w hw), hcont u _ hu⟩⟩
  | [], _, _, hm, _, _ => by cases hm

theorem wpAny_tok {n : Nat} {W : World} {tok : List Nat} {R : Nat → Value → World → Prop} {Q' : Exit → Act → World → Prop} {Qh : Act → World → Prop} (F : WildOk ops [] n) (htok : ∀ i ∈ tok, i < n) (hT : ∀ a w, Qh a w → wpList P ops Q' (ops.toList.drop n) a w) :
    ∀ (f : Nat) (listed : Array Bool) (a : Act) (w : World) (τ : Nat → Value × World), Closed ops listed → listed.size = ops.size → (left listed n).length = f → (∀ t, n ≤ t → t < ops.size → listed.getD t true = false) →
      Good W tok τ (fun i => listed.getD i false) w → (∀ i ∈ tok, Below W.heap.size W (τ i).2 ∧ R i (τ i).1 (τ i).2) →
      (∀ τ' : Nat → Value × World, (∀ i ∈ tok, Below W.heap.size W (τ' i).2 ∧ R i (τ' i).1 (τ' i).2) → (∀ i ∈ tok, listed.getD i false = true → τ' i = τ i) → wpTok P ops W tok R Qh τ' (left listed n) a) →
      wpAny P .any ops Q' (f + (ops.size - n)) listed a w
  | 0, listed, a, w, τ, hcl, hs, hf, ht, hg, hv, hh => by
    have hall : ∀ i, i < n → listed.getD i true = true := fun i hi => by
      cases h : listed.getD i true with
      | true => rfl
      | false =>
        have := mem_left.2 ⟨hi, h⟩
        rw [List.eq_nil_of_length_eq_zero hf] at this
        cases this
    have hle : listed = (Array.range ops.size).map fun i => decide (i < n) := listed_eq hs fun i hi => by
      by_cases him : i < n
      · simp [hall i him, him]
      · simp [ht i (by omega) hi, him]
    have hq := hh τ hv fun _ _ _ => rfl
    rw [List.eq_nil_of_length_eq_zero hf] at hq
    have hq2 := hq w ⟨hg.1, fun i hi _ => hg.2 i hi (by dsimp only; rw [getD_flip (by have := htok i hi; have := F.size; omega)]; exact hall i (htok i hi))⟩
    subst hle
    rw [Nat.zero_add]
    have hlen : (ops.toList.drop n).length = ops.size - n := by simp
    have := wpAny_of_seq (P := P) (ops := ops) (md := .any) (Q' := Q') (ops.toList.drop n) n ((Array.range ops.size).map fun i => decide (i < n)) a w (fun j => by simp) (by rw [hlen]; exact F.seq) (hT a w hq2)
    rw [hlen] at this
    exact this
  | f + 1, listed, a, w, τ, hcl, hs, hf, ht, hg, hv, hh => by
    have hne : ∃ i, i < n ∧ listed.getD i true = false := by
      cases hl : left listed n with
      | nil => rw [hl] at hf; cases hf
      | cons i r => exact ⟨i, mem_left.1 (by rw [hl]; simp)⟩
    have hready : ∃ i, i ∈ Region.ready .any ops listed := by
      have : ∀ k i, i < k → i < n → listed.getD i true = false → ∃ j, j ∈ Region.ready .any ops listed := by
        intro k
        induction k with
        | zero => intro i hi; omega
        | succ k ih =>
          intro i hik him hun
          have hsz : i < ops.size := Nat.lt_of_lt_of_le him F.size
          by_cases hd : ∀ e ∈ (ops[i]).after, Region.binds .any e = true → listed.getD e.on false = true
          · exact ⟨i, mem_ready.2 ⟨hun, ops[i], Array.getElem?_eq_getElem hsz, hd⟩⟩
          · obtain ⟨e, he⟩ := Classical.not_forall.1 hd
            obtain ⟨he1, he2⟩ := Classical.not_imp.1 he
            obtain ⟨he2, he3⟩ := Classical.not_imp.1 he2
            have hlt := F.deps i _ him (Array.getElem?_eq_getElem hsz) e he1 he2
            have hun2 : listed.getD e.on true = false := by
              rw [← getD_flip (by omega)]
              simpa using he3
            exact ih e.on (by omega) (by omega) hun2
      obtain ⟨i, him, hun⟩ := hne
      exact this (i + 1) i (by omega) him hun
    rw [show f + 1 + (ops.size - n) = (f + (ops.size - n)) + 1 by omega]
    refine ⟨(fun h0 => by obtain ⟨i, hi⟩ := hready; rw [h0] at hi; cases hi), fun i hi => ?_⟩
    obtain ⟨hun, oi, hoi, hall⟩ := mem_ready.1 hi
    have hisz : i < ops.size := (Array.getElem?_eq_some_iff.1 hoi).1
    have hsat : Sat ops listed i := fun k hk => waits_listed hi hk
    have him : i < n := by
      rcases Nat.lt_or_ge i n with h | h
      · exact h
      · obtain ⟨k, hkm, hk⟩ := hne
        have := (F.tail i k h hisz hkm).2 listed hcl hs hsat
        rw [getD_flip (by have := F.size; omega), hk] at this
        cases this
    have hap : ∀ k ∈ left listed n, k < i → apartAt ops k i := fun k hk hki => by
      obtain ⟨h1, h2⟩ := mem_left.1 hk
      rcases F.apart i k him hki with h | h
      · have := h.2 listed hcl hs hsat
        rw [getD_flip (by omega), h2] at this
        cases this
      · exact h.1
    have hun' : listed.getD i false = false := by rw [getD_flip (by omega)]; exact hun
    have hdep : ∀ k ∈ tok, depB ops i k = true → listed.getD k false = true := fun k _ hd => by
      have hd2 : i ∈ waitsT ops k := by
        unfold depB at hd
        exact List.contains_iff_mem.1 hd
      exact (waitsT_dep k i hd2).2 listed hcl hs hsat
    have hcount : (left (listed.setIfInBounds i true) n).length = f := by
      rw [left_set (by omega), List.length_erase_of_mem (mem_left.2 ⟨him, hun⟩), hf]
      rfl
    have htail : ∀ t, n ≤ t → t < ops.size → (listed.setIfInBounds i true).getD t true = false := fun t h1 h2 => by
      rw [getD_set_ne true (by omega)]
      exact ht t h1 h2
    have htake : ∀ τ' : Nat → Value × World, (∀ i ∈ tok, Below W.heap.size W (τ' i).2 ∧ R i (τ' i).1 (τ' i).2) → (∀ i ∈ tok, listed.getD i false = true → τ' i = τ i) → _ := fun τ' h1 h2 => wpTok_take F.sel hoi (left listed n) a (left_sorted _ _) (mem_left.2 ⟨him, hun⟩) hap (hh τ' h1 h2)
    have hgood : ∀ τ' : Nat → Value × World, (∀ i ∈ tok, listed.getD i false = true → τ' i = τ i) → Good W tok τ' (depB ops i) w := fun τ' h2 =>
      ⟨hg.1, fun k hk hd => by rw [h2 k hk (hdep k hk hd)]; exact hg.2 k hk (hdep k hk hd)⟩
    unfold wpOp
    simp only [hoi]
    rcases htake τ hv fun _ _ _ => rfl with ⟨hn, v, hy, _⟩ | ⟨hn, hw1, hy, _⟩
    · have hset : ∀ k ∈ tok, (listed.setIfInBounds i true).getD k false = true → listed.getD k false = true := fun k hk h => by
        have e : k ≠ i := fun e => hn (e ▸ hk)
        rwa [getD_set_ne false (Ne.symm e)] at h
      by_cases hall' : ∀ τ' : Nat → Value × World, (∀ i ∈ tok, Below W.heap.size W (τ' i).2 ∧ R i (τ' i).1 (τ' i).2) → (∀ i ∈ tok, listed.getD i false = true → τ' i = τ i) → wpTok P ops W tok R Qh τ' ((left listed n).erase i) (a.put oi.dst v)
      · have hstep : ∀ w', Below w.heap.size w w' → wpAny P .any ops Q' (f + (ops.size - n)) (listed.setIfInBounds i true) (a.put oi.dst v) w' := fun w' hw => by
          refine wpAny_tok F htok hT f _ _ w' τ (hcl.step hi) (by simpa using hs) hcount htail ?_ hv fun τ' h1 h2 => ?_
          · exact ⟨Below.step hg.1 hw, fun k hk h => Below.step (hg.2 k hk (hset k hk h)) hw⟩
          · rw [left_set (by omega)]
            refine hall' τ' h1 fun k hk h => h2 k hk ?_
            have e : k ≠ i := fun e => hn (e ▸ hk)
            rwa [getD_set_ne false (Ne.symm e)]
        rcases hy with ⟨hw1, hw2⟩ | ⟨hw1, rfl⟩
        · rw [if_pos hw1]
          exact .inl (wp_of_quietAt (hw2 w (hgood τ fun _ _ _ => rfl)).1 hstep)
        · rw [if_neg (by rw [hw1]; exact Bool.false_ne_true)]
          exact hstep w (Below.refl _ _)
      · exfalso
        obtain ⟨τ', hq⟩ := Classical.not_forall.1 hall'
        obtain ⟨h1, hq⟩ := Classical.not_imp.1 hq
        obtain ⟨h2, hq⟩ := Classical.not_imp.1 hq
        rcases htake τ' h1 h2 with ⟨_, v', hy', hrest'⟩ | ⟨hn', _⟩
        case inr => exact absurd hn' hn
        have hvv : v ≠ v' := fun e => hq (by rw [e]; exact hrest')
        rcases hy with ⟨hw1, hw2⟩ | ⟨hw1, rfl⟩
        · rcases hy' with ⟨_, hw2'⟩ | ⟨hw1', _⟩
          · exact hvv (quiet_two (hw2 w (hgood τ fun _ _ _ => rfl)).1 (hw2' w (hgood τ' h2)).1 (hw2 w (hgood τ fun _ _ _ => rfl)).2)
          · rw [hw1] at hw1'
            cases hw1'
        · rcases hy' with ⟨hw1', _⟩ | ⟨_, e⟩
          · rw [hw1] at hw1'
            cases hw1'
          · exact absurd e.symm hvv
    · rw [if_pos hw1]
      refine .inl (wp_of_wildAt (hy w (hgood τ fun _ _ _ => rfl)) fun v w' hb hr => ?_)
      refine wpAny_tok (W := W) (R := R) F htok hT f _ _ w' (fun k => if k = i then (v, w') else τ k) (hcl.step hi) (by simpa using hs) hcount htail ?_ ?_ fun τ' h1 h2 => ?_
      · refine ⟨Below.step hg.1 hb, fun k hk h => ?_⟩
        dsimp only
        by_cases e : k = i
        · rw [if_pos e]
          exact Below.refl _ _
        · rw [if_neg e]
          dsimp only at h
          rw [getD_set_ne false (Ne.symm e)] at h
          exact Below.step (hg.2 k hk h) hb
      · intro k hk
        by_cases e : k = i
        · subst e
          rw [if_pos rfl]
          exact ⟨Below.step hg.1 hb, hr⟩
        · rw [if_neg e]
          exact hv k hk
      · rw [left_set (by omega)]
        have e0 : τ' i = (v, w') := by
          have := h2 i hn (by simp [show i < listed.size by omega])
          simpa using this
        have h3 : ∀ k ∈ tok, listed.getD k false = true → τ' k = τ k := fun k hk h => by
          have e : k ≠ i := fun e => by rw [e, hun'] at h; cases h
          have := h2 k hk (by rw [getD_set_ne false (Ne.symm e)]; exact h)
          simpa [e] using this
        rcases htake τ' h1 h3 with ⟨hn', _⟩ | ⟨_, _, _, hrest⟩
        · exact absurd hn hn'
        · rw [e0] at hrest
          exact hrest

/-- The same walk, the operations that are left written out, from number i on. -/
def wpTokL (P : Program) (ops : Array Oper) (W : World) (tok : List Nat) (R : Nat → Value → World → Prop) (Qh : Act → World → Prop) (τ : Nat → Value × World) : Nat → List Oper → Act → Prop
  | _, [], a => ∀ w, Good W tok τ (fun _ => true) w → Qh a w
  | j, o :: rest, a =>
      (j ∉ tok ∧ ∃ v, YieldsT P ops (Good W tok τ (depB ops j)) o v a ∧ wpTokL P ops W tok R Qh τ (j + 1) rest (a.put o.dst v)) ∨
      (j ∈ tok ∧ Region.wanted o (yielded ops a.tmps) = true ∧ (∀ w, Good W tok τ (depB ops j) w → wildAt P o a w (R j)) ∧ wpTokL P ops W tok R Qh τ (j + 1) rest (a.put o.dst (τ j).1))
theorem wpTok_of_L {W : World} {tok : List Nat} {R : Nat → Value → World → Prop} {Qh : Act → World → Prop} {τ : Nat → Value × World} : ∀ (rest : List Oper) (i : Nat) (a : Act), (∀ j, j < rest.length → rest[j]? = ops[i + j]?) → wpTokL P ops W tok R Qh τ i rest a → wpTok P ops W tok R Qh τ (List.range' i rest.length) a
  | [], _, _, _, h => h
  | o :: rest, i, a, hr, h => by
    have h0 : ops[i]? = some o := by simpa using (hr 0 (by simp)).symm
    have hr' : ∀ j, j < rest.length → rest[j]? = ops[(i + 1) + j]? := fun j hj => by
      have := hr (j + 1) (by simpa using hj)
      simpa [Nat.add_assoc, Nat.add_comm 1 j] using this
    rw [List.length_cons, List.range'_succ]
    refine ⟨o, h0, ?_⟩
    rcases h with ⟨hn, v, h1, h2⟩ | ⟨hn, h1, h2, h3⟩
    · exact .inl ⟨hn, v, h1, wpTok_of_L rest _ _ hr' h2⟩
    · exact .inr ⟨hn, h1, h2, wpTok_of_L rest _ _ hr' h3⟩
/-- THE LAW, at a region that is written out: its first operations, then its tail. -/
theorem wp_region_tok {id : Nat} {Q : Exit → Act → World → Prop} {a : Act} {w : World} {l : List Oper} (tok : List Nat) (n : Nat) (R : Nat → Value → World → Prop) (hm : P.follows .mixedOrders = true) (hB : (wildB l.toArray [] n && tok.all fun i => decide (i < n)) = true)
    (hsat : ∀ i ∈ tok, ∃ v W', Below w.heap.size w W' ∧ R i v W')
    (h : ∀ τ : Nat → Value × World, (∀ i ∈ tok, Below w.heap.size w (τ i).2 ∧ R i (τ i).1 (τ i).2) → wpTokL P l.toArray w tok R (fun a w' => wpList P l.toArray Q (l.drop n) a w') τ 0 (l.take n) a) : (Code.region id l.toArray true).wp P Q a w := by
  rw [Bool.and_eq_true] at hB
  have F := WildOk.of_check hB.1
  have htok : ∀ i ∈ tok, i < n := fun i hi => by simpa using List.all_eq_true.1 hB.2 i hi
  have hb : Below w.heap.size w w.drew := (Below.refl _ _).drew
  have hs := F.size
  have hl : (l.take n).length = n := by rw [List.length_take]; simp at hs; omega
  obtain ⟨τ, hτ⟩ : ∃ τ : Nat → Value × World, ∀ i ∈ tok, Below w.heap.size w (τ i).2 ∧ R i (τ i).1 (τ i).2 := by
    have : ∀ i, ∃ p : Value × World, i ∈ tok → Below w.heap.size w p.2 ∧ R i p.1 p.2 := fun i => by
      by_cases hi : i ∈ tok
      · obtain ⟨v, W', h1⟩ := hsat i hi
        exact ⟨(v, W'), fun _ => h1⟩
      · exact ⟨(undef, w), fun h => absurd h hi⟩
    obtain ⟨τ, hτ⟩ := Classical.axiomOfChoice this
    exact ⟨τ, hτ⟩
  refine wp_region_any hm ?_
  have := wpAny_tok (P := P) (Q' := Q) (W := w) (tok := tok) (R := R) (Qh := fun a w' => wpList P l.toArray Q (l.drop n) a w') F htok (fun a w h => h) n (Array.replicate l.toArray.size false) a w.drew τ (fun q _ hq h _ => by rw [unlisted l q hq] at h; cases h) (by simp) (by rw [left_all l n F.size]; simp) (fun t _ h2 => unlisted l t h2)
    ⟨hb, fun i hi hp => by
      dsimp only at hp
      rw [getD_flip (by have := htok i hi; simp; simp at hs; omega), unlisted l i (by have := htok i hi; omega)] at hp
      cases hp⟩ hτ
    (fun τ' h1 _ => by
      rw [left_all l n F.size]
      have := wpTok_of_L (l.take n) 0 a (fun j hj => by
        rw [hl] at hj
        rw [List.getElem?_take, if_pos hj]
        simp) (h τ' h1)
      rw [hl, ← List.range_eq_range'] at this
      exact this)
  rw [show n + (l.toArray.size - n) = l.toArray.size by have := F.size; omega] at this
  exact this

section
variable {W : World} {tok : List Nat} {R : Nat → Value → World → Prop} {Qh : Act → World → Prop} {τ : Nat → Value × World} {i : Nat} {rest : List Oper} {a : Act} {o : Oper}
theorem tokL_nil (h : ∀ w, Good W tok τ (fun _ => true) w → Qh a w) : wpTokL P ops W tok R Qh τ i [] a := h
/-- An operation that reads what lay there at first. -/
theorem tokL_val (hn : i ∉ tok) (hw : Region.wanted o (yielded ops a.tmps) = true) (hc : noCall o.op = true)
    (h : ∀ K : Act → Prop, (∀ a, wpTokL P ops W tok R Qh τ (i + 1) rest a → K a) → o.quiet P a (fun w' => ∃ x : Past W, w' = x.w) K) : wpTokL P ops W tok R Qh τ i (o :: rest) a := by
  obtain ⟨v, h1, h2⟩ := h _ fun _ h => h
  refine .inl ⟨hn, v, .inl ⟨hw, fun w hg => ⟨?_, late_none hc _ _⟩⟩, h2⟩
  have := h1 w ⟨⟨w, hg.1⟩, rfl⟩
  unfold Oper.quietAt at this ⊢
  generalize hr : (execOp a.eval o).run P w = r at *
  cases r with
  | ok n w' =>
    cases n
    case enter f args => exact (no_enter hc _ _ _ _ _ hr).elim
    all_goals exact this
  | halt y w' => exact this
/-- An operation that reads what operation k made. -/
theorem tokL_val1 (k : Nat) {v1 : Value} {W1 : World} (e : τ k = (v1, W1)) (hk : k ∈ tok) (hd : depB ops i k = true) (hn : i ∉ tok) (hw : Region.wanted o (yielded ops a.tmps) = true) (hc : noCall o.op = true)
    (h : ∀ K : Act → Prop, (∀ a, wpTokL P ops W tok R Qh τ (i + 1) rest a → K a) → o.quiet P a (fun w' => ∃ x : Past W1, w' = x.w) K) : wpTokL P ops W tok R Qh τ i (o :: rest) a := by
  obtain ⟨v, h1, h2⟩ := h _ fun _ h => h
  refine .inl ⟨hn, v, .inl ⟨hw, fun w hg => ⟨?_, late_none hc _ _⟩⟩, h2⟩
  have hb := hg.2 k hk hd
  rw [e] at hb
  have := h1 w ⟨⟨w, hb⟩, rfl⟩
  unfold Oper.quietAt at this ⊢
  generalize hr : (execOp a.eval o).run P w = r at *
  cases r with
  | ok n w' =>
    cases n
    case enter f args => exact (no_enter hc _ _ _ _ _ hr).elim
    all_goals exact this
  | halt y w' => exact this
def startB (P : Program) (o : Oper) : Bool := match calleeOf o.op with
  | some k => (P.inits.idxOf? k).isNone && (match P.funcs[k]? with | some fn => !(fn.name == "runtime.NumGoroutine" || fn.body.isNone) | none => false)
  | none => false
theorem startB_spec (h : startB P o = true) (a : Act) (w : World) : Late P o a w := by
  unfold startB at h
  split at h
  · rename_i k hk
    rw [Bool.and_eq_true, Option.isNone_iff_eq_none] at h
    refine late_static hk h.1 ?_ a w
    cases hf : P.funcs[k]? with
    | none => rw [hf] at h; simp at h
    | some fn =>
      rw [hf] at h
      have h2 := h.2
      simp only [Bool.not_eq_true'] at h2
      rw [Option.map_some, h2]
  · cases h
/-- A call whose value is one, whatever the world. -/
theorem tokL_call (hn : i ∉ tok) (hw : Region.wanted o (yielded ops a.tmps) = true) (hl : startB P o = true)
    (hx : ∃ v, (∀ (x : Past W), Good W tok τ (depB ops i) x.w → o.quietAt P a (fun w' => ∃ y : Past x.w, w' = y.w) x.w v) ∧ wpTokL P ops W tok R Qh τ (i + 1) rest (a.put o.dst v)) : wpTokL P ops W tok R Qh τ i (o :: rest) a := by
  obtain ⟨v, h, hA⟩ := hx
  exact .inl ⟨hn, v, .inl ⟨hw, fun w hg => ⟨h ⟨w, hg.1⟩ hg, startB_spec hl _ _⟩⟩, hA⟩
/-- An operation that makes something. -/
theorem tokL_tok {v1 : Value} {W1 : World} (e : τ i = (v1, W1)) (hn : i ∈ tok) (hw : Region.wanted o (yielded ops a.tmps) = true)
    (h : ∀ x : Past W, Good W tok τ (depB ops i) x.w → wildAt P o a x.w (R i)) (h2 : wpTokL P ops W tok R Qh τ (i + 1) rest (a.put o.dst v1)) : wpTokL P ops W tok R Qh τ i (o :: rest) a := by
  refine .inr ⟨hn, hw, fun w hg => h ⟨w, hg.1⟩ hg, ?_⟩
  rw [e]
  exact h2
end
end
end Go.Proofs.YtgegipijappfhaaDoor
namespace Go.Proofs.YtgegipijappfhaaDoor
open Go Go.RowKit

/-- Entries that came in. -/
def InEnts (w : World) (v : Value) (es : List Ent) : Prop :=
  ∃ ao cap, v = .slice ao es.length cap ∧ es.length ≤ cap ∧ cap ≤ maxLen ∧ ∀ i x, es[i]? = some x → ∃ a : Addr, ao = some a ∧ w.cell? (a.add (i * 3)) = some (.string (stx x.key)) ∧ w.cell? (a.add (i * 3 + 1)) = some (.string (stx x.val)) ∧ w.cell? (a.add (i * 3 + 2)) = some (.bool x.gone)
theorem InEnts.below {w w' : World} {v : Value} {es : List Ent} (h : InEnts w v es) (k : Below w.heap.size w w') : InEnts w' v es := by
  obtain ⟨ao, cap, h1, h2, h3, h4⟩ := h
  refine ⟨ao, cap, h1, h2, h3, fun i x hi => ?_⟩
  obtain ⟨a, h5, h6, h7, h8⟩ := h4 i x hi
  exact ⟨a, h5, (k.cell (p := a.add (i * 3)) (cellLt h6)).trans h6, (k.cell (p := a.add (i * 3 + 1)) (cellLt h7)).trans h7, (k.cell (p := a.add (i * 3 + 2)) (cellLt h8)).trans h8⟩
theorem add_twoE (a : Addr) (m j : Nat) : (a.add m).add j = a.add (m + j) := by
  unfold Addr.add
  by_cases hm : m = 0
  · simp [hm]
  · by_cases hj : j = 0
    · simp [hj]
    · simp [hm, hj, Nat.add_assoc]
theorem add_posE (a : Addr) (k : Nat) (hk : 0 < k) : a.add k = ⟨a.block, a.off + k, none⟩ := by
  unfold Addr.add
  rw [if_neg (by omega)]
def cutE (x : Ent) : Ent := ⟨x.key.take 110, x.val.take 4010, x.gone⟩
def fewE (n : Nat) (es : List Ent) : List Ent := (es.take n).map cutE
theorem fewE_length (n : Nat) (es : List Ent) : (fewE n es).length = min n es.length := by simp [fewE]
theorem fewE_succ (es : List Ent) (i : Nat) (x : Ent) (h : es[i]? = some x) : fewE (i + 1) es = fewE i es ++ [cutE x] := by
  unfold fewE
  rw [List.take_add_one, h]
  simp
theorem fewE_small (n : Nat) (es : List Ent) : ∀ x ∈ fewE n es, x.key.length ≤ 110 ∧ x.val.length ≤ 4010 := by
  intro x hx
  obtain ⟨y, _, rfl⟩ := List.mem_map.1 hx
  exact ⟨List.length_take_le _ _, List.length_take_le _ _⟩
theorem fewE_all (n : Nat) (es : List Ent) (h : es.length ≤ n) : fewE n es = fewE es.length es := by
  unfold fewE
  rw [List.take_of_length_le h, List.take_of_length_le (Nat.le_refl _)]
set_option maxRecDepth 100000 in
set_option maxHeartbeats 2000000 in
theorem few9_any (v : Value) (es : List Ent) (n : Nat) (w : World) (h : InEnts w v es) (hn : n ≤ 1000) :
    Calls Tryd.prog 7 #[v, .int .i64 n] w fun e w' => ∃ v', e = .returned v' ∧ OwnEnts w' w.heap.size v' (fewE n es) ∧ Below w.heap.size w w' := by
  obtain ⟨ao, cap, rfl, h1, h2, h3⟩ := h
  have H3 := Lib.hid h3
  obtain ⟨len, hlen⟩ : ∃ len, es.length = len := ⟨_, rfl⟩
  have HL := Lib.hid hlen
  rw [hlen] at h1 ⊢
  have b0 : Below w.heap.size w (w.alloc (.cells #[] 36)) := (Below.refl _ _).alloc (Nat.le_refl _) _
  have o0 := ownEnts_new w w.heap.size w.heap.size rfl (Nat.le_refl _)
  have hli : (len : Int) ≤ 9223372036854775807 := by unfold maxLen at h2; omega
  have hni : (n : Int) ≤ 1000 := by omega
  clear h3 hlen h1 h2
  go_enter Tryd.func7, Tryd.ntmps7
  go_wp2_with fail
  generalize w.alloc (.cells #[] 36) = W0 at *
  generalize hB : w.heap.size = B at *
  have HB := Lib.hid hB
  clear hB
  go_loopw [5, 6] (fun u x wr => ∃ i : Nat, i ≤ len ∧ i ≤ n ∧ x = .int .i64 i ∧ OwnEnts wr B u (fewE i es) ∧ Below B w wr) (fun _ x _ => (n - intOf x).toNat)
  case atStart => exact ⟨0, Nat.zero_le _, Nat.zero_le _, rfl, o0, b0⟩
  case round =>
    obtain ⟨i, hi1, hi2, rfl, ow, b1⟩ := hrel
    clear b0 o0
    have hBr : B ≤ wr.heap.size := by have := b1.size; rw [HB.out] at this; exact this
    by_cases hgo : i < len ∧ i < n
    · obtain ⟨gg1, gg2⟩ := hgo
      have g1' : decide (i < len) = true := decide_eq_true gg1
      have g2' : decide (i < n) = true := decide_eq_true gg2
      have g1n : (i : Int) < len := by omega
      have g2n : (i : Int) < n := by omega
      obtain ⟨x, hx⟩ : ∃ x, es[i]? = some x := ⟨_, List.getElem?_eq_getElem (by rw [HL.out]; exact gg1)⟩
      obtain ⟨a, rfl, k0, k1, k2⟩ := H3.out i x hx
      have c0 := (b1.cell (p := a.add (i * 3)) (by rw [← HB.out]; exact cellLt k0)).trans k0
      have c1 := (b1.cell (p := a.add (i * 3 + 1)) (by rw [← HB.out]; exact cellLt k1)).trans k1
      have c2 := (b1.cell (p := a.add (i * 3 + 2)) (by rw [← HB.out]; exact cellLt k2)).trans k2
      rw [← add_twoE, add_posE _ 1 (by decide)] at c1
      rw [← add_twoE, add_posE _ 2 (by decide)] at c2
      have HX : Hid (fewE (i + 1) es = fewE i es ++ [cutE x]) := Lib.hid (fewE_succ es i x hx)
      have hlen : (fewE i es).length ≤ 1000000 := by rw [fewE_length]; omega
      have r0 : rowAt (wr.alloc (.cells #[.string (stx x.key), .string (stx x.val), .bool x.gone] 36)) wr.heap.size = some #[.string (stx x.key), .string (stx x.val), .bool x.gone] := rowAt_alloc_at _ _ _ _ rfl
      have b2 := b1.alloc hBr (.cells #[.string (stx x.key), .string (stx x.val), .bool x.gone] 36)
      have ow2 : OwnEnts (wr.alloc (.cells #[.string (stx x.key), .string (stx x.val), .bool x.gone] 36)) B _ (fewE i es) := World.ownsRow.alloc ow _
      have HK : ∀ W, Hid (Calls Tryd.prog 11 #[.string (stx x.key), .int .i64 110] W fun e w' => e = .returned (.string (stx (x.key.take 110))) ∧ Below W.heap.size W w') := fun W => Lib.hid ((l3Cut_any (stx x.key) 110 W (by decide)).mono fun e w' ⟨h1, h2⟩ => ⟨h1, by rw [h2]; exact Below.refl _ _⟩)
      have HV : ∀ W, Hid (Calls Tryd.prog 11 #[.string (stx x.val), .int .i64 4010] W fun e w' => e = .returned (.string (stx (x.val.take 4010))) ∧ Below W.heap.size W w') := fun W => Lib.hid ((l3Cut_any (stx x.val) 4010 W (by decide)).mono fun e w' ⟨h1, h2⟩ => ⟨h1, by rw [h2]; exact Below.refl _ _⟩)
      have hz2 : B ≤ (wr.alloc (.cells #[.string (stx x.key), .string (stx x.val), .bool x.gone] 36)).heap.size := Nat.le_trans hBr (by simp)
      have HS : Hid (wr.heap.size = wr.heap.size) := Lib.hid rfl
      clear k0 k1 k2 hx b1 ow
      go_wp2_with fail
      generalize hg : wr.heap.size = gz at *
      generalize wr.alloc (.cells #[.string (stx x.key), .string (stx x.val), .bool x.gone] 36) = W at *
      have y0 : ∀ y : Past W, y.w.cell? ⟨gz, 0, none⟩ = some (.string (stx x.key)) := fun y => (cell_of_rowAt (Past.row r0 y) 0).trans rfl
      have y1 : ∀ y : Past W, y.w.cell? ⟨gz, 1, none⟩ = some (.string (stx x.val)) := fun y => (cell_of_rowAt (Past.row r0 y) 1).trans rfl
      have y2 : ∀ y : Past W, y.w.cell? ⟨gz, 2, none⟩ = some (.bool x.gone) := fun y => (cell_of_rowAt (Past.row r0 y) 2).trans rfl
      clear hg HS
      rw [show [cutE x] = [(⟨x.key.take 110, x.val.take 4010, x.gone⟩ : Ent)] from rfl] at HX
      generalize x.key.take 110 = ck at *
      generalize x.val.take 4010 = cv at *
      generalize x.gone = cg at *
      generalize fewE i es = L at *
      obtain ⟨R, hR⟩ : ∃ R : Nat → Value → World → Prop, R 10 = (fun v W' => ∃ g, v = .slice (some ⟨g, 0, none⟩) 1 1 ∧ EntAt W' g 0 ⟨ck, cv, cg⟩) := ⟨fun _ => _, rfl⟩
      have HS : Hid (∀ i ∈ [10], ∃ v W', Below W.heap.size W W' ∧ R i v W') := Lib.hid (by
        intro i hi
        obtain rfl := List.mem_singleton.1 hi
        rw [hR]
        exact ⟨_, W.alloc (.cells #[.string (stx ck), .string (stx cv), .bool cg] 36), (Below.refl _ _).alloc (Nat.le_refl _) _, W.heap.size, rfl, entAt_new W ⟨ck, cv, cg⟩ _ rfl⟩)
      refine wp_region_tok [10] 11 R (by kernel_rfl) (by kernel_rfl) HS.out ?_
      intro τ hτ
      rcases e1 : τ 10 with ⟨v1, W1⟩
      have t1 := hτ 10 (by simp)
      rw [e1, hR] at t1
      dsimp only at t1
      obtain ⟨hb1, g1, rfl, hc1⟩ := t1
      clear HS hτ
      simp only [List.take_succ_cons, List.take_zero]
      iterate 3 (refine tokL_val (by decide) (by kernel_rfl) rfl ?_; intro K hK; go_big_quiet_op; go_big_quiet_on)
      refine tokL_call (by decide) (by kernel_rfl) (by kernel_rfl) ?_
      apply Exists.intro
      refine And.intro ?_ ?_
      focus
        intro x hg
        unfold Oper.quietAt
        go_simp
        (exact call_yields (HK _).out)
      simp only [Act.put, List.setIfInBounds_toArray, List.set_cons_succ, List.set_cons_zero]
      iterate 2 (refine tokL_val (by decide) (by kernel_rfl) rfl ?_; intro K hK; go_big_quiet_op; go_big_quiet_on)
      refine tokL_call (by decide) (by kernel_rfl) (by kernel_rfl) ?_
      apply Exists.intro
      refine And.intro ?_ ?_
      focus
        intro x hg
        unfold Oper.quietAt
        go_simp
        (exact call_yields (HV _).out)
      simp only [Act.put, List.setIfInBounds_toArray, List.set_cons_succ, List.set_cons_zero]
      iterate 3 (refine tokL_val (by decide) (by kernel_rfl) rfl ?_; intro K hK; go_big_quiet_op; go_big_quiet_on)
      refine tokL_tok e1 (by decide) (by kernel_rfl) ?_ ?_
      focus
        intro x hg
        unfold wildAt
        go_simp
        (exact ⟨(Below.refl _ _).alloc (Nat.le_refl _) _, entAt_new _ ⟨ck, cv, cg⟩ _ rfl⟩)
      simp only [Act.put, List.setIfInBounds_toArray, List.set_cons_succ, List.set_cons_zero]
      refine tokL_nil ?_
      simp only [List.drop_succ_cons, List.drop_zero]
      intro z hz3
      have hz := hz3.1
      have hc3 := hc1.below (by have := hz3.2 10 (by simp) rfl; rw [e1] at this; exact this)
      have ow3 := ow2.below hz
      have b3 := below_past b2 hz hz2
      have hBz : B ≤ z.heap.size := Nat.le_trans hz2 hz.size
      clear y0 y1 y2 r0 c0 c1 c2 ow2 b2 hz hz3 HK HV hc1 hb1
      go_wp2_with (at_builtin; refine wpList_put_ent rfl _ _ rfl B _ L rfl ow3 ⟨ck, cv, cg⟩ g1 1 rfl hc3 hBz hlen ?_)
      intro v5 w5 hown5 hgrow5 _
      have b5 := ow3.grown hgrow5 b3 hBz
      clear hgrow5 hc3 ow3 b3
      go_wp2_with fail
      exact ⟨⟨i + 1, gg1, gg2, by go_num, by rw [HX.out]; exact hown5, b5⟩, by simp [intOf]; omega⟩
    · have HF : Hid (fewE n es = fewE i es) := Lib.hid (by
        by_cases hg1 : i < len
        · rw [show i = n by omega]
        · rw [show i = es.length by rw [HL.out]; omega, fewE_all n es (by rw [HL.out]; omega)])
      by_cases hg1 : i < len
      · obtain rfl : i = n := by omega
        have g1' : decide (i < len) = true := decide_eq_true hg1
        have g1n : (i : Int) < len := by omega
        clear hgo
        go_wp2_with fail
        go_ret
        exact ⟨_, rfl, by rw [HB.out]; exact ow, by rw [HB.out]; exact b1⟩
      · obtain rfl : i = len := by omega
        clear hgo hg1
        go_wp2_with fail
        go_ret
        exact ⟨_, rfl, by rw [HF.out, HB.out]; exact ow, by rw [HB.out]; exact b1⟩
end Go.Proofs.YtgegipijappfhaaDoor
