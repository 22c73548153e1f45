/- A region that draws its order, with several operations whose value hangs on the world (new slices, calls that hand back new memory), none of which need wait for another: one walk, in the order of the text, over whatever these may be. Conditions: none. -/
import Derived.Test.YtfklhkephdnhaaaWild
namespace Go.Proofs.Ytfklhkephdnhaaa
open Go Go.RowKit

section
variable {P : Program} {ops : Array Oper}

/-- A world in which all lies that operation j may rely on: what lay there at first, and what those made that it waits for. -/
def Good (W : World) (tok : List Nat) (τ : Nat → Value × World) (p : Nat → Bool) (w : World) : Prop :=
  Below W.heap.size W w ∧ ∀ i ∈ tok, p i = true → Below (τ i).2.heap.size (τ i).2 w
theorem Good.step {W : World} {tok : List Nat} {τ : Nat → Value × World} {p : Nat → Bool} {w w' : World} (h : Good W tok τ p w) (k : Below w.heap.size w w') : Good W tok τ p w' :=
  ⟨Below.step h.1 k, fun i hi hp => Below.step (h.2 i hi hp) k⟩
def depB (ops : Array Oper) (j i : Nat) : Bool := (waitsT ops i).contains j
/-- Whatever function it enters, it is none of those that run at the start. -/
def Late (P : Program) (o : Oper) (a : Act) (w : World) : Prop := ∀ f args w', (execOp a.eval o).run P w = .ok (.enter f args) w' → P.inits.idxOf? f = none
def YieldsT (P : Program) (ops : Array Oper) (G : World → Prop) (o : Oper) (v : Value) (a : Act) : Prop :=
  (Region.wanted o (yielded ops a.tmps) = true ∧ ∀ w, G w → o.quietAt P a (fun w' => ∃ y : Past w, w' = y.w) w v ∧ Late P o a w) ∨
  (Region.wanted o (yielded ops a.tmps) = false ∧ v = undef)
theorem YieldsT.put {G : World → Prop} {o : Oper} {v u : Value} {a : Act} {dst : Option Tmp} (hs : ∀ cs b, o.op ≠ .select cs b) (hd : ∀ d, dst = some d → d ∉ o.looksAt ops) :
    YieldsT P ops G o v (a.put dst u) ↔ YieldsT P ops G o v a := by
  unfold YieldsT Oper.quietAt Late
  rw [execOp_put o hs a dst u hd, wanted_put o a dst u hd]
/-- Two contracts on one call speak of one end. -/
theorem calls_agree {f : FuncId} {args : Array Value} {w : World} {v u : Value} {R R' : World → Prop}
    (h : Calls P f args w fun e w' => e = .returned v ∧ R w') (h' : Calls P f args w fun e w' => e = .returned u ∧ R' w') (hi : P.inits.idxOf? f = none) : v = u := by
  obtain ⟨n, v1, w1, e1, r1⟩ := Calls.done (R := fun x _ => x = v) (h.mono fun e w' ⟨he, _⟩ => by subst he; rfl) hi
  obtain ⟨m, v2, w2, e2, r2⟩ := Calls.done (R := fun x _ => x = u) (h'.mono fun e w' ⟨he, _⟩ => by subst he; rfl) hi
  have a := runN_ended e1 m
  have b := runN_ended e2 n
  rw [Nat.add_comm, a] at b
  injection b with ho hw
  injection ho with hv
  exact r1.symm.trans (hv.trans r2)
/-- At one world two values are one. -/
theorem quiet_two {o : Oper} {a : Act} {w : World} {v u : Value} (h1 : o.quietAt P a (fun w' => ∃ y : Past w, w' = y.w) w v) (h2 : o.quietAt P a (fun w' => ∃ y : Past w, w' = y.w) w u) (hl : Late P o a w) : v = u := by
  unfold Late at hl
  unfold Oper.quietAt at h1 h2
  generalize (execOp a.eval o).run P w = r at *
  cases r with
  | ok n w' =>
    cases n <;> simp only [Oper.quietUpon] at h1 h2
    case value x => exact h1.2.symm.trans h2.2
    case skip => exact h1.2.trans h2.2.symm
    case enter f args => exact calls_agree h1.2 h2.2 (hl f args w' rfl)
  | halt x w' => simp only [Oper.quietUpon] at h1
/-- A call of a function by its name. -/
def calleeOf : Op → Option FuncId
  | .call c => match c.callee with
    | .value (.func k) => some k
    | _ => none
  | _ => none
theorem late_static {o : Oper} {k : FuncId} (ho : calleeOf o.op = some k) (hi : P.inits.idxOf? k = none) (hf : (P.funcs[k]?).map (fun fn => fn.name == "runtime.NumGoroutine" || fn.body.isNone) = some false) (a : Act) (w : World) : Late P o a w := by
  intro f args w' he
  unfold calleeOf at ho
  split at ho
  · rename_i c hc
    split at ho
    · rename_i k' hk
      obtain rfl := Option.some.inj ho
      unfold execOp at he
      rw [hc] at he
      obtain ⟨fn, hfn, hff⟩ := Option.map_eq_some_iff.1 hf
      rw [Bool.or_eq_false_iff] at hff
      simp only [hk, resolve, invoke, Sem.run_bind, Act.eval, Deferred.ofValue, Sem.run_pure, Result.andThen_ok, callFunc, show (program : Sem Program).run P w = .ok P w from rfl, hfn, hff.1, hff.2, Bool.false_eq_true, if_false] at he
      injection he with he _
      injection he with he _
      rw [← he]
      exact hi
    · cases ho
  · cases ho
theorem late_none {o : Oper} (h : noCall o.op = true) (a : Act) (w : World) : Late P o a w := fun _ _ _ he => (no_enter h _ _ _ _ _ he).elim

/-- The walk in the order of the text. -/
def wpTok (P : Program) (ops : Array Oper) (W : World) (tok : List Nat) (R : Nat → Value → World → Prop) (Qh : Act → World → Prop) (τ : Nat → Value × World) : List Nat → Act → Prop
  | [], a => ∀ w, Good W tok τ (fun _ => true) w → Qh a w
  | j :: is, a => ∃ o, ops[j]? = some o ∧
      ((j ∉ tok ∧ ∃ v, YieldsT P ops (Good W tok τ (depB ops j)) o v a ∧ wpTok P ops W tok R Qh τ is (a.put o.dst v)) ∨
       (j ∈ tok ∧ Region.wanted o (yielded ops a.tmps) = true ∧ (∀ w, Good W tok τ (depB ops j) w → wildAt P o a w (R j)) ∧ wpTok P ops W tok R Qh τ is (a.put o.dst (τ j).1)))

theorem wpTok_take {W : World} {tok : List Nat} {R : Nat → Value → World → Prop} {Qh : Act → World → Prop} {τ : Nat → Value × World} (hsel : ∀ (j : Nat) (o : Oper) cs b, ops[j]? = some o → o.op ≠ .select cs b) {j : Nat} {oj : Oper} (hj : ops[j]? = some oj) :
    ∀ (is : List Nat) (a : Act), is.Pairwise (· < ·) → j ∈ is → (∀ k ∈ is, k < j → apartAt ops k j) → wpTok P ops W tok R Qh τ is a →
      (j ∉ tok ∧ ∃ v, YieldsT P ops (Good W tok τ (depB ops j)) oj v a ∧ wpTok P ops W tok R Qh τ (is.erase j) (a.put oj.dst v)) ∨
      (j ∈ tok ∧ Region.wanted oj (yielded ops a.tmps) = true ∧ (∀ w, Good W tok τ (depB ops j) w → wildAt P oj a w (R j)) ∧ wpTok P ops W tok R Qh τ (is.erase j) (a.put oj.dst (τ j).1))
  | i :: is, a, hp, hm, hap, ⟨o, h1, h2⟩ => by
    by_cases hij : i = j
    · subst hij
      obtain rfl : o = oj := Option.some.inj (h1.symm.trans hj)
      simpa using h2
    · have hm' : j ∈ is := by
        rcases List.mem_cons.1 hm with e | e
        · exact absurd e.symm hij
        · exact e
      have hlt : i < j := (List.pairwise_cons.1 hp).1 j hm'
      obtain ⟨s1, s2, s3⟩ := Oper.apart_spec (hap i (by simp) hlt o oj h1 hj)
      rw [List.erase_cons_tail (by simpa using hij)]
      have hcont : ∀ u : Value, (∀ vi, wpTok P ops W tok R Qh τ (is.erase j) ((a.put o.dst vi).put oj.dst u) → wpTok P ops W tok R Qh τ (is.erase j) ((a.put oj.dst u).put o.dst vi)) := fun u vi h => by
        rw [← Act.put_comm a vi u s2]
        exact h
      have hback : ∀ vi, wpTok P ops W tok R Qh τ is (a.put o.dst vi) →
          ((∀ u, wpTok P ops W tok R Qh τ (is.erase j) ((a.put o.dst vi).put oj.dst u) → wpTok P ops W tok R Qh τ (i :: is.erase j) (a.put oj.dst u))) →
          (j ∉ tok ∧ ∃ v, YieldsT P ops (Good W tok τ (depB ops j)) oj v a ∧ wpTok P ops W tok R Qh τ (i :: is.erase j) (a.put oj.dst v)) ∨
          (j ∈ tok ∧ Region.wanted oj (yielded ops a.tmps) = true ∧ (∀ w, Good W tok τ (depB ops j) w → wildAt P oj a w (R j)) ∧ wpTok P ops W tok R Qh τ (i :: is.erase j) (a.put oj.dst (τ j).1)) := fun vi h hc => by
        rcases wpTok_take hsel hj is (a.put o.dst vi) (List.pairwise_cons.1 hp).2 hm' (fun k hk => hap k (List.mem_cons_of_mem _ hk)) h with ⟨hn, u, y1, y2⟩ | ⟨hn, y1, y2, y3⟩
        · exact .inl ⟨hn, u, (YieldsT.put (hsel j oj · · hj) s1).1 y1, hc u y2⟩
        · refine .inr ⟨hn, ?_, fun w hw => (wildAt_put (ops := ops) (hsel j oj · · hj) s1).1 (y2 w hw), hc _ y3⟩
          rwa [wanted_put oj a o.dst vi s1] at y1
      rcases h2 with ⟨hni, v, h2, h3⟩ | ⟨hni, h2, h3, h4⟩
      · exact hback v h3 fun u hu => ⟨o, h1, .inl ⟨hni, v, (YieldsT.put (hsel i o · · h1) s3).2 h2, hcont u v hu⟩⟩
      · exact hback _ h4 fun u hu => ⟨o, h1, .inr ⟨hni, by rw [wanted_put o a oj.dst u s3]; exact h2, fun w hw => (wildAt_put (ops := ops) (hsel i o · · h1) s3).2 (h3 w hw), hcont u _ hu⟩⟩
  | [], _, _, hm, _, _ => by cases hm

theorem wpAny_tok {n : Nat} {W : World} {tok : List Nat} {R : Nat → Value → World → Prop} {Q' : Exit → Act → World → Prop} {Qh : Act → World → Prop} (F : WildOk ops [] n) (htok : ∀ i ∈ tok, i < n) (hT : ∀ a w, Qh a w → wpList P ops Q' (ops.toList.drop n) a w) :
    ∀ (f : Nat) (listed : Array Bool) (a : Act) (w : World) (τ : Nat → Value × World), Closed ops listed → listed.size = ops.size → (left listed n).length = f → (∀ t, n ≤ t → t < ops.size → listed.getD t true = false) →
      Good W tok τ (fun i => listed.getD i false) w → (∀ i ∈ tok, Below W.heap.size W (τ i).2 ∧ R i (τ i).1 (τ i).2) →
      (∀ τ' : Nat → Value × World, (∀ i ∈ tok, Below W.heap.size W (τ' i).2 ∧ R i (τ' i).1 (τ' i).2) → (∀ i ∈ tok, listed.getD i false = true → τ' i = τ i) → wpTok P ops W tok R Qh τ' (left listed n) a) →
      wpAny P .any ops Q' (f + (ops.size - n)) listed a w
  | 0, listed, a, w, τ, hcl, hs, hf, ht, hg, hv, hh => by
    have hall : ∀ i, i < n → listed.getD i true = true := fun i hi => by
      cases h : listed.getD i true with
      | true => rfl
      | false =>
        have := mem_left.2 ⟨hi, h⟩
        rw [List.eq_nil_of_length_eq_zero hf] at this
        cases this
    have hle : listed = (Array.range ops.size).map fun i => decide (i < n) := listed_eq hs fun i hi => by
      by_cases him : i < n
      · simp [hall i him, him]
      · simp [ht i (by omega) hi, him]
    have hq := hh τ hv fun _ _ _ => rfl
    rw [List.eq_nil_of_length_eq_zero hf] at hq
    have hq2 := hq w ⟨hg.1, fun i hi _ => hg.2 i hi (by dsimp only; rw [getD_flip (by have := htok i hi; have := F.size; omega)]; exact hall i (htok i hi))⟩
    subst hle
    rw [Nat.zero_add]
    have hlen : (ops.toList.drop n).length = ops.size - n := by simp
    have := wpAny_of_seq (P := P) (ops := ops) (md := .any) (Q' := Q') (ops.toList.drop n) n ((Array.range ops.size).map fun i => decide (i < n)) a w (fun j => by simp) (by rw [hlen]; exact F.seq) (hT a w hq2)
    rw [hlen] at this
    exact this
  | f + 1, listed, a, w, τ, hcl, hs, hf, ht, hg, hv, hh => by
    have hne : ∃ i, i < n ∧ listed.getD i true = false := by
      cases hl : left listed n with
      | nil => rw [hl] at hf; cases hf
      | cons i r => exact ⟨i, mem_left.1 (by rw [hl]; simp)⟩
    have hready : ∃ i, i ∈ Region.ready .any ops listed := by
      have : ∀ k i, i < k → i < n → listed.getD i true = false → ∃ j, j ∈ Region.ready .any ops listed := by
        intro k
        induction k with
        | zero => intro i hi; omega
        | succ k ih =>
          intro i hik him hun
          have hsz : i < ops.size := Nat.lt_of_lt_of_le him F.size
          by_cases hd : ∀ e ∈ (ops[i]).after, Region.binds .any e = true → listed.getD e.on false = true
          · exact ⟨i, mem_ready.2 ⟨hun, ops[i], Array.getElem?_eq_getElem hsz, hd⟩⟩
          · obtain ⟨e, he⟩ := Classical.not_forall.1 hd
            obtain ⟨he1, he2⟩ := Classical.not_imp.1 he
            obtain ⟨he2, he3⟩ := Classical.not_imp.1 he2
            have hlt := F.deps i _ him (Array.getElem?_eq_getElem hsz) e he1 he2
            have hun2 : listed.getD e.on true = false := by
              rw [← getD_flip (by omega)]
              simpa using he3
            exact ih e.on (by omega) (by omega) hun2
      obtain ⟨i, him, hun⟩ := hne
      exact this (i + 1) i (by omega) him hun
    rw [show f + 1 + (ops.size - n) = (f + (ops.size - n)) + 1 by omega]
    refine ⟨(fun h0 => by obtain ⟨i, hi⟩ := hready; rw [h0] at hi; cases hi), fun i hi => ?_⟩
    obtain ⟨hun, oi, hoi, hall⟩ := mem_ready.1 hi
    have hisz : i < ops.size := (Array.getElem?_eq_some_iff.1 hoi).1
    have hsat : Sat ops listed i := fun k hk => waits_listed hi hk
    have him : i < n := by
      rcases Nat.lt_or_ge i n with h | h
      · exact h
      · obtain ⟨k, hkm, hk⟩ := hne
        have := (F.tail i k h hisz hkm).2 listed hcl hs hsat
        rw [getD_flip (by have := F.size; omega), hk] at this
        cases this
    have hap : ∀ k ∈ left listed n, k < i → apartAt ops k i := fun k hk hki => by
      obtain ⟨h1, h2⟩ := mem_left.1 hk
      rcases F.apart i k him hki with h | h
      · have := h.2 listed hcl hs hsat
        rw [getD_flip (by omega), h2] at this
        cases this
      · exact h.1
    have hun' : listed.getD i false = false := by rw [getD_flip (by omega)]; exact hun
    have hdep : ∀ k ∈ tok, depB ops i k = true → listed.getD k false = true := fun k _ hd => by
      have hd2 : i ∈ waitsT ops k := by
        unfold depB at hd
        exact List.contains_iff_mem.1 hd
      exact (waitsT_dep k i hd2).2 listed hcl hs hsat
    have hcount : (left (listed.setIfInBounds i true) n).length = f := by
      rw [left_set (by omega), List.length_erase_of_mem (mem_left.2 ⟨him, hun⟩), hf]
      rfl
    have htail : ∀ t, n ≤ t → t < ops.size → (listed.setIfInBounds i true).getD t true = false := fun t h1 h2 => by
      rw [getD_set_ne true (by omega)]
      exact ht t h1 h2
    have htake : ∀ τ' : Nat → Value × World, (∀ i ∈ tok, Below W.heap.size W (τ' i).2 ∧ R i (τ' i).1 (τ' i).2) → (∀ i ∈ tok, listed.getD i false = true → τ' i = τ i) → _ := fun τ' h1 h2 => wpTok_take F.sel hoi (left listed n) a (left_sorted _ _) (mem_left.2 ⟨him, hun⟩) hap (hh τ' h1 h2)
    have hgood : ∀ τ' : Nat → Value × World, (∀ i ∈ tok, listed.getD i false = true → τ' i = τ i) → Good W tok τ' (depB ops i) w := fun τ' h2 =>
      ⟨hg.1, fun k hk hd => by rw [h2 k hk (hdep k hk hd)]; exact hg.2 k hk (hdep k hk hd)⟩
    unfold wpOp
    simp only [hoi]
    rcases htake τ hv fun _ _ _ => rfl with ⟨hn, v, hy, _⟩ | ⟨hn, hw1, hy, _⟩
    · have hset : ∀ k ∈ tok, (listed.setIfInBounds i true).getD k false = true → listed.getD k false = true := fun k hk h => by
        have e : k ≠ i := fun e => hn (e ▸ hk)
        rwa [getD_set_ne false (Ne.symm e)] at h
      by_cases hall' : ∀ τ' : Nat → Value × World, (∀ i ∈ tok, Below W.heap.size W (τ' i).2 ∧ R i (τ' i).1 (τ' i).2) → (∀ i ∈ tok, listed.getD i false = true → τ' i = τ i) → wpTok P ops W tok R Qh τ' ((left listed n).erase i) (a.put oi.dst v)
      · have hstep : ∀ w', Below w.heap.size w w' → wpAny P .any ops Q' (f + (ops.size - n)) (listed.setIfInBounds i true) (a.put oi.dst v) w' := fun w' hw => by
          refine wpAny_tok F htok hT f _ _ w' τ (hcl.step hi) (by simpa using hs) hcount htail ?_ hv fun τ' h1 h2 => ?_
          · exact ⟨Below.step hg.1 hw, fun k hk h => Below.step (hg.2 k hk (hset k hk h)) hw⟩
          · rw [left_set (by omega)]
            refine hall' τ' h1 fun k hk h => h2 k hk ?_
            have e : k ≠ i := fun e => hn (e ▸ hk)
            rwa [getD_set_ne false (Ne.symm e)]
        rcases hy with ⟨hw1, hw2⟩ | ⟨hw1, rfl⟩
        · rw [if_pos hw1]
          exact .inl (wp_of_quietAt (hw2 w (hgood τ fun _ _ _ => rfl)).1 hstep)
        · rw [if_neg (by rw [hw1]; exact Bool.false_ne_true)]
          exact hstep w (Below.refl _ _)
      · exfalso
        obtain ⟨τ', hq⟩ := Classical.not_forall.1 hall'
        obtain ⟨h1, hq⟩ := Classical.not_imp.1 hq
        obtain ⟨h2, hq⟩ := Classical.not_imp.1 hq
        rcases htake τ' h1 h2 with ⟨_, v', hy', hrest'⟩ | ⟨hn', _⟩
        case inr => exact absurd hn' hn
        have hvv : v ≠ v' := fun e => hq (by rw [e]; exact hrest')
        rcases hy with ⟨hw1, hw2⟩ | ⟨hw1, rfl⟩
        · rcases hy' with ⟨_, hw2'⟩ | ⟨hw1', _⟩
          · exact hvv (quiet_two (hw2 w (hgood τ fun _ _ _ => rfl)).1 (hw2' w (hgood τ' h2)).1 (hw2 w (hgood τ fun _ _ _ => rfl)).2)
          · rw [hw1] at hw1'
            cases hw1'
        · rcases hy' with ⟨hw1', _⟩ | ⟨_, e⟩
          · rw [hw1] at hw1'
            cases hw1'
          · exact absurd e.symm hvv
    · rw [if_pos hw1]
      refine .inl (wp_of_wildAt (hy w (hgood τ fun _ _ _ => rfl)) fun v w' hb hr => ?_)
      refine wpAny_tok (W := W) (R := R) F htok hT f _ _ w' (fun k => if k = i then (v, w') else τ k) (hcl.step hi) (by simpa using hs) hcount htail ?_ ?_ fun τ' h1 h2 => ?_
      · refine ⟨Below.step hg.1 hb, fun k hk h => ?_⟩
        dsimp only
        by_cases e : k = i
        · rw [if_pos e]
          exact Below.refl _ _
        · rw [if_neg e]
          dsimp only at h
          rw [getD_set_ne false (Ne.symm e)] at h
          exact Below.step (hg.2 k hk h) hb
      · intro k hk
        by_cases e : k = i
        · subst e
          rw [if_pos rfl]
          exact ⟨Below.step hg.1 hb, hr⟩
        · rw [if_neg e]
          exact hv k hk
      · rw [left_set (by omega)]
        have e0 : τ' i = (v, w') := by
          have := h2 i hn (by simp [show i < listed.size by omega])
          simpa using this
        have h3 : ∀ k ∈ tok, listed.getD k false = true → τ' k = τ k := fun k hk h => by
          have e : k ≠ i := fun e => by rw [e, hun'] at h; cases h
          have := h2 k hk (by rw [getD_set_ne false (Ne.symm e)]; exact h)
          simpa [e] using this
        rcases htake τ' h1 h3 with ⟨hn', _⟩ | ⟨_, _, _, hrest⟩
        · exact absurd hn hn'
        · rw [e0] at hrest
          exact hrest

/-- The same walk, the operations that are left written out, from number i on. -/
def wpTokL (P : Program) (ops : Array Oper) (W : World) (tok : List Nat) (R : Nat → Value → World → Prop) (Qh : Act → World → Prop) (τ : Nat → Value × World) : Nat → List Oper → Act → Prop
  | _, [], a => ∀ w, Good W tok τ (fun _ => true) w → Qh a w
  | j, o :: rest, a =>
      (j ∉ tok ∧ ∃ v, YieldsT P ops (Good W tok τ (depB ops j)) o v a ∧ wpTokL P ops W tok R Qh τ (j + 1) rest (a.put o.dst v)) ∨
      (j ∈ tok ∧ Region.wanted o (yielded ops a.tmps) = true ∧ (∀ w, Good W tok τ (depB ops j) w → wildAt P o a w (R j)) ∧ wpTokL P ops W tok R Qh τ (j + 1) rest (a.put o.dst (τ j).1))
theorem wpTok_of_L {W : World} {tok : List Nat} {R : Nat → Value → World → Prop} {Qh : Act → World → Prop} {τ : Nat → Value × World} : ∀ (rest : List Oper) (i : Nat) (a : Act), (∀ j, j < rest.length → rest[j]? = ops[i + j]?) → wpTokL P ops W tok R Qh τ i rest a → wpTok P ops W tok R Qh τ (List.range' i rest.length) a
  | [], _, _, _, h => h
  | o :: rest, i, a, hr, h => by
    have h0 : ops[i]? = some o := by simpa using (hr 0 (by simp)).symm
    have hr' : ∀ j, j < rest.length → rest[j]? = ops[(i + 1) + j]? := fun j hj => by
      have := hr (j + 1) (by simpa using hj)
      simpa [Nat.add_assoc, Nat.add_comm 1 j] using this
    rw [List.length_cons, List.range'_succ]
    refine ⟨o, h0, ?_⟩
    rcases h with ⟨hn, v, h1, h2⟩ | ⟨hn, h1, h2, h3⟩
    · exact .inl ⟨hn, v, h1, wpTok_of_L rest _ _ hr' h2⟩
    · exact .inr ⟨hn, h1, h2, wpTok_of_L rest _ _ hr' h3⟩
/-- THE LAW, at a region that is written out: its first operations, then its tail. -/
theorem wp_region_tok {id : Nat} {Q : Exit → Act → World → Prop} {a : Act} {w : World} {l : List Oper} (tok : List Nat) (n : Nat) (R : Nat → Value → World → Prop) (hm : P.follows .mixedOrders = true) (hB : (wildB l.toArray [] n && tok.all fun i => decide (i < n)) = true)
    (hsat : ∀ i ∈ tok, ∃ v W', Below w.heap.size w W' ∧ R i v W')
    (h : ∀ τ : Nat → Value × World, (∀ i ∈ tok, Below w.heap.size w (τ i).2 ∧ R i (τ i).1 (τ i).2) → wpTokL P l.toArray w tok R (fun a w' => wpList P l.toArray Q (l.drop n) a w') τ 0 (l.take n) a) : (Code.region id l.toArray true).wp P Q a w := by
  rw [Bool.and_eq_true] at hB
  have F := WildOk.of_check hB.1
  have htok : ∀ i ∈ tok, i < n := fun i hi => by simpa using List.all_eq_true.1 hB.2 i hi
  have hb : Below w.heap.size w w.drew := (Below.refl _ _).drew
  have hs := F.size
  have hl : (l.take n).length = n := by rw [List.length_take]; simp at hs; omega
  obtain ⟨τ, hτ⟩ : ∃ τ : Nat → Value × World, ∀ i ∈ tok, Below w.heap.size w (τ i).2 ∧ R i (τ i).1 (τ i).2 := by
    have : ∀ i, ∃ p : Value × World, i ∈ tok → Below w.heap.size w p.2 ∧ R i p.1 p.2 := fun i => by
      by_cases hi : i ∈ tok
      · obtain ⟨v, W', h1⟩ := hsat i hi
        exact ⟨(v, W'), fun _ => h1⟩
      · exact ⟨(undef, w), fun h => absurd h hi⟩
    obtain ⟨τ, hτ⟩ := Classical.axiomOfChoice this
    exact ⟨τ, hτ⟩
  refine wp_region_any hm ?_
  have := wpAny_tok (P := P) (Q' := Q) (W := w) (tok := tok) (R := R) (Qh := fun a w' => wpList P l.toArray Q (l.drop n) a w') F htok (fun a w h => h) n (Array.replicate l.toArray.size false) a w.drew τ (fun q _ hq h _ => by rw [unlisted l q hq] at h; cases h) (by simp) (by rw [left_all l n F.size]; simp) (fun t _ h2 => unlisted l t h2)
    ⟨hb, fun i hi hp => by
      dsimp only at hp
      rw [getD_flip (by have := htok i hi; simp; simp at hs; omega), unlisted l i (by have := htok i hi; omega)] at hp
      cases hp⟩ hτ
    (fun τ' h1 _ => by
      rw [left_all l n F.size]
      have := wpTok_of_L (l.take n) 0 a (fun j hj => by
        rw [hl] at hj
        rw [List.getElem?_take, if_pos hj]
        simp) (h τ' h1)
      rw [hl, ← List.range_eq_range'] at this
      exact this)
  rw [show n + (l.toArray.size - n) = l.toArray.size by have := F.size; omega] at this
  exact this

section
variable {W : World} {tok : List Nat} {R : Nat → Value → World → Prop} {Qh : Act → World → Prop} {τ : Nat → Value × World} {i : Nat} {rest : List Oper} {a : Act} {o : Oper}
theorem tokL_nil (h : ∀ w, Good W tok τ (fun _ => true) w → Qh a w) : wpTokL P ops W tok R Qh τ i [] a := h
/-- An operation that reads what lay there at first. -/
theorem tokL_val (hn : i ∉ tok) (hw : Region.wanted o (yielded ops a.tmps) = true) (hc : noCall o.op = true)
    (h : ∀ K : Act → Prop, (∀ a, wpTokL P ops W tok R Qh τ (i + 1) rest a → K a) → o.quiet P a (fun w' => ∃ x : Past W, w' = x.w) K) : wpTokL P ops W tok R Qh τ i (o :: rest) a := by
  obtain ⟨v, h1, h2⟩ := h _ fun _ h => h
  refine .inl ⟨hn, v, .inl ⟨hw, fun w hg => ⟨?_, late_none hc _ _⟩⟩, h2⟩
  have := h1 w ⟨⟨w, hg.1⟩, rfl⟩
  unfold Oper.quietAt at this ⊢
  generalize hr : (execOp a.eval o).run P w = r at *
  cases r with
  | ok n w' =>
    cases n
    case enter f args => exact (no_enter hc _ _ _ _ _ hr).elim
    all_goals exact this
  | halt y w' => exact this
/-- An operation that reads what operation k made. -/
theorem tokL_val1 (k : Nat) {v1 : Value} {W1 : World} (e : τ k = (v1, W1)) (hk : k ∈ tok) (hd : depB ops i k = true) (hn : i ∉ tok) (hw : Region.wanted o (yielded ops a.tmps) = true) (hc : noCall o.op = true)
    (h : ∀ K : Act → Prop, (∀ a, wpTokL P ops W tok R Qh τ (i + 1) rest a → K a) → o.quiet P a (fun w' => ∃ x : Past W1, w' = x.w) K) : wpTokL P ops W tok R Qh τ i (o :: rest) a := by
  obtain ⟨v, h1, h2⟩ := h _ fun _ h => h
  refine .inl ⟨hn, v, .inl ⟨hw, fun w hg => ⟨?_, late_none hc _ _⟩⟩, h2⟩
  have hb := hg.2 k hk hd
  rw [e] at hb
  have := h1 w ⟨⟨w, hb⟩, rfl⟩
  unfold Oper.quietAt at this ⊢
  generalize hr : (execOp a.eval o).run P w = r at *
  cases r with
  | ok n w' =>
    cases n
    case enter f args => exact (no_enter hc _ _ _ _ _ hr).elim
    all_goals exact this
  | halt y w' => exact this
def startB (P : Program) (o : Oper) : Bool := match calleeOf o.op with
  | some k => (P.inits.idxOf? k).isNone && (match P.funcs[k]? with | some fn => !(fn.name == "runtime.NumGoroutine" || fn.body.isNone) | none => false)
  | none => false
theorem startB_spec (h : startB P o = true) (a : Act) (w : World) : Late P o a w := by
  unfold startB at h
  split at h
  · rename_i k hk
    rw [Bool.and_eq_true, Option.isNone_iff_eq_none] at h
    refine late_static hk h.1 ?_ a w
    cases hf : P.funcs[k]? with
    | none => rw [hf] at h; simp at h
    | some fn =>
      rw [hf] at h
      have h2 := h.2
      simp only [Bool.not_eq_true'] at h2
      rw [Option.map_some, h2]
  · cases h
/-- A call whose value is one, whatever the world. -/
theorem tokL_call (hn : i ∉ tok) (hw : Region.wanted o (yielded ops a.tmps) = true) (hl : startB P o = true)
    (hx : ∃ v, (∀ (x : Past W), Good W tok τ (depB ops i) x.w → o.quietAt P a (fun w' => ∃ y : Past x.w, w' = y.w) x.w v) ∧ wpTokL P ops W tok R Qh τ (i + 1) rest (a.put o.dst v)) : wpTokL P ops W tok R Qh τ i (o :: rest) a := by
  obtain ⟨v, h, hA⟩ := hx
  exact .inl ⟨hn, v, .inl ⟨hw, fun w hg => ⟨h ⟨w, hg.1⟩ hg, startB_spec hl _ _⟩⟩, hA⟩
/-- An operation that makes something. -/
theorem tokL_tok {v1 : Value} {W1 : World} (e : τ i = (v1, W1)) (hn : i ∈ tok) (hw : Region.wanted o (yielded ops a.tmps) = true)
    (h : ∀ x : Past W, Good W tok τ (depB ops i) x.w → wildAt P o a x.w (R i)) (h2 : wpTokL P ops W tok R Qh τ (i + 1) rest (a.put o.dst v1)) : wpTokL P ops W tok R Qh τ i (o :: rest) a := by
  refine .inr ⟨hn, hw, fun w hg => h ⟨w, hg.1⟩ hg, ?_⟩
  rw [e]
  exact h2
end
end
end Go.Proofs.Ytfklhkephdnhaaa
