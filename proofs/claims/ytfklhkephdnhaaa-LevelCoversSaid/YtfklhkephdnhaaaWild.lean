/- A region that draws its order, walked once, in the order of the text: operations that read, calls whose callees may make memory of their own, and operations whose value hangs on the world ('wild' ones: new blocks, new slices, calls that hand back new memory), each of which all that stands behind it waits for; then a tail that waits for all. Conditions: none. -/
import Derived.Test.YtfklhkephdnhaaaFree
namespace Go.Proofs.Ytfklhkephdnhaaa
open Go Go.RowKit

section
variable {P : Program} {ops : Array Oper}

/-- What is asked of a wild operation: it yields some value, in a world in which all that it found is as it was. -/
def wildUpon (P : Program) (w : World) (K : Value → World → Prop) : Result Next → Prop
  | .ok (.value v) w' => Below w.heap.size w w' ∧ K v w'
  | .ok (.enter f args) w' => w' = w ∧ Calls P f args w fun e w'' => ∃ v, e = .returned v ∧ Below w.heap.size w w'' ∧ K v w''
  | _ => False
def wildAt (P : Program) (o : Oper) (a : Act) (w : World) (K : Value → World → Prop) : Prop := wildUpon P w K ((execOp a.eval o).run P w)
theorem wildAt_mono {o : Oper} {a : Act} {w : World} {K K' : Value → World → Prop} (h : wildAt P o a w K) (hk : ∀ v w', Below w.heap.size w w' → K v w' → K' v w') : wildAt P o a w K' := by
  unfold wildAt at *
  generalize (execOp a.eval o).run P w = r at *
  cases r with
  | ok n w' =>
    cases n <;> simp only [wildUpon] at h ⊢
    case value u => exact ⟨h.1, hk _ _ h.1 h.2⟩
    case enter f args => exact ⟨h.1, h.2.mono fun e w'' ⟨v, h1, h2, h3⟩ => ⟨v, h1, h2, hk _ _ h2 h3⟩⟩
  | halt x w' => simp only [wildUpon] at h
theorem wildAt_put {o : Oper} {a : Act} {w : World} {K : Value → World → Prop} {dst : Option Tmp} {u : Value} (hs : ∀ cs b, o.op ≠ .select cs b) (hd : ∀ d, dst = some d → d ∉ o.looksAt ops) : wildAt P o (a.put dst u) w K ↔ wildAt P o a w K := by
  unfold wildAt
  rw [execOp_put o hs a dst u hd]
theorem wp_of_wildAt {o : Oper} {a : Act} {w : World} {K : Act → World → Prop} {Q' : Exit → Act → World → Prop} {K2 : Value → World → Prop} (h : wildAt P o a w K2) (hK : ∀ v w', Below w.heap.size w w' → K2 v w' → K (a.put o.dst v) w') : o.wp P a w K Q' := by
  unfold wildAt at h
  unfold Oper.wp
  generalize (execOp a.eval o).run P w = r at *
  cases r with
  | ok n w' =>
    cases n <;> simp only [wildUpon] at h <;> simp only [Oper.upon]
    case value u => exact hK _ _ h.1 h.2
    case enter f args =>
      obtain ⟨e1, hc⟩ := h
      rw [e1]
      exact hc.mono fun e w'' ⟨v, he, hb, hk⟩ => by subst he; exact hK _ _ hb hk
  | halt x w' => simp only [wildUpon] at h

/-- The walk in the order of the text: W is what all that follows may rely on. -/
def wpWild (P : Program) (ops : Array Oper) (wild : List Nat) (Qh : World → Act → Prop) : List Nat → World → Act → Prop
  | [], W, a => Qh W a
  | i :: is, W, a => ∃ o, ops[i]? = some o ∧
      ((i ∉ wild ∧ ∃ v, YieldsS P ops W o v a ∧ wpWild P ops wild Qh is W (a.put o.dst v)) ∨
       (i ∈ wild ∧ Region.wanted o (yielded ops a.tmps) = true ∧ ∀ x : Past W, wildAt P o a x.w fun v w' => wpWild P ops wild Qh is w' (a.put o.dst v)))
theorem wpWild_past {wild : List Nat} {Qh : World → Act → Prop} (hQ : ∀ W W' a, Below W.heap.size W W' → Qh W a → Qh W' a) : ∀ (is : List Nat) (W W' : World) (a : Act), Below W.heap.size W W' → wpWild P ops wild Qh is W a → wpWild P ops wild Qh is W' a
  | [], _, _, _, hb, h => hQ _ _ _ hb h
  | _ :: is, W, W', _, hb, ⟨o, h1, h2⟩ => by
    refine ⟨o, h1, ?_⟩
    rcases h2 with ⟨hn, v, h3, h4⟩ | ⟨hn, h3, h4⟩
    · exact .inl ⟨hn, v, h3.past hb, wpWild_past hQ is _ _ _ hb h4⟩
    · exact .inr ⟨hn, h3, fun x => h4 ⟨x.w, Below.step hb x.h⟩⟩

theorem wpWild_take {wild : List Nat} {Qh : World → Act → Prop} (hsel : ∀ (j : Nat) (o : Oper) cs b, ops[j]? = some o → o.op ≠ .select cs b) {j : Nat} {oj : Oper} (hj : ops[j]? = some oj) :
    ∀ (is : List Nat) (W : World) (a : Act), is.Pairwise (· < ·) → j ∈ is → (∀ k ∈ is, k < j → apartAt ops k j ∧ k ∉ wild) → wpWild P ops wild Qh is W a →
      (j ∉ wild ∧ ∃ v, YieldsS P ops W oj v a ∧ wpWild P ops wild Qh (is.erase j) W (a.put oj.dst v)) ∨
      (j ∈ wild ∧ Region.wanted oj (yielded ops a.tmps) = true ∧ ∀ x : Past W, wildAt P oj a x.w fun v w' => wpWild P ops wild Qh (is.erase j) w' (a.put oj.dst v))
  | i :: is, W, a, hp, hm, hap, ⟨o, h1, h2⟩ => by
    by_cases hij : i = j
    · subst hij
      obtain rfl : o = oj := Option.some.inj (h1.symm.trans hj)
      simpa using h2
    · have hm' : j ∈ is := by
        rcases List.mem_cons.1 hm with e | e
        · exact absurd e.symm hij
        · exact e
      have hlt : i < j := (List.pairwise_cons.1 hp).1 j hm'
      obtain ⟨hapi, hni⟩ := hap i (by simp) hlt
      rcases h2 with ⟨_, v, h2, h3⟩ | ⟨hw, _⟩
      case inr => exact absurd hw hni
      obtain ⟨s1, s2, s3⟩ := Oper.apart_spec (hapi o oj h1 hj)
      have hrec := wpWild_take hsel hj is W (a.put o.dst v) (List.pairwise_cons.1 hp).2 hm' (fun k hk => hap k (List.mem_cons_of_mem _ hk)) h3
      rw [List.erase_cons_tail (by simpa using hij)]
      rcases hrec with ⟨hn, u, y1, y2⟩ | ⟨hn, y1, y2⟩
      · refine .inl ⟨hn, u, (YieldsS.put (hsel j oj · · hj) s1).1 y1, o, h1, .inl ⟨hni, v, (YieldsS.put (hsel i o · · h1) s3).2 h2, ?_⟩⟩
        rw [← Act.put_comm a v u s2]
        exact y2
      · refine .inr ⟨hn, ?_, fun x => ?_⟩
        · rwa [wanted_put oj a o.dst v s1] at y1
        · refine wildAt_mono ((wildAt_put (ops := ops) (hsel j oj · · hj) s1).1 (y2 x)) fun u w' hb hk => ?_
          refine ⟨o, h1, .inl ⟨hni, v, (YieldsS.put (hsel i o · · h1) s3).2 (h2.past (Below.step x.h hb)), ?_⟩⟩
          rw [← Act.put_comm a v u s2]
          exact hk
  | [], _, _, _, hm, _, _ => by cases hm

/-- What waits for operation k, be it by way of others. -/
def waitsT (ops : Array Oper) (k : Nat) : List Nat := (List.range ops.size).foldl (fun acc j => if waits ops j k || acc.any fun q => waits ops j q then j :: acc else acc) []
def Sat (ops : Array Oper) (listed : Array Bool) (q : Nat) : Prop := ∀ k, waits ops q k = true → listed.getD k false = true
def Dep (ops : Array Oper) (q k : Nat) : Prop := q < ops.size ∧ ∀ listed, Closed ops listed → listed.size = ops.size → Sat ops listed q → listed.getD k false = true
theorem foldl_keep {α β : Type} (f : β → α → β) (p : β → Prop) : ∀ (l : List α) (b : β), p b → (∀ b a, a ∈ l → p b → p (f b a)) → p (l.foldl f b)
  | [], _, h, _ => h
  | a :: l, b, h, hf => foldl_keep f p l (f b a) (hf b a (by simp) h) fun b x hx => hf b x (by simp [hx])
theorem waitsT_dep (k : Nat) : ∀ q ∈ waitsT ops k, Dep ops q k := by
  unfold waitsT
  refine foldl_keep _ (fun acc => ∀ q ∈ acc, Dep ops q k) _ _ (fun q h => by cases h) fun acc j hj hacc => ?_
  split
  · rename_i hw
    have hjs : j < ops.size := List.mem_range.1 hj
    intro q hq
    rcases List.mem_cons.1 hq with rfl | hq
    · refine ⟨hjs, fun listed hc hs hsat => ?_⟩
      rw [Bool.or_eq_true, List.any_eq_true] at hw
      rcases hw with hw | ⟨p, hp, hw⟩
      · exact hsat k hw
      · obtain ⟨hps, hd⟩ := hacc p hp
        have hl := hsat p hw
        refine hd listed hc hs fun m hm => hc p m hps ?_ hm
        simpa [show p < listed.size by omega] using hl
    · exact hacc q hq
  · exact hacc

/-- n operations, some of them wild, then a tail. -/
def wildB (ops : Array Oper) (wild : List Nat) (n : Nat) : Bool :=
  Region.noSelect ops && decide (n ≤ ops.size) &&
  ((List.range n).all fun j => match ops[j]? with | some o => o.after.all (fun e => !Region.binds .any e || decide (e.on < j)) | none => false) &&
  ((List.range n).all fun j => (List.range n).all fun k => !decide (k < j) || wild.contains k || waits ops j k || (match ops[k]?, ops[j]? with | some x, some y => x.apart ops y | _, _ => false)) &&
  (wild.all fun k => let T := waitsT ops k; (List.range n).all fun j => decide (j ≤ k) || T.contains j) &&
  (decide (n = ops.size) || (List.range n).all fun k => let T := waitsT ops k; (List.range ops.size).all fun t => decide (t < n) || T.contains t) &&
  Region.seqB .any ops (ops.size - n) n ((Array.range ops.size).map fun i => decide (i < n))
structure WildOk (ops : Array Oper) (wild : List Nat) (n : Nat) : Prop where
  sel : ∀ (j : Nat) (o : Oper) cs b, ops[j]? = some o → o.op ≠ .select cs b
  size : n ≤ ops.size
  deps : ∀ j o, j < n → ops[j]? = some o → ∀ e ∈ o.after, Region.binds .any e = true → e.on < j
  apart : ∀ j k, j < n → k < j → Dep ops j k ∨ (apartAt ops k j ∧ k ∉ wild)
  tail : ∀ t k, n ≤ t → t < ops.size → k < n → Dep ops t k
  seq : Region.seqB .any ops (ops.size - n) n ((Array.range ops.size).map fun i => decide (i < n)) = true
theorem WildOk.of_check {wild : List Nat} {n : Nat} (h : wildB ops wild n = true) : WildOk ops wild n := by
  simp only [wildB, Bool.and_eq_true, decide_eq_true_eq, List.all_eq_true, List.mem_range] at h
  obtain ⟨⟨⟨⟨⟨⟨h1, h2⟩, h3⟩, h4⟩, h5⟩, h6⟩, h7⟩ := h
  refine ⟨Region.noSelect_spec h1, h2, fun j o hj ho e he hb => ?_, fun j k hj hk => ?_, fun t k ht hts hk => ?_, h7⟩
  · have := h3 j hj
    rw [ho] at this
    have := Array.all_eq_true_iff_forall_mem.1 this e he
    simpa [hb] using this
  · by_cases hw : k ∈ wild
    · left
      have := h5 k hw j hj
      simp only [Bool.or_eq_true, decide_eq_true_eq, List.contains_iff_mem] at this
      rcases this with h | h
      · omega
      · exact waitsT_dep k j h
    · have := h4 j hj k (by omega)
      simp only [Bool.or_eq_true, Bool.not_eq_true', decide_eq_false_iff_not, List.contains_iff_mem] at this
      rcases this with ((h | h) | h) | h
      · omega
      · exact absurd h hw
      · exact .inl ⟨by omega, fun listed _ _ hs => hs k h⟩
      · right
        refine ⟨fun oi oj hi hj2 => ?_, hw⟩
        rw [hi, hj2] at h
        exact h
  · simp only [Bool.or_eq_true, decide_eq_true_eq, List.all_eq_true, List.mem_range] at h6
    rcases h6 with h | h
    · omega
    · have := h k hk t hts
      rw [List.contains_iff_mem] at this
      rcases this with h | h
      · omega
      · exact waitsT_dep k t h

theorem wpAny_wild {n : Nat} {wild : List Nat} {Q' : Exit → Act → World → Prop} {T : Act → World → Prop} (F : WildOk ops wild n) (hT : ∀ a w, T a w → wpList P ops Q' (ops.toList.drop n) a w) :
    ∀ (f : Nat) (listed : Array Bool) (a : Act) (w W : World), Closed ops listed → listed.size = ops.size → (left listed n).length = f → (∀ t, n ≤ t → t < ops.size → listed.getD t true = false) →
      Below W.heap.size W w → wpWild P ops wild (fun W a => ∀ x : Past W, T a x.w) (left listed n) W a → wpAny P .any ops Q' (f + (ops.size - n)) listed a w
  | 0, listed, a, w, W, hcl, hs, hf, ht, hb, hh => by
    have hall : ∀ i, i < n → listed.getD i true = true := fun i hi => by
      cases h : listed.getD i true with
      | true => rfl
      | false =>
        have := mem_left.2 ⟨hi, h⟩
        rw [List.eq_nil_of_length_eq_zero hf] at this
        cases this
    have hle : listed = (Array.range ops.size).map fun i => decide (i < n) := listed_eq hs fun i hi => by
      by_cases him : i < n
      · simp [hall i him, him]
      · simp [ht i (by omega) hi, him]
    rw [List.eq_nil_of_length_eq_zero hf] at hh
    subst hle
    rw [Nat.zero_add]
    have hlen : (ops.toList.drop n).length = ops.size - n := by simp
    have := wpAny_of_seq (P := P) (ops := ops) (md := .any) (Q' := Q') (ops.toList.drop n) n ((Array.range ops.size).map fun i => decide (i < n)) a w (fun j => by simp) (by rw [hlen]; exact F.seq) (hT a w (hh ⟨w, hb⟩))
    rw [hlen] at this
    exact this
  | f + 1, listed, a, w, W, hcl, hs, hf, ht, hb, hh => by
    have hne : ∃ i, i < n ∧ listed.getD i true = false := by
      cases hl : left listed n with
      | nil => rw [hl] at hf; cases hf
      | cons i r => exact ⟨i, mem_left.1 (by rw [hl]; simp)⟩
    have hready : ∃ i, i ∈ Region.ready .any ops listed := by
      have : ∀ k i, i < k → i < n → listed.getD i true = false → ∃ j, j ∈ Region.ready .any ops listed := by
        intro k
        induction k with
        | zero => intro i hi; omega
        | succ k ih =>
          intro i hik him hun
          have hsz : i < ops.size := Nat.lt_of_lt_of_le him F.size
          by_cases hd : ∀ e ∈ (ops[i]).after, Region.binds .any e = true → listed.getD e.on false = true
          · exact ⟨i, mem_ready.2 ⟨hun, ops[i], Array.getElem?_eq_getElem hsz, hd⟩⟩
          · obtain ⟨e, he⟩ := Classical.not_forall.1 hd
            obtain ⟨he1, he2⟩ := Classical.not_imp.1 he
            obtain ⟨he2, he3⟩ := Classical.not_imp.1 he2
            have hlt := F.deps i _ him (Array.getElem?_eq_getElem hsz) e he1 he2
            have hun2 : listed.getD e.on true = false := by
              rw [← getD_flip (by omega)]
              simpa using he3
            exact ih e.on (by omega) (by omega) hun2
      obtain ⟨i, him, hun⟩ := hne
      exact this (i + 1) i (by omega) him hun
    rw [show f + 1 + (ops.size - n) = (f + (ops.size - n)) + 1 by omega]
    refine ⟨(fun h0 => by obtain ⟨i, hi⟩ := hready; rw [h0] at hi; cases hi), fun i hi => ?_⟩
    obtain ⟨hun, oi, hoi, hall⟩ := mem_ready.1 hi
    have hisz : i < ops.size := (Array.getElem?_eq_some_iff.1 hoi).1
    have hsat : Sat ops listed i := fun k hk => waits_listed hi hk
    have him : i < n := by
      rcases Nat.lt_or_ge i n with h | h
      · exact h
      · obtain ⟨k, hkm, hk⟩ := hne
        have := (F.tail i k h hisz hkm).2 listed hcl hs hsat
        rw [getD_flip (by have := F.size; omega), hk] at this
        cases this
    have hap : ∀ k ∈ left listed n, k < i → apartAt ops k i ∧ k ∉ wild := fun k hk hki => by
      obtain ⟨h1, h2⟩ := mem_left.1 hk
      rcases F.apart i k him hki with h | h
      · have := h.2 listed hcl hs hsat
        rw [getD_flip (by omega), h2] at this
        cases this
      · exact h
    have hcount : (left (listed.setIfInBounds i true) n).length = f := by
      rw [left_set (by omega), List.length_erase_of_mem (mem_left.2 ⟨him, hun⟩), hf]
      rfl
    have htail : ∀ t, n ≤ t → t < ops.size → (listed.setIfInBounds i true).getD t true = false := fun t h1 h2 => by
      rw [getD_set_ne true (by omega)]
      exact ht t h1 h2
    have hstep : ∀ W' w' v, Below W'.heap.size W' w' → wpWild P ops wild (fun W a => ∀ x : Past W, T a x.w) ((left listed n).erase i) W' (a.put oi.dst v) → wpAny P .any ops Q' (f + (ops.size - n)) (listed.setIfInBounds i true) (a.put oi.dst v) w' := fun W' w' v hw hk => by
      refine wpAny_wild F hT f _ _ w' W' (hcl.step hi) (by simpa using hs) hcount htail hw ?_
      rw [left_set (by omega)]
      exact hk
    unfold wpOp
    simp only [hoi]
    rcases wpWild_take F.sel hoi (left listed n) W a (left_sorted _ _) (mem_left.2 ⟨him, hun⟩) hap hh with ⟨_, v, hy, hrest⟩ | ⟨_, hw1, hy⟩
    · rcases hy with ⟨hw1, hw2⟩ | ⟨hw1, rfl⟩
      · rw [if_pos hw1]
        exact .inl (wp_of_quietAt (hw2 ⟨w, hb⟩) fun w' hw => hstep W w' v (below_past hb hw hb.size) hrest)
      · rw [if_neg (by rw [hw1]; exact Bool.false_ne_true)]
        exact hstep W w undef hb hrest
    · rw [if_pos hw1]
      exact .inl (wp_of_wildAt (hy ⟨w, hb⟩) fun v w' _ hk => hstep w' w' v (Below.refl _ _) hk)

/-- THE LAW. -/
theorem wp_region_wild {id : Nat} {Q : Exit → Act → World → Prop} {a : Act} {w : World} {l : List Oper} (wild : List Nat) (n : Nat) (hm : P.follows .mixedOrders = true) (hB : wildB l.toArray wild n = true)
    (h : wpWild P l.toArray wild (fun W a => ∀ x : Past W, wpList P l.toArray Q (l.drop n) a x.w) (List.range n) w a) : (Code.region id l.toArray true).wp P Q a w := by
  have F := WildOk.of_check hB
  have hb : Below w.heap.size w w.drew := (Below.refl _ _).drew
  refine wp_region_any hm ?_
  have := wpAny_wild (P := P) (Q' := Q) (T := fun a w => wpList P l.toArray Q (l.drop n) a w) F (fun a w h => h) n (Array.replicate l.toArray.size false) a w.drew w (fun q _ hq h _ => by rw [unlisted l q hq] at h; cases h) (by simp) (by rw [left_all l n F.size]; simp) (fun t _ h2 => unlisted l t h2) hb
    (by rw [left_all l n F.size]; exact h)
  rw [show n + (l.toArray.size - n) = l.toArray.size by have := F.size; omega] at this
  exact this

/-- One operation that is no call: the kit's own quiet step serves. -/
def noCall : Op → Bool
  | .call _ | .go _ | .defer _ | .send _ _ | .recv _ _ _ | .select _ _ => false
  | _ => true
theorem andThen_value {α : Type} {r : Result α} {f : FuncId} {args : Array Value} {w : World} {g : α → Value} (h : r.andThen (fun a w' => Result.ok (Next.value (g a)) w') = .ok (.enter f args) w) : False := by
  cases r with
  | ok a w' => simp [Result.andThen] at h
  | halt x w' => simp [Result.andThen] at h
theorem andThen_skip {α : Type} {r : Result α} {f : FuncId} {args : Array Value} {w : World} (h : r.andThen (fun _ w' => Result.ok Next.skip w') = .ok (.enter f args) w) : False := by
  cases r with
  | ok a w' => simp [Result.andThen] at h
  | halt x w' => simp [Result.andThen] at h
theorem andThen_some {α β : Type} {r : Result α} {k : α → World → Result β} {v : β} {w : World} (h : r.andThen k = .ok v w) : ∃ a w1, r = .ok a w1 ∧ k a w1 = .ok v w := by
  cases r with
  | ok a w' => exact ⟨a, w', rfl, h⟩
  | halt x w' => simp [Result.andThen] at h
theorem halts {v : Next} {w w' : World} (h : (runtimePanic .nilDeref : Sem Next).run P w = .ok v w') : False := by
  simp only [runtimePanic, Sem.run_bind] at h
  obtain ⟨a, w1, _, h⟩ := andThen_some h
  simp [goPanic] at h
theorem no_enter {o : Oper} (h : noCall o.op = true) (ρ : Operand → Value) (w w' : World) (f : FuncId) (args : Array Value) (he : (execOp ρ o).run P w = .ok (.enter f args) w') : False := by
  unfold execOp at he
  cases hq : o.op <;> rw [hq] at h he <;> first | (simp only [noCall, Bool.false_eq_true] at h; done) | skip
  all_goals (simp only [] at he)
  all_goals first | (simp only [Sem.run_bind, Sem.run_pure] at he; first | exact andThen_value he | exact andThen_skip he | (simp at he; done)) | skip
  split at he
  · exact halts he
  · exact halts he
  · exact halts he
  · split at he
    · exact halts he
    · simp only [Sem.run_bind] at he
      obtain ⟨a, w1, _, he⟩ := andThen_some he
      obtain ⟨b, w2, _, he⟩ := andThen_some he
      split at he
      · simp only [Sem.run_bind, Sem.run_pure] at he
        obtain ⟨_, _, _, he⟩ := andThen_some he
        simp at he
      · simp [Sem.run_pure] at he
    · simp [Sem.run_pure] at he
  · simp [Sem.run_pure] at he

/-- The same walk, the operations that are left written out, from number i on. -/
def wpWildL (P : Program) (ops : Array Oper) (wild : List Nat) (Qh : World → Act → Prop) : Nat → List Oper → World → Act → Prop
  | _, [], W, a => Qh W a
  | i, o :: rest, W, a =>
      (i ∉ wild ∧ ∃ v, YieldsS P ops W o v a ∧ wpWildL P ops wild Qh (i + 1) rest W (a.put o.dst v)) ∨
      (i ∈ wild ∧ Region.wanted o (yielded ops a.tmps) = true ∧ ∀ x : Past W, wildAt P o a x.w fun v w' => wpWildL P ops wild Qh (i + 1) rest w' (a.put o.dst v))
theorem wpWild_of_L {wild : List Nat} {Qh : World → Act → Prop} : ∀ (rest : List Oper) (i : Nat) (W : World) (a : Act), (∀ j, j < rest.length → rest[j]? = ops[i + j]?) → wpWildL P ops wild Qh i rest W a → wpWild P ops wild Qh (List.range' i rest.length) W a
  | [], _, _, _, _, h => h
  | o :: rest, i, W, a, hr, h => by
    have h0 : ops[i]? = some o := by simpa using (hr 0 (by simp)).symm
    have hr' : ∀ j, j < rest.length → rest[j]? = ops[(i + 1) + j]? := fun j hj => by
      have := hr (j + 1) (by simpa using hj)
      simpa [Nat.add_assoc, Nat.add_comm 1 j] using this
    rw [List.length_cons, List.range'_succ]
    refine ⟨o, h0, ?_⟩
    rcases h with ⟨hn, v, h1, h2⟩ | ⟨hn, h1, h2⟩
    · exact .inl ⟨hn, v, h1, wpWild_of_L rest _ _ _ hr' h2⟩
    · exact .inr ⟨hn, h1, fun x => wildAt_mono (h2 x) fun v w' _ hk => wpWild_of_L rest _ _ _ hr' hk⟩
/-- THE LAW, at a region that is written out: its first operations, then its tail. -/
theorem wp_region_wildL {id : Nat} {Q : Exit → Act → World → Prop} {a : Act} {w : World} {l : List Oper} (wild : List Nat) (n : Nat) (hm : P.follows .mixedOrders = true) (hB : wildB l.toArray wild n = true)
    (h : wpWildL P l.toArray wild (fun W a => ∀ x : Past W, wpList P l.toArray Q (l.drop n) a x.w) 0 (l.take n) w a) : (Code.region id l.toArray true).wp P Q a w := by
  refine wp_region_wild wild n hm hB ?_
  have hs := (WildOk.of_check hB).size
  have hl : (l.take n).length = n := by rw [List.length_take]; simp at hs; omega
  have := wpWild_of_L (l.take n) 0 w a (fun j hj => by
    rw [hl] at hj
    rw [List.getElem?_take, if_pos hj]
    simp) h
  rw [hl, ← List.range_eq_range'] at this
  exact this

section
variable {wild : List Nat} {Qh : World → Act → Prop} {i : Nat} {rest : List Oper} {W : World} {a : Act} {o : Oper}
theorem wildL_nil (h : Qh W a) : wpWildL P ops wild Qh i [] W a := h
/-- An operation that reads. -/
theorem wildL_val (hn : i ∉ wild) (hw : Region.wanted o (yielded ops a.tmps) = true) (hc : noCall o.op = true)
    (h : ∀ K : Act → Prop, (∀ a, wpWildL P ops wild Qh (i + 1) rest W a → K a) → o.quiet P a (fun w' => ∃ x : Past W, w' = x.w) K) : wpWildL P ops wild Qh i (o :: rest) W a := by
  obtain ⟨v, h1, h2⟩ := h _ fun _ h => h
  refine .inl ⟨hn, v, .inl ⟨hw, fun x => ?_⟩, h2⟩
  have := h1 x.w ⟨x, rfl⟩
  unfold Oper.quietAt at this ⊢
  generalize hr : (execOp a.eval o).run P x.w = r at *
  cases r with
  | ok n w' =>
    cases n
    case enter f args => exact (no_enter hc _ _ _ _ _ hr).elim
    all_goals exact this
  | halt y w' => exact this
/-- An operation that is passed over. -/
theorem wildL_skip (hn : i ∉ wild) (hw : Region.wanted o (yielded ops a.tmps) = false) (h : wpWildL P ops wild Qh (i + 1) rest W (a.put o.dst undef)) : wpWildL P ops wild Qh i (o :: rest) W a :=
  .inl ⟨hn, undef, .inr ⟨hw, rfl⟩, h⟩
theorem put_inj {d : Tmp} {u v : Value} (hd : d < a.tmps.size) (h : a.put (some d) u = a.put (some d) v) : u = v := by
  have := congrArg (fun b : Act => b.tmps[d]?) h
  simpa [Act.put, hd] using this
/-- A call whose value is one, whatever the world. -/
theorem wildL_call (hn : i ∉ wild) (hw : Region.wanted o (yielded ops a.tmps) = true) (hd : (match o.dst with | some d => decide (d < a.tmps.size) | none => false) = true)
    (hx : ∃ A, (∀ (x : Past W) (K : Act → Prop), (∀ a', a' = A → K a') → o.quiet P a (fun w' => ∃ y : Past x.w, w' = y.w) K) ∧ wpWildL P ops wild Qh (i + 1) rest W A) : wpWildL P ops wild Qh i (o :: rest) W a := by
  obtain ⟨A, h, hA⟩ := hx
  have h' : ∀ x : Past W, ∃ v, o.quietAt P a (fun w' => ∃ y : Past x.w, w' = y.w) x.w v ∧ a.put o.dst v = A := fun x => by
    obtain ⟨v, h1, h2⟩ := h x (fun a' => a' = A) fun _ h => h
    exact ⟨v, h1 x.w ⟨⟨x.w, Below.refl _ _⟩, rfl⟩, h2⟩
  obtain ⟨v, _, hv⟩ := h' ⟨W, Below.refl _ _⟩
  refine .inl ⟨hn, v, .inl ⟨hw, fun x => ?_⟩, by rw [hv]; exact hA⟩
  obtain ⟨u, h1, h2⟩ := h' x
  cases hq : o.dst with
  | none => rw [hq] at hd; cases hd
  | some d =>
    rw [hq] at hd h2 hv
    obtain rfl := put_inj (by simpa using hd) (h2.trans hv.symm)
    exact h1
theorem Past.two {W : World} {x : Past W} (y : Past x.w) : Below W.heap.size W y.w := Below.step x.h y.h
theorem call_back {x : World} {f : FuncId} {args : Array Value} {v : Value} {y : Past x} (h : Calls P f args y.w fun e w' => e = .returned v ∧ Below y.w.heap.size y.w w') : Calls P f args y.w fun e w'' => e = .returned v ∧ ∃ z : Past x, w'' = z.w :=
  h.mono fun _ w'' ⟨he, hb⟩ => ⟨he, ⟨w'', Below.step y.h hb⟩, rfl⟩
/-- An operation whose value hangs on the world. -/
theorem wildL_wild (hn : i ∈ wild) (hw : Region.wanted o (yielded ops a.tmps) = true)
    (h : ∀ (x : Past W) (K : Value → World → Prop), (∀ v w', wpWildL P ops wild Qh (i + 1) rest w' (a.put o.dst v) → K v w') → wildAt P o a x.w K) : wpWildL P ops wild Qh i (o :: rest) W a :=
  .inr ⟨hn, hw, fun x => h x _ fun _ _ h => h⟩
@[go_sem] theorem wildUpon_value (w w' : World) (K : Value → World → Prop) (v : Value) : wildUpon P w K (.ok (.value v) w') = (Below w.heap.size w w' ∧ K v w') := rfl
@[go_sem] theorem wildUpon_enter (w w' : World) (K : Value → World → Prop) (f : FuncId) (args : Array Value) : wildUpon P w K (.ok (.enter f args) w') = (w' = w ∧ Calls P f args w fun e w'' => ∃ v, e = .returned v ∧ Below w.heap.size w w'' ∧ K v w'') := rfl
end
end
end Go.Proofs.Ytfklhkephdnhaaa
