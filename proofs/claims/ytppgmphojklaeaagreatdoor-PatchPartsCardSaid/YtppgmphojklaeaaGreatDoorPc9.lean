/- Texts that the next ones stand on: Wild, Math2, Bits2, Bits3, NodeA, Toks. -/
import Derived.Test.YtppgmphojklaeaaGreatDoorPc8
import Derived.Deep.DeepCutAuto
import Derived.BigRegion
import Derived.Laws.CopyOwn
namespace Go.Proofs.YtppgmphojklaeaaGreatDoor
open Go Go.RowKit

section
variable {P : Program} {ops : Array Oper}

/-- What is asked of a wild operation: it yields some value, in a world in which all that it found is as it was. -/
def wildUpon (P : Program) (w : World) (K : Value → World → Prop) : Result Next → Prop
  | .ok (.value v) w' => Below w.heap.size w w' ∧ K v w'
  | .ok (.enter f args) w' => w' = w ∧ Calls P f args w fun e w'' => ∃ v, e = .returned v ∧ Below w.heap.size w w'' ∧ K v w''
  | _ => False
def wildAt (P : Program) (o : Oper) (a : Act) (w : World) (K : Value → World → Prop) : Prop := wildUpon P w K ((execOp a.eval o).run P w)
theorem wildAt_mono {o : Oper} {a : Act} {w : World} {K K' : Value → World → Prop} (h : wildAt P o a w K) (hk : ∀ v w', Below w.heap.size w w' → K v w' → K' v w') : wildAt P o a w K' := by
  unfold wildAt at *
  generalize (execOp a.eval o).run P w = r at *
  cases r with
  | ok n w' =>
    cases n <;> simp only [wildUpon] at h ⊢
    case value u => exact ⟨h.1, hk _ _ h.1 h.2⟩
    case enter f args => exact ⟨h.1, h.2.mono fun e w'' ⟨v, h1, h2, h3⟩ => ⟨v, h1, h2, hk _ _ h2 h3⟩⟩
  | halt x w' => simp only [wildUpon] at h
theorem wildAt_put {o : Oper} {a : Act} {w : World} {K : Value → World → Prop} {dst : Option Tmp} {u : Value} (hs : ∀ cs b, o.op ≠ .select cs b) (hd : ∀ d, dst = some d → d ∉ o.looksAt ops) : wildAt P o (a.put dst u) w K ↔ wildAt P o a w K := by
  unfold wildAt
  rw [execOp_put o hs a dst u hd]
theorem wp_of_wildAt {o : Oper} {a : Act} {w : World} {K : Act → World → Prop} {Q' : Exit → Act → World → Prop} {K2 : Value → World → Prop} (h : wildAt P o a w K2) (hK : ∀ v w', Below w.heap.size w w' → K2 v w' → K (a.put o.dst v) w') : o.wp P a w K Q' := by
  unfold wildAt at h
  unfold Oper.wp
  generalize (execOp a.eval o).run P w = r at *
  cases r with
  | ok n w' =>
    cases n <;> simp only [wildUpon] at h <;> simp only [Oper.upon]
    case value u => exact hK _ _ h.1 h.2
    case enter f args =>
      obtain ⟨e1, hc⟩ := h
      rw [e1]
      exact hc.mono fun e w'' ⟨v, he, hb, hk⟩ => by subst he; exact hK _ _ hb hk
  | halt x w' => simp only [wildUpon] at h

/-- The walk in the order of the text: W is what all that follows may rely on. -/
def wpWild (P : Program) (ops : Array Oper) (wild : List Nat) (Qh : World → Act → Prop) : List Nat → World → Act → Prop
  | [], W, a => Qh W a
  | i :: is, W, a => ∃ o, ops[i]? = some o ∧
      ((i ∉ wild ∧ ∃ v, YieldsS P ops W o v a ∧ wpWild P ops wild Qh is W (a.put o.dst v)) ∨
       (i ∈ wild ∧ Region.wanted o (yielded ops a.tmps) = true ∧ ∀ x : Past W, wildAt P o a x.w fun v w' => wpWild P ops wild Qh is w' (a.put o.dst v)))
theorem wpWild_past {wild : List Nat} {Qh : World → Act → Prop} (hQ : ∀ W W' a, Below W.heap.size W W' → Qh W a → Qh W' a) : ∀ (is : List Nat) (W W' : World) (a : Act), Below W.heap.size W W' → wpWild P ops wild Qh is W a → wpWild P ops wild Qh is W' a
  | [], _, _, _, hb, h => hQ _ _ _ hb h
  | _ :: is, W, W', _, hb, ⟨o, h1, h2⟩ => by
    refine ⟨o, h1, ?_⟩
    rcases h2 with ⟨hn, v, h3, h4⟩ | ⟨hn, h3, h4⟩
    · exact .inl ⟨hn, v, h3.past hb, wpWild_past hQ is _ _ _ hb h4⟩
    · exact .inr ⟨hn, h3, fun x => h4 ⟨x.w, Below.step hb x.h⟩⟩

theorem wpWild_take {wild : List Nat} {Qh : World → Act → Prop} (hsel : ∀ (j : Nat) (o : Oper) cs b, ops[j]? = some o → o.op ≠ .select cs b) {j : Nat} {oj : Oper} (hj : ops[j]? = some oj) :
    ∀ (is : List Nat) (W : World) (a : Act), is.Pairwise (· < ·) → j ∈ is → (∀ k ∈ is, k < j → apartAt ops k j ∧ k ∉ wild) → wpWild P ops wild Qh is W a →
      (j ∉ wild ∧ ∃ v, YieldsS P ops W oj v a ∧ wpWild P ops wild Qh (is.erase j) W (a.put oj.dst v)) ∨
      (j ∈ wild ∧ Region.wanted oj (yielded ops a.tmps) = true ∧ ∀ x : Past W, wildAt P oj a x.w fun v w' => wpWild P ops wild Qh (is.erase j) w' (a.put oj.dst v))
  | i :: is, W, a, hp, hm, hap, ⟨o, h1, h2⟩ => by
    by_cases hij : i = j
    · subst hij
      obtain rfl : o = oj := Option.some.inj (h1.symm.trans hj)
      simpa using h2
    · have hm' : j ∈ is := by
        rcases List.mem_cons.1 hm with e | e
        · exact absurd e.symm hij
        · exact e
      have hlt : i < j := (List.pairwise_cons.1 hp).1 j hm'
      obtain ⟨hapi, hni⟩ := hap i (by simp) hlt
      rcases h2 with ⟨_, v, h2, h3⟩ | ⟨hw, _⟩
      case inr => exact absurd hw hni
      obtain ⟨s1, s2, s3⟩ := Oper.apart_spec (hapi o oj h1 hj)
      have hrec := wpWild_take hsel hj is W (a.put o.dst v) (List.pairwise_cons.1 hp).2 hm' (fun k hk => hap k (List.mem_cons_of_mem _ hk)) h3
      rw [List.erase_cons_tail (by simpa using hij)]
      rcases hrec with ⟨hn, u, y1, y2⟩ | ⟨hn, y1, y2⟩
      · refine .inl ⟨hn, u, (YieldsS.put (hsel j oj · · hj) s1).1 y1, o, h1, .inl ⟨hni, v, (YieldsS.put (hsel i o · · h1) s3).2 h2, ?_⟩⟩
        rw [← Act.put_comm a v u s2]
        exact y2
      · refine .inr ⟨hn, ?_, fun x => ?_⟩
        · rwa [wanted_put oj a o.dst v s1] at y1
        · refine wildAt_mono ((wildAt_put (ops := ops) (hsel j oj · · hj) s1).1 (y2 x)) fun u w' hb hk => ?_
          refine ⟨o, h1, .inl ⟨hni, v, (YieldsS.put (hsel i o · · h1) s3).2 (h2.past (Below.step x.h hb)), ?_⟩⟩
          rw [← Act.put_comm a v u s2]
          exact hk
  | [], _, _, _, hm, _, _ => by cases hm

/-- What waits for operation k, be it by way of others. -/
def waitsT (ops : Array Oper) (k : Nat) : List Nat := (List.range ops.size).foldl (fun acc j => if waits ops j k || acc.any fun q => waits ops j q then j :: acc else acc) []
def Sat (ops : Array Oper) (listed : Array Bool) (q : Nat) : Prop := ∀ k, waits ops q k = true → listed.getD k false = true
def Dep (ops : Array Oper) (q k : Nat) : Prop := q < ops.size ∧ ∀ listed, Closed ops listed → listed.size = ops.size → Sat ops listed q → listed.getD k false = true
theorem foldl_keep {α β : Type} (f : β → α → β) (p : β → Prop) : ∀ (l : List α) (b : β), p b → (∀ b a, a ∈ l → p b → p (f b a)) → p (l.foldl f b)
  | [], _, h, _ => h
  | a :: l, b, h, hf => foldl_keep f p l (f b a) (hf b a (by simp) h) fun b x hx => hf b x (by simp [hx])
theorem waitsT_dep (k : Nat) : ∀ q ∈ waitsT ops k, Dep ops q k := by
  unfold waitsT
  refine foldl_keep _ (fun acc => ∀ q ∈ acc, Dep ops q k) _ _ (fun q h => by cases h) fun acc j hj hacc => ?_
  split
  · rename_i hw
    have hjs : j < ops.size := List.mem_range.1 hj
    intro q hq
    rcases List.mem_cons.1 hq with rfl | hq
    · refine ⟨hjs, fun listed hc hs hsat => ?_⟩
      rw [Bool.or_eq_true, List.any_eq_true] at hw
      rcases hw with hw | ⟨p, hp, hw⟩
      · exact hsat k hw
      · obtain ⟨hps, hd⟩ := hacc p hp
        have hl := hsat p hw
        refine hd listed hc hs fun m hm => hc p m hps ?_ hm
        simpa [show p < listed.size by omega] using hl
    · exact hacc q hq
  · exact hacc

/-- n operations, some of them wild, then a tail. -/
def wildB (ops : Array Oper) (wild : List Nat) (n : Nat) : Bool :=
  Region.noSelect ops && decide (n ≤ ops.size) &&
  ((List.range n).all fun j => match ops[j]? with | some o => o.after.all (fun e => !Region.binds .any e || decide (e.on < j)) | none => false) &&
  ((List.range n).all fun j => (List.range n).all fun k => !decide (k < j) || wild.contains k || waits ops j k || (match ops[k]?, ops[j]? with | some x, some y => x.apart ops y | _, _ => false)) &&
  (wild.all fun k => let T := waitsT ops k; (List.range n).all fun j => decide (j ≤ k) || T.contains j) &&
  (decide (n = ops.size) || (List.range n).all fun k => let T := waitsT ops k; (List.range ops.size).all fun t => decide (t < n) || T.contains t) &&
  Region.seqB .any ops (ops.size - n) n ((Array.range ops.size).map fun i => decide (i < n))
structure WildOk (ops : Array Oper) (wild : List Nat) (n : Nat) : Prop where
  sel : ∀ (j : Nat) (o : Oper) cs b, ops[j]? = some o → o.op ≠ .select cs b
  size : n ≤ ops.size
  deps : ∀ j o, j < n → ops[j]? = some o → ∀ e ∈ o.after, Region.binds .any e = true → e.on < j
  apart : ∀ j k, j < n → k < j → Dep ops j k ∨ (apartAt ops k j ∧ k ∉ wild)
  tail : ∀ t k, n ≤ t → t < ops.size → k < n → Dep ops t k
  seq : Region.seqB .any ops (ops.size - n) n ((Array.range ops.size).map fun i => decide (i < n)) = true
theorem WildOk.of_check {wild : List Nat} {n : Nat} (h : wildB ops wild n = true) : WildOk ops wild n := by
  simp only [wildB, Bool.and_eq_true, decide_eq_true_eq, List.all_eq_true, List.mem_range] at h
  obtain ⟨⟨⟨⟨⟨⟨h1, h2⟩, h3⟩, h4⟩, h5⟩, h6⟩, h7⟩ := h
  refine ⟨Region.noSelect_spec h1, h2, fun j o hj ho e he hb => ?_, fun j k hj hk => ?_, fun t k ht hts hk => ?_, h7⟩
  · have := h3 j hj
    rw [ho] at this
    have := Array.all_eq_true_iff_forall_mem.1 this e he
    simpa [hb] using this
  · by_cases hw : k ∈ wild
    · left
      have := h5 k hw j hj
      simp only [Bool.or_eq_true, decide_eq_true_eq, List.contains_iff_mem] at this
      rcases this with h | h
      · omega
      · exact waitsT_dep k j h
    · have := h4 j hj k (by omega)
      simp only [Bool.or_eq_true, Bool.not_eq_true', decide_eq_false_iff_not, List.contains_iff_mem] at this
      rcases this with ((h | h) | h) | h
      · omega
      · exact absurd h hw
      · exact .inl ⟨by omega, fun listed _ _ hs => hs k h⟩
      · right
        refine ⟨fun oi oj hi hj2 => ?_, hw⟩
        rw [hi, hj2] at h
        exact h
  · simp only [Bool.or_eq_true, decide_eq_true_eq, List.all_eq_true, List.mem_range] at h6
    rcases h6 with h | h
    · omega
    · have := h k hk t hts
      rw [List.contains_iff_mem] at this
      rcases this with h | h
      · omega
      · exact waitsT_dep k t h

theorem wpAny_wild {n : Nat} {wild : List Nat} {Q' : Exit → Act → World → Prop} {T : Act → World → Prop} (F : WildOk ops wild n) (hT : ∀ a w, T a w → wpList P ops Q' (ops.toList.drop n) a w) :
    ∀ (f : Nat) (listed : Array Bool) (a : Act) (w W : World), Closed ops listed → listed.size = ops.size → (left listed n).length = f → (∀ t, n ≤ t → t < ops.size → listed.getD t true = false) →
      Below W.heap.size W w → wpWild P ops wild (fun W a => ∀ x : Past W, T a x.w) (left listed n) W a → wpAny P .any ops Q' (f + (ops.size - n)) listed a w
  | 0, listed, a, w, W, hcl, hs, hf, ht, hb, hh => by
    have hall : ∀ i, i < n → listed.getD i true = true := fun i hi => by
      cases h : listed.getD i true with
      | true => rfl
      | false =>
        have := mem_left.2 ⟨hi, h⟩
        rw [List.eq_nil_of_length_eq_zero hf] at this
        cases this
    have hle : listed = (Array.range ops.size).map fun i => decide (i < n) := listed_eq hs fun i hi => by
      by_cases him : i < n
      · simp [hall i him, him]
      · simp [ht i (by omega) hi, him]
    rw [List.eq_nil_of_length_eq_zero hf] at hh
    subst hle
    rw [Nat.zero_add]
    have hlen : (ops.toList.drop n).length = ops.size - n := by simp
    have := wpAny_of_seq (P := P) (ops := ops) (md := .any) (Q' := Q') (ops.toList.drop n) n ((Array.range ops.size).map fun i => decide (i < n)) a w (fun j => by simp) (by rw [hlen]; exact F.seq) (hT a w (hh ⟨w, hb⟩))
    rw [hlen] at this
    exact this
  | f + 1, listed, a, w, W, hcl, hs, hf, ht, hb, hh => by
    have hne : ∃ i, i < n ∧ listed.getD i true = false := by
      cases hl : left listed n with
      | nil => rw [hl] at hf; cases hf
      | cons i r => exact ⟨i, mem_left.1 (by rw [hl]; simp)⟩
    have hready : ∃ i, i ∈ Region.ready .any ops listed := by
      have : ∀ k i, i < k → i < n → listed.getD i true = false → ∃ j, j ∈ Region.ready .any ops listed := by
        intro k
        induction k with
        | zero => intro i hi; omega
        | succ k ih =>
          intro i hik him hun
          have hsz : i < ops.size := Nat.lt_of_lt_of_le him F.size
          by_cases hd : ∀ e ∈ (ops[i]).after, Region.binds .any e = true → listed.getD e.on false = true
          · exact ⟨i, mem_ready.2 ⟨hun, ops[i], Array.getElem?_eq_getElem hsz, hd⟩⟩
          · obtain ⟨e, he⟩ := Classical.not_forall.1 hd
            obtain ⟨he1, he2⟩ := Classical.not_imp.1 he
            obtain ⟨he2, he3⟩ := Classical.not_imp.1 he2
            have hlt := F.deps i _ him (Array.getElem?_eq_getElem hsz) e he1 he2
            have hun2 : listed.getD e.on true = false := by
              rw [← getD_flip (by omega)]
              simpa using he3
            exact ih e.on (by omega) (by omega) hun2
      obtain ⟨i, him, hun⟩ := hne
      exact this (i + 1) i (by omega) him hun
    rw [show f + 1 + (ops.size - n) = (f + (ops.size - n)) + 1 by omega]
    refine ⟨(fun h0 => by obtain ⟨i, hi⟩ := hready; rw [h0] at hi; cases hi), fun i hi => ?_⟩
    obtain ⟨hun, oi, hoi, hall⟩ := mem_ready.1 hi
    have hisz : i < ops.size := (Array.getElem?_eq_some_iff.1 hoi).1
    have hsat : Sat ops listed i := fun k hk => waits_listed hi hk
    have him : i < n := by
      rcases Nat.lt_or_ge i n with h | h
      · exact h
      · obtain ⟨k, hkm, hk⟩ := hne
        have := (F.tail i k h hisz hkm).2 listed hcl hs hsat
        rw [getD_flip (by have := F.size; omega), hk] at this
        cases this
    have hap : ∀ k ∈ left listed n, k < i → apartAt ops k i ∧ k ∉ wild := fun k hk hki => by
      obtain ⟨h1, h2⟩ := mem_left.1 hk
      rcases F.apart i k him hki with h | h
      · have := h.2 listed hcl hs hsat
        rw [getD_flip (by omega), h2] at this
        cases this
      · exact h
    have hcount : (left (listed.setIfInBounds i true) n).length = f := by
      rw [left_set (by omega), List.length_erase_of_mem (mem_left.2 ⟨him, hun⟩), hf]
      rfl
    have htail : ∀ t, n ≤ t → t < ops.size → (listed.setIfInBounds i true).getD t true = false := fun t h1 h2 => by
      rw [getD_set_ne true (by omega)]
      exact ht t h1 h2
    have hstep : ∀ W' w' v, Below W'.heap.size W' w' → wpWild P ops wild (fun W a => ∀ x : Past W, T a x.w) ((left listed n).erase i) W' (a.put oi.dst v) → wpAny P .any ops Q' (f + (ops.size - n)) (listed.setIfInBounds i true) (a.put oi.dst v) w' := fun W' w' v hw hk => by
      refine wpAny_wild F hT f _ _ w' W' (hcl.step hi) (by simpa using hs) hcount htail hw ?_
      rw [left_set (by omega)]
      exact hk
    unfold wpOp
    simp only [hoi]
    rcases wpWild_take F.sel hoi (left listed n) W a (left_sorted _ _) (mem_left.2 ⟨him, hun⟩) hap hh with ⟨_, v, hy, hrest⟩ | ⟨_, hw1, hy⟩
    · rcases hy with ⟨hw1, hw2⟩ | ⟨hw1, rfl⟩
      · rw [if_pos hw1]
        exact .inl (wp_of_quietAt (hw2 ⟨w, hb⟩) fun w' hw => hstep W w' v (below_past hb hw hb.size) hrest)
      · rw [if_neg (by rw [hw1]; exact Bool.false_ne_true)]
        exact hstep W w undef hb hrest
    · rw [if_pos hw1]
      exact .inl (wp_of_wildAt (hy ⟨w, hb⟩) fun v w' _ hk => hstep w' w' v (Below.refl _ _) hk)

/-- THE LAW. -/
theorem wp_region_wild {id : Nat} {Q : Exit → Act → World → Prop} {a : Act} {w : World} {l : List Oper} (wild : List Nat) (n : Nat) (hm : P.follows .mixedOrders = true) (hB : wildB l.toArray wild n = true)
    (h : wpWild P l.toArray wild (fun W a => ∀ x : Past W, wpList P l.toArray Q (l.drop n) a x.w) (List.range n) w a) : (Code.region id l.toArray true).wp P Q a w := by
  have F := WildOk.of_check hB
  have hb : Below w.heap.size w w.drew := (Below.refl _ _).drew
  refine wp_region_any hm ?_
  have := wpAny_wild (P := P) (Q' := Q) (T := fun a w => wpList P l.toArray Q (l.drop n) a w) F (fun a w h => h) n (Array.replicate l.toArray.size false) a w.drew w (fun q _ hq h _ => by rw [unlisted l q hq] at h; cases h) (by simp) (by rw [left_all l n F.size]; simp) (fun t _ h2 => unlisted l t h2) hb
    (by rw [left_all l n F.size]; exact h)
  rw [show n + (l.toArray.size - n) = l.toArray.size by have := F.size; omega] at this
  exact this

/-- One operation that is no call: the kit's own quiet step serves. -/
def noCall : Op → Bool
  | .call _ | .go _ | .defer _ | .send _ _ | .recv _ _ _ | .select _ _ => false
  | _ => true
theorem andThen_value {α : Type} {r : Result α} {f : FuncId} {args : Array Value} {w : World} {g : α → Value} (h : r.andThen (fun a w' => Result.ok (Next.value (g a)) w') = .ok (.enter f args) w) : False := by
  cases r with
  | ok a w' => simp [Result.andThen] at h
  | halt x w' => simp [Result.andThen] at h
theorem andThen_skip {α : Type} {r : Result α} {f : FuncId} {args : Array Value} {w : World} (h : r.andThen (fun _ w' => Result.ok Next.skip w') = .ok (.enter f args) w) : False := by
  cases r with
  | ok a w' => simp [Result.andThen] at h
  | halt x w' => simp [Result.andThen] at h
theorem andThen_some {α β : Type} {r : Result α} {k : α → World → Result β} {v : β} {w : World} (h : r.andThen k = .ok v w) : ∃ a w1, r = .ok a w1 ∧ k a w1 = .ok v w := by
  cases r with
  | ok a w' => exact ⟨a, w', rfl, h⟩
  | halt x w' => simp [Result.andThen] at h
theorem halts {v : Next} {w w' : World} (h : (runtimePanic .nilDeref : Sem Next).run P w = .ok v w') : False := by
  simp only [runtimePanic, Sem.run_bind] at h
  obtain ⟨a, w1, _, h⟩ := andThen_some h
  simp [goPanic] at h
theorem no_enter {o : Oper} (h : noCall o.op = true) (ρ : Operand → Value) (w w' : World) (f : FuncId) (args : Array Value) (he : (execOp ρ o).run P w = .ok (.enter f args) w') : False := by
  unfold execOp at he
  cases hq : o.op <;> rw [hq] at h he <;> first | (simp only [noCall, Bool.false_eq_true] at h; done) | skip
  all_goals (simp only [] at he)
  all_goals first | (simp only [Sem.run_bind, Sem.run_pure] at he; first | exact andThen_value he | exact andThen_skip he | (simp at he; done)) | skip
  split at he
  · exact halts he
  · exact halts he
  · exact halts he
  · split at he
    · exact halts he
    · simp only [Sem.run_bind] at he
      obtain ⟨a, w1, _, he⟩ := andThen_some he
      obtain ⟨b, w2, _, he⟩ := andThen_some he
      split at he
      · simp only [Sem.run_bind, Sem.run_pure] at he
        obtain ⟨_, _, _, he⟩ := andThen_some he
        simp at he
      · simp [Sem.run_pure] at he
    · simp [Sem.run_pure] at he
  · simp [Sem.run_pure] at he

/-- The same walk, the operations that are left written out, from number i on. -/
def wpWildL (P : Program) (ops : Array Oper) (wild : List Nat) (Qh : World → Act → Prop) : Nat → List Oper → World → Act → Prop
  | _, [], W, a => Qh W a
  | i, o :: rest, W, a =>
      (i ∉ wild ∧ ∃ v, YieldsS P ops W o v a ∧ wpWildL P ops wild Qh (i + 1) rest W (a.put o.dst v)) ∨
      (i ∈ wild ∧ Region.wanted o (yielded ops a.tmps) = true ∧ ∀ x : Past W, wildAt P o a x.w fun v w' => wpWildL P ops wild Qh (i + 1) rest w' (a.put o.dst v))
theorem wpWild_of_L {wild : List Nat} {Qh : World → Act → Prop} : ∀ (rest : List Oper) (i : Nat) (W : World) (a : Act), (∀ j, j < rest.length → rest[j]? = ops[i + j]?) → wpWildL P ops wild Qh i rest W a → wpWild P ops wild Qh (List.range' i rest.length) W a
  | [], _, _, _, _, h => h
  | o :: rest, i, W, a, hr, h => by
    have h0 : ops[i]? = some o := by simpa using (hr 0 (by simp)).symm
    have hr' : ∀ j, j < rest.length → rest[j]? = ops[(i + 1) + j]? := fun j hj => by
      have := hr (j + 1) (by simpa using hj)
      simpa [Nat.add_assoc, Nat.add_comm 1 j] using this
    rw [List.length_cons, List.range'_succ]
    refine ⟨o, h0, ?_⟩
    rcases h with ⟨hn, v, h1, h2⟩ | ⟨hn, h1, h2⟩
    · exact .inl ⟨hn, v, h1, wpWild_of_L rest _ _ _ hr' h2⟩
    · exact .inr ⟨hn, h1, fun x => wildAt_mono (h2 x) fun v w' _ hk => wpWild_of_L rest _ _ _ hr' hk⟩
/-- THE LAW, at a region that is written out: its first operations, then its tail. -/
theorem wp_region_wildL {id : Nat} {Q : Exit → Act → World → Prop} {a : Act} {w : World} {l : List Oper} (wild : List Nat) (n : Nat) (hm : P.follows .mixedOrders = true) (hB : wildB l.toArray wild n = true)
    (h : wpWildL P l.toArray wild (fun W a => ∀ x : Past W, wpList P l.toArray Q (l.drop n) a x.w) 0 (l.take n) w a) : (Code.region id l.toArray true).wp P Q a w := by
  refine wp_region_wild wild n hm hB ?_
  have hs := (WildOk.of_check hB).size
  have hl : (l.take n).length = n := by rw [List.length_take]; simp at hs; omega
  have := wpWild_of_L (l.take n) 0 w a (fun j hj => by
    rw [hl] at hj
    rw [List.getElem?_take, if_pos hj]
    simp) h
  rw [hl, ← List.range_eq_range'] at this
  exact this

section
variable {wild : List Nat} {Qh : World → Act → Prop} {i : Nat} {rest : List Oper} {W : World} {a : Act} {o : Oper}
theorem wildL_nil (h : Qh W a) : wpWildL P ops wild Qh i [] W a := h
/-- An operation that reads. -/
theorem wildL_val (hn : i ∉ wild) (hw : Region.wanted o (yielded ops a.tmps) = true) (hc : noCall o.op = true)
    (h : ∀ K : Act → Prop, (∀ a, wpWildL P ops wild Qh (i + 1) rest W a → K a) → o.quiet P a (fun w' => ∃ x : Past W, w' = x.w) K) : wpWildL P ops wild Qh i (o :: rest) W a := by
  obtain ⟨v, h1, h2⟩ := h _ fun _ h => h
  refine .inl ⟨hn, v, .inl ⟨hw, fun x => ?_⟩, h2⟩
  have := h1 x.w ⟨x, rfl⟩
  unfold Oper.quietAt at this ⊢
  generalize hr : (execOp a.eval o).run P x.w = r at *
  cases r with
  | ok n w' =>
    cases n
    case enter f args => exact (no_enter hc _ _ _ _ _ hr).elim
    all_goals exact this
  | halt y w' => exact this
/-- An operation that is passed over. -/
theorem wildL_skip (hn : i ∉ wild) (hw : Region.wanted o (yielded ops a.tmps) = false) (h : wpWildL P ops wild Qh (i + 1) rest W (a.put o.dst undef)) : wpWildL P ops wild Qh i (o :: rest) W a :=
  .inl ⟨hn, undef, .inr ⟨hw, rfl⟩, h⟩
theorem put_inj {d : Tmp} {u v : Value} (hd : d < a.tmps.size) (h : a.put (some d) u = a.put (some d) v) : u = v := by
  have := congrArg (fun b : Act => b.tmps[d]?) h
  simpa [Act.put, hd] using this
/-- A call whose value is one, whatever the world. -/
theorem wildL_call (hn : i ∉ wild) (hw : Region.wanted o (yielded ops a.tmps) = true) (hd : (match o.dst with | some d => decide (d < a.tmps.size) | none => false) = true)
    (hx : ∃ A, (∀ (x : Past W) (K : Act → Prop), (∀ a', a' = A → K a') → o.quiet P a (fun w' => ∃ y : Past x.w, w' = y.w) K) ∧ wpWildL P ops wild Qh (i + 1) rest W A) : wpWildL P ops wild Qh i (o :: rest) W a := by
  obtain ⟨A, h, hA⟩ := hx
  have h' : ∀ x : Past W, ∃ v, o.quietAt P a (fun w' => ∃ y : Past x.w, w' = y.w) x.w v ∧ a.put o.dst v = A := fun x => by
    obtain ⟨v, h1, h2⟩ := h x (fun a' => a' = A) fun _ h => h
    exact ⟨v, h1 x.w ⟨⟨x.w, Below.refl _ _⟩, rfl⟩, h2⟩
  obtain ⟨v, _, hv⟩ := h' ⟨W, Below.refl _ _⟩
  refine .inl ⟨hn, v, .inl ⟨hw, fun x => ?_⟩, by rw [hv]; exact hA⟩
  obtain ⟨u, h1, h2⟩ := h' x
  cases hq : o.dst with
  | none => rw [hq] at hd; cases hd
  | some d =>
    rw [hq] at hd h2 hv
    obtain rfl := put_inj (by simpa using hd) (h2.trans hv.symm)
    exact h1
theorem Past.two {W : World} {x : Past W} (y : Past x.w) : Below W.heap.size W y.w := Below.step x.h y.h
theorem call_back {x : World} {f : FuncId} {args : Array Value} {v : Value} {y : Past x} (h : Calls P f args y.w fun e w' => e = .returned v ∧ Below y.w.heap.size y.w w') : Calls P f args y.w fun e w'' => e = .returned v ∧ ∃ z : Past x, w'' = z.w :=
  h.mono fun _ w'' ⟨he, hb⟩ => ⟨he, ⟨w'', Below.step y.h hb⟩, rfl⟩
/-- An operation whose value hangs on the world. -/
theorem wildL_wild (hn : i ∈ wild) (hw : Region.wanted o (yielded ops a.tmps) = true)
    (h : ∀ (x : Past W) (K : Value → World → Prop), (∀ v w', wpWildL P ops wild Qh (i + 1) rest w' (a.put o.dst v) → K v w') → wildAt P o a x.w K) : wpWildL P ops wild Qh i (o :: rest) W a :=
  .inr ⟨hn, hw, fun x => h x _ fun _ _ h => h⟩
@[go_sem] theorem wildUpon_value (w w' : World) (K : Value → World → Prop) (v : Value) : wildUpon P w K (.ok (.value v) w') = (Below w.heap.size w w' ∧ K v w') := rfl
@[go_sem] theorem wildUpon_enter (w w' : World) (K : Value → World → Prop) (f : FuncId) (args : Array Value) : wildUpon P w K (.ok (.enter f args) w') = (w' = w ∧ Calls P f args w fun e w'' => ∃ v, e = .returned v ∧ Below w.heap.size w w'' ∧ K v w'') := rfl
end
end
end Go.Proofs.YtppgmphojklaeaaGreatDoor
namespace Go.Proofs.YtppgmphojklaeaaGreatDoor
open Go

def byteOf (f : Nat → Nat) : Nat := f 0 % 2 * 128 + f 1 % 2 * 64 + f 2 % 2 * 32 + f 3 % 2 * 16 + f 4 % 2 * 8 + f 5 % 2 * 4 + f 6 % 2 * 2 + f 7 % 2
def ofBits (f : Nat → Nat) : Lab := ⟨(List.range 32).map fun k => UInt8.ofNat (byteOf fun j => f (8 * k + j)), by simp⟩

theorem byteOf_lt (f : Nat → Nat) : byteOf f < 256 := by unfold byteOf; omega
theorem bitB_byteOf (f : Nat → Nat) (j : Nat) (hj : j < 8) : bitB (UInt8.ofNat (byteOf f)) j = f j % 2 := by
  have h := byteOf_lt f
  rw [bitB, UInt8.toNat_ofNat', Nat.mod_eq_of_lt h]
  have c : j = 0 ∨ j = 1 ∨ j = 2 ∨ j = 3 ∨ j = 4 ∨ j = 5 ∨ j = 6 ∨ j = 7 := by omega
  unfold byteOf
  rcases c with rfl | rfl | rfl | rfl | rfl | rfl | rfl | rfl <;> simp only [Nat.sub_zero, Nat.reduceSub, Nat.reducePow] <;> omega
theorem bit_ofBits (f : Nat → Nat) (i : Nat) (hi : i < 256) : bit (ofBits f) i = f i % 2 := by
  have : (ofBits f).get (i / 8) = UInt8.ofNat (byteOf fun j => f (8 * (i / 8) + j)) := by
    simp [ofBits, Lab.get, List.getD, show i / 8 < 32 by omega]
  rw [bit, this, bitB_byteOf _ _ (by omega)]
  congr 2
  omega

/-- The first n bits. -/
def cut (a : Lab) (n : Nat) : Lab := ofBits fun j => if j < n then bit a j else 0
theorem bit_cut (a : Lab) (n i : Nat) (hi : i < 256) : bit (cut a n) i = if i < n then bit a i else 0 := by
  rw [cut, bit_ofBits _ _ hi]
  have := bit_lt a i
  split <;> omega
/-- A label with bit i set. -/
def setBit (a : Lab) (i : Nat) : Lab := ofBits fun j => if j = i then 1 else bit a j
theorem bit_setBit (a : Lab) (i j : Nat) (hj : j < 256) : bit (setBit a i) j = if j = i then 1 else bit a j := by
  rw [setBit, bit_ofBits _ _ hj]
  have := bit_lt a j
  split <;> omega

theorem bit_set (a : Lab) (k : Nat) (x : UInt8) (i : Nat) (hi : i < 256) : bit (a.set k x) i = if i / 8 = k then bitB x (i % 8) else bit a i := by
  rw [bit, Lab.get_set _ _ _ _ (by omega)]
  by_cases h : k = i / 8
  · rw [if_pos h, if_pos h.symm]
  · rw [if_neg h, if_neg (fun e => h e.symm)]
    rfl

/-! ### Bytes, by going through all of them -/
theorem byte_add : ∀ (x : Fin 256) (k j : Fin 8), x.val / 2 ^ (7 - k.val) % 2 = 0 → x.val + 2 ^ (7 - k.val) < 256 ∧ (x.val + 2 ^ (7 - k.val)) / 2 ^ (7 - j.val) % 2 = if j = k then 1 else x.val / 2 ^ (7 - j.val) % 2 := by decide +kernel
theorem byte_mask : ∀ (x : Fin 256) (k j : Fin 8), (x.val &&& (255 - 255 / 2 ^ k.val)) / 2 ^ (7 - j.val) % 2 = if j.val < k.val then x.val / 2 ^ (7 - j.val) % 2 else 0 := by decide +kernel
theorem byte_or : ∀ (x : Fin 256) (k j : Fin 8), (x.val ||| 2 ^ (7 - k.val)) < 256 ∧ (x.val ||| 2 ^ (7 - k.val)) / 2 ^ (7 - j.val) % 2 = if j = k then 1 else x.val / 2 ^ (7 - j.val) % 2 := by decide +kernel
theorem byte_xor : ∀ (x : Fin 256) (k j : Fin 8), (x.val ^^^ 2 ^ (7 - k.val)) < 256 ∧ (x.val ^^^ 2 ^ (7 - k.val)) / 2 ^ (7 - j.val) % 2 = if j = k then 1 - x.val / 2 ^ (7 - j.val) % 2 else x.val / 2 ^ (7 - j.val) % 2 := by decide +kernel

/-- A byte with one more bit. -/
theorem setBit_add (a : Lab) (i : Nat) (h0 : bit a i = 0) :
    (a.get (i / 8)).toNat + 2 ^ (7 - i % 8) < 256 ∧ a.set (i / 8) (UInt8.ofNat ((a.get (i / 8)).toNat + 2 ^ (7 - i % 8))) = setBit a i := by
  have hx := (a.get (i / 8)).toNat_lt
  have key := fun j : Fin 8 => byte_add ⟨(a.get (i / 8)).toNat, hx⟩ ⟨i % 8, by omega⟩ j h0
  have hlt := (key 0).1
  refine ⟨hlt, lab_ext fun j hj => ?_⟩
  rw [bit_set _ _ _ _ hj, bit_setBit _ _ _ hj]
  by_cases h : j / 8 = i / 8
  · rw [if_pos h, bitB, UInt8.toNat_ofNat', Nat.mod_eq_of_lt hlt]
    have k2 := (key ⟨j % 8, by omega⟩).2
    simp only [Fin.mk.injEq] at k2
    rw [k2]
    by_cases e : j % 8 = i % 8
    · rw [if_pos e, if_pos (by omega)]
    · rw [if_neg e, if_neg (fun h2 => e (by rw [h2]))]
      rw [bit, bitB, h]
  · rw [if_neg h, if_neg (fun h2 => h (by rw [h2]))]
theorem setBit_same (a : Lab) (i : Nat) (h1 : bit a i = 1) : setBit a i = a := lab_ext fun j hj => by
  rw [bit_setBit _ _ _ hj]
  by_cases e : j = i
  · subst e; rw [if_pos rfl, h1]
  · rw [if_neg e]
theorem setBit_or (a : Lab) (i : Nat) :
    (a.get (i / 8)).toNat ||| 2 ^ (7 - i % 8) < 256 ∧ a.set (i / 8) (UInt8.ofNat ((a.get (i / 8)).toNat ||| 2 ^ (7 - i % 8))) = setBit a i := by
  have hx := (a.get (i / 8)).toNat_lt
  have key := fun j : Fin 8 => byte_or ⟨(a.get (i / 8)).toNat, hx⟩ ⟨i % 8, by omega⟩ j
  have hlt := (key 0).1
  refine ⟨hlt, lab_ext fun j hj => ?_⟩
  rw [bit_set _ _ _ _ hj, bit_setBit _ _ _ hj]
  by_cases h : j / 8 = i / 8
  · rw [if_pos h, bitB, UInt8.toNat_ofNat', Nat.mod_eq_of_lt hlt]
    have k2 := (key ⟨j % 8, by omega⟩).2
    simp only [Fin.mk.injEq] at k2
    rw [k2]
    by_cases e : j % 8 = i % 8
    · rw [if_pos e, if_pos (by omega)]
    · rw [if_neg e, if_neg (fun h2 => e (by rw [h2]))]
      rw [bit, bitB, h]
  · rw [if_neg h, if_neg (fun h2 => h (by rw [h2]))]
theorem set_self (a : Lab) (k : Nat) : a.set k (UInt8.ofNat (a.get k).toNat) = a := Lab.ext' fun j hj => by
  rw [Lab.get_set _ _ _ _ hj]
  split
  · rename_i h; subst h; simp
  · rfl

/-- Whole bytes, and the first bits of one more. -/
theorem cut_bytes (a c : Lab) (n : Nat) (hn : n ≤ 256) (h1 : ∀ k, k < n / 8 → c.get k = a.get k) (h2 : ∀ k, n / 8 < k → k < 32 → c.get k = 0)
    (h3 : n / 8 < 32 → (c.get (n / 8)).toNat = if n % 8 = 0 then 0 else (a.get (n / 8)).toNat &&& (255 - 255 / 2 ^ (n % 8))) : c = cut a n := lab_ext fun j hj => by
  rw [bit_cut _ _ _ hj]
  by_cases hlt : j / 8 < n / 8
  · rw [if_pos (by omega), bit, h1 _ hlt]; rfl
  · by_cases he : j / 8 = n / 8
    · have hk := h3 (by omega)
      rw [bit, bitB, he, hk]
      by_cases h0 : n % 8 = 0
      · rw [if_pos h0, if_neg (by omega)]; simp
      · rw [if_neg h0]
        have hx := (a.get (n / 8)).toNat_lt
        have key := byte_mask ⟨(a.get (n / 8)).toNat, hx⟩ ⟨n % 8, by omega⟩ ⟨j % 8, by omega⟩
        simp only at key
        rw [key]
        by_cases h5 : j % 8 < n % 8
        · rw [if_pos h5, if_pos (by omega), bit, bitB, he]
        · rw [if_neg h5, if_neg (by omega)]
    · rw [if_neg (by omega), bit, h2 _ (by omega) (by omega)]
      simp [bitB]

/-- The first k bytes of a, and behind them z's. -/
def Lab.over (a z : Lab) (k : Nat) : Lab := if h : k ≤ 32 then ⟨a.l.take k ++ z.l.drop k, by simp [a.h, z.h]; omega⟩ else a
theorem Lab.get_over (a z : Lab) (k i : Nat) (hk : k ≤ 32) (_hi : i < 32) : (a.over z k).get i = if i < k then a.get i else z.get i := by
  have ha := a.h
  have hz := z.h
  simp only [Lab.over, hk, dif_pos, Lab.get, List.getD, List.getElem?_append, List.length_take, List.getElem?_take, List.getElem?_drop, ha]
  rw [show min k 32 = k by omega]
  split
  · rfl
  · rw [show k + (i - k) = i by omega]
theorem splice_take (a z : Lab) (m : Int) (k : Nat) (hk : k ≤ 32) : splice (cellsP m z) 1 (List.take k (cellsL a).toList) = cellsP m (a.over z k) := by
  have ha := a.h
  have hz := z.h
  simp only [splice, cellsP, cellsL, Lab.over, hk, dif_pos]
  simp [List.map_take, List.map_drop, ha, Nat.min_eq_left hk, Nat.add_comm 1 k]
theorem over_cut (a : Lab) (m k : Nat) (hk : k ≤ 32) (hm : m = 8 * k) : a.over zeroLab k = cut a m := by
  apply cut_bytes a _ m (by omega)
  · intro j hj
    rw [Lab.get_over _ _ _ _ hk (by omega), if_pos (by omega)]
  · intro j h1 h2
    rw [Lab.get_over _ _ _ _ hk h2, if_neg (by omega), zeroLab_get]
  · intro h
    rw [if_pos (by omega), Lab.get_over _ _ _ _ hk h, if_neg (by omega), zeroLab_get]
    rfl
theorem over_set_cut (a : Lab) (m k r : Nat) (hk : k < 32) (hr0 : 0 < r) (hr : r < 8) (hm : m = 8 * k + r) :
    (a.over zeroLab k).set k (UInt8.ofNat ((a.get k).toNat &&& (255 - 255 / 2 ^ r))) = cut a m := by
  have hx := (a.get k).toNat_lt
  have hlt : (a.get k).toNat &&& (255 - 255 / 2 ^ r) < 256 := Nat.lt_of_le_of_lt Nat.and_le_left hx
  apply cut_bytes a _ m (by omega)
  · intro j hj
    rw [Lab.get_set _ _ _ _ (by omega), if_neg (by omega), Lab.get_over _ _ _ _ (by omega) (by omega), if_pos (by omega)]
  · intro j h1 h2
    rw [Lab.get_set _ _ _ _ h2, if_neg (by omega), Lab.get_over _ _ _ _ (by omega) h2, if_neg (by omega), zeroLab_get]
  · intro h
    rw [if_neg (by omega), Lab.get_set _ _ _ _ h, if_pos (by omega), UInt8.toNat_ofNat', Nat.mod_eq_of_lt hlt, show m / 8 = k by omega, show m % 8 = r by omega]
theorem cut_zero (a : Lab) : cut a 0 = zeroLab := lab_ext fun j hj => by
  rw [bit_cut _ _ _ hj, if_neg (by omega), bit, zeroLab_get]
  simp [bitB]
theorem cut_succ (a : Lab) (n : Nat) (hn : n < 256) : cut a (n + 1) = if bit a n = 1 then setBit (cut a n) n else cut a n := lab_ext fun j hj => by
  by_cases h : bit a n = 1
  · rw [if_pos h, bit_setBit _ _ _ hj, bit_cut _ _ _ hj, bit_cut _ _ _ hj]
    by_cases e : j = n
    · subst e; simp [h]
    · rw [if_neg e]
      by_cases h2 : j < n
      · rw [if_pos h2, if_pos (by omega)]
      · rw [if_neg h2, if_neg (by omega)]
  · rw [if_neg h, bit_cut _ _ _ hj, bit_cut _ _ _ hj]
    have := bit_lt a n
    by_cases e : j = n
    · subst e; rw [if_pos (by omega), if_neg (by omega)]; omega
    · by_cases h2 : j < n
      · rw [if_pos h2, if_pos (by omega)]
      · rw [if_neg h2, if_neg (by omega)]
theorem cut_256 (a : Lab) (n : Nat) (hn : 256 ≤ n) : cut a n = a := lab_ext fun j hj => by
  rw [bit_cut _ _ _ hj, if_pos (by omega)]

/-- In form? -/
def good (n : Int) (a : Lab) : Bool := decide (0 ≤ n ∧ n ≤ 256 ∧ cut a n.toNat = a)

/-- A label begins with so many bits of another one. -/
theorem common_ge {a l : Lab} {n : Nat} (hn : n ≤ 256) (hc : cut a n = a) : n ≤ common a l ↔ cut l n = a := by
  have is := common_is a l
  constructor
  · intro h
    apply lab_ext
    intro i hi
    rw [bit_cut _ _ _ hi]
    by_cases e : i < n
    · rw [if_pos e, is.same i (by omega)]
    · rw [if_neg e, ← hc, bit_cut _ _ _ hi, if_neg e]
  · intro h
    rcases Nat.lt_or_ge (common a l) n with hlt | hge
    · have h1 := is.other (by omega)
      have h2 : bit a (common a l) = bit l (common a l) := by
        generalize common a l = k at *
        rw [← h, bit_cut _ _ _ (by omega), if_pos hlt]
      exact absurd h2 h1
    · exact hge
theorem good_nat {n : Int} {a : Lab} (h : good n a = true) : ∃ m : Nat, n = m ∧ m ≤ 256 ∧ cut a m = a := by
  simp only [good, decide_eq_true_eq] at h
  exact ⟨n.toNat, by omega, by omega, h.2.2⟩
theorem good_of {m : Nat} {a : Lab} (h1 : m ≤ 256) (h2 : cut a m = a) : good m a = true := by
  simp only [good, decide_eq_true_eq, Int.toNat_natCast]
  exact ⟨by omega, by omega, h2⟩
theorem cut_cut (a : Lab) (n m : Nat) (h : n ≤ m) : cut (cut a n) m = cut a n := lab_ext fun i hi => by
  rw [bit_cut _ _ _ hi, bit_cut _ _ _ hi]
  by_cases h1 : i < n
  · rw [if_pos h1, if_pos (by omega)]
  · rw [if_neg h1]; simp
end Go.Proofs.YtppgmphojklaeaaGreatDoor
namespace Go.Proofs.YtppgmphojklaeaaGreatDoor
open Go Go.RowKit

theorem bitI_nat (a : Lab) (i : Nat) (h : i < 256) : bitI a (i : Int) = (bit a i : Int) := by
  rw [bitI, if_pos ⟨by omega, by omega⟩, Int.toNat_natCast]

theorem rCommon_any (a b : Lab) (w : World) :
    Calls Tryz.prog 117 #[.agg (cellsL a), .agg (cellsL b)] w fun e w' => e = .returned (.int .i64 (common a b)) ∧ Below w.heap.size w w' := by
  go_enter Tryz.func117, Tryz.ntmps117
  go_wp2_with fail
  go_loopw [5] (fun k wr => ∃ i : Nat, i ≤ 256 ∧ k = .int .i64 i ∧ Hid (∀ j, j < i → bit a j = bit b j) ∧ rowAt wr w.heap.size = some (cellsL a) ∧ rowAt wr (w.heap.size + 1) = some (cellsL b) ∧ Below w.heap.size w wr) (fun k _ => (256 - intOf k).toNat)
  case atStart => exact ⟨0, by omega, rfl, Lib.hid (by omega), by simp [rowAt_alloc_past, rowAt_alloc_at], by simp [rowAt_alloc_at], (((Below.refl _ _).alloc (Nat.le_refl _) _).alloc (by simp) _)⟩
  case round =>
    obtain ⟨i, hi, rfl, hs, ha, hb, hw⟩ := hrel
    have fa := fun x : Past wr => x.row ha
    have fb := fun x : Past wr => x.row hb
    by_cases hlt : i < 256
    · have hltI : (i : Int) < 256 := by omega
      by_cases he : bit a i = bit b i
      · have he' : (bitI a ↑i == bitI b ↑i) = true := by rw [bitI_nat a i hlt, bitI_nat b i hlt, he]; simp
        have HE := Lib.hid he
        clear he
        go_wp2_with fail
        refine wp_region_past (by kernel_rfl) (by kernel_rfl) ?_
        repeat (go_big_quiet_step ((go_at_call 78; exact Past.call (rBit_any _ _ _))))
        refine wpQuiet_nil ?_
        intro w2 hw2
        obtain ⟨⟨wn, hn⟩, rfl⟩ := hw2
        try dsimp only
        go_wp2_with fail
        go_roundw
        case rel => exact ⟨i + 1, by omega, by go_num, Lib.hid (fun j hj => by
            by_cases e : j = i
            · subst e; exact HE.out
            · exact hs.out j (by omega)), rowAt_past hn ha, rowAt_past hn hb, below_past hw hn hw.size⟩
        case measure => simp [intOf]; omega
      · have he' : (bitI a ↑i == bitI b ↑i) = false := by rw [bitI_nat a i hlt, bitI_nat b i hlt, beq_eq_false_iff_ne]; omega
        have HE := Lib.hid he
        clear he
        go_wp2_with fail
        refine wp_region_past (by kernel_rfl) (by kernel_rfl) ?_
        repeat (go_big_quiet_step ((go_at_call 78; exact Past.call (rBit_any _ _ _))))
        refine wpQuiet_nil ?_
        intro w2 hw2
        obtain ⟨⟨wn, hn⟩, rfl⟩ := hw2
        try dsimp only
        go_wp2_with fail
        go_ret
        exact ⟨ret_int (by rw [common_of ⟨hi, hs.out, fun _ => HE.out⟩]), below_past hw hn hw.size⟩
    · obtain rfl : i = 256 := by omega
      go_wp2_with fail
      refine wp_region_past (by kernel_rfl) (by kernel_rfl) ?_
      repeat (go_big_quiet_step (fail))
      refine wpQuiet_nil ?_
      intro w2 hw2
      obtain ⟨⟨wn, hn⟩, rfl⟩ := hw2
      try dsimp only
      go_wp2_with fail
      go_ret
      exact ⟨ret_int (by rw [common_of ⟨hi, hs.out, by omega⟩]), below_past hw hn hw.size⟩

theorem rOrder_any (a b : Lab) (w : World) :
    Calls Tryz.prog 50 #[.agg (cellsL a), .agg (cellsL b)] w fun e w' => e = .returned (.int .i64 (order a b)) ∧ Below w.heap.size w w' := by
  have hle := common_le a b
  have b0 : Below w.heap.size w ((w.alloc (.cells (cellsL a) 27)).alloc (.cells (cellsL b) 27)) := (((Below.refl _ _).alloc (Nat.le_refl _) _).alloc (by simp) _)
  by_cases h : common a b = 256
  · have h' : ((common a b : Int) == 256) = true := by rw [h]; rfl
    have H := Lib.hid h
    clear h
    go_enter Tryz.func50, Tryz.ntmps50
    go_wp2_with fail
    refine (rCommon_any _ _ _).mono ?_
    rintro e w1 ⟨rfl, hb1⟩
    go_wp2_with fail
    go_ret
    exact ⟨ret_int (by rw [order, if_pos H.out]), below_past b0 hb1 b0.size⟩
  · have h' : ((common a b : Int) == 256) = false := by rw [beq_eq_false_iff_ne]; omega
    have H := Lib.hid h
    have hlt : common a b < 256 := by omega
    clear h
    have hb2 := bit_lt a (common a b)
    go_enter Tryz.func50, Tryz.ntmps50
    go_wp2_with fail
    refine (rCommon_any _ _ _).mono ?_
    rintro e w1 ⟨rfl, hb1⟩
    have f1 : rowAt w1 w.heap.size = some (cellsL a) := rowAt_past hb1 (by simp [rowAt_alloc_past, rowAt_alloc_at])
    go_wp2_with fail
    refine (rBit_any _ _ _).mono ?_
    rintro e w2 ⟨rfl, hb3⟩
    rw [bitI_nat a _ hlt]
    go_wp2_with fail
    go_ret
    exact ⟨ret_int (by rw [order, if_neg H.out]), below_past (below_past b0 hb1 b0.size) hb3 (below_past b0 hb1 b0.size).size⟩

set_option maxRecDepth 100000 in
theorem rSet_any (a : Lab) (i : Int) (h0 : 0 ≤ i) (h1 : i < 256) (w : World) :
    Calls Tryz.prog 201 #[.agg (cellsL a), .int .i64 i] w fun e w' => e = .returned (.agg (cellsL (setBit a i.toNat))) ∧ Below w.heap.size w w' := by
  have b0 : Below w.heap.size w ((w.alloc (.cells (cellsL a) 27)).alloc (.cells (cellsL zeroLab) 27)) := (((Below.refl _ _).alloc (Nat.le_refl _) _).alloc (by simp) _)
  go_enter Tryz.func201, Tryz.ntmps201
  go_wp2_with fail
  go_loop [5, 6] (fun x k => ∃ r q : Nat, i % 8 + r ≤ 7 ∧ q ≤ 128 ∧ Hid (q = 2 ^ r) ∧ k = .int .i64 (i % 8 + r) ∧ x = .int .u8 (q : Int)) (fun _ k => (7 - intOf k).toNat)
  case atStart => exact ⟨0, 1, by omega, by omega, Lib.hid (by simp), by simp, rfl⟩
  case round =>
    obtain ⟨r, q, hr, hq, HQ, rfl, rfl⟩ := hrel
    by_cases hlt : i % 8 + r < 7
    · have hq2 : q ≤ 64 := by
        have : 2 ^ r ≤ 2 ^ 6 := Nat.pow_le_pow_right (by decide) (by omega)
        rw [HQ.out]; omega
      go_wp2_with fail
      go_round
      case rel => exact ⟨r + 1, 2 * q, by omega, by omega, Lib.hid (by rw [HQ.out, Nat.pow_succ, Nat.mul_comm]), by go_num, by go_num⟩
      case measure => simp [intOf]; omega
    · have hr2 : 7 - i.toNat % 8 = r := by omega
      have hi8 : i.toNat / 8 = (i / 8).toNat := by omega
      by_cases hbit : bit a i.toNat = 0
      · obtain ⟨hs1, hs2⟩ := setBit_add a i.toNat hbit
        rw [hr2, ← HQ.out, hi8] at hs1 hs2
        have hI : bitI a i = 0 := by rw [bitI, if_pos ⟨h0, h1⟩, hbit]; rfl
        have HI := Lib.hid hI
        clear hI hbit
        go_wp2_with fail
        refine (rBit_any _ _ _).mono ?_
        rintro e w1 ⟨rfl, hb1⟩
        rw [HI.out]
        have f1 : rowAt w1 w.heap.size = some (cellsL a) := rowAt_past hb1 (by simp [rowAt_alloc_past, rowAt_alloc_at])
        have f2 : rowAt w1 (w.heap.size + 1) = some (cellsL zeroLab) := rowAt_past hb1 (by simp [rowAt_alloc_at])
        have f3 := (cell_of_rowAt f1 (i / 8).toNat).trans (get_cellsL a _ (by omega))
        have f4 := frozen_of_rowAt f1 (i / 8).toNat
        have hset := set_cellsL a (i / 8).toNat (((a.get (i / 8).toNat).toNat : Int) + q) (by omega) (by omega)
        rw [show (((a.get (i / 8).toNat).toNat : Int) + q).toNat = (a.get (i / 8).toNat).toNat + q by omega, hs2] at hset
        have f5 := rowAt_setCell_same f1 (i / 8).toNat (.int .u8 (((a.get (i / 8).toNat).toNat : Int) + q))
        rw [hset] at f5
        have f6 := (rowAt_setCell_other w1 ⟨w.heap.size, (i / 8).toNat, none⟩ (w.heap.size + 1) (.int .u8 (((a.get (i / 8).toNat).toNat : Int) + q)) (by simp)).trans f2
        clear hset hs2 f2
        go_wp2_with fail
        exact row_ret_lab rfl rfl rfl (rowAt_setRow_same f6 _) ⟨rfl, Below.setRow (Below.setCell (below_past b0 hb1 b0.size) (Nat.le_refl _) _) (Nat.le_succ _) _⟩
      · have hb2 := bit_lt a i.toNat
        have hb3 : bit a i.toNat = 1 := by omega
        have hI : bitI a i = 1 := by rw [bitI, if_pos ⟨h0, h1⟩, hb3]; rfl
        have HI := Lib.hid hI
        have HS := Lib.hid (setBit_same a i.toNat hb3)
        clear hI hbit hb3
        go_wp2_with fail
        refine (rBit_any _ _ _).mono ?_
        rintro e w1 ⟨rfl, hb1⟩
        rw [HI.out]
        have f1 : rowAt w1 w.heap.size = some (cellsL a) := rowAt_past hb1 (by simp [rowAt_alloc_past, rowAt_alloc_at])
        have f2 : rowAt w1 (w.heap.size + 1) = some (cellsL zeroLab) := rowAt_past hb1 (by simp [rowAt_alloc_at])
        go_wp2_with fail
        exact row_ret_lab rfl rfl rfl (rowAt_setRow_same f2 _) ⟨by rw [HS.out], Below.setRow (below_past b0 hb1 b0.size) (Nat.le_succ _) _⟩

theorem rCut_any (a : Lab) (n : Int) (w : World) :
    Calls Tryz.prog 148 #[.agg (cellsL a), .int .i64 n] w fun e w' => e = .returned (.agg (cellsL (cut a n.toNat))) ∧ Below w.heap.size w w' := by
  have b0 : Below w.heap.size w (((w.alloc (.cells (cellsL a) 27)).alloc (.cells (cellsL zeroLab) 27)).alloc (.cells (cellsL zeroLab) 27)) := (((Below.refl _ _).alloc (Nat.le_refl _) _).alloc (by simp) _).alloc (by simp only [World.size_alloc]; omega) _
  go_enter Tryz.func148, Tryz.ntmps148
  go_wp2_with fail
  go_loopw [6] (fun k wr => ∃ i : Nat, i ≤ 256 ∧ (i : Int) ≤ max n 0 ∧ k = .int .i64 i ∧ rowAt wr w.heap.size = some (cellsL a) ∧ rowAt wr (w.heap.size + 1) = some (cellsL zeroLab) ∧ rowAt wr (w.heap.size + 2) = some (cellsL (cut a i)) ∧ Below w.heap.size w wr) (fun k _ => (256 - intOf k).toNat)
  case atStart => exact ⟨0, by omega, by omega, rfl, (rowAt_alloc_past _ _ _ (by simp only [World.size_alloc]; omega)).trans ((rowAt_alloc_past _ _ _ (by simp only [World.size_alloc]; omega)).trans (rowAt_alloc_at _ _ _ _ rfl)),
      (rowAt_alloc_past _ _ _ (by simp only [World.size_alloc]; omega)).trans (rowAt_alloc_at _ _ _ _ (by simp only [World.size_alloc])), by rw [cut_zero]; exact rowAt_alloc_at _ _ _ _ (by simp only [World.size_alloc]), b0⟩
  case round =>
    obtain ⟨i, hi, hin, rfl, ha, hz, hc, hw⟩ := hrel
    by_cases hlt : (i : Int) < n ∧ (i : Int) < 256
    · obtain ⟨hl1, hl2⟩ := hlt
      have hl3 : i < 256 := by omega
      have hI := bitI_nat a i hl3
      have HC := Lib.hid (cut_succ a i hl3)
      have HI := Lib.hid hI
      have hb2 := bit_lt a i
      clear hI
      by_cases hbit : bit a i = 1
      · have hq : ((bit a i : Int) == 1) = true := by rw [hbit]; rfl
        have HB := Lib.hid hbit
        clear hbit
        go_wp2_with fail
        refine (rBit_any _ _ _).mono ?_
        rintro e w1 ⟨rfl, hb1⟩
        rw [HI.out]
        have ha1 := rowAt_past hb1 ha
        have hz1 := rowAt_past hb1 hz
        have hc1 := rowAt_past hb1 hc
        go_wp2_with fail
        refine (rSet_any _ _ (by omega) (by omega) _).mono ?_
        rintro e w2 ⟨rfl, hb3⟩
        rw [Int.toNat_natCast]
        have ha2 := rowAt_past hb3 ha1
        have hz2 := rowAt_past hb3 hz1
        have hc2 := rowAt_past hb3 hc1
        go_wp2_with fail
        go_roundw
        case rel => exact ⟨i + 1, by omega, by omega, by go_num, (rowAt_setRow_other _ _ _ _ (by omega)).trans ha2, (rowAt_setRow_other _ _ _ _ (by omega)).trans hz2, by rw [HC.out, if_pos HB.out]; exact rowAt_setRow_same hc2 _, Below.setRow (below_past (below_past hw hb1 hw.size) hb3 (below_past hw hb1 hw.size).size) (by omega) _⟩
        case measure => simp [intOf]; omega
      · have hq : ((bit a i : Int) == 1) = false := by rw [beq_eq_false_iff_ne]; omega
        have HB := Lib.hid hbit
        clear hbit
        go_wp2_with fail
        refine (rBit_any _ _ _).mono ?_
        rintro e w1 ⟨rfl, hb1⟩
        rw [HI.out]
        go_wp2_with fail
        go_roundw
        case rel => exact ⟨i + 1, by omega, by omega, by go_num, rowAt_past hb1 ha, rowAt_past hb1 hz, by rw [HC.out, if_neg HB.out]; exact rowAt_past hb1 hc, below_past hw hb1 hw.size⟩
        case measure => simp [intOf]; omega
    · have HE : Hid (cut a i = cut a n.toNat) := Lib.hid (by
        by_cases h : (i : Int) < n
        · rw [cut_256 a i (by omega), cut_256 a n.toNat (by omega)]
        · rw [show i = n.toNat by omega])
      have hfin : ∀ c, rowAt (wr.setRow (w.heap.size + 1) c) (w.heap.size + 1) = some c := fun c => rowAt_setRow_same hz c
      by_cases h : (i : Int) < n
      · have h2 : ¬ (i : Int) < 256 := fun e => hlt ⟨h, e⟩
        clear hlt
        go_wp2_with fail
        exact row_ret_lab rfl rfl rfl (hfin _) ⟨by rw [HE.out], Below.setRow hw (Nat.le_succ _) _⟩
      · clear hlt
        go_wp2_with fail
        exact row_ret_lab rfl rfl rfl (hfin _) ⟨by rw [HE.out], Below.setRow hw (Nat.le_succ _) _⟩

theorem rGood_any (n : Int) (a : Lab) (w : World) :
    Calls Tryz.prog 116 #[.int .i64 n, .agg (cellsL a)] w fun e w' => e = .returned (.bool (good n a)) ∧ Below w.heap.size w w' := by
  have b0 : Below w.heap.size w (w.alloc (.cells (cellsL a) 27)) := (Below.refl _ _).alloc (Nat.le_refl _) _
  have fa := fun x : Past (w.alloc (.cells (cellsL a) 27)) => x.row (b := w.heap.size) (c := cellsL a) (by simp [rowAt_alloc_at])
  by_cases h : 0 ≤ n ∧ n ≤ 256
  · obtain ⟨h0, h1⟩ := h
    have HG : Hid (good n a = decide (cut a n.toNat = a)) := Lib.hid (by simp [good, h0, h1])
    go_enter Tryz.func116, Tryz.ntmps116
    go_wp2_with fail
    refine wp_region_past (by kernel_rfl) (by kernel_rfl) ?_
    repeat (go_big_quiet_step ((go_at_call 148; exact Past.call (rCut_any _ _ _))))
    refine wpQuiet_nil ?_
    intro w2 hw2
    obtain ⟨⟨wn, hn⟩, rfl⟩ := hw2
    try dsimp only
    go_wp2_with fail
    go_ret
    exact ⟨by rw [HG.out]; rfl, below_past b0 hn b0.size⟩
  · have HG : Hid (good n a = false) := Lib.hid (by simp [good]; omega)
    by_cases h0 : 0 ≤ n
    · have h1 : ¬ n ≤ 256 := fun e => h ⟨h0, e⟩
      have hd : decide (n ≤ 256) = false := by simpa using h1
      clear h
      go_enter Tryz.func116, Tryz.ntmps116
      go_wp2_with fail
      refine wp_region_past (by kernel_rfl) (by kernel_rfl) ?_
      repeat (go_big_quiet_step (fail))
      refine wpQuiet_nil ?_
      intro w2 hw2
      obtain ⟨⟨wn, hn⟩, rfl⟩ := hw2
      try dsimp only
      go_wp2_with fail
      go_ret
      exact ⟨by rw [HG.out]; rfl, below_past b0 hn b0.size⟩
    · have hd : decide (0 ≤ n) = false := by simpa using h0
      clear h
      go_enter Tryz.func116, Tryz.ntmps116
      go_wp2_with fail
      refine wp_region_past (by kernel_rfl) (by kernel_rfl) ?_
      repeat (go_big_quiet_step (fail))
      refine wpQuiet_nil ?_
      intro w2 hw2
      obtain ⟨⟨wn, hn⟩, rfl⟩ := hw2
      try dsimp only
      go_wp2_with fail
      go_ret
      exact ⟨by rw [HG.out]; rfl, below_past b0 hn b0.size⟩
end Go.Proofs.YtppgmphojklaeaaGreatDoor
namespace Go.Proofs.YtppgmphojklaeaaGreatDoor
open Go Go.RowKit

set_option maxRecDepth 100000 in
theorem Cut_any (a : Lab) (n : Int) (w : World) :
    Calls Tryz.prog 138 #[.agg (cellsL a), .int .i64 n] w fun e w' => e = .returned (.agg (cellsP (min (max n 0) 256) (cut a n.toNat))) ∧ Below w.heap.size w w' := by
  go_enter Tryz.func138, Tryz.ntmps138
  go_wp2_with fail
  obtain ⟨m, hm1, hm2⟩ : ∃ m : Nat, m ≤ 256 ∧ min (max n 0) 256 = (m : Int) := ⟨(min (max n 0) 256).toNat, by omega, by omega⟩
  have HC : Hid (cut a n.toNat = cut a m) := Lib.hid (by
    by_cases h : n ≤ 256
    · rw [show m = n.toNat by omega]
    · rw [cut_256 a n.toNat (by omega), cut_256 a m (by omega)])
  have HM := Lib.hid hm2
  rw [hm2]
  clear hm2
  have b0 : Below w.heap.size w (((w.alloc (.cells (cellsL a) 27)).alloc (.cells (cellsP 0 zeroLab) 53)).alloc (.cells (cellsP m zeroLab) 53)) := (((Below.refl _ _).alloc (Nat.le_refl _) _).alloc (by simp) _).alloc (by simp only [World.size_alloc]; omega) _
  have r0 : rowAt (((w.alloc (.cells (cellsL a) 27)).alloc (.cells (cellsP 0 zeroLab) 53)).alloc (.cells (cellsP m zeroLab) 53)) w.heap.size = some (cellsL a) := (rowAt_alloc_past _ _ _ (by simp only [World.size_alloc]; omega)).trans ((rowAt_alloc_past _ _ _ (by simp only [World.size_alloc]; omega)).trans (rowAt_alloc_at _ _ _ _ rfl))
  have r1 : rowAt (((w.alloc (.cells (cellsL a) 27)).alloc (.cells (cellsP 0 zeroLab) 53)).alloc (.cells (cellsP m zeroLab) 53)) (w.heap.size + 1) = some (cellsP 0 zeroLab) := (rowAt_alloc_past _ _ _ (by simp only [World.size_alloc]; omega)).trans (rowAt_alloc_at _ _ _ _ (by simp only [World.size_alloc]))
  have r2 : rowAt (((w.alloc (.cells (cellsL a) 27)).alloc (.cells (cellsP 0 zeroLab) 53)).alloc (.cells (cellsP m zeroLab) 53)) (w.heap.size + 1 + 1) = some (cellsP m zeroLab) := rowAt_alloc_at _ _ _ _ (by simp only [World.size_alloc])
  generalize ((w.alloc (.cells (cellsL a) 27)).alloc (.cells (cellsP 0 zeroLab) 53)).alloc (.cells (cellsP m zeroLab) 53) = W at *
  have fc := fun x : Past W => (cell_of_rowAt (x.row r2) 0).trans (get_cellsP0 _ _)
  refine wp_region_past (by kernel_rfl) (by kernel_rfl) ?_
  repeat (go_big_quiet_step (fail))
  refine wpQuiet_nil ?_
  intro w2 hw2
  obtain ⟨⟨wn, hn⟩, rfl⟩ := hw2
  try dsimp only
  have q0 := rowAt_past hn r0
  have q1 := rowAt_past hn r1
  have q2 := rowAt_past hn r2
  clear fc r0 r1 r2
  have b1 := below_past b0 hn b0.size
  clear b0 hn
  obtain ⟨k, r, hk, hr, hk8, hr8, hmk⟩ : ∃ k r : Nat, m / 8 = k ∧ m % 8 = r ∧ k ≤ 32 ∧ r < 8 ∧ m = 8 * k + r := ⟨m / 8, m % 8, rfl, rfl, by omega, by omega, by omega⟩
  have e1 : (m : Int) / 8 = (k : Int) := by omega
  have e2 : (m : Int) % 8 = (r : Int) := by omega
  rw [e1, e2]
  have HK := Lib.hid hk
  have HR := Lib.hid hr
  have HMK := Lib.hid hmk
  clear hk hr hmk e1 e2
  have k1 : (k : Int) ≤ 32 := by omega
  have k0 : (0 : Int) ≤ (k : Int) := by omega
  have kn : (k : Int).toNat = k := by omega
  have km : min k 32 = k := by omega
  go_wp2_with fail
  go_region
  rw [splice_take a zeroLab m k hk8]
  have s0 : rowAt (w2.setRow (w.heap.size + 1 + 1) (cellsP m (a.over zeroLab k))).drew w.heap.size = some (cellsL a) := (rowAt_setRow_other _ _ _ _ (by omega)).trans q0
  have s1 : rowAt (w2.setRow (w.heap.size + 1 + 1) (cellsP m (a.over zeroLab k))).drew (w.heap.size + 1) = some (cellsP 0 zeroLab) := (rowAt_setRow_other _ _ _ _ (by omega)).trans q1
  have s2 : rowAt (w2.setRow (w.heap.size + 1 + 1) (cellsP m (a.over zeroLab k))).drew (w.heap.size + 1 + 1) = some (cellsP m (a.over zeroLab k)) := rowAt_setRow_same q2 _
  have b2 : Below w.heap.size w (w2.setRow (w.heap.size + 1 + 1) (cellsP m (a.over zeroLab k))).drew := (Below.setRow b1 (by omega) _).drew
  generalize (w2.setRow (w.heap.size + 1 + 1) (cellsP m (a.over zeroLab k))).drew = W3 at *
  clear q0 q1 q2 b1
  by_cases h0 : r = 0
  · have HO := Lib.hid (over_cut a m k hk8 (by rw [HMK.out, h0]; rfl))
    subst h0
    have s3 := fun c => rowAt_setRow_same s1 c
    go_wp2_with fail
    exact row_ret_pre rfl rfl rfl (s3 _) ⟨by rw [HM.out, HC.out, HO.out], Below.setRow b2 (Nat.le_succ _) _⟩
  · have hr0 : (0 : Int) < (r : Int) := by omega
    have k2 : (k : Int) < 32 := by have := HMK.out; omega
    have hk2 : k < 32 := by omega
    have HO := Lib.hid (over_set_cut a m k r hk2 (by omega) hr8 HMK.out)
    have hx := (a.get k).toNat_lt
    have c0 : W3.cell? ⟨w.heap.size, k, none⟩ = some (.int .u8 (a.get k).toNat) := (cell_of_rowAt s0 k).trans (get_cellsL a k hk2)
    have c2 : W3.cell? ⟨w.heap.size + 1 + 1, 1 + k, none⟩ = some (.int .u8 ((a.over zeroLab k).get k).toNat) := (cell_of_rowAt s2 (1 + k)).trans (get_cellsP m _ k hk2)
    have z2 := frozen_of_rowAt s2 (1 + k)
    go_wp2_with fail
    go_region
    have e3 : bits .andNot .u8 ((a.get k).toNat : Int) (255 / 2 ^ r) = (((a.get k).toNat &&& (255 - 255 / 2 ^ r) : Nat) : Int) := by
      have hle : 255 / 2 ^ r ≤ 255 := Nat.div_le_self _ _
      rw [show (255 : Int) / 2 ^ r = ((255 / 2 ^ r : Nat) : Int) from div_pow_cast 255 r, u8_andNot_nat _ _ hx (by omega)]
    have hlt : (a.get k).toNat &&& (255 - 255 / 2 ^ r) < 256 := Nat.lt_of_le_of_lt Nat.and_le_left hx
    rw [e3]
    clear e3
    generalize (a.get k).toNat &&& (255 - 255 / 2 ^ r) = v at *
    have hv := set_cellsP m (a.over zeroLab k) k (v : Int) (by omega) (by omega)
    rw [Int.toNat_natCast, HO.out] at hv
    have t2 := rowAt_setCell_same s2 (1 + k) (.int .u8 v)
    rw [hv] at t2
    have t1 := (rowAt_setCell_other W3 ⟨w.heap.size + 1 + 1, 1 + k, none⟩ (w.heap.size + 1) (.int .u8 v) (by simp)).trans s1
    have b3 : Below w.heap.size w (W3.setCell ⟨w.heap.size + 1 + 1, 1 + k, none⟩ (.int .u8 v)) := Below.setCell b2 (by show _ ≤ w.heap.size + 1 + 1; omega) _
    clear hv
    generalize W3.setCell ⟨w.heap.size + 1 + 1, 1 + k, none⟩ (.int .u8 v) = W4 at *
    have s3 := fun c => rowAt_setRow_same t1 c
    go_wp2_with fail
    exact row_ret_pre rfl rfl rfl (s3 _) ⟨by rw [HM.out, HC.out], (Below.setRow b3 (Nat.le_succ _) _).drew⟩

theorem good_eq (n : Int) (a : Lab) : (decide (n = min (max n 0) 256) && decide (a = cut a n.toNat)) = good n a := by
  rw [good, ← Bool.decide_and, decide_eq_decide]
  constructor
  · rintro ⟨h1, h2⟩
    exact ⟨by omega, by omega, h2.symm⟩
  · rintro ⟨h1, h2, h3⟩
    exact ⟨by omega, h3.symm⟩

theorem Good_any (n : Int) (a : Lab) (w : World) :
    Calls Tryz.prog 119 #[.agg (cellsP n a)] w fun e w' => e = .returned (.bool (good n a)) ∧ Below w.heap.size w w' := by
  have b0 : Below w.heap.size w (w.alloc (.cells (cellsP n a) 53)) := (Below.refl _ _).alloc (Nat.le_refl _) _
  have r0 : rowAt (w.alloc (.cells (cellsP n a) 53)) w.heap.size = some (cellsP n a) := rowAt_alloc_at _ _ _ _ rfl
  have HG := Lib.hid (good_eq n a)
  go_enter Tryz.func119, Tryz.ntmps119
  go_wp2_with fail
  generalize w.alloc (.cells (cellsP n a) 53) = W at *
  have fa := fun x : Past W => x.row r0
  have fc := fun x : Past W => (cell_of_rowAt (x.row r0) 0).trans (get_cellsP0 _ _)
  refine wp_region_past (by kernel_rfl) (by kernel_rfl) ?_
  repeat (go_big_quiet_step ((go_at_call 138; exact Past.call (Cut_any _ _ _))))
  refine wpQuiet_nil ?_
  intro w2 hw2
  obtain ⟨⟨wn, hn⟩, rfl⟩ := hw2
  try dsimp only
  go_wp2_with fail
  go_ret
  exact ⟨by rw [← HG.out]; rfl, below_past b0 hn b0.size⟩

def has (n : Int) (a l : Lab) : Bool := good n a && decide (n ≤ common a l)

theorem Has_any (n : Int) (a l : Lab) (w : World) :
    Calls Tryz.prog 83 #[.agg (cellsP n a), .agg (cellsL l)] w fun e w' => e = .returned (.bool (has n a l)) ∧ Below w.heap.size w w' := by
  have b0 : Below w.heap.size w ((w.alloc (.cells (cellsP n a) 53)).alloc (.cells (cellsL l) 27)) := ((Below.refl _ _).alloc (Nat.le_refl _) _).alloc (by simp only [World.size_alloc]; omega) _
  have r0 : rowAt ((w.alloc (.cells (cellsP n a) 53)).alloc (.cells (cellsL l) 27)) w.heap.size = some (cellsP n a) := (rowAt_alloc_past _ _ _ (by simp only [World.size_alloc]; omega)).trans (rowAt_alloc_at _ _ _ _ rfl)
  have r1 : rowAt ((w.alloc (.cells (cellsP n a) 53)).alloc (.cells (cellsL l) 27)) (w.heap.size + 1) = some (cellsL l) := rowAt_alloc_at _ _ _ _ (by simp only [World.size_alloc])
  by_cases hg : good n a = true
  · have HG := Lib.hid hg
    clear hg
    go_enter Tryz.func83, Tryz.ntmps83
    go_wp2_with fail
    generalize (w.alloc (.cells (cellsP n a) 53)).alloc (.cells (cellsL l) 27) = W at *
    have fa := fun x : Past W => x.row r0
    have fb := fun x : Past W => x.row r1
    have fc := fun x : Past W => (cell_of_rowAt (x.row r0) 0).trans (get_cellsP0 _ _)
    have gd := fun x : Past W => (Good_any n a x.w).mono fun e w' ⟨h1, h2⟩ => (show e = Ending.returned (.bool true) ∧ Below x.w.heap.size x.w w' from ⟨by rw [h1, HG.out], h2⟩)
    have GD := Lib.hid gd
    clear gd
    refine wp_region_past (by kernel_rfl) (by kernel_rfl) ?_
    repeat (go_big_quiet_step (first | (go_at_call 119; exact Past.call (GD.out _)) | (go_at_call 71; exact Past.call (Common_any _ _ _))))
    refine wpQuiet_nil ?_
    intro w2 hw2
    obtain ⟨⟨wn, hn⟩, rfl⟩ := hw2
    try dsimp only
    go_wp2_with fail
    go_ret
    exact ⟨by rw [has, HG.out]; rfl, below_past b0 hn b0.size⟩
  · have hg' : good n a = false := by simpa using hg
    have HG := Lib.hid hg'
    clear hg hg'
    go_enter Tryz.func83, Tryz.ntmps83
    go_wp2_with fail
    generalize (w.alloc (.cells (cellsP n a) 53)).alloc (.cells (cellsL l) 27) = W at *
    have fa := fun x : Past W => x.row r0
    have fb := fun x : Past W => x.row r1
    have gd := fun x : Past W => (Good_any n a x.w).mono fun e w' ⟨h1, h2⟩ => (show e = Ending.returned (.bool false) ∧ Below x.w.heap.size x.w w' from ⟨by rw [h1, HG.out], h2⟩)
    have GD := Lib.hid gd
    clear gd
    refine wp_region_past (by kernel_rfl) (by kernel_rfl) ?_
    repeat (go_big_quiet_step (first | (go_at_call 119; exact Past.call (GD.out _)) | (go_at_call 71; exact Past.call (Common_any _ _ _))))
    refine wpQuiet_nil ?_
    intro w2 hw2
    obtain ⟨⟨wn, hn⟩, rfl⟩ := hw2
    try dsimp only
    go_wp2_with fail
    go_ret
    exact ⟨by rw [has, HG.out]; rfl, below_past b0 hn b0.size⟩

def over (n : Int) (a : Lab) (m : Int) (b : Lab) : Bool := good m b && decide (n ≤ m) && has n a b

theorem Over_any (n : Int) (a : Lab) (m : Int) (b : Lab) (w : World) :
    Calls Tryz.prog 214 #[.agg (cellsP n a), .agg (cellsP m b)] w fun e w' => e = .returned (.bool (over n a m b)) ∧ Below w.heap.size w w' := by
  have b0 : Below w.heap.size w ((w.alloc (.cells (cellsP n a) 53)).alloc (.cells (cellsP m b) 53)) := ((Below.refl _ _).alloc (Nat.le_refl _) _).alloc (by simp only [World.size_alloc]; omega) _
  have r0 : rowAt ((w.alloc (.cells (cellsP n a) 53)).alloc (.cells (cellsP m b) 53)) w.heap.size = some (cellsP n a) := (rowAt_alloc_past _ _ _ (by simp only [World.size_alloc]; omega)).trans (rowAt_alloc_at _ _ _ _ rfl)
  have r1 : rowAt ((w.alloc (.cells (cellsP n a) 53)).alloc (.cells (cellsP m b) 53)) (w.heap.size + 1) = some (cellsP m b) := rowAt_alloc_at _ _ _ _ (by simp only [World.size_alloc])
  by_cases hg : good m b = true
  · have HG := Lib.hid hg
    clear hg
    by_cases hle : n ≤ m
    · go_enter Tryz.func214, Tryz.ntmps214
      go_wp2_with fail
      generalize (w.alloc (.cells (cellsP n a) 53)).alloc (.cells (cellsP m b) 53) = W at *
      refine (Good_any _ _ _).mono ?_
      rintro e w1 ⟨rfl, hb1⟩
      rw [HG.out]
      have q0 := rowAt_past hb1 r0
      have q1 := rowAt_past hb1 r1
      have c0 := (cell_of_rowAt q0 0).trans (get_cellsP0 _ _)
      have c1 := (cell_of_rowAt q1 0).trans (get_cellsP0 _ _)
      have b1 := below_past b0 hb1 b0.size
      clear r0 r1 b0 hb1
      go_wp2_with fail
      refine (Has_any _ _ _ _).mono ?_
      rintro e w2 ⟨rfl, hb2⟩
      go_wp2_with fail
      go_ret
      exact ⟨by rw [over, HG.out, decide_eq_true hle]; rfl, below_past b1 hb2 b1.size⟩
    · have hle' : decide (n ≤ m) = false := by simpa using hle
      go_enter Tryz.func214, Tryz.ntmps214
      go_wp2_with fail
      generalize (w.alloc (.cells (cellsP n a) 53)).alloc (.cells (cellsP m b) 53) = W at *
      refine (Good_any _ _ _).mono ?_
      rintro e w1 ⟨rfl, hb1⟩
      rw [HG.out]
      have q0 := rowAt_past hb1 r0
      have q1 := rowAt_past hb1 r1
      have c0 := (cell_of_rowAt q0 0).trans (get_cellsP0 _ _)
      have c1 := (cell_of_rowAt q1 0).trans (get_cellsP0 _ _)
      have b1 := below_past b0 hb1 b0.size
      clear r0 r1 b0 hb1
      go_wp2_with fail
      go_ret
      exact ⟨by rw [over, HG.out, hle']; rfl, b1⟩
  · have hg' : good m b = false := by simpa using hg
    have HG := Lib.hid hg'
    clear hg hg'
    go_enter Tryz.func214, Tryz.ntmps214
    go_wp2_with fail
    refine (Good_any _ _ _).mono ?_
    rintro e w1 ⟨rfl, hb1⟩
    rw [HG.out]
    go_wp2_with fail
    go_ret
    exact ⟨by rw [over, HG.out]; rfl, below_past b0 hb1 b0.size⟩

theorem has_cut (n : Int) (a l : Lab) : has n a l = (good n a && decide (cut l n.toNat = a)) := by
  unfold has
  by_cases hg : good n a = true
  · obtain ⟨m, rfl, h1, h2⟩ := good_nat hg
    rw [hg, Bool.true_and, Bool.true_and, decide_eq_decide, Int.toNat_natCast, ← common_ge h1 h2]
    omega
  · have hg' : good n a = false := by simpa using hg
    rw [hg', Bool.false_and, Bool.false_and]
theorem over_cut' (n : Int) (a : Lab) (m : Int) (b : Lab) : over n a m b = (good n a && good m b && decide (n ≤ m) && decide (cut b n.toNat = a)) := by
  unfold over
  rw [has_cut]
  cases good n a <;> cases good m b <;> simp
end Go.Proofs.YtppgmphojklaeaaGreatDoor
namespace Go.Proofs.YtppgmphojklaeaaGreatDoor
open Go Go.RowKit

/-- The last k bytes of a number, the highest first. -/
def digs (m k : Nat) : List UInt8 := (List.range k).map fun j => UInt8.ofNat (m / 256 ^ (k - 1 - j))
theorem digs_len (m k : Nat) : (digs m k).length = k := by simp [digs]
theorem digs_cons (m k : Nat) : digs m (k + 1) = UInt8.ofNat (m / 256 ^ k) :: digs m k := by
  unfold digs
  rw [List.range_succ_eq_map, List.map_cons, List.map_map]
  congr 1
  apply List.map_congr_left
  intro j _
  show UInt8.ofNat (m / 256 ^ (k + 1 - 1 - (j + 1))) = _
  congr 3
  omega
/-- A number as one that isn't below 0. -/
def unat (n : Int) : Nat := (n % 18446744073709551616).toNat
def eightL (n : Int) : List UInt8 := digs (unat n) 8
theorem eightL_len (n : Int) : (eightL n).length = 8 := digs_len _ _
theorem unat_int (n : Int) : IntKind.u64.wrap n = (unat n : Int) := by
  show n % 2 ^ IntKind.u64.bits = _
  rw [show (2 : Int) ^ IntKind.u64.bits = 18446744073709551616 from rfl]
  unfold unat
  omega
theorem unat_lt (n : Int) : unat n < 18446744073709551616 := by unfold unat; omega
theorem unat_inj {n m : Int} (hn0 : -9223372036854775808 ≤ n) (hn1 : n ≤ 9223372036854775807) (hm0 : -9223372036854775808 ≤ m) (hm1 : m ≤ 9223372036854775807) (h : unat n = unat m) : n = m := by
  unfold unat at h
  omega
theorem digs_inj : ∀ {k m n : Nat}, m < 256 ^ k → n < 256 ^ k → digs m k = digs n k → m = n
  | 0, m, n, hm, hn, _ => by simp at hm hn; omega
  | k + 1, m, n, hm, hn, h => by
    rw [digs_cons, digs_cons] at h
    injection h with h1 h2
    have hm' : m / 256 ^ k < 256 := by rw [Nat.div_lt_iff_lt_mul (Nat.pow_pos (by decide))]; rw [Nat.pow_succ] at hm; omega
    have hn' : n / 256 ^ k < 256 := by rw [Nat.div_lt_iff_lt_mul (Nat.pow_pos (by decide))]; rw [Nat.pow_succ] at hn; omega
    have h3 : m / 256 ^ k = n / 256 ^ k := by
      have := congrArg UInt8.toNat h1
      rw [UInt8.toNat_ofNat', UInt8.toNat_ofNat'] at this
      generalize m / 256 ^ k = p at *
      generalize n / 256 ^ k = q at *
      omega
    have low : ∀ x : Nat, digs x k = digs (x % 256 ^ k) k := by
      intro x
      unfold digs
      apply List.map_congr_left
      intro j hj
      have hj : j < k := by simpa using hj
      have e : 256 ^ k = 256 ^ (k - 1 - j) * (256 * 256 ^ j) := by
        rw [← Nat.pow_succ', ← Nat.pow_add]
        congr 1
        omega
      have e2 : x % 256 ^ k / 256 ^ (k - 1 - j) = x / 256 ^ (k - 1 - j) % (256 * 256 ^ j) := by
        rw [e, Nat.mod_mul_right_div_self]
      rw [e2]
      apply UInt8.toNat_inj.1
      rw [UInt8.toNat_ofNat', UInt8.toNat_ofNat', Nat.mod_mul_right_mod]
    rw [low m, low n] at h2
    have h4 := digs_inj (Nat.mod_lt m (Nat.pow_pos (by decide))) (Nat.mod_lt n (Nat.pow_pos (by decide))) h2
    rw [← Nat.div_add_mod m (256 ^ k), ← Nat.div_add_mod n (256 ^ k), h3, h4]
theorem eightL_inj {n m : Int} (hn : (Lit.int .i64 n).wf = true) (hm : (Lit.int .i64 m).wf = true) (h : eightL n = eightL m) : n = m := by
  have h1 := wf_i64 hn
  have h2 := wf_i64 hm
  exact unat_inj h1.1 h1.2 h2.1 h2.2 (digs_inj (by have := unat_lt n; omega) (by have := unat_lt m; omega) h)

/-- The row of a number's bytes, as many laid as i. -/
def octCell (m i j : Nat) : Nat := if j < i then m / 256 ^ (7 - j) % 256 else 0
def octRow (m i : Nat) : Array Value := ((List.range 8).map fun j => Value.int .u8 (octCell m i j)).toArray
theorem octRow_zero (m : Nat) : octRow m 0 = #[.int .u8 0, .int .u8 0, .int .u8 0, .int .u8 0, .int .u8 0, .int .u8 0, .int .u8 0, .int .u8 0] := by
  simp [octRow, octCell, List.range_succ]
theorem octRow_put (m i : Nat) (hi : i < 8) : (octRow m i).setIfInBounds i (.int .u8 ((m / 256 ^ (7 - i) % 256 : Nat) : Int)) = octRow m (i + 1) := by
  apply Array.ext_getElem?
  intro j
  rw [Array.getElem?_setIfInBounds]
  unfold octRow
  by_cases e : i = j
  · subst e
    simp [hi, octCell]
  · rw [if_neg e]
    by_cases h1 : j < 8
    · have h3 : (j < i + 1) ↔ (j < i) := by omega
      simp [h1, octCell, h3]
    · simp [h1]
theorem octRow_get (m i j : Nat) (h : j < 8) : (octRow m i)[j]? = some (.int .u8 (octCell m i j)) := by simp [octRow, h]

set_option maxRecDepth 100000 in
theorem noctets_any (n : Int) (w : World) : Calls Tryz.prog 189 #[.int .i64 n] w fun e w' => e = .returned (.string (stx (eightL n))) ∧ Below w.heap.size w w' := by
  obtain ⟨m, hm⟩ : ∃ m, unat n = m := ⟨_, rfl⟩
  have hw := unat_int n
  rw [eightL, hm]
  rw [hm] at hw
  have hm1 := unat_lt n
  rw [hm] at hm1
  obtain ⟨x, hx⟩ : ∃ x : Int, (m : Int) = x := ⟨_, rfl⟩
  have HX := Lib.hid hx
  have hx0 : 0 ≤ x := by omega
  have hx1 : x < 18446744073709551616 := by omega
  rw [hx] at hw
  have HZ := Lib.hid (octRow_zero m)
  clear hm hm1 hx
  go_enter Tryz.func189, Tryz.ntmps189
  go_wp2_with fail
  rw [← HZ.out]
  have r0 : rowAt (w.alloc (.cells (octRow m 0) 279)) w.heap.size = some (octRow m 0) := rowAt_alloc_at _ _ _ _ rfl
  have b0 : Below w.heap.size w (w.alloc (.cells (octRow m 0) 279)) := (Below.refl _ _).alloc (Nat.le_refl _) _
  generalize hg : w.heap.size = g at *
  generalize w.alloc (.cells (octRow m 0) 279) = W at *
  go_loopw [4, 5] (fun _ t wr => ∃ i : Nat, i ≤ 8 ∧ t = .int .i64 i ∧ rowAt wr g = some (octRow m i) ∧ Below g w wr) (fun _ t _ => (8 - intOf t).toNat)
  case atStart => exact ⟨0, by omega, rfl, r0, b0⟩
  case round =>
    obtain ⟨i, hi, rfl, k0, b5⟩ := hrel
    clear r0 b0
    by_cases hlt : i < 8
    · have hlt' : (i : Int) < 8 := by omega
      obtain ⟨d, hd⟩ : ∃ d, 56 - 8 * i = d := ⟨_, rfl⟩
      have hsub : (56 : Int) - 8 * (i : Int) = (d : Int) := by omega
      have hd9 : (d : Int) ≤ 56 := by omega
      have c1 := (cell_of_rowAt k0 i).trans (octRow_get m i i hlt)
      have f1 := frozen_of_rowAt k0 i
      go_wp2_with fail
      have hval : x / 2 ^ d % 256 = ((m / 256 ^ (7 - i) % 256 : Nat) : Int) := by
        rw [← HX.out, div_pow_cast, show d = 8 * (7 - i) by omega, Nat.pow_mul]
        rfl
      rw [hval]
      refine ⟨⟨i + 1, hlt, by go_num, ?_, Below.setCell b5 (Nat.le_refl g) _⟩, by simp [intOf]; omega⟩
      rw [← octRow_put m i hlt]
      exact rowAt_setCell_same k0 i _
    · obtain rfl : i = 8 := by omega
      have hconv : (convert 164 9 (.slice (some ⟨g, 0, none⟩) 8 8)).run Tryz.prog wr = .ok (.string (stx (digs m 8))) wr := by
        have q := run_convert_bytes_back (P := Tryz.prog) wr 164 9 5 ⟨g, 0, none⟩ 8 (digs m 8) Tryz.underlying164 Tryz.underlying5 Tryz.underlying9 ?_
        · rw [digs_len] at q
          exact q
        intro j hj
        rw [digs_len] at hj
        rw [show (⟨g, 0, none⟩ : Addr).add j = ⟨g, j, none⟩ by simp [Addr.add]; exact fun e => e.symm, cell_of_rowAt k0, octRow_get m 8 j hj, octCell, if_pos hj]
        simp [digs]
      go_wp2_with fail
      go_ret
      exact ⟨rfl, by rw [hg]; exact b5⟩
end Go.Proofs.YtppgmphojklaeaaGreatDoor
namespace Go.Proofs.YtppgmphojklaeaaGreatDoor
open Go Go.RowKit

theorem row_ret_item {fn : Func} {p : Tmp} (h : fn.results = #[.cell p 55]) {R : Ending → World → Prop} {a : Act} {w : World} {b : Nat} {l : Itm} (hp : a.tmps.getD p undef = .pointer (some ⟨b, 0, none⟩)) (hd : a.defers = [])
    (hr : rowAt w b = some (cellsI l)) (hR : R (.returned (.agg (cellsI l))) w) : bodyPost Tryz.prog fn R .ret a w :=
  bodyPost_ret (results_row h a.tmps w b _ _ hp hr Tryz.underlying55 rfl (by rw [size_cellsI]; kernel_rfl)) hd hR
theorem row_ret_ritem {fn : Func} {p : Tmp} (h : fn.results = #[.cell p 66]) {R : Ending → World → Prop} {a : Act} {w : World} {b : Nat} {l : Itm} (hp : a.tmps.getD p undef = .pointer (some ⟨b, 0, none⟩)) (hd : a.defers = [])
    (hr : rowAt w b = some (cellsI l)) (hR : R (.returned (.agg (cellsI l))) w) : bodyPost Tryz.prog fn R .ret a w :=
  bodyPost_ret (results_row h a.tmps w b _ _ hp hr Tryz.underlying66 rfl (by rw [size_cellsI]; kernel_rfl)) hd hR
theorem row_ret_leaf {fn : Func} {p : Tmp} (h : fn.results = #[.cell p 46]) {R : Ending → World → Prop} {a : Act} {w : World} {b : Nat} {l : Lf} (hp : a.tmps.getD p undef = .pointer (some ⟨b, 0, none⟩)) (hd : a.defers = [])
    (hr : rowAt w b = some (cellsF l)) (hR : R (.returned (.agg (cellsF l))) w) : bodyPost Tryz.prog fn R .ret a w :=
  bodyPost_ret (results_row h a.tmps w b _ _ hp hr Tryz.underlying46 rfl (by rw [size_cellsF]; kernel_rfl)) hd hR
theorem row_ret_rleaf {fn : Func} {p : Tmp} (h : fn.results = #[.cell p 64]) {R : Ending → World → Prop} {a : Act} {w : World} {b : Nat} {l : Lf} (hp : a.tmps.getD p undef = .pointer (some ⟨b, 0, none⟩)) (hd : a.defers = [])
    (hr : rowAt w b = some (cellsF l)) (hR : R (.returned (.agg (cellsF l))) w) : bodyPost Tryz.prog fn R .ret a w :=
  bodyPost_ret (results_row h a.tmps w b _ _ hp hr Tryz.underlying64 rfl (by rw [size_cellsF]; kernel_rfl)) hd hR

set_option maxRecDepth 100000 in
theorem r15Eight_any (n : Int) (w : World) : Calls Tryz.prog 152 #[.int .i64 n] w fun e w' => e = .returned (.string (stx (eightL n))) ∧ Below w.heap.size w w' := by
  obtain ⟨m, hm⟩ : ∃ m, unat n = m := ⟨_, rfl⟩
  have hw := unat_int n
  rw [eightL, hm]
  rw [hm] at hw
  have hm1 := unat_lt n
  rw [hm] at hm1
  obtain ⟨x, hx⟩ : ∃ x : Int, (m : Int) = x := ⟨_, rfl⟩
  have hx1 : x < 18446744073709551616 := by omega
  have hx0 : 0 ≤ x := by omega
  have HX0 : Hid (((m / 256 ^ 0 : Nat) : Int) = x) := Lib.hid (by rw [Nat.pow_zero, Nat.div_one]; exact hx)
  rw [hx] at hw
  clear hm hm1 hx
  go_enter Tryz.func152, Tryz.ntmps152
  go_wp2_with fail
  go_loopw [3, 4, 5] (fun s x t wr => ∃ (i : Nat) (y : Int), i ≤ 8 ∧ 0 ≤ y ∧ y < 18446744073709551616 ∧ t = .int .i64 i ∧ x = .int .u64 y ∧ Hid (((m / 256 ^ i : Nat) : Int) = y) ∧ Hid (s = .string (stx (digs m i))) ∧ Below w.heap.size w wr) (fun _ _ t _ => (8 - intOf t).toNat)
  case atStart => exact ⟨0, x, by omega, hx0, hx1, rfl, rfl, HX0, Lib.hid rfl, Below.refl _ _⟩
  case round =>
    obtain ⟨i, y, hi, hy0, hy1, rfl, rfl, HY, HX, b0⟩ := hrel
    have hx := HX.out
    subst hx
    clear HX0 hx0 hx1 hw
    by_cases hlt : i < 8
    · have hlt' : (i : Int) < 8 := by omega
      have hc := r2conv_one wr (y.toNat % 256) (Nat.mod_lt _ (by decide))
      rw [show ((y.toNat % 256 : Nat) : Int) = y % 256 by omega] at hc
      have b1 : Below w.heap.size w (wr.alloc (.cells #[.int .u8 (y % 256)] 5)) := b0.alloc b0.size _
      have z1 : (stx (digs m i)).size = i := by rw [stx_size, digs_len]
      have z2 : (txt [UInt8.ofNat (y.toNat % 256)]).size = 1 := rfl
      have HS : Hid (txt [UInt8.ofNat (y.toNat % 256)] ++ stx (digs m i) = stx (digs m (i + 1))) := Lib.hid (by
        rw [show txt [UInt8.ofNat (y.toNat % 256)] = stx [UInt8.ofNat (y.toNat % 256)] from rfl, stx_append, digs_cons, List.singleton_append]
        have e : m / 256 ^ i = y.toNat := by have := HY.out; omega
        rw [e]
        congr 2
        apply UInt8.toNat_inj.1
        simp)
      have HY2 : Hid (((m / 256 ^ (i + 1) : Nat) : Int) = y / 256) := Lib.hid (by
        rw [Nat.pow_succ, ← Nat.div_div_eq_div_mul, ← HY.out]
        rfl)
      have hyq : y / 256 < 18446744073709551616 := by omega
      have hyq0 : 0 ≤ y / 256 := by omega
      have hym : y % 256 % 256 = y % 256 := by omega
      generalize txt [UInt8.ofNat (y.toNat % 256)] = D at *
      generalize stx (digs m i) = D2 at *
      clear HY HX b0
      go_wp2_with fail
      rw [HS.out]
      exact ⟨⟨i + 1, y / 256, hlt, hyq0, hyq, by go_num, rfl, HY2, Lib.hid rfl, b1⟩, by simp [intOf]; omega⟩
    · obtain rfl : i = 8 := by omega
      go_wp2_with fail
      go_ret
      exact ⟨rfl, b0⟩

/-- What is summed. -/
def leafT (x : Lf) : List (List UInt8) := [x.a.l, x.v.l, eightL x.e]
def itemT (x : Itm) : List UInt8 := eightL x.n ++ x.b.l ++ x.s.l ++ eightL x.e
def innerT (x y : Itm) : List (List UInt8) := [itemT x, itemT y]
def leafB (x : Lf) : List UInt8 := joinL 16 (leafT x)
def innerB (x y : Itm) : List UInt8 := joinL 17 (innerT x y)
theorem itemT_len (x : Itm) : (itemT x).length = 80 := by
  simp [itemT, eightL_len, x.b.h, x.s.h]
theorem leafT_short (x : Lf) : ∀ t ∈ leafT x, t.length ≤ 100 := by
  intro t ht
  simp only [leafT, List.mem_cons, List.not_mem_nil, or_false] at ht
  rcases ht with rfl | rfl | rfl
  · rw [x.a.h]; decide
  · rw [x.v.h]; decide
  · rw [eightL_len]; decide
theorem innerT_short (x y : Itm) : ∀ t ∈ innerT x y, t.length ≤ 100 := by
  intro t ht
  simp only [innerT, List.mem_cons, List.not_mem_nil, or_false] at ht
  rcases ht with rfl | rfl <;> rw [itemT_len] <;> decide
end Go.Proofs.YtppgmphojklaeaaGreatDoor
namespace Go.Proofs.YtppgmphojklaeaaGreatDoor
open Go Go.RowKit

theorem conv_at (a : Lab) (w : World) (b o cap : Nat) (c : Array Value) (h : rowAt w b = some c) (hx : c.extract o (o + 32) = cellsL a) : (convert 164 9 (.slice (some ⟨b, o, none⟩) 32 cap)).run Tryz.prog w = .ok (.string (stx a.l)) w := by
  have hl := a.h
  have q := run_convert_bytes_back (P := Tryz.prog) w 164 9 5 ⟨b, o, none⟩ cap a.l Tryz.underlying164 Tryz.underlying5 Tryz.underlying9 ?_
  · rw [hl] at q
    exact q
  intro j hj
  rw [show (⟨b, o, none⟩ : Addr).add j = ⟨b, o + j, none⟩ by simp [Addr.add], cell_of_rowAt h]
  have e := congrArg (fun x : Array Value => x[j]?) hx
  simp only [Array.getElem?_extract] at e
  have hz : (cellsL a)[j]? = some (.int .u8 (a.l[j].toNat : Int)) := by
    simp only [cellsL, List.getElem?_toArray]
    rw [List.getElem?_map, List.getElem?_eq_getElem hj]
    rfl
  rw [hz] at e
  split at e
  · exact e
  · cases e
theorem strs_at2 (w : World) (t u : List UInt8) (n : Nat) (hn : n = w.heap.size) : StrsAt (w.alloc (.cells #[.string (stx t), .string (stx u)] 9)) (.slice (some ⟨n, 0, none⟩) 2 2) [t, u] := by
  subst hn
  refine ⟨_, _, rfl, fun i hi => ⟨w.heap.size, rfl, ?_⟩⟩
  have hi : i < 2 := hi
  rcases (by omega : i = 0 ∨ i = 1) with rfl | rfl
  · exact cell_of_rowAt (rowAt_alloc_at w _ 9 _ rfl) 0
  · exact cell_of_rowAt (rowAt_alloc_at w _ 9 _ rfl) 1
theorem strs_at3 (w : World) (t u v : List UInt8) (n : Nat) (hn : n = w.heap.size) : StrsAt (w.alloc (.cells #[.string (stx t), .string (stx u), .string (stx v)] 9)) (.slice (some ⟨n, 0, none⟩) 3 3) [t, u, v] := by
  subst hn
  refine ⟨_, _, rfl, fun i hi => ⟨w.heap.size, rfl, ?_⟩⟩
  have hi : i < 3 := hi
  rcases (by omega : i = 0 ∨ i = 1 ∨ i = 2) with rfl | rfl | rfl
  · exact cell_of_rowAt (rowAt_alloc_at w _ 9 _ rfl) 0
  · exact cell_of_rowAt (rowAt_alloc_at w _ 9 _ rfl) 1
  · exact cell_of_rowAt (rowAt_alloc_at w _ 9 _ rfl) 2

set_option maxRecDepth 100000 in
set_option maxHeartbeats 400000 in
theorem nitemText_any (x : Itm) (w : World) : Calls Tryz.prog 203 #[.agg (cellsI x)] w fun e w' => e = .returned (.string (stx (itemT x))) ∧ Below w.heap.size w w' := by
  have b0 : Below w.heap.size w (w.alloc (.cells (cellsI x) 55)) := (Below.refl _ _).alloc (Nat.le_refl _) _
  have r0 : rowAt (w.alloc (.cells (cellsI x) 55)) w.heap.size = some (cellsI x) := rowAt_alloc_at _ _ _ _ rfl
  have HE := Lib.hid (noctets_any)
  have HC1 := fun y : Past (w.alloc (.cells (cellsI x) 55)) => conv_at x.b y.w w.heap.size 1 32 _ (rowAt_past y.h r0) (extract_I1 x)
  have HC2 := fun y : Past (w.alloc (.cells (cellsI x) 55)) => conv_at x.s y.w w.heap.size 33 32 _ (rowAt_past y.h r0) (extract_I2 x)
  have c0 := fun y : Past (w.alloc (.cells (cellsI x) 55)) => (cell_of_rowAt (rowAt_past y.h r0) 0).trans (get_I0 x)
  have c1 := fun y : Past (w.alloc (.cells (cellsI x) 55)) => (cell_of_rowAt (rowAt_past y.h r0) 65).trans (get_I65 x)
  have HS : Hid (stx (eightL x.n) ++ stx x.b.l ++ stx x.s.l ++ stx (eightL x.e) = stx (itemT x)) := Lib.hid (by rw [stx_append, stx_append, stx_append]; rfl)
  have z1 : (stx (eightL x.n)).size = 8 := by rw [stx_size, eightL_len]
  have z2 : (stx x.b.l).size = 32 := by rw [stx_size, x.b.h]
  have z3 : (stx x.s.l).size = 32 := by rw [stx_size, x.s.h]
  have z4 : (stx (eightL x.e)).size = 8 := by rw [stx_size, eightL_len]
  have H1 := Lib.hid (fun w => HE.out x.n w)
  have H2 := Lib.hid (fun w => HE.out x.e w)
  clear HE
  generalize stx (itemT x) = R at *
  generalize stx (eightL x.n) = A at *
  generalize stx (eightL x.e) = D at *
  generalize stx x.b.l = B at *
  generalize stx x.s.l = C at *
  have y1 : (A ++ B).size = 40 := by rw [ByteArray.size_append, z1, z2]
  have y2 : (A ++ B ++ C).size = 72 := by rw [ByteArray.size_append, y1, z3]
  obtain ⟨n, hn⟩ : ∃ n, x.n = n := ⟨_, rfl⟩
  obtain ⟨m, hm⟩ : ∃ m, x.e = m := ⟨_, rfl⟩
  rw [hn] at c0 H1
  rw [hm] at c1 H2
  clear hn hm
  go_enter Tryz.func203, Tryz.ntmps203
  go_wp2_with fail
  generalize w.alloc (.cells (cellsI x) 55) = W at *
  refine wp_region_past (by kernel_rfl) (by kernel_rfl) ?_
  iterate 3 go_big_quiet_step (fail)
  go_big_quiet_step (exact Past.call (H1.out _))
  iterate 11 go_big_quiet_step (fail)
  go_big_quiet_step (exact Past.call (H2.out _))
  iterate 2 go_big_quiet_step (fail)
  refine wpQuiet_nil ?_
  rintro _ ⟨⟨wn, hn⟩, rfl⟩
  go_wp2_with fail
  rw [HS.out]
  go_ret
  exact ⟨rfl, below_past b0 hn b0.size⟩
set_option maxRecDepth 100000 in
set_option maxHeartbeats 400000 in
theorem r15Text_any (x : Itm) (w : World) : Calls Tryz.prog 153 #[.agg (cellsI x)] w fun e w' => e = .returned (.string (stx (itemT x))) ∧ Below w.heap.size w w' := by
  have b0 : Below w.heap.size w (w.alloc (.cells (cellsI x) 66)) := (Below.refl _ _).alloc (Nat.le_refl _) _
  have r0 : rowAt (w.alloc (.cells (cellsI x) 66)) w.heap.size = some (cellsI x) := rowAt_alloc_at _ _ _ _ rfl
  have HE := Lib.hid (r15Eight_any)
  have HC1 := fun y : Past (w.alloc (.cells (cellsI x) 66)) => conv_at x.b y.w w.heap.size 1 32 _ (rowAt_past y.h r0) (extract_I1 x)
  have HC2 := fun y : Past (w.alloc (.cells (cellsI x) 66)) => conv_at x.s y.w w.heap.size 33 32 _ (rowAt_past y.h r0) (extract_I2 x)
  have c0 := fun y : Past (w.alloc (.cells (cellsI x) 66)) => (cell_of_rowAt (rowAt_past y.h r0) 0).trans (get_I0 x)
  have c1 := fun y : Past (w.alloc (.cells (cellsI x) 66)) => (cell_of_rowAt (rowAt_past y.h r0) 65).trans (get_I65 x)
  have HS : Hid (stx (eightL x.n) ++ stx x.b.l ++ stx x.s.l ++ stx (eightL x.e) = stx (itemT x)) := Lib.hid (by rw [stx_append, stx_append, stx_append]; rfl)
  have z1 : (stx (eightL x.n)).size = 8 := by rw [stx_size, eightL_len]
  have z2 : (stx x.b.l).size = 32 := by rw [stx_size, x.b.h]
  have z3 : (stx x.s.l).size = 32 := by rw [stx_size, x.s.h]
  have z4 : (stx (eightL x.e)).size = 8 := by rw [stx_size, eightL_len]
  have H1 := Lib.hid (fun w => HE.out x.n w)
  have H2 := Lib.hid (fun w => HE.out x.e w)
  clear HE
  generalize stx (itemT x) = R at *
  generalize stx (eightL x.n) = A at *
  generalize stx (eightL x.e) = D at *
  generalize stx x.b.l = B at *
  generalize stx x.s.l = C at *
  have y1 : (A ++ B).size = 40 := by rw [ByteArray.size_append, z1, z2]
  have y2 : (A ++ B ++ C).size = 72 := by rw [ByteArray.size_append, y1, z3]
  obtain ⟨n, hn⟩ : ∃ n, x.n = n := ⟨_, rfl⟩
  obtain ⟨m, hm⟩ : ∃ m, x.e = m := ⟨_, rfl⟩
  rw [hn] at c0 H1
  rw [hm] at c1 H2
  clear hn hm
  go_enter Tryz.func153, Tryz.ntmps153
  go_wp2_with fail
  generalize w.alloc (.cells (cellsI x) 66) = W at *
  refine wp_region_past (by kernel_rfl) (by kernel_rfl) ?_
  iterate 2 go_big_quiet_step (fail)
  go_big_quiet_step (exact Past.call (H1.out _))
  iterate 10 go_big_quiet_step (fail)
  go_big_quiet_step (exact Past.call (H2.out _))
  iterate 2 go_big_quiet_step (fail)
  refine wpQuiet_nil ?_
  rintro _ ⟨⟨wn, hn⟩, rfl⟩
  go_wp2_with fail
  rw [HS.out]
  go_ret
  exact ⟨rfl, below_past b0 hn b0.size⟩

set_option maxRecDepth 100000 in
set_option maxHeartbeats 1000000 in
theorem nleafTexts_any (x : Lf) (w : World) : Calls Tryz.prog 142 #[.agg (cellsF x)] w fun e w' => ∃ g, e = .returned (.slice (some ⟨g, 0, none⟩) 3 3) ∧ StrsAt w' (.slice (some ⟨g, 0, none⟩) 3 3) (leafT x) ∧ Below w.heap.size w w' := by
  have b0 : Below w.heap.size w (w.alloc (.cells (cellsF x) 46)) := (Below.refl _ _).alloc (Nat.le_refl _) _
  have r0 : rowAt (w.alloc (.cells (cellsF x) 46)) w.heap.size = some (cellsF x) := rowAt_alloc_at _ _ _ _ rfl
  have HC1 := fun y : Past (w.alloc (.cells (cellsF x) 46)) => conv_at x.a y.w w.heap.size 0 32 _ (rowAt_past y.h r0) (extract_F0 x)
  have HC2 := fun y : Past (w.alloc (.cells (cellsF x) 46)) => conv_at x.v y.w w.heap.size 32 32 _ (rowAt_past y.h r0) (extract_F1 x)
  have c1 := fun y : Past (w.alloc (.cells (cellsF x) 46)) => (cell_of_rowAt (rowAt_past y.h r0) 64).trans (get_F64 x)
  have H1 := Lib.hid (fun w => noctets_any x.e w)
  obtain ⟨m, hm⟩ : ∃ m, x.e = m := ⟨_, rfl⟩
  unfold leafT
  rw [hm] at c1 H1 ⊢
  generalize eightL m = D at *
  generalize x.a.l = A at *
  generalize x.v.l = V at *
  clear hm
  go_enter Tryz.func142, Tryz.ntmps142
  go_wp2_with fail
  generalize w.alloc (.cells (cellsF x) 46) = W at *
  refine wp_region_wildL [] 9 (by kernel_rfl) (by kernel_rfl) ?_
  simp only [List.take_succ_cons, List.take_zero]
  iterate 8 (refine wildL_val (by decide) (by kernel_rfl) rfl ?_; intro K hK; go_big_quiet_op; go_big_quiet_on)
  refine wildL_call (by decide) (by kernel_rfl) (by kernel_rfl) ?_
  apply Exists.intro
  refine And.intro ?_ ?_
  focus
    intro x K hK
    go_big_quiet_op
    go_big_quiet_call (exact call_back (H1.out _))
    rfl
  refine wildL_nil ?_
  simp only [List.drop_succ_cons, List.drop_zero]
  rintro ⟨z, hz⟩
  change wpList _ _ _ _ _ z
  have b1 := below_past b0 hz b0.size
  go_wp2_with fail
  go_ret
  exact ⟨_, rfl, strs_at3 z A V D _ rfl, b1.alloc b1.size _⟩

set_option maxRecDepth 100000 in
set_option maxHeartbeats 1000000 in
theorem ninnerTexts_any (x y : Itm) (w : World) : Calls Tryz.prog 150 #[.agg (cellsN x y)] w fun e w' => ∃ g, e = .returned (.slice (some ⟨g, 0, none⟩) 2 2) ∧ StrsAt w' (.slice (some ⟨g, 0, none⟩) 2 2) (innerT x y) ∧ Below w.heap.size w w' := by
  have b0 : Below w.heap.size w (w.alloc (.cells (cellsN x y) 57)) := (Below.refl _ _).alloc (Nat.le_refl _) _
  have r0 : rowAt (w.alloc (.cells (cellsN x y) 57)) w.heap.size = some (cellsN x y) := rowAt_alloc_at _ _ _ _ rfl
  have fa := fun z : Past (w.alloc (.cells (cellsN x y) 57)) => rowAt_past z.h r0
  have H1 := Lib.hid (fun w => nitemText_any x w)
  have H2 := Lib.hid (fun w => nitemText_any y w)
  unfold innerT
  generalize itemT x = A at *
  generalize itemT y = B at *
  go_enter Tryz.func150, Tryz.ntmps150
  go_wp2_with fail
  generalize w.alloc (.cells (cellsN x y) 57) = W at *
  refine wp_region_wildL [] 6 (by kernel_rfl) (by kernel_rfl) ?_
  simp only [List.take_succ_cons, List.take_zero]
  iterate 2 (refine wildL_val (by decide) (by kernel_rfl) rfl ?_; intro K hK; go_big_quiet_op; go_big_quiet_on)
  refine wildL_call (by decide) (by kernel_rfl) (by kernel_rfl) ?_
  apply Exists.intro
  refine And.intro ?_ ?_
  focus
    intro x K hK
    go_big_quiet_op
    go_big_quiet_call (exact call_back (H1.out _))
    rfl
  iterate 2 (refine wildL_val (by decide) (by kernel_rfl) rfl ?_; intro K hK; go_big_quiet_op; go_big_quiet_on)
  refine wildL_call (by decide) (by kernel_rfl) (by kernel_rfl) ?_
  apply Exists.intro
  refine And.intro ?_ ?_
  focus
    intro x K hK
    go_big_quiet_op
    go_big_quiet_call (exact call_back (H2.out _))
    rfl
  refine wildL_nil ?_
  simp only [List.drop_succ_cons, List.drop_zero]
  rintro ⟨z, hz⟩
  change wpList _ _ _ _ _ z
  have b1 := below_past b0 hz b0.size
  go_wp2_with fail
  go_ret
  exact ⟨_, rfl, strs_at2 z A B _ rfl, b1.alloc b1.size _⟩
end Go.Proofs.YtppgmphojklaeaaGreatDoor
namespace Go.Proofs.YtppgmphojklaeaaGreatDoor
open Go Go.RowKit

set_option maxRecDepth 100000 in
set_option maxHeartbeats 1000000 in
theorem r15LeafBytes_any (x : Lf) (w : World) : Calls Tryz.prog 87 #[.agg (cellsF x)] w fun e w' => e = .returned (.string (stx (leafB x))) ∧ Below w.heap.size w w' := by
  have b0 : Below w.heap.size w (w.alloc (.cells (cellsF x) 64)) := (Below.refl _ _).alloc (Nat.le_refl _) _
  have r0 : rowAt (w.alloc (.cells (cellsF x) 64)) w.heap.size = some (cellsF x) := rowAt_alloc_at _ _ _ _ rfl
  have HC1 := fun y : Past (w.alloc (.cells (cellsF x) 64)) => conv_at x.a y.w w.heap.size 0 32 _ (rowAt_past y.h r0) (extract_F0 x)
  have HC2 := fun y : Past (w.alloc (.cells (cellsF x) 64)) => conv_at x.v y.w w.heap.size 32 32 _ (rowAt_past y.h r0) (extract_F1 x)
  have c1 := fun y : Past (w.alloc (.cells (cellsF x) 64)) => (cell_of_rowAt (rowAt_past y.h r0) 64).trans (get_F64 x)
  have H1 := Lib.hid (fun w => r15Eight_any x.e w)
  have HS := leafT_short x
  unfold leafB
  have HB := Lib.hid (fun v w (h : StrsAt w v (leafT x)) => r3Bytes_any 16 v (leafT x) w h (by simp [leafT]) HS)
  rw [show (((16 : UInt8).toNat : Nat) : Int) = 16 from rfl] at HB
  clear HS
  unfold leafT at *
  obtain ⟨m, hm⟩ : ∃ m, x.e = m := ⟨_, rfl⟩
  rw [hm] at c1 H1 HB ⊢
  generalize eightL m = D at *
  generalize x.a.l = A at *
  generalize x.v.l = V at *
  clear hm
  generalize stx (joinL 16 [A, V, D]) = R at *
  go_enter Tryz.func87, Tryz.ntmps87
  go_wp2_with fail
  generalize w.alloc (.cells (cellsF x) 64) = W at *
  refine wp_region_wildL [] 9 (by kernel_rfl) (by kernel_rfl) ?_
  simp only [List.take_succ_cons, List.take_zero]
  iterate 8 (refine wildL_val (by decide) (by kernel_rfl) rfl ?_; intro K hK; go_big_quiet_op; go_big_quiet_on)
  refine wildL_call (by decide) (by kernel_rfl) (by kernel_rfl) ?_
  apply Exists.intro
  refine And.intro ?_ ?_
  focus
    intro x K hK
    go_big_quiet_op
    go_big_quiet_call (exact call_back (H1.out _))
    rfl
  refine wildL_nil ?_
  simp only [List.drop_succ_cons, List.drop_zero]
  rintro ⟨z, hz⟩
  change wpList _ _ _ _ _ z
  have b1 := below_past b0 hz b0.size
  have hst := strs_at3 z A V D _ rfl
  have b2 := b1.alloc b1.size (.cells #[.string (stx A), .string (stx V), .string (stx D)] 9)
  have HB2 := Lib.hid (HB.out _ _ hst)
  clear hst b1 HB
  go_wp2_with fail
  refine HB2.out.mono ?_
  rintro e w3 ⟨rfl, b3⟩
  have b4 := below_past b2 b3 b2.size
  clear b2 b3 HB2
  go_wp2_with fail
  go_ret
  exact ⟨rfl, b4⟩

set_option maxRecDepth 100000 in
set_option maxHeartbeats 1000000 in
theorem r15InnerBytes_any (x y : Itm) (w : World) : Calls Tryz.prog 89 #[.agg (cellsI x), .agg (cellsI y)] w fun e w' => e = .returned (.string (stx (innerB x y))) ∧ Below w.heap.size w w' := by
  have b0 : Below w.heap.size w ((w.alloc (.cells (cellsI x) 66)).alloc (.cells (cellsI y) 66)) := ((Below.refl _ _).alloc (Nat.le_refl _) _).alloc (by simp only [World.size_alloc]; omega) _
  have r0 : rowAt ((w.alloc (.cells (cellsI x) 66)).alloc (.cells (cellsI y) 66)) w.heap.size = some (cellsI x) := (rowAt_alloc_past _ _ _ (by simp only [World.size_alloc]; omega)).trans (rowAt_alloc_at _ _ _ _ rfl)
  have r1 : rowAt ((w.alloc (.cells (cellsI x) 66)).alloc (.cells (cellsI y) 66)) (w.heap.size + 1) = some (cellsI y) := rowAt_alloc_at _ _ _ _ (by simp only [World.size_alloc])
  have fa := fun z : Past ((w.alloc (.cells (cellsI x) 66)).alloc (.cells (cellsI y) 66)) => rowAt_past z.h r0
  have fb := fun z : Past ((w.alloc (.cells (cellsI x) 66)).alloc (.cells (cellsI y) 66)) => rowAt_past z.h r1
  have H1 := Lib.hid (fun w => r15Text_any x w)
  have H2 := Lib.hid (fun w => r15Text_any y w)
  have HS := innerT_short x y
  unfold innerB
  have HB := Lib.hid (fun v w (h : StrsAt w v (innerT x y)) => r3Bytes_any 17 v (innerT x y) w h (by simp [innerT]) HS)
  rw [show (((17 : UInt8).toNat : Nat) : Int) = 17 from rfl] at HB
  clear HS
  unfold innerT at *
  generalize itemT x = A at *
  generalize itemT y = B at *
  generalize stx (joinL 17 [A, B]) = R at *
  go_enter Tryz.func89, Tryz.ntmps89
  go_wp2_with fail
  generalize (w.alloc (.cells (cellsI x) 66)).alloc (.cells (cellsI y) 66) = W at *
  refine wp_region_wildL [] 4 (by kernel_rfl) (by kernel_rfl) ?_
  simp only [List.take_succ_cons, List.take_zero]
  iterate 1 (refine wildL_val (by decide) (by kernel_rfl) rfl ?_; intro K hK; go_big_quiet_op; go_big_quiet_on)
  refine wildL_call (by decide) (by kernel_rfl) (by kernel_rfl) ?_
  apply Exists.intro
  refine And.intro ?_ ?_
  focus
    intro x K hK
    go_big_quiet_op
    go_big_quiet_call (exact call_back (H1.out _))
    rfl
  iterate 1 (refine wildL_val (by decide) (by kernel_rfl) rfl ?_; intro K hK; go_big_quiet_op; go_big_quiet_on)
  refine wildL_call (by decide) (by kernel_rfl) (by kernel_rfl) ?_
  apply Exists.intro
  refine And.intro ?_ ?_
  focus
    intro x K hK
    go_big_quiet_op
    go_big_quiet_call (exact call_back (H2.out _))
    rfl
  refine wildL_nil ?_
  simp only [List.drop_succ_cons, List.drop_zero]
  rintro ⟨z, hz⟩
  change wpList _ _ _ _ _ z
  have b1 := below_past b0 hz b0.size
  have hst := strs_at2 z A B _ rfl
  have b2 := b1.alloc b1.size (.cells #[.string (stx A), .string (stx B)] 9)
  have HB2 := Lib.hid (HB.out _ _ hst)
  clear hst b1 HB
  go_wp2_with fail
  refine HB2.out.mono ?_
  rintro e w3 ⟨rfl, b3⟩
  have b4 := below_past b2 b3 b2.size
  clear b2 b3 HB2
  go_wp2_with fail
  go_ret
  exact ⟨rfl, b4⟩
end Go.Proofs.YtppgmphojklaeaaGreatDoor
namespace Go.Proofs.YtppgmphojklaeaaGreatDoor
open Go Go.RowKit

section
variable {P : Program} {ops : Array Oper}

/-- A world in which all lies that operation j may rely on: what lay there at first, and what those made that it waits for. -/
def Good (W : World) (tok : List Nat) (τ : Nat → Value × World) (p : Nat → Bool) (w : World) : Prop :=
  Below W.heap.size W w ∧ ∀ i ∈ tok, p i = true → Below (τ i).2.heap.size (τ i).2 w
theorem Good.step {W : World} {tok : List Nat} {τ : Nat → Value × World} {p : Nat → Bool} {w w' : World} (h : Good W tok τ p w) (k : Below w.heap.size w w') : Good W tok τ p w' :=
  ⟨Below.step h.1 k, fun i hi hp => Below.step (h.2 i hi hp) k⟩
def depB (ops : Array Oper) (j i : Nat) : Bool := (waitsT ops i).contains j
/-- Whatever function it enters, it is none of those that run at the start. -/
def Late (P : Program) (o : Oper) (a : Act) (w : World) : Prop := ∀ f args w', (execOp a.eval o).run P w = .ok (.enter f args) w' → P.inits.idxOf? f = none
def YieldsT (P : Program) (ops : Array Oper) (G : World → Prop) (o : Oper) (v : Value) (a : Act) : Prop :=
  (Region.wanted o (yielded ops a.tmps) = true ∧ ∀ w, G w → o.quietAt P a (fun w' => ∃ y : Past w, w' = y.w) w v ∧ Late P o a w) ∨
  (Region.wanted o (yielded ops a.tmps) = false ∧ v = undef)
theorem YieldsT.put {G : World → Prop} {o : Oper} {v u : Value} {a : Act} {dst : Option Tmp} (hs : ∀ cs b, o.op ≠ .select cs b) (hd : ∀ d, dst = some d → d ∉ o.looksAt ops) :
    YieldsT P ops G o v (a.put dst u) ↔ YieldsT P ops G o v a := by
  unfold YieldsT Oper.quietAt Late
  rw [execOp_put o hs a dst u hd, wanted_put o a dst u hd]
/-- Two contracts on one call speak of one end. -/
theorem calls_agree {f : FuncId} {args : Array Value} {w : World} {v u : Value} {R R' : World → Prop}
    (h : Calls P f args w fun e w' => e = .returned v ∧ R w') (h' : Calls P f args w fun e w' => e = .returned u ∧ R' w') (hi : P.inits.idxOf? f = none) : v = u := by
  obtain ⟨n, v1, w1, e1, r1⟩ := Calls.done (R := fun x _ => x = v) (h.mono fun e w' ⟨he, _⟩ => by subst he; rfl) hi
  obtain ⟨m, v2, w2, e2, r2⟩ := Calls.done (R := fun x _ => x = u) (h'.mono fun e w' ⟨he, _⟩ => by subst he; rfl) hi
  have a := runN_ended e1 m
  have b := runN_ended e2 n
  rw [Nat.add_comm, a] at b
  injection b with ho hw
  injection ho with hv
  exact r1.symm.trans (hv.trans r2)
/-- At one world two values are one. -/
theorem quiet_two {o : Oper} {a : Act} {w : World} {v u : Value} (h1 : o.quietAt P a (fun w' => ∃ y : Past w, w' = y.w) w v) (h2 : o.quietAt P a (fun w' => ∃ y : Past w, w' = y.w) w u) (hl : Late P o a w) : v = u := by
  unfold Late at hl
  unfold Oper.quietAt at h1 h2
  generalize (execOp a.eval o).run P w = r at *
  cases r with
  | ok n w' =>
    cases n <;> simp only [Oper.quietUpon] at h1 h2
    case value x => exact h1.2.symm.trans h2.2
    case skip => exact h1.2.trans h2.2.symm
    case enter f args => exact calls_agree h1.2 h2.2 (hl f args w' rfl)
  | halt x w' => simp only [Oper.quietUpon] at h1
/-- A call of a function by its name. -/
def calleeOf : Op → Option FuncId
  | .call c => match c.callee with
    | .value (.func k) => some k
    | _ => none
  | _ => none
theorem late_static {o : Oper} {k : FuncId} (ho : calleeOf o.op = some k) (hi : P.inits.idxOf? k = none) (hf : (P.funcs[k]?).map (fun fn => fn.name == "runtime.NumGoroutine" || fn.body.isNone) = some false) (a : Act) (w : World) : Late P o a w := by
  intro f args w' he
  unfold calleeOf at ho
  split at ho
  · rename_i c hc
    split at ho
    · rename_i k' hk
      obtain rfl := Option.some.inj ho
      unfold execOp at he
      rw [hc] at he
      obtain ⟨fn, hfn, hff⟩ := Option.map_eq_some_iff.1 hf
      rw [Bool.or_eq_false_iff] at hff
      simp only [hk, resolve, invoke, Sem.run_bind, Act.eval, Deferred.ofValue, Sem.run_pure, Result.andThen_ok, callFunc, show (program : Sem Program).run P w = .ok P w from rfl, hfn, hff.1, hff.2, Bool.false_eq_true, if_false] at he
      injection he with he _
      injection he with he _
      rw [← he]
      exact hi
    · cases ho
  · cases ho
theorem late_none {o : Oper} (h : noCall o.op = true) (a : Act) (w : World) : Late P o a w := fun _ _ _ he => (no_enter h _ _ _ _ _ he).elim

/-- The walk in the order of the text. -/
def wpTok (P : Program) (ops : Array Oper) (W : World) (tok : List Nat) (R : Nat → Value → World → Prop) (Qh : Act → World → Prop) (τ : Nat → Value × World) : List Nat → Act → Prop
  | [], a => ∀ w, Good W tok τ (fun _ => true) w → Qh a w
  | j :: is, a => ∃ o, ops[j]? = some o ∧
      ((j ∉ tok ∧ ∃ v, YieldsT P ops (Good W tok τ (depB ops j)) o v a ∧ wpTok P ops W tok R Qh τ is (a.put o.dst v)) ∨
       (j ∈ tok ∧ Region.wanted o (yielded ops a.tmps) = true ∧ (∀ w, Good W tok τ (depB ops j) w → wildAt P o a w (R j)) ∧ wpTok P ops W tok R Qh τ is (a.put o.dst (τ j).1)))

theorem wpTok_take {W : World} {tok : List Nat} {R : Nat → Value → World → Prop} {Qh : Act → World → Prop} {τ : Nat → Value × World} (hsel : ∀ (j : Nat) (o : Oper) cs b, ops[j]? = some o → o.op ≠ .select cs b) {j : Nat} {oj : Oper} (hj : ops[j]? = some oj) :
    ∀ (is : List Nat) (a : Act), is.Pairwise (· < ·) → j ∈ is → (∀ k ∈ is, k < j → apartAt ops k j) → wpTok P ops W tok R Qh τ is a →
      (j ∉ tok ∧ ∃ v, YieldsT P ops (Good W tok τ (depB ops j)) oj v a ∧ wpTok P ops W tok R Qh τ (is.erase j) (a.put oj.dst v)) ∨
      (j ∈ tok ∧ Region.wanted oj (yielded ops a.tmps) = true ∧ (∀ w, Good W tok τ (depB ops j) w → wildAt P oj a w (R j)) ∧ wpTok P ops W tok R Qh τ (is.erase j) (a.put oj.dst (τ j).1))
  | i :: is, a, hp, hm, hap, ⟨o, h1, h2⟩ => by
    by_cases hij : i = j
    · subst hij
      obtain rfl : o = oj := Option.some.inj (h1.symm.trans hj)
      simpa using h2
    · have hm' : j ∈ is := by
        rcases List.mem_cons.1 hm with e | e
        · exact absurd e.symm hij
        · exact e
      have hlt : i < j := (List.pairwise_cons.1 hp).1 j hm'
      obtain ⟨s1, s2, s3⟩ := Oper.apart_spec (hap i (by simp) hlt o oj h1 hj)
      rw [List.erase_cons_tail (by simpa using hij)]
      have hcont : ∀ u : Value, (∀ vi, wpTok P ops W tok R Qh τ (is.erase j) ((a.put o.dst vi).put oj.dst u) → wpTok P ops W tok R Qh τ (is.erase j) ((a.put oj.dst u).put o.dst vi)) := fun u vi h => by
        rw [← Act.put_comm a vi u s2]
        exact h
      have hback : ∀ vi, wpTok P ops W tok R Qh τ is (a.put o.dst vi) →
          ((∀ u, wpTok P ops W tok R Qh τ (is.erase j) ((a.put o.dst vi).put oj.dst u) → wpTok P ops W tok R Qh τ (i :: is.erase j) (a.put oj.dst u))) →
          (j ∉ tok ∧ ∃ v, YieldsT P ops (Good W tok τ (depB ops j)) oj v a ∧ wpTok P ops W tok R Qh τ (i :: is.erase j) (a.put oj.dst v)) ∨
          (j ∈ tok ∧ Region.wanted oj (yielded ops a.tmps) = true ∧ (∀ w, Good W tok τ (depB ops j) w → wildAt P oj a w (R j)) ∧ wpTok P ops W tok R Qh τ (i :: is.erase j) (a.put oj.dst (τ j).1)) := fun vi h hc => by
        rcases wpTok_take hsel hj is (a.put o.dst vi) (List.pairwise_cons.1 hp).2 hm' (fun k hk => hap k (List.mem_cons_of_mem _ hk)) h with ⟨hn, u, y1, y2⟩ | ⟨hn, y1, y2, y3⟩
        · exact .inl ⟨hn, u, (YieldsT.put (hsel j oj · · hj) s1).1 y1, hc u y2⟩
        · refine .inr ⟨hn, ?_, fun w hw => (wildAt_put (ops := ops) (hsel j oj · · hj) s1).1 (y2 w hw), hc _ y3⟩
          rwa [wanted_put oj a o.dst vi s1] at y1
      rcases h2 with ⟨hni, v, h2, h3⟩ | ⟨hni, h2, h3, h4⟩
      · exact hback v h3 fun u hu => ⟨o, h1, .inl ⟨hni, v, (YieldsT.put (hsel i o · · h1) s3).2 h2, hcont u v hu⟩⟩
      · exact hback _ h4 fun u hu => ⟨o, h1, .inr ⟨hni, by rw [wanted_put o a oj.dst u s3]; exact h2, fun w hw => (wildAt_put (ops := ops) (hsel i o · · h1) s3).2 (h3 w hw), hcont u _ hu⟩⟩
  | [], _, _, hm, _, _ => by cases hm

theorem wpAny_tok {n : Nat} {W : World} {tok : List Nat} {R : Nat → Value → World → Prop} {Q' : Exit → Act → World → Prop} {Qh : Act → World → Prop} (F : WildOk ops [] n) (htok : ∀ i ∈ tok, i < n) (hT : ∀ a w, Qh a w → wpList P ops Q' (ops.toList.drop n) a w) :
    ∀ (f : Nat) (listed : Array Bool) (a : Act) (w : World) (τ : Nat → Value × World), Closed ops listed → listed.size = ops.size → (left listed n).length = f → (∀ t, n ≤ t → t < ops.size → listed.getD t true = false) →
      Good W tok τ (fun i => listed.getD i false) w → (∀ i ∈ tok, Below W.heap.size W (τ i).2 ∧ R i (τ i).1 (τ i).2) →
      (∀ τ' : Nat → Value × World, (∀ i ∈ tok, Below W.heap.size W (τ' i).2 ∧ R i (τ' i).1 (τ' i).2) → (∀ i ∈ tok, listed.getD i false = true → τ' i = τ i) → wpTok P ops W tok R Qh τ' (left listed n) a) →
      wpAny P .any ops Q' (f + (ops.size - n)) listed a w
  | 0, listed, a, w, τ, hcl, hs, hf, ht, hg, hv, hh => by
    have hall : ∀ i, i < n → listed.getD i true = true := fun i hi => by
      cases h : listed.getD i true with
      | true => rfl
      | false =>
        have := mem_left.2 ⟨hi, h⟩
        rw [List.eq_nil_of_length_eq_zero hf] at this
        cases this
    have hle : listed = (Array.range ops.size).map fun i => decide (i < n) := listed_eq hs fun i hi => by
      by_cases him : i < n
      · simp [hall i him, him]
      · simp [ht i (by omega) hi, him]
    have hq := hh τ hv fun _ _ _ => rfl
    rw [List.eq_nil_of_length_eq_zero hf] at hq
    have hq2 := hq w ⟨hg.1, fun i hi _ => hg.2 i hi (by dsimp only; rw [getD_flip (by have := htok i hi; have := F.size; omega)]; exact hall i (htok i hi))⟩
    subst hle
    rw [Nat.zero_add]
    have hlen : (ops.toList.drop n).length = ops.size - n := by simp
    have := wpAny_of_seq (P := P) (ops := ops) (md := .any) (Q' := Q') (ops.toList.drop n) n ((Array.range ops.size).map fun i => decide (i < n)) a w (fun j => by simp) (by rw [hlen]; exact F.seq) (hT a w hq2)
    rw [hlen] at this
    exact this
  | f + 1, listed, a, w, τ, hcl, hs, hf, ht, hg, hv, hh => by
    have hne : ∃ i, i < n ∧ listed.getD i true = false := by
      cases hl : left listed n with
      | nil => rw [hl] at hf; cases hf
      | cons i r => exact ⟨i, mem_left.1 (by rw [hl]; simp)⟩
    have hready : ∃ i, i ∈ Region.ready .any ops listed := by
      have : ∀ k i, i < k → i < n → listed.getD i true = false → ∃ j, j ∈ Region.ready .any ops listed := by
        intro k
        induction k with
        | zero => intro i hi; omega
        | succ k ih =>
          intro i hik him hun
          have hsz : i < ops.size := Nat.lt_of_lt_of_le him F.size
          by_cases hd : ∀ e ∈ (ops[i]).after, Region.binds .any e = true → listed.getD e.on false = true
          · exact ⟨i, mem_ready.2 ⟨hun, ops[i], Array.getElem?_eq_getElem hsz, hd⟩⟩
          · obtain ⟨e, he⟩ := Classical.not_forall.1 hd
            obtain ⟨he1, he2⟩ := Classical.not_imp.1 he
            obtain ⟨he2, he3⟩ := Classical.not_imp.1 he2
            have hlt := F.deps i _ him (Array.getElem?_eq_getElem hsz) e he1 he2
            have hun2 : listed.getD e.on true = false := by
              rw [← getD_flip (by omega)]
              simpa using he3
            exact ih e.on (by omega) (by omega) hun2
      obtain ⟨i, him, hun⟩ := hne
      exact this (i + 1) i (by omega) him hun
    rw [show f + 1 + (ops.size - n) = (f + (ops.size - n)) + 1 by omega]
    refine ⟨(fun h0 => by obtain ⟨i, hi⟩ := hready; rw [h0] at hi; cases hi), fun i hi => ?_⟩
    obtain ⟨hun, oi, hoi, hall⟩ := mem_ready.1 hi
    have hisz : i < ops.size := (Array.getElem?_eq_some_iff.1 hoi).1
    have hsat : Sat ops listed i := fun k hk => waits_listed hi hk
    have him : i < n := by
      rcases Nat.lt_or_ge i n with h | h
      · exact h
      · obtain ⟨k, hkm, hk⟩ := hne
        have := (F.tail i k h hisz hkm).2 listed hcl hs hsat
        rw [getD_flip (by have := F.size; omega), hk] at this
        cases this
    have hap : ∀ k ∈ left listed n, k < i → apartAt ops k i := fun k hk hki => by
      obtain ⟨h1, h2⟩ := mem_left.1 hk
      rcases F.apart i k him hki with h | h
      · have := h.2 listed hcl hs hsat
        rw [getD_flip (by omega), h2] at this
        cases this
      · exact h.1
    have hun' : listed.getD i false = false := by rw [getD_flip (by omega)]; exact hun
    have hdep : ∀ k ∈ tok, depB ops i k = true → listed.getD k false = true := fun k _ hd => by
      have hd2 : i ∈ waitsT ops k := by
        unfold depB at hd
        exact List.contains_iff_mem.1 hd
      exact (waitsT_dep k i hd2).2 listed hcl hs hsat
    have hcount : (left (listed.setIfInBounds i true) n).length = f := by
      rw [left_set (by omega), List.length_erase_of_mem (mem_left.2 ⟨him, hun⟩), hf]
      rfl
    have htail : ∀ t, n ≤ t → t < ops.size → (listed.setIfInBounds i true).getD t true = false := fun t h1 h2 => by
      rw [getD_set_ne true (by omega)]
      exact ht t h1 h2
    have htake : ∀ τ' : Nat → Value × World, (∀ i ∈ tok, Below W.heap.size W (τ' i).2 ∧ R i (τ' i).1 (τ' i).2) → (∀ i ∈ tok, listed.getD i false = true → τ' i = τ i) → _ := fun τ' h1 h2 => wpTok_take F.sel hoi (left listed n) a (left_sorted _ _) (mem_left.2 ⟨him, hun⟩) hap (hh τ' h1 h2)
    have hgood : ∀ τ' : Nat → Value × World, (∀ i ∈ tok, listed.getD i false = true → τ' i = τ i) → Good W tok τ' (depB ops i) w := fun τ' h2 =>
      ⟨hg.1, fun k hk hd => by rw [h2 k hk (hdep k hk hd)]; exact hg.2 k hk (hdep k hk hd)⟩
    unfold wpOp
    simp only [hoi]
    rcases htake τ hv fun _ _ _ => rfl with ⟨hn, v, hy, _⟩ | ⟨hn, hw1, hy, _⟩
    · have hset : ∀ k ∈ tok, (listed.setIfInBounds i true).getD k false = true → listed.getD k false = true := fun k hk h => by
        have e : k ≠ i := fun e => hn (e ▸ hk)
        rwa [getD_set_ne false (Ne.symm e)] at h
      by_cases hall' : ∀ τ' : Nat → Value × World, (∀ i ∈ tok, Below W.heap.size W (τ' i).2 ∧ R i (τ' i).1 (τ' i).2) → (∀ i ∈ tok, listed.getD i false = true → τ' i = τ i) → wpTok P ops W tok R Qh τ' ((left listed n).erase i) (a.put oi.dst v)
      · have hstep : ∀ w', Below w.heap.size w w' → wpAny P .any ops Q' (f + (ops.size - n)) (listed.setIfInBounds i true) (a.put oi.dst v) w' := fun w' hw => by
          refine wpAny_tok F htok hT f _ _ w' τ (hcl.step hi) (by simpa using hs) hcount htail ?_ hv fun τ' h1 h2 => ?_
          · exact ⟨Below.step hg.1 hw, fun k hk h => Below.step (hg.2 k hk (hset k hk h)) hw⟩
          · rw [left_set (by omega)]
            refine hall' τ' h1 fun k hk h => h2 k hk ?_
            have e : k ≠ i := fun e => hn (e ▸ hk)
            rwa [getD_set_ne false (Ne.symm e)]
        rcases hy with ⟨hw1, hw2⟩ | ⟨hw1, rfl⟩
        · rw [if_pos hw1]
          exact .inl (wp_of_quietAt (hw2 w (hgood τ fun _ _ _ => rfl)).1 hstep)
        · rw [if_neg (by rw [hw1]; exact Bool.false_ne_true)]
          exact hstep w (Below.refl _ _)
      · exfalso
        obtain ⟨τ', hq⟩ := Classical.not_forall.1 hall'
        obtain ⟨h1, hq⟩ := Classical.not_imp.1 hq
        obtain ⟨h2, hq⟩ := Classical.not_imp.1 hq
        rcases htake τ' h1 h2 with ⟨_, v', hy', hrest'⟩ | ⟨hn', _⟩
        case inr => exact absurd hn' hn
        have hvv : v ≠ v' := fun e => hq (by rw [e]; exact hrest')
        rcases hy with ⟨hw1, hw2⟩ | ⟨hw1, rfl⟩
        · rcases hy' with ⟨_, hw2'⟩ | ⟨hw1', _⟩
          · exact hvv (quiet_two (hw2 w (hgood τ fun _ _ _ => rfl)).1 (hw2' w (hgood τ' h2)).1 (hw2 w (hgood τ fun _ _ _ => rfl)).2)
          · rw [hw1] at hw1'
            cases hw1'
        · rcases hy' with ⟨hw1', _⟩ | ⟨_, e⟩
          · rw [hw1] at hw1'
            cases hw1'
          · exact absurd e.symm hvv
    · rw [if_pos hw1]
      refine .inl (wp_of_wildAt (hy w (hgood τ fun _ _ _ => rfl)) fun v w' hb hr => ?_)
      refine wpAny_tok (W := W) (R := R) F htok hT f _ _ w' (fun k => if k = i then (v, w') else τ k) (hcl.step hi) (by simpa using hs) hcount htail ?_ ?_ fun τ' h1 h2 => ?_
      · refine ⟨Below.step hg.1 hb, fun k hk h => ?_⟩
        dsimp only
        by_cases e : k = i
        · rw [if_pos e]
          exact Below.refl _ _
        · rw [if_neg e]
          dsimp only at h
          rw [getD_set_ne false (Ne.symm e)] at h
          exact Below.step (hg.2 k hk h) hb
      · intro k hk
        by_cases e : k = i
        · subst e
          rw [if_pos rfl]
          exact ⟨Below.step hg.1 hb, hr⟩
        · rw [if_neg e]
          exact hv k hk
      · rw [left_set (by omega)]
        have e0 : τ' i = (v, w') := by
          have := h2 i hn (by simp [show i < listed.size by omega])
          simpa using this
        have h3 : ∀ k ∈ tok, listed.getD k false = true → τ' k = τ k := fun k hk h => by
          have e : k ≠ i := fun e => by rw [e, hun'] at h; cases h
          have := h2 k hk (by rw [getD_set_ne false (Ne.symm e)]; exact h)
          simpa [e] using this
        rcases htake τ' h1 h3 with ⟨hn', _⟩ | ⟨_, _, _, hrest⟩
        · exact absurd hn hn'
        · rw [e0] at hrest
          exact hrest

/-- The same walk, the operations that are left written out, from number i on. -/
def wpTokL (P : Program) (ops : Array Oper) (W : World) (tok : List Nat) (R : Nat → Value → World → Prop) (Qh : Act → World → Prop) (τ : Nat → Value × World) : Nat → List Oper → Act → Prop
  | _, [], a => ∀ w, Good W tok τ (fun _ => true) w → Qh a w
  | j, o :: rest, a =>
      (j ∉ tok ∧ ∃ v, YieldsT P ops (Good W tok τ (depB ops j)) o v a ∧ wpTokL P ops W tok R Qh τ (j + 1) rest (a.put o.dst v)) ∨
      (j ∈ tok ∧ Region.wanted o (yielded ops a.tmps) = true ∧ (∀ w, Good W tok τ (depB ops j) w → wildAt P o a w (R j)) ∧ wpTokL P ops W tok R Qh τ (j + 1) rest (a.put o.dst (τ j).1))
theorem wpTok_of_L {W : World} {tok : List Nat} {R : Nat → Value → World → Prop} {Qh : Act → World → Prop} {τ : Nat → Value × World} : ∀ (rest : List Oper) (i : Nat) (a : Act), (∀ j, j < rest.length → rest[j]? = ops[i + j]?) → wpTokL P ops W tok R Qh τ i rest a → wpTok P ops W tok R Qh τ (List.range' i rest.length) a
  | [], _, _, _, h => h
  | o :: rest, i, a, hr, h => by
    have h0 : ops[i]? = some o := by simpa using (hr 0 (by simp)).symm
    have hr' : ∀ j, j < rest.length → rest[j]? = ops[(i + 1) + j]? := fun j hj => by
      have := hr (j + 1) (by simpa using hj)
      simpa [Nat.add_assoc, Nat.add_comm 1 j] using this
    rw [List.length_cons, List.range'_succ]
    refine ⟨o, h0, ?_⟩
    rcases h with ⟨hn, v, h1, h2⟩ | ⟨hn, h1, h2, h3⟩
    · exact .inl ⟨hn, v, h1, wpTok_of_L rest _ _ hr' h2⟩
    · exact .inr ⟨hn, h1, h2, wpTok_of_L rest _ _ hr' h3⟩
/-- THE LAW, at a region that is written out: its first operations, then its tail. -/
theorem wp_region_tok {id : Nat} {Q : Exit → Act → World → Prop} {a : Act} {w : World} {l : List Oper} (tok : List Nat) (n : Nat) (R : Nat → Value → World → Prop) (hm : P.follows .mixedOrders = true) (hB : (wildB l.toArray [] n && tok.all fun i => decide (i < n)) = true)
    (hsat : ∀ i ∈ tok, ∃ v W', Below w.heap.size w W' ∧ R i v W')
    (h : ∀ τ : Nat → Value × World, (∀ i ∈ tok, Below w.heap.size w (τ i).2 ∧ R i (τ i).1 (τ i).2) → wpTokL P l.toArray w tok R (fun a w' => wpList P l.toArray Q (l.drop n) a w') τ 0 (l.take n) a) : (Code.region id l.toArray true).wp P Q a w := by
  rw [Bool.and_eq_true] at hB
  have F := WildOk.of_check hB.1
  have htok : ∀ i ∈ tok, i < n := fun i hi => by simpa using List.all_eq_true.1 hB.2 i hi
  have hb : Below w.heap.size w w.drew := (Below.refl _ _).drew
  have hs := F.size
  have hl : (l.take n).length = n := by rw [List.length_take]; simp at hs; omega
  obtain ⟨τ, hτ⟩ : ∃ τ : Nat → Value × World, ∀ i ∈ tok, Below w.heap.size w (τ i).2 ∧ R i (τ i).1 (τ i).2 := by
    have : ∀ i, ∃ p : Value × World, i ∈ tok → Below w.heap.size w p.2 ∧ R i p.1 p.2 := fun i => by
      by_cases hi : i ∈ tok
      · obtain ⟨v, W', h1⟩ := hsat i hi
        exact ⟨(v, W'), fun _ => h1⟩
      · exact ⟨(undef, w), fun h => absurd h hi⟩
    obtain ⟨τ, hτ⟩ := Classical.axiomOfChoice this
    exact ⟨τ, hτ⟩
  refine wp_region_any hm ?_
  have := wpAny_tok (P := P) (Q' := Q) (W := w) (tok := tok) (R := R) (Qh := fun a w' => wpList P l.toArray Q (l.drop n) a w') F htok (fun a w h => h) n (Array.replicate l.toArray.size false) a w.drew τ (fun q _ hq h _ => by rw [unlisted l q hq] at h; cases h) (by simp) (by rw [left_all l n F.size]; simp) (fun t _ h2 => unlisted l t h2)
    ⟨hb, fun i hi hp => by
      dsimp only at hp
      rw [getD_flip (by have := htok i hi; simp; simp at hs; omega), unlisted l i (by have := htok i hi; omega)] at hp
      cases hp⟩ hτ
    (fun τ' h1 _ => by
      rw [left_all l n F.size]
      have := wpTok_of_L (l.take n) 0 a (fun j hj => by
        rw [hl] at hj
        rw [List.getElem?_take, if_pos hj]
        simp) (h τ' h1)
      rw [hl, ← List.range_eq_range'] at this
      exact this)
  rw [show n + (l.toArray.size - n) = l.toArray.size by have := F.size; omega] at this
  exact this

section
variable {W : World} {tok : List Nat} {R : Nat → Value → World → Prop} {Qh : Act → World → Prop} {τ : Nat → Value × World} {i : Nat} {rest : List Oper} {a : Act} {o : Oper}
theorem tokL_nil (h : ∀ w, Good W tok τ (fun _ => true) w → Qh a w) : wpTokL P ops W tok R Qh τ i [] a := h
/-- An operation that reads what lay there at first. -/
theorem tokL_val (hn : i ∉ tok) (hw : Region.wanted o (yielded ops a.tmps) = true) (hc : noCall o.op = true)
    (h : ∀ K : Act → Prop, (∀ a, wpTokL P ops W tok R Qh τ (i + 1) rest a → K a) → o.quiet P a (fun w' => ∃ x : Past W, w' = x.w) K) : wpTokL P ops W tok R Qh τ i (o :: rest) a := by
  obtain ⟨v, h1, h2⟩ := h _ fun _ h => h
  refine .inl ⟨hn, v, .inl ⟨hw, fun w hg => ⟨?_, late_none hc _ _⟩⟩, h2⟩
  have := h1 w ⟨⟨w, hg.1⟩, rfl⟩
  unfold Oper.quietAt at this ⊢
  generalize hr : (execOp a.eval o).run P w = r at *
  cases r with
  | ok n w' =>
    cases n
    case enter f args => exact (no_enter hc _ _ _ _ _ hr).elim
    all_goals exact this
  | halt y w' => exact this
/-- An operation that reads what operation k made. -/
theorem tokL_val1 (k : Nat) {v1 : Value} {W1 : World} (e : τ k = (v1, W1)) (hk : k ∈ tok) (hd : depB ops i k = true) (hn : i ∉ tok) (hw : Region.wanted o (yielded ops a.tmps) = true) (hc : noCall o.op = true)
    (h : ∀ K : Act → Prop, (∀ a, wpTokL P ops W tok R Qh τ (i + 1) rest a → K a) → o.quiet P a (fun w' => ∃ x : Past W1, w' = x.w) K) : wpTokL P ops W tok R Qh τ i (o :: rest) a := by
  obtain ⟨v, h1, h2⟩ := h _ fun _ h => h
  refine .inl ⟨hn, v, .inl ⟨hw, fun w hg => ⟨?_, late_none hc _ _⟩⟩, h2⟩
  have hb := hg.2 k hk hd
  rw [e] at hb
  have := h1 w ⟨⟨w, hb⟩, rfl⟩
  unfold Oper.quietAt at this ⊢
  generalize hr : (execOp a.eval o).run P w = r at *
  cases r with
  | ok n w' =>
    cases n
    case enter f args => exact (no_enter hc _ _ _ _ _ hr).elim
    all_goals exact this
  | halt y w' => exact this
def startB (P : Program) (o : Oper) : Bool := match calleeOf o.op with
  | some k => (P.inits.idxOf? k).isNone && (match P.funcs[k]? with | some fn => !(fn.name == "runtime.NumGoroutine" || fn.body.isNone) | none => false)
  | none => false
theorem startB_spec (h : startB P o = true) (a : Act) (w : World) : Late P o a w := by
  unfold startB at h
  split at h
  · rename_i k hk
    rw [Bool.and_eq_true, Option.isNone_iff_eq_none] at h
    refine late_static hk h.1 ?_ a w
    cases hf : P.funcs[k]? with
    | none => rw [hf] at h; simp at h
    | some fn =>
      rw [hf] at h
      have h2 := h.2
      simp only [Bool.not_eq_true'] at h2
      rw [Option.map_some, h2]
  · cases h
/-- A call whose value is one, whatever the world. -/
theorem tokL_call (hn : i ∉ tok) (hw : Region.wanted o (yielded ops a.tmps) = true) (hl : startB P o = true)
    (hx : ∃ v, (∀ (x : Past W), Good W tok τ (depB ops i) x.w → o.quietAt P a (fun w' => ∃ y : Past x.w, w' = y.w) x.w v) ∧ wpTokL P ops W tok R Qh τ (i + 1) rest (a.put o.dst v)) : wpTokL P ops W tok R Qh τ i (o :: rest) a := by
  obtain ⟨v, h, hA⟩ := hx
  exact .inl ⟨hn, v, .inl ⟨hw, fun w hg => ⟨h ⟨w, hg.1⟩ hg, startB_spec hl _ _⟩⟩, hA⟩
/-- An operation that makes something. -/
theorem tokL_tok {v1 : Value} {W1 : World} (e : τ i = (v1, W1)) (hn : i ∈ tok) (hw : Region.wanted o (yielded ops a.tmps) = true)
    (h : ∀ x : Past W, Good W tok τ (depB ops i) x.w → wildAt P o a x.w (R i)) (h2 : wpTokL P ops W tok R Qh τ (i + 1) rest (a.put o.dst v1)) : wpTokL P ops W tok R Qh τ i (o :: rest) a := by
  refine .inr ⟨hn, hw, fun w hg => h ⟨w, hg.1⟩ hg, ?_⟩
  rw [e]
  exact h2
end
end
end Go.Proofs.YtppgmphojklaeaaGreatDoor
