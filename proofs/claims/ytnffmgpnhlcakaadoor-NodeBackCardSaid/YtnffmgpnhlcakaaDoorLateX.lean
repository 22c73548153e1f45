/- A region that draws its order, whose last read, of a part of a call's answer, need not be done before the store that follows: one walk, in the order of the text. Conditions: none. -/
import Derived.Test.YtnffmgpnhlcakaaDoorWild
namespace Go.Proofs.YtnffmgpnhlcakaaDoor
open Go Go.RowKit

section
variable {P : Program} {ops : Array Oper}

def isPart : Op → Bool
  | .extract _ _ => true
  | _ => false
theorem part_pure {o : Oper} (h : isPart o.op = true) {a : Act} {w w1 : World} {C : World → Prop} {v : Value} (q : o.quietAt P a C w v) : (execOp a.eval o).run P w1 = .ok (.value v) w1 := by
  unfold isPart at h
  split at h
  · rename_i t ix ho
    unfold Oper.quietAt at q
    unfold execOp at q ⊢
    rw [ho] at q ⊢
    simp only [Instr.extract] at q ⊢
    cases ht : a.eval t <;> rw [ht] at q <;> first | (simp [stuck, Oper.quietUpon, Sem.run, Result.andThen] at q; done) | skip
    rename_i vs
    simp only at q ⊢
    cases hv : vs[ix]? with
    | none => rw [hv] at q; simp [stuck, Oper.quietUpon, Sem.run, Result.andThen] at q
    | some u =>
      rw [hv] at q
      simp only [Sem.run_bind, Sem.run_pure, Result.andThen_ok, Oper.quietUpon] at q ⊢
      rw [q.2]
  · cases h

def lateXB (ops : Array Oper) (n : Nat) : Bool :=
  Region.noSelect ops && decide (n + 1 ≤ ops.size) && decide (0 < n) &&
  ((List.range n).all fun j => match ops[j]? with | some o => o.after.all (fun e => !Region.binds .any e || decide (e.on < j)) | none => false) &&
  ((List.range n).all fun j => (List.range n).all fun k => !decide (k < j) || waits ops j k || (match ops[k]?, ops[j]? with | some x, some y => x.apart ops y | _, _ => false)) &&
  ((List.range n).all fun k => let T := waitsT ops k; (List.range ops.size).all fun t => decide (t < n) || T.contains t || (decide (t = n) && decide (k + 1 = n))) &&
  (let T := waitsT ops n; (List.range ops.size).all fun t => decide (t ≤ n) || T.contains t) &&
  (match ops[n - 1]?, ops[n]? with
  | some ol, some st => isPart ol.op && st.dst.isNone && st.guard.isNone && ol.guard.isNone && ol.apart ops st
  | _, _ => false) &&
  Region.seqB .any ops (ops.size - n) n ((Array.range ops.size).map fun i => decide (i < n)) &&
  Region.seqB .any ops (ops.size - (n + 1)) (n + 1) ((Array.range ops.size).map fun i => decide (i < n + 1))

structure LateOk (ops : Array Oper) (n : Nat) (ol st : Oper) : Prop where
  sel : ∀ (j : Nat) (o : Oper) cs b, ops[j]? = some o → o.op ≠ .select cs b
  size : n + 1 ≤ ops.size
  pos : 0 < n
  deps : ∀ j o, j < n → ops[j]? = some o → ∀ e ∈ o.after, Region.binds .any e = true → e.on < j
  apart : ∀ j k, j < n → k < j → waits ops j k = true ∨ apartAt ops k j
  tail : ∀ t k, n ≤ t → t < ops.size → k < n → ¬ (t = n ∧ k + 1 = n) → Dep ops t k
  first : ∀ t, n < t → t < ops.size → Dep ops t n
  hol : ops[n - 1]? = some ol
  hst : ops[n]? = some st
  part : isPart ol.op = true
  sd : st.dst = none
  sg : st.guard = none
  og : ol.guard = none
  oap : ol.apart ops st = true
  seq : Region.seqB .any ops (ops.size - n) n ((Array.range ops.size).map fun i => decide (i < n)) = true
  seq1 : Region.seqB .any ops (ops.size - (n + 1)) (n + 1) ((Array.range ops.size).map fun i => decide (i < n + 1)) = true
theorem LateOk.of_check {n : Nat} (h : lateXB ops n = true) : ∃ ol st, LateOk ops n ol st := by
  simp only [lateXB, Bool.and_eq_true, decide_eq_true_eq, List.all_eq_true, List.mem_range] at h
  obtain ⟨⟨⟨⟨⟨⟨⟨⟨⟨h1, h2⟩, h3⟩, h4⟩, h5⟩, h6⟩, h7⟩, h8⟩, h9⟩, h10⟩ := h
  obtain ⟨ol, hol⟩ : ∃ o, ops[n - 1]? = some o := ⟨_, Array.getElem?_eq_getElem (by omega)⟩
  obtain ⟨st, hst⟩ : ∃ o, ops[n]? = some o := ⟨_, Array.getElem?_eq_getElem (by omega)⟩
  rw [hol, hst] at h8
  simp only [Bool.and_eq_true, Option.isNone_iff_eq_none] at h8
  obtain ⟨⟨⟨⟨e1, e2⟩, e3⟩, e4⟩, e5⟩ := h8
  refine ⟨ol, st, Region.noSelect_spec h1, h2, h3, fun j o hj ho e he hb => ?_, fun j k hj hk => ?_, fun t k ht hts hk hne => ?_, fun t ht hts => ?_, hol, hst, e1, e2, e3, e4, e5, h9, h10⟩
  · have := h4 j hj
    rw [ho] at this
    have := Array.all_eq_true_iff_forall_mem.1 this e he
    simpa [hb] using this
  · have := h5 j hj k (by omega)
    simp only [Bool.or_eq_true, Bool.not_eq_true', decide_eq_false_iff_not] at this
    rcases this with (h | h) | h
    · omega
    · exact .inl h
    · right
      intro oi oj hi hj2
      rw [hi, hj2] at h
      exact h
  · have := h6 k hk t hts
    simp only [Bool.or_eq_true, decide_eq_true_eq, Bool.and_eq_true, List.contains_iff_mem] at this
    rcases this with (h | h) | h
    · omega
    · exact waitsT_dep k t h
    · exact absurd h hne
  · have := h7 t hts
    simp only [Bool.or_eq_true, decide_eq_true_eq, List.contains_iff_mem] at this
    rcases this with h | h
    · omega
    · exact waitsT_dep n t h

/-- What is asked behind the head: the store is done, and then the rest. -/
def lateEnd (P : Program) (ops : Array Oper) (Q : Exit → Act → World → Prop) (st : Oper) (rest : List Oper) (a : Act) (w : World) : Prop :=
  ∃ w2, (execOp a.eval st).run P w = .ok .skip w2 ∧ wpList P ops Q rest a w2

theorem wpAny_lateX {n : Nat} {W : World} {Q' : Exit → Act → World → Prop} {ol st : Oper} (F : LateOk ops n ol st) :
    ∀ (f : Nat) (listed : Array Bool) (a : Act) (w : World), Closed ops listed → listed.size = ops.size → (left listed n).length = f → (∀ t, n ≤ t → t < ops.size → listed.getD t true = false) →
      Below W.heap.size W w → wpHead P ops W (fun a => ∀ x : Past W, lateEnd P ops Q' st (ops.toList.drop (n + 1)) a x.w) (left listed n) a → wpAny P .any ops Q' (f + (ops.size - n)) listed a w
  | 0, listed, a, w, hcl, hs, hf, ht, hb, hh => by
    have hall : ∀ i, i < n → listed.getD i true = true := fun i hi => by
      cases h : listed.getD i true with
      | true => rfl
      | false =>
        have := mem_left.2 ⟨hi, h⟩
        rw [List.eq_nil_of_length_eq_zero hf] at this
        cases this
    have hle : listed = (Array.range ops.size).map fun i => decide (i < n) := listed_eq hs fun i hi => by
      by_cases him : i < n
      · simp [hall i him, him]
      · simp [ht i (by omega) hi, him]
    rw [List.eq_nil_of_length_eq_zero hf] at hh
    subst hle
    rw [Nat.zero_add]
    have hlen : (ops.toList.drop n).length = ops.size - n := by simp
    have hd : ops.toList.drop n = st :: ops.toList.drop (n + 1) := by
      rw [← List.getElem_cons_drop (by simp; have := F.size; omega)]
      congr 1
      have h2 := F.hst
      rw [Array.getElem?_eq_getElem (by have := F.size; omega)] at h2
      simpa using Option.some.inj h2
    obtain ⟨w2, hr, hrest⟩ := hh ⟨w, hb⟩
    have hT : wpList P ops Q' (ops.toList.drop n) a w := by
      rw [hd]
      unfold wpList
      rw [if_pos (by simp [Region.wanted, F.sg])]
      left
      unfold Oper.wp
      rw [hr]
      simp only [Oper.upon, F.sd]
      exact hrest
    have := wpAny_of_seq (P := P) (ops := ops) (md := .any) (Q' := Q') (ops.toList.drop n) n ((Array.range ops.size).map fun i => decide (i < n)) a w (fun j => by simp) (by rw [hlen]; exact F.seq) hT
    rw [hlen] at this
    exact this
  | f + 1, listed, a, w, hcl, hs, hf, ht, hb, hh => by
    have hne : ∃ i, i < n ∧ listed.getD i true = false := by
      cases hl : left listed n with
      | nil => rw [hl] at hf; cases hf
      | cons i r => exact ⟨i, mem_left.1 (by rw [hl]; simp)⟩
    have hready : ∃ i, i ∈ Region.ready .any ops listed := by
      have : ∀ k i, i < k → i < n → listed.getD i true = false → ∃ j, j ∈ Region.ready .any ops listed := by
        intro k
        induction k with
        | zero => intro i hi; omega
        | succ k ih =>
          intro i hik him hun
          have hsz : i < ops.size := Nat.lt_of_lt_of_le him (Nat.le_of_succ_le F.size)
          by_cases hd : ∀ e ∈ (ops[i]).after, Region.binds .any e = true → listed.getD e.on false = true
          · exact ⟨i, mem_ready.2 ⟨hun, ops[i], Array.getElem?_eq_getElem hsz, hd⟩⟩
          · obtain ⟨e, he⟩ := Classical.not_forall.1 hd
            obtain ⟨he1, he2⟩ := Classical.not_imp.1 he
            obtain ⟨he2, he3⟩ := Classical.not_imp.1 he2
            have hlt := F.deps i _ him (Array.getElem?_eq_getElem hsz) e he1 he2
            have hun2 : listed.getD e.on true = false := by
              rw [← getD_flip (by omega)]
              simpa using he3
            exact ih e.on (by omega) (by omega) hun2
      obtain ⟨i, him, hun⟩ := hne
      exact this (i + 1) i (by omega) him hun
    rw [show f + 1 + (ops.size - n) = (f + (ops.size - n)) + 1 by omega]
    refine ⟨(fun h0 => by obtain ⟨i, hi⟩ := hready; rw [h0] at hi; cases hi), fun i hi => ?_⟩
    obtain ⟨hun, oi, hoi, hall⟩ := mem_ready.1 hi
    have hisz : i < ops.size := (Array.getElem?_eq_some_iff.1 hoi).1
    have hsat : Sat ops listed i := fun k hk => waits_listed hi hk
    unfold wpOp
    simp only [hoi]
    by_cases him : i < n
    · have hap : ∀ k ∈ left listed n, k < i → apartAt ops k i := fun k hk hki => by
        obtain ⟨h1, h2⟩ := mem_left.1 hk
        rcases F.apart i k him hki with h | h
        · have := hsat k h
          rw [getD_flip (by omega), h2] at this
          cases this
        · exact h
      obtain ⟨v, hy, hrest⟩ := wpHead_take F.sel hoi (left listed n) a (left_sorted _ _) (mem_left.2 ⟨him, hun⟩) hap hh
      have hcount : (left (listed.setIfInBounds i true) n).length = f := by
        rw [left_set (by omega), List.length_erase_of_mem (mem_left.2 ⟨him, hun⟩), hf]
        rfl
      have htail : ∀ t, n ≤ t → t < ops.size → (listed.setIfInBounds i true).getD t true = false := fun t h1 h2 => by
        rw [getD_set_ne true (by omega)]
        exact ht t h1 h2
      have hstep : ∀ w', Below w.heap.size w w' → wpAny P .any ops Q' (f + (ops.size - n)) (listed.setIfInBounds i true) (a.put oi.dst v) w' := fun w' hw => by
        refine wpAny_lateX F f _ _ w' (hcl.step hi) (by simpa using hs) hcount htail (below_past hb hw hb.size) ?_
        rw [left_set (by omega)]
        exact hrest
      rcases hy with ⟨hw1, hw2⟩ | ⟨hw1, rfl⟩
      · rw [if_pos hw1]
        exact .inl (wp_of_quietAt (hw2 ⟨w, hb⟩) hstep)
      · rw [if_neg (by rw [hw1]; exact Bool.false_ne_true)]
        exact hstep w (Below.refl _ _)
    · -- the store is ahead of the last read
      have hone : ∀ k, k < n → listed.getD k true = false → i = n ∧ k + 1 = n := fun k hk hku => by
        rcases Classical.em (i = n ∧ k + 1 = n) with h | h
        · exact h
        · have := (F.tail i k (by omega) hisz hk h).2 listed hcl hs hsat
          rw [getD_flip (by omega), hku] at this
          cases this
      obtain ⟨k, hk, hku⟩ := hne
      obtain ⟨rfl, hkn⟩ := hone k hk hku
      obtain rfl : k = i - 1 := by omega
      have hlf : left listed i = [i - 1] := by
        have h1 : ∀ x ∈ left listed i, x = i - 1 := fun x hx => by
          obtain ⟨h2, h3⟩ := mem_left.1 hx
          have := (hone x h2 h3).2
          omega
        have h2 : i - 1 ∈ left listed i := mem_left.2 ⟨hk, hku⟩
        have h3 := left_nodup listed i
        cases hl : left listed i with
        | nil => rw [hl] at h2; cases h2
        | cons x r =>
          rw [hl] at h1 h3
          have hx := h1 x (by simp)
          cases r with
          | nil => rw [hx]
          | cons y r =>
            have hy := h1 y (by simp)
            rw [hx, hy] at h3
            simp at h3
      rw [hlf] at hf hh
      obtain rfl : f = 0 := by simpa using hf.symm
      obtain ⟨o, v, ho, hy, hq⟩ := hh
      obtain rfl : o = ol := Option.some.inj (ho.symm.trans F.hol)
      obtain rfl : oi = st := Option.some.inj (hoi.symm.trans F.hst)
      obtain ⟨s1, s2, s3⟩ := Oper.apart_spec F.oap
      rcases hy with ⟨hy1, hy2⟩ | ⟨hy1, _⟩
      case inr => simp [Region.wanted, F.og] at hy1
      obtain ⟨w2, hr, hrest⟩ := hq ⟨w, hb⟩
      dsimp only at hr hrest
      rw [execOp_put (ops := ops) oi (F.sel i oi · · hoi) a o.dst v s1] at hr
      rw [if_pos (by simp [Region.wanted, F.sg])]
      left
      unfold Oper.wp
      rw [hr]
      simp only [Oper.upon, F.sd]
      show wpAny P .any ops Q' (0 + (ops.size - i)) (listed.setIfInBounds i true) a w2
      have hsz := F.size
      rw [show 0 + (ops.size - i) = (ops.size - (i + 1)) + 1 by omega]
      have hg : ∀ j, j < ops.size → (listed.setIfInBounds i true).getD j true = (decide (j < i + 1) && j != i - 1) := fun j hj => by
        by_cases e : j = i
        · subst e
          have h2 : j < listed.size := by omega
          have h3 : j ≠ j - 1 := by omega
          simp [h2, h3]
        · rw [getD_set_ne true (Ne.symm e)]
          by_cases e2 : j < i
          · by_cases e3 : j = i - 1
            · rw [e3, hku]; simp
            · have : listed.getD j true = true := by
                cases h : listed.getD j true with
                | true => rfl
                | false => exact absurd (hone j e2 h).2 (by omega)
              rw [this]
              simp [e3]; omega
          · rw [ht j (by omega) hj]
            have : ¬ j < i + 1 := by omega
            simp [this]
      have hcl2 : Closed ops (listed.setIfInBounds i true) := hcl.step hi
      have hs2 : (listed.setIfInBounds i true).size = ops.size := by simpa using hs
      have hkr : i - 1 ∈ Region.ready .any ops (listed.setIfInBounds i true) := by
        refine mem_ready.2 ⟨by rw [hg _ (by omega)]; simp, o, ho, fun e he hbd => ?_⟩
        have hlt := F.deps (i - 1) o (by omega) ho e he hbd
        rw [getD_flip (by omega), hg _ (by omega)]
        simp; omega
      refine ⟨(fun h0 => by rw [h0] at hkr; cases hkr), fun j hj => ?_⟩
      obtain ⟨hun3, oj, hoj, _⟩ := mem_ready.1 hj
      have hjsz : j < ops.size := (Array.getElem?_eq_some_iff.1 hoj).1
      have hjk : j = i - 1 := by
        rw [hg _ hjsz] at hun3
        by_cases e : j < i + 1
        · simpa [e] using hun3
        · have := (F.tail j (i - 1) (by omega) hjsz (by omega) (by omega)).2 _ hcl2 hs2 (fun k hk => waits_listed hj hk)
          rw [getD_flip (by omega), hg _ (by omega)] at this
          simp at this
      subst hjk
      unfold wpOp
      simp only [ho]
      rw [if_pos hy1]
      left
      have hp := part_pure (w1 := w2) F.part (hy2 ⟨w, hb⟩)
      unfold Oper.wp
      rw [hp]
      simp only [Oper.upon]
      have hset2 : (listed.setIfInBounds i true).setIfInBounds (i - 1) true = (Array.range ops.size).map fun q => decide (q < i + 1) := listed_eq (by simpa using hs) fun q hq => by
        by_cases e : q = i - 1
        · subst e
          have h2 : i - 1 < listed.size := by omega
          have h3 : i - 1 < i + 1 := by omega
          simp [h2, h3]
        · rw [getD_set_ne true (Ne.symm e), hg _ hq]
          simp [e]
      rw [hset2]
      have hlen : (ops.toList.drop (i + 1)).length = ops.size - (i + 1) := by simp
      have := wpAny_of_seq (P := P) (ops := ops) (md := .any) (Q' := Q') (ops.toList.drop (i + 1)) (i + 1) ((Array.range ops.size).map fun q => decide (q < i + 1)) (a.put o.dst v) w2 (fun j => by simp) (by rw [hlen]; exact F.seq1) hrest
      rw [hlen] at this
      exact this

/-- The head of a region that is written out. -/
def wpHeadL (P : Program) (ops : Array Oper) (Qh : World → Act → Prop) : List Oper → World → Act → Prop
  | [], W, a => Qh W a
  | o :: rest, W, a => ∃ v, YieldsS P ops W o v a ∧ wpHeadL P ops Qh rest W (a.put o.dst v)
theorem wpHead_of_L {Qh : World → Act → Prop} {W : World} : ∀ (rest : List Oper) (i : Nat) (a : Act), (∀ j, j < rest.length → rest[j]? = ops[i + j]?) → wpHeadL P ops Qh rest W a → wpHead P ops W (Qh W) (List.range' i rest.length) a
  | [], _, _, _, h => h
  | o :: rest, i, a, hr, ⟨v, h1, h2⟩ => by
    have h0 : ops[i]? = some o := by simpa using (hr 0 (by simp)).symm
    have hr' : ∀ j, j < rest.length → rest[j]? = ops[(i + 1) + j]? := fun j hj => by
      have := hr (j + 1) (by simpa using hj)
      simpa [Nat.add_assoc, Nat.add_comm 1 j] using this
    rw [List.length_cons, List.range'_succ]
    exact ⟨o, v, h0, h1, wpHead_of_L rest _ _ hr' h2⟩
theorem wpHeadL_of_wild {Qh : World → Act → Prop} : ∀ (rest : List Oper) (i : Nat) (W : World) (a : Act), wpWildL P ops [] Qh i rest W a → wpHeadL P ops Qh rest W a
  | [], _, _, _, h => h
  | o :: rest, i, W, a, h => by
    rcases h with ⟨_, v, h1, h2⟩ | ⟨hn, _⟩
    · exact ⟨v, h1, wpHeadL_of_wild rest _ _ _ h2⟩
    · cases hn

/-- THE LAW. -/
theorem wp_region_lateX {id : Nat} {Q : Exit → Act → World → Prop} {a : Act} {w : World} {l : List Oper} (n : Nat) (hm : P.follows .mixedOrders = true) (hB : lateXB l.toArray n = true)
    (h : wpWildL P l.toArray [] (fun W a => ∀ x : Past W, match l.drop n with | st :: rest => lateEnd P l.toArray Q st rest a x.w | [] => False) 0 (l.take n) w a) : (Code.region id l.toArray true).wp P Q a w := by
  obtain ⟨ol, st, F⟩ := LateOk.of_check hB
  have hs : n + 1 ≤ l.length := by simpa using F.size
  have hd : l.drop n = st :: l.drop (n + 1) := by
    rw [← List.getElem_cons_drop (by omega)]
    congr 1
    have h2 := F.hst
    rw [Array.getElem?_eq_getElem (by simp; omega)] at h2
    simpa using Option.some.inj h2
  rw [hd] at h
  have hl : (l.take n).length = n := by rw [List.length_take]; omega
  refine wp_region_any hm ?_
  have h1 := wpHead_of_L (P := P) (ops := l.toArray) (l.take n) 0 a (fun j hj => by
    rw [hl] at hj
    rw [List.getElem?_take, if_pos hj]
    simp) (wpHeadL_of_wild _ _ _ _ h)
  rw [hl, ← List.range_eq_range'] at h1
  have := wpAny_lateX (P := P) (Q' := Q) (W := w) F n (Array.replicate l.toArray.size false) a w.drew (fun q _ hq h _ => by rw [unlisted l q hq] at h; cases h) (by simp) (by rw [left_all l n (by simp; omega)]; simp) (fun t _ h2 => unlisted l t h2) ((Below.refl _ _).drew)
    (by rw [left_all l n (by simp; omega)]; exact h1)
  rw [show n + (l.toArray.size - n) = l.toArray.size by simp; omega] at this
  exact this
end
end Go.Proofs.YtnffmgpnhlcakaaDoor
