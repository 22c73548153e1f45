/- The walk through a region that draws its order, in an order of its own: an operation that reads may be taken ahead of one that makes memory. Conditions: none. -/
import Derived.Test.YtpfkomglghmnfaaWild
namespace Go.Proofs.Ytpfkomglghmnfaa
open Go Go.RowKit

section
variable {P : Program} {ops : Array Oper}

theorem wpWildO_take {wild : List Nat} {Qh : World → Act → Prop} (hsel : ∀ (j : Nat) (o : Oper) cs b, ops[j]? = some o → o.op ≠ .select cs b) {j : Nat} {oj : Oper} (hj : ops[j]? = some oj) :
    ∀ (is : List Nat) (W : World) (a : Act), j ∈ is → (∀ pre post, is = pre ++ j :: post → ∀ k ∈ pre, apartAt ops k j ∧ k ∉ wild) → wpWild P ops wild Qh is W a →
      (j ∉ wild ∧ ∃ v, YieldsS P ops W oj v a ∧ wpWild P ops wild Qh (is.erase j) W (a.put oj.dst v)) ∨
      (j ∈ wild ∧ Region.wanted oj (yielded ops a.tmps) = true ∧ ∀ x : Past W, wildAt P oj a x.w fun v w' => wpWild P ops wild Qh (is.erase j) w' (a.put oj.dst v))
  | i :: is, W, a, hm, hap, ⟨o, h1, h2⟩ => by
    by_cases hij : i = j
    · subst hij
      obtain rfl : o = oj := Option.some.inj (h1.symm.trans hj)
      simpa using h2
    · have hm' : j ∈ is := by
        rcases List.mem_cons.1 hm with e | e
        · exact absurd e.symm hij
        · exact e
      obtain ⟨pre0, post0, he0⟩ := List.append_of_mem hm'
      obtain ⟨hapi, hni⟩ := hap (i :: pre0) post0 (by rw [he0]; rfl) i (by simp)
      rcases h2 with ⟨_, v, h2, h3⟩ | ⟨hw, _⟩
      case inr => exact absurd hw hni
      obtain ⟨s1, s2, s3⟩ := Oper.apart_spec (hapi o oj h1 hj)
      have hrec := wpWildO_take hsel hj is W (a.put o.dst v) hm' (fun pre post he k hk => hap (i :: pre) post (by rw [he]; rfl) k (List.mem_cons_of_mem _ hk)) h3
      rw [List.erase_cons_tail (by simpa using hij)]
      rcases hrec with ⟨hn, u, y1, y2⟩ | ⟨hn, y1, y2⟩
      · refine .inl ⟨hn, u, (YieldsS.put (hsel j oj · · hj) s1).1 y1, o, h1, .inl ⟨hni, v, (YieldsS.put (hsel i o · · h1) s3).2 h2, ?_⟩⟩
        rw [← Act.put_comm a v u s2]
        exact y2
      · refine .inr ⟨hn, ?_, fun x => ?_⟩
        · rwa [wanted_put oj a o.dst v s1] at y1
        · refine wildAt_mono ((wildAt_put (ops := ops) (hsel j oj · · hj) s1).1 (y2 x)) fun u w' hb hk => ?_
          refine ⟨o, h1, .inl ⟨hni, v, (YieldsS.put (hsel i o · · h1) s3).2 (h2.past (Below.step x.h hb)), ?_⟩⟩
          rw [← Act.put_comm a v u s2]
          exact hk
  | [], _, _, hm, _, _ => by cases hm

def leftO (ord : List Nat) (listed : Array Bool) : List Nat := ord.filter fun i => !listed.getD i true
theorem mem_leftO {ord : List Nat} {listed : Array Bool} {i : Nat} : i ∈ leftO ord listed ↔ i ∈ ord ∧ listed.getD i true = false := by
  simp [leftO]
theorem leftO_set {ord : List Nat} (hn : ord.Nodup) {listed : Array Bool} {i : Nat} (hi : i < listed.size) : leftO ord (listed.setIfInBounds i true) = (leftO ord listed).erase i := by
  have hnd : (leftO ord listed).Nodup := List.Pairwise.filter _ hn
  rw [hnd.erase_eq_filter, leftO, leftO, List.filter_filter]
  apply List.filter_congr
  intro k hk
  by_cases e : k = i
  · subst e
    simp [hi]
  · have : i ≠ k := fun q => e q.symm
    simp [this, e]
def pairsB (ops : Array Oper) (wild : List Nat) : List Nat → Bool
  | [] => true
  | k :: is => (if wild.contains k then (let T := waitsT ops k; is.all fun j => T.contains j) else is.all fun j => waits ops j k || (match ops[k]?, ops[j]? with | some x, some y => x.apart ops y | _, _ => false)) && pairsB ops wild is
def wildOB (ops : Array Oper) (wild ord : List Nat) : Bool :=
  Region.noSelect ops && decide ord.Nodup && ((List.range ops.size).all fun i => ord.contains i) && (ord.all fun i => decide (i < ops.size)) &&
  ((List.range ops.size).all fun j => match ops[j]? with | some o => o.after.all (fun e => !Region.binds .any e || decide (e.on < j)) | none => false) && pairsB ops wild ord
structure OrdOk (ops : Array Oper) (wild ord : List Nat) : Prop where
  sel : ∀ (j : Nat) (o : Oper) cs b, ops[j]? = some o → o.op ≠ .select cs b
  nodup : ord.Nodup
  mem : ∀ i, i ∈ ord ↔ i < ops.size
  deps : ∀ j o, ops[j]? = some o → ∀ e ∈ o.after, Region.binds .any e = true → e.on < j
  pair : ord.Pairwise fun k j => Dep ops j k ∨ (apartAt ops k j ∧ k ∉ wild)
theorem pairs_of {wild : List Nat} : ∀ ord : List Nat, (∀ i ∈ ord, i < ops.size) → pairsB ops wild ord = true → ord.Pairwise fun k j => Dep ops j k ∨ (apartAt ops k j ∧ k ∉ wild)
  | [], _, _ => .nil
  | k :: is, hm, h => by
    rw [pairsB, Bool.and_eq_true] at h
    refine List.pairwise_cons.2 ⟨fun j hj => ?_, pairs_of is (fun i hi => hm i (List.mem_cons_of_mem _ hi)) h.2⟩
    have h1 := h.1
    split at h1
    · have h2 := List.all_eq_true.1 h1 j hj
      rw [List.contains_iff_mem] at h2
      exact .inl (waitsT_dep k j h2)
    · rename_i hw
      have h2 := List.all_eq_true.1 h1 j hj
      rw [Bool.or_eq_true] at h2
      rcases h2 with h2 | h2
      · exact .inl ⟨hm j (List.mem_cons_of_mem _ hj), fun listed _ _ hs => hs k h2⟩
      · refine .inr ⟨fun oi oj hi hj2 => ?_, fun hin => hw (List.contains_iff_mem.2 hin)⟩
        rw [hi, hj2] at h2
        exact h2
theorem OrdOk.of_check {wild ord : List Nat} (h : wildOB ops wild ord = true) : OrdOk ops wild ord := by
  simp only [wildOB, Bool.and_eq_true, decide_eq_true_eq, List.all_eq_true, List.mem_range, List.contains_iff_mem] at h
  obtain ⟨⟨⟨⟨⟨h1, h2⟩, h3⟩, h4⟩, h5⟩, h6⟩ := h
  refine ⟨Region.noSelect_spec h1, h2, fun i => ⟨h4 i, h3 i⟩, fun j o ho e he hb => ?_, pairs_of ord h4 h6⟩
  have := h5 j (Array.getElem?_eq_some_iff.1 ho).1
  rw [ho] at this
  have := Array.all_eq_true_iff_forall_mem.1 this e he
  simpa [hb] using this

theorem wpAny_wildO {wild ord : List Nat} {Q' : Exit → Act → World → Prop} (F : OrdOk ops wild ord) :
    ∀ (f : Nat) (listed : Array Bool) (a : Act) (w W : World), Closed ops listed → listed.size = ops.size → (leftO ord listed).length = f →
      Below W.heap.size W w → wpWild P ops wild (fun W a => ∀ x : Past W, Q' .normal a x.w) (leftO ord listed) W a → wpAny P .any ops Q' f listed a w
  | 0, listed, a, w, W, hcl, hs, hf, hb, hh => by
    have hall : ∀ i, i < ops.size → listed.getD i true = true := fun i hi => by
      cases h : listed.getD i true with
      | true => rfl
      | false =>
        have := mem_leftO.2 ⟨(F.mem i).2 hi, h⟩
        rw [List.eq_nil_of_length_eq_zero hf] at this
        cases this
    rw [List.eq_nil_of_length_eq_zero hf] at hh
    refine wpAny_done (List.eq_nil_iff_forall_not_mem.2 fun i hi => ?_) (hh ⟨w, hb⟩) _
    obtain ⟨hun, oi, hoi, _⟩ := mem_ready.1 hi
    rw [hall i (Array.getElem?_eq_some_iff.1 hoi).1] at hun
    cases hun
  | f + 1, listed, a, w, W, hcl, hs, hf, hb, hh => by
    have hne : ∃ i, i < ops.size ∧ listed.getD i true = false := by
      cases hl : leftO ord listed with
      | nil => rw [hl] at hf; cases hf
      | cons i r =>
        have := mem_leftO.1 (by rw [hl]; simp : i ∈ leftO ord listed)
        exact ⟨i, (F.mem i).1 this.1, this.2⟩
    have hready : ∃ i, i ∈ Region.ready .any ops listed := by
      have : ∀ k i, i < k → i < ops.size → listed.getD i true = false → ∃ j, j ∈ Region.ready .any ops listed := by
        intro k
        induction k with
        | zero => intro i hi; omega
        | succ k ih =>
          intro i hik hsz hun
          by_cases hd : ∀ e ∈ (ops[i]).after, Region.binds .any e = true → listed.getD e.on false = true
          · exact ⟨i, mem_ready.2 ⟨hun, ops[i], Array.getElem?_eq_getElem hsz, hd⟩⟩
          · obtain ⟨e, he⟩ := Classical.not_forall.1 hd
            obtain ⟨he1, he2⟩ := Classical.not_imp.1 he
            obtain ⟨he2, he3⟩ := Classical.not_imp.1 he2
            have hlt := F.deps i _ (Array.getElem?_eq_getElem hsz) e he1 he2
            have hun2 : listed.getD e.on true = false := by
              rw [← getD_flip (by omega)]
              simpa using he3
            exact ih e.on (by omega) (by omega) hun2
      obtain ⟨i, him, hun⟩ := hne
      exact this (i + 1) i (by omega) him hun
    refine ⟨(fun h0 => by obtain ⟨i, hi⟩ := hready; rw [h0] at hi; cases hi), fun i hi => ?_⟩
    obtain ⟨hun, oi, hoi, hall⟩ := mem_ready.1 hi
    have hisz : i < ops.size := (Array.getElem?_eq_some_iff.1 hoi).1
    have hsat : Sat ops listed i := fun k hk => waits_listed hi hk
    have hil : i ∈ leftO ord listed := mem_leftO.2 ⟨(F.mem i).2 hisz, hun⟩
    have hap : ∀ pre post, leftO ord listed = pre ++ i :: post → ∀ k ∈ pre, apartAt ops k i ∧ k ∉ wild := fun pre post he k hk => by
      have hp : (leftO ord listed).Pairwise fun k j => Dep ops j k ∨ (apartAt ops k j ∧ k ∉ wild) := F.pair.filter _
      rw [he] at hp
      have hki := (List.pairwise_append.1 hp).2.2 k hk i (by simp)
      have hkl := mem_leftO.1 (by rw [he]; exact List.mem_append_left _ hk : k ∈ leftO ord listed)
      rcases hki with h | h
      · have := h.2 listed hcl hs hsat
        rw [getD_flip (by have := (F.mem k).1 hkl.1; omega), hkl.2] at this
        cases this
      · exact h
    have hcount : (leftO ord (listed.setIfInBounds i true)).length = f := by
      rw [leftO_set F.nodup (by omega), List.length_erase_of_mem hil, hf]
      rfl
    have hstep : ∀ W' w' v, Below W'.heap.size W' w' → wpWild P ops wild (fun W a => ∀ x : Past W, Q' .normal a x.w) ((leftO ord listed).erase i) W' (a.put oi.dst v) → wpAny P .any ops Q' f (listed.setIfInBounds i true) (a.put oi.dst v) w' := fun W' w' v hw hk => by
      refine wpAny_wildO F f _ _ w' W' (hcl.step hi) (by simpa using hs) hcount hw ?_
      rw [leftO_set F.nodup (by omega)]
      exact hk
    unfold wpOp
    simp only [hoi]
    rcases wpWildO_take F.sel hoi (leftO ord listed) W a hil hap hh with ⟨_, v, hy, hrest⟩ | ⟨_, hw1, hy⟩
    · rcases hy with ⟨hw1, hw2⟩ | ⟨hw1, rfl⟩
      · rw [if_pos hw1]
        exact .inl (wp_of_quietAt (hw2 ⟨w, hb⟩) fun w' hw => hstep W w' v (below_past hb hw hb.size) hrest)
      · rw [if_neg (by rw [hw1]; exact Bool.false_ne_true)]
        exact hstep W w undef hb hrest
    · rw [if_pos hw1]
      exact .inl (wp_of_wildAt (hy ⟨w, hb⟩) fun v w' _ hk => hstep w' w' v (Below.refl _ _) hk)

/-- THE LAW: the operations in an order of the prover's. -/
theorem wp_region_wildO {id : Nat} {Q : Exit → Act → World → Prop} {a : Act} {w : World} {l : List Oper} (wild ord : List Nat) (hm : P.follows .mixedOrders = true) (hB : wildOB l.toArray wild ord = true)
    (h : wpWild P l.toArray wild (fun W a => ∀ x : Past W, Q .normal a x.w) ord w a) : (Code.region id l.toArray true).wp P Q a w := by
  have F := OrdOk.of_check hB
  have hb : Below w.heap.size w w.drew := (Below.refl _ _).drew
  refine wp_region_any hm ?_
  have he : leftO ord (Array.replicate l.toArray.size false) = ord := by
    rw [leftO, List.filter_eq_self]
    intro i hi
    rw [unlisted l i ((F.mem i).1 hi)]
    rfl
  have hlen : ord.length = l.toArray.size := by
    have hp : ord.Perm (List.range l.toArray.size) := (List.perm_ext_iff_of_nodup F.nodup List.nodup_range).2 fun i => by rw [F.mem, List.mem_range]
    simpa using hp.length_eq
  have := wpAny_wildO (P := P) (Q' := Q) F l.toArray.size (Array.replicate l.toArray.size false) a w.drew w (fun q _ hq h _ => by rw [unlisted l q hq] at h; cases h) (by simp) (by rw [he, hlen]) hb (by rw [he]; exact h)
  exact this

/-- The same walk, the operations written out. -/
def wpWildM (P : Program) (ops : Array Oper) (wild : List Nat) (Qh : World → Act → Prop) : List (Nat × Oper) → World → Act → Prop
  | [], W, a => Qh W a
  | x :: rest, W, a =>
      (x.1 ∉ wild ∧ ∃ v, YieldsS P ops W x.2 v a ∧ wpWildM P ops wild Qh rest W (a.put x.2.dst v)) ∨
      (x.1 ∈ wild ∧ Region.wanted x.2 (yielded ops a.tmps) = true ∧ ∀ y : Past W, wildAt P x.2 a y.w fun v w' => wpWildM P ops wild Qh rest w' (a.put x.2.dst v))
def pickO (l : List Oper) : List Nat → List (Nat × Oper)
  | [] => []
  | i :: is => match l[i]? with | some o => (i, o) :: pickO l is | none => []
theorem wpWild_of_M {l : List Oper} {wild : List Nat} {Qh : World → Act → Prop} : ∀ (ord : List Nat) (W : World) (a : Act), (∀ i ∈ ord, i < l.length) → wpWildM P l.toArray wild Qh (pickO l ord) W a → wpWild P l.toArray wild Qh ord W a
  | [], _, _, _, h => h
  | i :: is, W, a, hm, h => by
    have hi : i < l.length := hm i (by simp)
    have hm' : ∀ k ∈ is, k < l.length := fun k hk => hm k (List.mem_cons_of_mem _ hk)
    rw [pickO, List.getElem?_eq_getElem hi] at h
    refine ⟨l[i], by simp, ?_⟩
    rcases h with ⟨hn, v, h1, h2⟩ | ⟨hn, h1, h2⟩
    · exact .inl ⟨hn, v, h1, wpWild_of_M is _ _ hm' h2⟩
    · exact .inr ⟨hn, h1, fun x => wildAt_mono (h2 x) fun v w' _ hk => wpWild_of_M is _ _ hm' hk⟩
theorem wp_region_wildM {id : Nat} {Q : Exit → Act → World → Prop} {a : Act} {w : World} {l : List Oper} (wild ord : List Nat) (hm : P.follows .mixedOrders = true) (hB : wildOB l.toArray wild ord = true)
    (h : wpWildM P l.toArray wild (fun W a => ∀ x : Past W, Q .normal a x.w) (pickO l ord) w a) : (Code.region id l.toArray true).wp P Q a w :=
  wp_region_wildO wild ord hm hB (wpWild_of_M ord w a (fun i hi => by have := (OrdOk.of_check hB).mem i |>.1 hi; simpa using this) h)

section
variable {wild : List Nat} {Qh : World → Act → Prop} {i : Nat} {rest : List (Nat × Oper)} {W : World} {a : Act} {o : Oper}
theorem wildO_nil (h : Qh W a) : wpWildM P ops wild Qh [] W a := h
theorem wildO_val (hn : i ∉ wild) (hw : Region.wanted o (yielded ops a.tmps) = true) (hc : noCall o.op = true)
    (h : ∀ K : Act → Prop, (∀ a, wpWildM P ops wild Qh rest W a → K a) → o.quiet P a (fun w' => ∃ x : Past W, w' = x.w) K) : wpWildM P ops wild Qh ((i, o) :: rest) W a := by
  obtain ⟨v, h1, h2⟩ := h _ fun _ h => h
  refine .inl ⟨hn, v, .inl ⟨hw, fun x => ?_⟩, h2⟩
  have := h1 x.w ⟨x, rfl⟩
  unfold Oper.quietAt at this ⊢
  generalize hr : (execOp a.eval o).run P x.w = r at *
  cases r with
  | ok n w' =>
    cases n
    case enter f args => exact (no_enter hc _ _ _ _ _ hr).elim
    all_goals exact this
  | halt y w' => exact this
theorem wildO_skip (hn : i ∉ wild) (hw : Region.wanted o (yielded ops a.tmps) = false) (h : wpWildM P ops wild Qh rest W (a.put o.dst undef)) : wpWildM P ops wild Qh ((i, o) :: rest) W a :=
  .inl ⟨hn, undef, .inr ⟨hw, rfl⟩, h⟩
theorem wildO_call (hn : i ∉ wild) (hw : Region.wanted o (yielded ops a.tmps) = true) (hd : (match o.dst with | some d => decide (d < a.tmps.size) | none => false) = true)
    (hx : ∃ A, (∀ (x : Past W) (K : Act → Prop), (∀ a', a' = A → K a') → o.quiet P a (fun w' => ∃ y : Past x.w, w' = y.w) K) ∧ wpWildM P ops wild Qh rest W A) : wpWildM P ops wild Qh ((i, o) :: rest) W a := by
  obtain ⟨A, h, hA⟩ := hx
  have h' : ∀ x : Past W, ∃ v, o.quietAt P a (fun w' => ∃ y : Past x.w, w' = y.w) x.w v ∧ a.put o.dst v = A := fun x => by
    obtain ⟨v, h1, h2⟩ := h x (fun a' => a' = A) fun _ h => h
    exact ⟨v, h1 x.w ⟨⟨x.w, Below.refl _ _⟩, rfl⟩, h2⟩
  obtain ⟨v, _, hv⟩ := h' ⟨W, Below.refl _ _⟩
  refine .inl ⟨hn, v, .inl ⟨hw, fun x => ?_⟩, by rw [hv]; exact hA⟩
  obtain ⟨u, h1, h2⟩ := h' x
  cases hq : o.dst with
  | none => rw [hq] at hd; cases hd
  | some d =>
    rw [hq] at hd h2 hv
    obtain rfl := put_inj (by simpa using hd) (h2.trans hv.symm)
    exact h1
theorem wildO_wild (hn : i ∈ wild) (hw : Region.wanted o (yielded ops a.tmps) = true)
    (h : ∀ (x : Past W) (K : Value → World → Prop), (∀ v w', wpWildM P ops wild Qh rest w' (a.put o.dst v) → K v w') → wildAt P o a x.w K) : wpWildM P ops wild Qh ((i, o) :: rest) W a :=
  .inr ⟨hn, hw, fun x => h x _ fun _ _ h => h⟩
end
end
end Go.Proofs.Ytpfkomglghmnfaa
