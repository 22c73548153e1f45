/- Blocks: which entries may be one, their text, how it is read, and that it goes and comes back; what is read is no longer than what it was read from: plain facts on bytes. Conditions: none. -/
import Derived.Test.YtpdfchaamedeoaaDoorEntMath
import Derived.Test.YtpdfchaamedeoaaDoorCode8
namespace Go.Proofs.YtpdfchaamedeoaaDoor
open Go

/-- How many bytes two keys have in common. -/
def commonB : List UInt8 → List UInt8 → Nat
  | a :: x, b :: y => if a = b then commonB x y + 1 else 0
  | [], _ => 0
  | _ :: _, [] => 0
theorem commonB_nil (a : List UInt8) : commonB [] a = 0 := by cases a <;> rfl
theorem commonB_nil' (a : List UInt8) : commonB a [] = 0 := by cases a <;> rfl
theorem commonB_le : ∀ a b : List UInt8, commonB a b ≤ a.length ∧ commonB a b ≤ b.length
  | [], b => by rw [commonB_nil]; exact ⟨Nat.zero_le _, Nat.zero_le _⟩
  | _ :: _, [] => ⟨Nat.zero_le _, Nat.zero_le _⟩
  | a :: x, b :: y => by
    have := commonB_le x y
    unfold commonB
    split
    · simp only [List.length_cons]; omega
    · exact ⟨Nat.zero_le _, Nat.zero_le _⟩
theorem commonB_take : ∀ a b : List UInt8, a.take (commonB a b) = b.take (commonB a b)
  | [], b => by rw [commonB_nil]; simp
  | _ :: _, [] => by rw [commonB_nil']; simp
  | a :: x, b :: y => by
    have := commonB_take x y
    unfold commonB
    split
    · rename_i h; rw [List.take_succ_cons, List.take_succ_cons, this, h]
    · simp
/-- Where both go on and are alike up to n, at least n. -/
theorem commonB_ge : ∀ (n : Nat) (a b : List UInt8), n ≤ a.length → n ≤ b.length → a.take n = b.take n → n ≤ commonB a b
  | 0, _, _, _, _, _ => Nat.zero_le _
  | n + 1, [], _, h, _, _ => by simp at h
  | n + 1, _ :: _, [], _, h, _ => by simp at h
  | n + 1, a :: x, b :: y, h1, h2, h3 => by
    rw [List.take_succ_cons, List.take_succ_cons] at h3
    injection h3 with h3 h4
    have := commonB_ge n x y (by simpa using h1) (by simpa using h2) h4
    unfold commonB
    rw [if_pos h3]
    omega
/-- Where they part. -/
theorem commonB_part : ∀ (n : Nat) (a b : List UInt8), n < a.length → n < b.length → a.getD n 0 ≠ b.getD n 0 → commonB a b ≤ n
  | _, [], _, h, _, _ => by simp at h
  | _, _ :: _, [], _, h, _ => by simp at h
  | 0, a :: x, b :: y, _, _, h => by
    unfold commonB
    rw [if_neg (by simpa using h)]
    exact Nat.le_refl _
  | n + 1, a :: x, b :: y, h1, h2, h3 => by
    have := commonB_part n x y (by simpa using h1) (by simpa using h2) (by simpa using h3)
    unfold commonB
    split
    · omega
    · exact Nat.zero_le _
theorem take_getD : ∀ (n : Nat) (a b : List UInt8), n < a.length → n < b.length → a.take n = b.take n → a.getD n 0 = b.getD n 0 → a.take (n + 1) = b.take (n + 1) := by
  intro n a b h1 h2 h3 h4
  rw [List.take_succ_eq_append_getElem h1, List.take_succ_eq_append_getElem h2, h3]
  rw [List.getD_eq_getElem?_getD, List.getD_eq_getElem?_getD, List.getElem?_eq_getElem h1, List.getElem?_eq_getElem h2] at h4
  have h5 : a[n] = b[n] := h4
  rw [h5]

/-- The error of an entry behind a key. -/
def oneB (x : Ent) (ahead : List UInt8) : Nat :=
  if x.key = [] ∨ (x.gone = true ∧ x.val ≠ []) then 3
  else if 100 < x.key.length ∨ 4000 < x.val.length then 2
  else if ahead < x.key then 0 else 3
def goB : List UInt8 → List Ent → Nat
  | _, [] => 0
  | a, x :: l => if oneB x a = 0 then goB x.key l else oneB x a
def checkB (l : List Ent) : Nat := if 256 < l.length then 2 else goB [] l
theorem oneB_zero {x : Ent} {a : List UInt8} : oneB x a = 0 ↔ x.key ≠ [] ∧ (x.gone = true → x.val = []) ∧ x.key.length ≤ 100 ∧ x.val.length ≤ 4000 ∧ a < x.key := by
  unfold oneB
  constructor
  · intro h
    split at h
    · cases h
    · rename_i h1
      split at h
      · cases h
      · rename_i h2
        split at h
        · rename_i h3
          refine ⟨fun e => h1 (.inl e), fun e => ?_, by omega, by omega, h3⟩
          by_cases hv : x.val = []
          · exact hv
          · exact absurd (.inr ⟨e, hv⟩) h1
        · cases h
  · rintro ⟨h1, h2, h3, h4, h5⟩
    rw [if_neg (fun e => e.elim h1 (fun q => q.2 (h2 q.1))), if_neg (by omega), if_pos h5]
theorem goB_cons_ok {x : Ent} {a : List UInt8} {l : List Ent} (h : oneB x a = 0) : goB a (x :: l) = goB x.key l := by rw [goB, if_pos h]
theorem goB_cons_bad {x : Ent} {a : List UInt8} {l : List Ent} (h : oneB x a ≠ 0) : goB a (x :: l) = oneB x a := by rw [goB, if_neg h]
theorem goB_zero : ∀ {l : List Ent} {a : List UInt8}, goB a l = 0 → rising l ∧ ∀ x ∈ l, x.key ≠ [] ∧ (x.gone = true → x.val = []) ∧ x.key.length ≤ 100 ∧ x.val.length ≤ 4000 ∧ a < x.key
  | [], _, _ => ⟨List.Pairwise.nil, fun x h => by cases h⟩
  | x :: l, a, h => by
    by_cases h1 : oneB x a = 0
    · rw [goB_cons_ok h1] at h
      obtain ⟨h2, h3⟩ := goB_zero h
      obtain ⟨k1, k2, k3, k4, k5⟩ := oneB_zero.1 h1
      refine ⟨List.Pairwise.cons (fun y hy => (h3 y hy).2.2.2.2) h2, fun y hy => ?_⟩
      rcases List.mem_cons.1 hy with rfl | hy
      · exact ⟨k1, k2, k3, k4, k5⟩
      · obtain ⟨q1, q2, q3, q4, q5⟩ := h3 y hy
        exact ⟨q1, q2, q3, q4, klt_trans k5 q5⟩
    · rw [goB_cons_bad h1] at h
      exact absurd h h1
theorem goB_drop {l : List Ent} {i : Nat} {x : Ent} {a : List UInt8} (h : l[i]? = some x) : goB a (l.drop i) = if oneB x a = 0 then goB x.key (l.drop (i + 1)) else oneB x a := by
  have hl := (List.getElem?_eq_some_iff.1 h)
  rw [List.drop_eq_getElem_cons hl.1, hl.2, goB]

/-- An entry behind a key, as bytes. -/
def encE (a : List UInt8) (x : Ent) : List UInt8 :=
  numBytes (commonB a x.key) ++ (numBytes (x.key.length - commonB a x.key) ++ x.key.drop (commonB a x.key)) ++ [if x.gone then 1 else 0] ++ (if x.gone then [] else numBytes x.val.length ++ x.val)
def encB : List UInt8 → List Ent → List UInt8
  | _, [] => []
  | a, x :: l => encE a x ++ encB x.key l
def textB (l : List Ent) : List UInt8 := numBytes l.length ++ encB [] l
theorem encB_take : ∀ (l : List Ent) (i : Nat) (x : Ent) (a : List UInt8), l[i]? = some x → encB a (l.take (i + 1)) = encB a (l.take i) ++ encE (if 0 < i then (l.getD (i - 1) x).key else a) x
  | [], i, x, _, h => by simp at h
  | y :: l, 0, x, a, h => by
    obtain rfl : y = x := by simpa using h
    simp [encB]
  | y :: l, i + 1, x, a, h => by
    have := encB_take l i x y.key (by simpa using h)
    rw [List.take_succ_cons, List.take_succ_cons, encB, encB, this, List.append_assoc]
    congr 3
    by_cases hi : 0 < i
    · rw [if_pos hi, if_pos (by omega)]
      obtain ⟨j, rfl⟩ : ∃ j, i = j + 1 := ⟨i - 1, by omega⟩
      simp
    · obtain rfl : i = 0 := by omega
      simp

/-- What is read of an entry behind a key: the error (0: none), the entry, what is left, the reader's error. -/
structure RdB where
  fail : Int
  ent : Ent
  rest : ByteArray
  err : Int
def rdB (s : ByteArray) (e : Int) (a : List UInt8) : RdB :=
  let n := numV s e
  let t := textV (numS s e) (numE s e)
  let s2 := textR (numS s e) (numE s e)
  let e2 := textE (numS s e) (numE s e)
  let g := flagV s2 e2
  let s3 := takeR s2 e2 1
  let e3 := octE s2 e2 1
  let v := if g then txt [] else textV s3 e3
  let s4 := if g then s3 else textR s3 e3
  let e4 := if g then e3 else textE s3 e3
  let k := a.take n.toNat ++ t.data.toList
  if e4 ≠ 0 ∧ e4 ≠ 3 then ⟨e4, ⟨[], [], false⟩, s4, e4⟩
  else if (a.length : Int) < n then ⟨3, ⟨[], [], false⟩, s4, e4⟩
  else if n < commonB a k then ⟨3, ⟨[], [], false⟩, s4, e4⟩
  else ⟨0, ⟨k, v.data.toList, g⟩, s4, e4⟩
/-- So many entries, one behind the other. -/
structure RdsB where
  fail : Int
  list : List Ent
  rest : ByteArray
  err : Int
def rdsB : Nat → ByteArray → Int → List UInt8 → RdsB
  | 0, s, e, _ => ⟨0, [], s, e⟩
  | n + 1, s, e, a =>
    let q := rdB s e a
    if q.fail ≠ 0 then ⟨q.fail, [], q.rest, q.err⟩
    else let r := rdsB n q.rest q.err q.ent.key
      ⟨r.fail, q.ent :: r.list, r.rest, r.err⟩
/-- What a reader says in the end. -/
def doneR (s : ByteArray) (e : Int) : Int := if e = 0 ∧ s.size ≠ 0 then 3 else e
theorem doneR_zero {s : ByteArray} {e : Int} (h : doneR s e = 0) : e = 0 ∧ s.size = 0 := by
  unfold doneR at h
  split at h
  · cases h
  · rename_i k
    subst h
    refine ⟨rfl, ?_⟩
    by_cases q : s.size = 0
    · exact q
    · exact absurd ⟨rfl, q⟩ k
/-- What is read of a frame's text: the error, the entries. -/
def readB (t : List UInt8) : Int × List Ent :=
  let r := rdsB (belV (txt t) 0 257).toNat (numS (txt t) 0) (belE (txt t) 0 257) []
  let d := doneR r.rest r.err
  if r.fail ≠ 0 then (r.fail, [])
  else if d ≠ 0 then (d, [])
  else if checkB r.list ≠ 0 then (checkB r.list, [])
  else (0, r.list)

theorem flag_read (b : Bool) (l : List UInt8) : flagV (txt ((if b then 1 else 0) :: l)) 0 = b ∧ takeR (txt ((if b then 1 else 0) :: l)) 0 1 = txt l ∧ octE (txt ((if b then 1 else 0) :: l)) 0 1 = 0 := by
  cases b
  · exact ⟨by rw [flagV, octV_cons _ _ _ (by decide)]; rfl, takeR_list _ 1 (by simp), octE_cons _ _ _ (by decide)⟩
  · exact ⟨by rw [flagV, octV_cons _ _ _ (by decide)]; rfl, takeR_list _ 1 (by simp), octE_cons _ _ _ (by decide)⟩
/-- An entry that was written is read. -/
theorem rdB_enc (a : List UInt8) (x : Ent) (l : List UInt8) (hk : x.key.length ≤ 100) (hv : x.val.length ≤ 4000) (hg : x.gone = true → x.val = []) : rdB (txt (encE a x ++ l)) 0 a = ⟨0, x, txt l, 0⟩ := by
  obtain ⟨c1, c2⟩ := commonB_le a x.key
  have ct := commonB_take a x.key
  obtain ⟨n, hn⟩ : ∃ n, commonB a x.key = n := ⟨_, rfl⟩
  have hkey : a.take n ++ x.key.drop n = x.key := by rw [← hn, ct, List.take_append_drop]
  unfold encE
  rw [hn] at c1 c2 ⊢
  obtain ⟨k, v, g⟩ := x
  simp only at hk hv hg c1 c2 hn hkey ⊢
  have hd : (k.drop n).length = k.length - n := List.length_drop
  rw [show numBytes n ++ (numBytes (k.length - n) ++ k.drop n) ++ [if g = true then 1 else 0] ++ (if g = true then [] else numBytes v.length ++ v) ++ l = numBytes n ++ (numBytes (k.drop n).length ++ k.drop n ++ ((if g then 1 else 0) :: ((if g = true then [] else numBytes v.length ++ v) ++ l))) by
    rw [hd]; simp only [List.append_assoc, List.cons_append, List.nil_append]]
  obtain ⟨n1, n2, n3⟩ := num_read n (numBytes (k.drop n).length ++ k.drop n ++ ((if g then 1 else 0) :: ((if g = true then [] else numBytes v.length ++ v) ++ l))) (by omega)
  obtain ⟨t1, t2, t3⟩ := text_read (k.drop n) ((if g then 1 else 0) :: ((if g = true then [] else numBytes v.length ++ v) ++ l)) (by omega)
  obtain ⟨f1, f2, f3⟩ := flag_read g ((if g = true then [] else numBytes v.length ++ v) ++ l)
  unfold rdB
  simp only [n1, n2, n3, t1, t2, t3, f1, f2, f3]
  have hk2 : a.take (n : Int).toNat ++ (txt (k.drop n)).data.toList = k := by
    rw [Int.toNat_natCast]
    exact hkey
  rw [hk2, hn]
  cases g with
  | true =>
    obtain rfl := hg rfl
    simp only [if_true, List.nil_append]
    rw [if_neg (by omega), if_neg (by omega), if_neg (by omega)]
  | false =>
    obtain ⟨v1, v2, v3⟩ := text_read v l (by omega)
    simp only [Bool.false_eq_true, if_false, v1, v2, v3]
    rw [if_neg (by omega), if_neg (by omega), if_neg (by omega)]
theorem rdsB_enc : ∀ (l : List Ent) (a m : List UInt8), (∀ x ∈ l, x.key.length ≤ 100 ∧ x.val.length ≤ 4000 ∧ (x.gone = true → x.val = [])) → rdsB l.length (txt (encB a l ++ m)) 0 a = ⟨0, l, txt m, 0⟩
  | [], a, m, _ => rfl
  | x :: l, a, m, h => by
    obtain ⟨h1, h2, h3⟩ := h x (by simp)
    have := rdsB_enc l x.key m fun y hy => h y (by simp [hy])
    rw [encB, List.append_assoc, List.length_cons, rdsB, rdB_enc a x _ h1 h2 h3]
    simp only [ne_eq, not_true_eq_false, if_false]
    rw [this]
/-- What was written is read. -/
theorem readB_text (l : List Ent) (h : checkB l = 0) : readB (textB l) = (0, l) := by
  have hc := h
  unfold checkB at h
  split at h
  · cases h
  · rename_i hl
    obtain ⟨_, h2⟩ := goB_zero h
    obtain ⟨n1, n2, n3⟩ := num_read l.length (encB [] l) (by omega)
    have b1 : belV (txt (numBytes l.length ++ encB [] l)) 0 257 = l.length := by rw [belV, if_neg (by omega), n1]
    have b2 : belE (txt (numBytes l.length ++ encB [] l)) 0 257 = 0 := by rw [belE, if_neg (by omega), n3]
    have := rdsB_enc l [] [] fun x hx => ⟨(h2 x hx).2.2.1, (h2 x hx).2.2.2.1, (h2 x hx).2.1⟩
    rw [List.append_nil] at this
    unfold readB textB
    rw [b1, b2, n2, Int.toNat_natCast, this]
    simp only [ne_eq, not_true_eq_false, if_false]
    rw [if_neg (by simp [doneR, txt_size]), if_neg (by rw [hc]; simp)]
theorem flag_one (l : List UInt8) (h : octE (txt l) 0 1 = 0) : ∃ m, l = (if flagV (txt l) 0 then 1 else 0) :: m ∧ takeR (txt l) 0 1 = txt m := by
  cases l with
  | nil => rw [octE_nil] at h; cases h
  | cons c m =>
    have hc : (c.toNat : Int) ≤ 1 := by
      by_cases k : (c.toNat : Int) ≤ 1
      · exact k
      · rw [octE_big _ _ _ (by omega)] at h; cases h
    refine ⟨m, ?_, takeR_list _ 1 (by simp)⟩
    rw [flagV, octV_cons _ _ _ hc]
    congr 1
    rcases (by omega : c.toNat = 0 ∨ c.toNat = 1) with q | q
    · rw [q]
      exact UInt8.toNat_inj.1 q
    · rw [q]
      exact UInt8.toNat_inj.1 q
theorem octE_err0 {s : ByteArray} {e : Int} (h : octE s e 1 = 0) : e = 0 := by
  by_cases k : e = 0
  · exact k
  · rw [octE_err _ _ _ k] at h; exact absurd h k
theorem textE_err0 {s : ByteArray} {e : Int} (h : textE s e = 0) : e = 0 := by
  by_cases k : e = 0
  · exact k
  · rw [(text_err s e k).2.2] at h; exact absurd h k
theorem numE_err0 {s : ByteArray} {e : Int} (h : numE s e = 0) : e = 0 := by
  by_cases k : e = 0
  · exact k
  · rw [(num_err s e k).2.2] at h; exact absurd h k
/-- What is read without an error was written so. -/
theorem rdB_one (l a : List UInt8) (x : Ent) (s : ByteArray) (h : rdB (txt l) 0 a = ⟨0, x, s, 0⟩) (hv : x.gone = true → x.val = []) : ∃ m, s = txt m ∧ l = encE a x ++ m := by
  unfold rdB at h
  simp only at h
  obtain ⟨E4, hE4⟩ : ∃ E4, (if flagV (textR (numS (txt l) 0) (numE (txt l) 0)) (textE (numS (txt l) 0) (numE (txt l) 0)) = true then octE (textR (numS (txt l) 0) (numE (txt l) 0)) (textE (numS (txt l) 0) (numE (txt l) 0)) 1 else textE (takeR (textR (numS (txt l) 0) (numE (txt l) 0)) (textE (numS (txt l) 0) (numE (txt l) 0)) 1) (octE (textR (numS (txt l) 0) (numE (txt l) 0)) (textE (numS (txt l) 0) (numE (txt l) 0)) 1)) = E4 := ⟨_, rfl⟩
  rw [hE4] at h
  have e40 : E4 = 0 := by
    split at h
    · injection h
    · split at h
      · injection h
      · split at h <;> injection h
  subst e40
  have o3 : octE (textR (numS (txt l) 0) (numE (txt l) 0)) (textE (numS (txt l) 0) (numE (txt l) 0)) 1 = 0 := by
    split at hE4
    · exact hE4
    · exact textE_err0 hE4
  have o2 := octE_err0 o3
  have o1 := textE_err0 o2
  obtain ⟨n, hn, n1, m1, n2, rfl⟩ := num_one l o1
  rw [n2, o1] at o2 o3 hE4
  rw [n1, n2, o1] at h
  obtain ⟨t, ht, t1, m2, t2, rfl⟩ := text_one m1 o2
  rw [t2, o2] at o3 hE4
  rw [t1, t2, o2] at h
  obtain ⟨m3, f1, f2⟩ := flag_one m2 o3
  rw [f2, o3] at hE4 h
  rw [if_neg (by simp)] at h
  split at h
  · injection h with q; cases q
  · rename_i ha
    split at h
    · injection h with q; cases q
    · rename_i hc
      injection h with _ hx hs _
      rw [Int.toNat_natCast, show (txt t).data.toList = t from rfl] at hx hc
      have na : n ≤ a.length := by omega
      have hlen : (a.take n).length = n := by rw [List.length_take]; omega
      have hge : n ≤ commonB a (a.take n ++ t) := commonB_ge n _ _ na (by rw [List.length_append, hlen]; omega) (by rw [List.take_append_of_le_length (by omega), List.take_take, Nat.min_self])
      have hcn : commonB a (a.take n ++ t) = n := by omega
      have hdrop : (a.take n ++ t).drop n = t := by rw [List.drop_append, hlen, Nat.sub_self, List.drop_zero, List.drop_eq_nil_of_le (by omega), List.nil_append]
      have hklen : (a.take n ++ t).length - n = t.length := by rw [List.length_append, hlen]; omega
      by_cases hg : flagV (txt m2) 0 = true
      · rw [hg] at hx hs f1
        simp only [if_true] at hx hs f1
        subst hx hs
        refine ⟨m3, rfl, ?_⟩
        unfold encE
        simp only [hcn, hdrop, hklen, if_true]
        rw [f1]
        simp only [List.append_assoc, List.cons_append, List.nil_append]
      · have hg : flagV (txt m2) 0 = false := by simpa using hg
        rw [hg] at hx hs f1 hE4
        simp only [Bool.false_eq_true, if_false] at hx hs f1 hE4
        obtain ⟨v, hvl, v1, m4, v2, rfl⟩ := text_one m3 hE4
        rw [v1] at hx
        rw [v2] at hs
        subst hx hs
        refine ⟨m4, rfl, ?_⟩
        unfold encE
        simp only [hcn, hdrop, hklen, Bool.false_eq_true, if_false]
        rw [f1]
        simp only [List.append_assoc, List.cons_append, List.nil_append]
theorem rdB_eta : ∀ r : RdB, r.fail = 0 → r.err = 0 → r = ⟨0, r.ent, r.rest, 0⟩
  | ⟨f, x, s, e⟩, h1, h2 => by
    have h1 : f = 0 := h1
    have h2 : e = 0 := h2
    subst h1 h2
    rfl
theorem rdB_err (s : ByteArray) (e : Int) (a : List UInt8) (h : e ≠ 0) : (rdB s e a).fail = 0 → (rdB s e a).err ≠ 0 := by
  intro hf he
  unfold rdB at hf he
  simp only at hf he
  obtain ⟨E, hE⟩ : ∃ E, (if flagV (textR (numS s e) (numE s e)) (textE (numS s e) (numE s e)) = true then octE (textR (numS s e) (numE s e)) (textE (numS s e) (numE s e)) 1 else textE (takeR (textR (numS s e) (numE s e)) (textE (numS s e) (numE s e)) 1) (octE (textR (numS s e) (numE s e)) (textE (numS s e) (numE s e)) 1)) = E := ⟨_, rfl⟩
  rw [hE] at hf he
  have key : E = 0 := by
    split at he
    · exact he
    · split at he
      · exact he
      · split at he <;> exact he
  subst key
  have o3 : octE (textR (numS s e) (numE s e)) (textE (numS s e) (numE s e)) 1 = 0 := by
    split at hE
    · exact hE
    · exact textE_err0 hE
  exact h (numE_err0 (textE_err0 (octE_err0 o3)))
theorem rdsB_err : ∀ (n : Nat) (s : ByteArray) (e : Int) (a : List UInt8), e ≠ 0 → (rdsB n s e a).fail = 0 → (rdsB n s e a).err ≠ 0
  | 0, s, e, a, h, _ => h
  | n + 1, s, e, a, h, hf => by
    rw [rdsB] at hf ⊢
    simp only at hf ⊢
    split at hf
    · rename_i q
      exact absurd hf q
    · rename_i q
      have q0 : (rdB s e a).fail = 0 := by simpa using q
      rw [if_neg q]
      exact rdsB_err n _ _ _ (rdB_err s e a h q0) hf
theorem rdsB_one : ∀ (n : Nat) (l a : List UInt8), (rdsB n (txt l) 0 a).fail = 0 → (rdsB n (txt l) 0 a).err = 0 → (∀ x ∈ (rdsB n (txt l) 0 a).list, x.gone = true → x.val = []) →
    (rdsB n (txt l) 0 a).list.length = n ∧ ∃ m, (rdsB n (txt l) 0 a).rest = txt m ∧ l = encB a (rdsB n (txt l) 0 a).list ++ m
  | 0, l, a, _, _, _ => ⟨rfl, l, rfl, rfl⟩
  | n + 1, l, a, hf, he, hx => by
    rw [rdsB] at hf he hx ⊢
    simp only at hf he hx ⊢
    split at hf
    · rename_i q
      exact absurd hf q
    · rename_i q
      have q0 : (rdB (txt l) 0 a).fail = 0 := by simpa using q
      rw [if_neg q] at he hx ⊢
      simp only at he hx ⊢
      have q1 : (rdB (txt l) 0 a).err = 0 := by
        by_cases k : (rdB (txt l) 0 a).err = 0
        · exact k
        · exact absurd he (rdsB_err n _ _ _ k hf)
      obtain ⟨m, hm, hl⟩ := rdB_one l a (rdB (txt l) 0 a).ent (rdB (txt l) 0 a).rest (rdB_eta _ q0 q1) (hx _ (by simp))
      rw [q1, hm] at hf he hx ⊢
      obtain ⟨h1, m2, h2, h3⟩ := rdsB_one n m (rdB (txt l) 0 a).ent.key hf he fun x k => hx x (by simp [k])
      refine ⟨by rw [List.length_cons, h1], m2, h2, ?_⟩
      rw [encB, List.append_assoc, ← h3]
      exact hl
theorem checkB_gone {l : List Ent} (h : checkB l = 0) : ∀ x ∈ l, x.gone = true → x.val = [] := by
  unfold checkB at h
  split at h
  · cases h
  · exact fun x hx => ((goB_zero h).2 x hx).2.1
/-- What is read without an error was written so: there is one spelling. -/
theorem readB_one (t : List UInt8) (h : (readB t).1 = 0) : checkB (readB t).2 = 0 ∧ t = textB (readB t).2 := by
  unfold readB at h ⊢
  simp only at h ⊢
  split at h
  · rename_i q
    exact absurd h q
  · rename_i q
    have q0 : (rdsB (belV (txt t) 0 257).toNat (numS (txt t) 0) (belE (txt t) 0 257) []).fail = 0 := by simpa using q
    rw [if_neg q]
    split at h
    · rename_i k
      exact absurd h k
    · rename_i k
      rw [if_neg k]
      obtain ⟨he, hz⟩ := doneR_zero (Decidable.not_not.1 k)
      split at h
      · rename_i c
        exact absurd h (by simpa using c)
      · rename_i c
        have c0 : checkB (rdsB (belV (txt t) 0 257).toNat (numS (txt t) 0) (belE (txt t) 0 257) []).list = 0 := by simpa using c
        rw [if_neg c]
        clear h k c q
        have hb : belE (txt t) 0 257 = 0 := by
          by_cases e : belE (txt t) 0 257 = 0
          · exact e
          · exact absurd he (rdsB_err _ _ _ _ e q0)
        obtain ⟨b1, b2, b3⟩ := belE_le 257 hb
        obtain ⟨n, hn, n1, m, n2, rfl⟩ := num_one t b1
        rw [b3, n1, Int.toNat_natCast, n2, hb] at q0 he hz c0 ⊢
        obtain ⟨h1, m2, h2, h3⟩ := rdsB_one n m [] q0 he (checkB_gone c0)
        rw [h2, txt_size] at hz
        obtain rfl := List.eq_nil_of_length_eq_zero hz
        rw [List.append_nil] at h3
        refine ⟨c0, ?_⟩
        unfold textB
        rw [h1, ← h3]
end Go.Proofs.YtpdfchaamedeoaaDoor
namespace Go.Proofs.YtpdfchaamedeoaaDoor
open Go

theorem take_sz (s : ByteArray) (e : Int) (n : Nat) : (takeS s e n).size + (takeR s e n).size ≤ s.size := by
  unfold takeS takeR
  by_cases h : e = 0 ∧ n ≤ s.size
  · rw [if_pos h, if_pos h, ByteArray.size_extract, ByteArray.size_extract]
    have := h.2
    omega
  · rw [if_neg h, if_neg h]
    show 0 + s.size ≤ s.size
    omega
theorem takeR_sz (s : ByteArray) (e : Int) (n : Nat) : (takeR s e n).size ≤ s.size := by
  have := take_sz s e n
  omega
theorem numS_sz (s : ByteArray) (e : Int) : (numS s e).size ≤ s.size := by
  unfold numS
  exact Nat.le_trans (takeR_sz _ _ _) (takeR_sz _ _ _)
theorem text_sz (s : ByteArray) (e : Int) : (textV s e).size + (textR s e).size ≤ s.size := by
  unfold textV textR
  exact Nat.le_trans (take_sz _ _ _) (numS_sz s e)
theorem numV_errB (R : ByteArray) (err : Int) (h : numE R err ≠ 0) : numV R err = 0 := by
  unfold numE at h
  unfold numV numOk
  split
  · rfl
  · rename_i hz
    split
    · rfl
    · rename_i hb
      exfalso
      rw [if_neg (fun e => hb e.2)] at h
      refine hz ?_
      unfold numE0 takeE at h
      unfold numT takeS
      split at h
      · rename_i e
        rw [if_neg (fun e2 => by omega)]
        rfl
      · rw [if_neg (fun e2 => h e2.1)]
        rfl
theorem belV_range (s : ByteArray) (e m : Int) (hm : 0 < m) : 0 ≤ belV s e m ∧ belV s e m < m := by
  unfold belV
  split
  · omega
  · rename_i h
    refine ⟨numV_nonneg s e, ?_⟩
    by_cases k : numE s e = 0
    · have : ¬ m ≤ numV s e := fun q => h ⟨k, q⟩
      omega
    · rw [numV_errB s e k]
      exact hm
theorem rdB_sz (s : ByteArray) (e : Int) (a : List UInt8) : (rdB s e a).ent.key.length + (rdB s e a).rest.size ≤ a.length + s.size ∧ (rdB s e a).ent.val.length ≤ s.size ∧ (rdB s e a).rest.size ≤ s.size := by
  have h1 := numS_sz s e
  have h2 := text_sz (numS s e) (numE s e)
  have h3 := takeR_sz (textR (numS s e) (numE s e)) (textE (numS s e) (numE s e)) 1
  have h4 := text_sz (takeR (textR (numS s e) (numE s e)) (textE (numS s e) (numE s e)) 1) (octE (textR (numS s e) (numE s e)) (textE (numS s e) (numE s e)) 1)
  have h5 : ∀ n, (a.take n).length ≤ a.length := fun n => by rw [List.length_take]; exact Nat.min_le_right _ _
  unfold rdB
  simp only
  generalize numV s e = n at *
  generalize textV (numS s e) (numE s e) = t at *
  generalize textR (numS s e) (numE s e) = s2 at *
  generalize textE (numS s e) (numE s e) = e2 at *
  generalize flagV s2 e2 = g at *
  generalize textV (takeR s2 e2 1) (octE s2 e2 1) = v at *
  generalize textR (takeR s2 e2 1) (octE s2 e2 1) = s4 at *
  generalize textE (takeR s2 e2 1) (octE s2 e2 1) = e4 at *
  generalize takeR s2 e2 1 = s3 at *
  generalize octE s2 e2 1 = e3 at *
  have q1 : (if g = true then s3 else s4).size ≤ s2.size := by
    cases g
    · simp only [Bool.false_eq_true, if_false]; omega
    · simp only [if_true]; omega
  have q2 : (if g = true then txt [] else v).data.toList.length ≤ s.size := by
    cases g
    · simp only [Bool.false_eq_true, if_false]
      show v.size ≤ _
      omega
    · simp only [if_true]
      exact Nat.zero_le _
  have q3 : t.data.toList.length = t.size := rfl
  have q4 := h5 n.toNat
  generalize (if g = true then s3 else s4) = S4 at *
  generalize (if g = true then txt [] else v) = V at *
  generalize (if g = true then e3 else e4) = E4 at *
  split
  · exact ⟨by simp only [List.length_nil]; omega, Nat.zero_le _, by simp only; omega⟩
  · split
    · exact ⟨by simp only [List.length_nil]; omega, Nat.zero_le _, by simp only; omega⟩
    · split
      · exact ⟨by simp only [List.length_nil]; omega, Nat.zero_le _, by simp only; omega⟩
      · refine ⟨?_, q2, by simp only; omega⟩
        simp only [List.length_append]
        omega
theorem rdsB_step (n : Nat) (s : ByteArray) (e : Int) (a : List UInt8) : rdsB (n + 1) s e a = if (rdB s e a).fail ≠ 0 then ⟨(rdB s e a).fail, [], (rdB s e a).rest, (rdB s e a).err⟩ else ⟨(rdsB n (rdB s e a).rest (rdB s e a).err (rdB s e a).ent.key).fail, (rdB s e a).ent :: (rdsB n (rdB s e a).rest (rdB s e a).err (rdB s e a).ent.key).list, (rdsB n (rdB s e a).rest (rdB s e a).err (rdB s e a).ent.key).rest, (rdsB n (rdB s e a).rest (rdB s e a).err (rdB s e a).ent.key).err⟩ := by
  rw [rdsB]
/-- Entries that were read, and those that are still to be read. -/
def behindB (L : List Ent) (r : RdsB) : RdsB := ⟨r.fail, L ++ r.list, r.rest, r.err⟩
theorem behindB_nil (r : RdsB) : behindB [] r = r := rfl
theorem behindB_ok {L : List Ent} {n : Nat} {s : ByteArray} {e : Int} {a : List UInt8} (h : (rdB s e a).fail = 0) : behindB L (rdsB (n + 1) s e a) = behindB (L ++ [(rdB s e a).ent]) (rdsB n (rdB s e a).rest (rdB s e a).err (rdB s e a).ent.key) := by
  rw [rdsB_step, if_neg (by rw [h]; decide)]
  unfold behindB
  simp
theorem behindB_bad {L : List Ent} {n : Nat} {s : ByteArray} {e : Int} {a : List UInt8} (h : (rdB s e a).fail ≠ 0) : (behindB L (rdsB (n + 1) s e a)).fail = (rdB s e a).fail := by
  rw [rdsB_step, if_pos h]
  rfl
end Go.Proofs.YtpdfchaamedeoaaDoor
