/- What is written of a node is read again, and there is one spelling: in lists of bytes. Conditions: none. -/
import Derived.Test.YtnffmgpnhlcakaaDoorNodeR3
namespace Go.Proofs.YtnffmgpnhlcakaaDoor
open Go Go.RowKit

theorem nr_label (a : Lab) (r : List UInt8) : labelV (txt (a.l ++ r)) 0 = a ∧ takeR (txt (a.l ++ r)) 0 32 = txt r ∧ takeE (txt (a.l ++ r)) 0 32 = 0 := by
  have hl : 32 ≤ (a.l ++ r).length := by rw [List.length_append, a.h]; omega
  refine ⟨?_, ?_, takeE_list _ _ hl⟩
  · rw [labelV, dif_pos ⟨rfl, by rw [txt_size]; exact hl⟩]
    obtain ⟨a, ha⟩ := a
    simp only [Lab.mk.injEq]
    rw [← ha]
    simp
  · rw [takeR_list _ _ hl, ← a.h, List.drop_left]
theorem nr_flag (v : Bool) (r : List UInt8) : flagV (txt ((if v then (1 : UInt8) else 0) :: r)) 0 = v ∧ takeR (txt ((if v then (1 : UInt8) else 0) :: r)) 0 1 = txt r ∧ octE (txt ((if v then (1 : UInt8) else 0) :: r)) 0 1 = 0 := by
  have hc : (((if v then (1 : UInt8) else 0).toNat : Nat) : Int) ≤ 1 := by cases v <;> decide
  refine ⟨?_, ?_, octE_cons _ _ _ hc⟩
  · rw [flagV, octV_cons _ _ _ hc]
    cases v <;> rfl
  · rw [takeR_list _ _ (by simp)]
    rfl
theorem nr_label1 (l : List UInt8) (h : takeE (txt l) 0 32 = 0) : ∃ m, takeR (txt l) 0 32 = txt m ∧ l = (labelV (txt l) 0).l ++ m := by
  have hl : 32 ≤ l.length := by
    rcases Nat.lt_or_ge l.length 32 with k | k
    · rw [takeE_short _ _ k] at h; cases h
    · exact k
  refine ⟨l.drop 32, takeR_list _ _ hl, ?_⟩
  rw [labelV, dif_pos ⟨rfl, by rw [txt_size]; exact hl⟩]
  exact (List.take_append_drop 32 l).symm
theorem nr_flag1 (l : List UInt8) (h : octE (txt l) 0 1 = 0) : ∃ m, takeR (txt l) 0 1 = txt m ∧ l = (if flagV (txt l) 0 = true then (1 : UInt8) else 0) :: m := by
  match l with
  | [] => rw [octE_nil] at h; cases h
  | c :: m =>
    have hc : (c.toNat : Int) ≤ 1 := by
      rcases Classical.em ((c.toNat : Int) ≤ 1) with k | k
      · exact k
      · rw [octE_big _ _ _ (by omega)] at h; cases h
    refine ⟨m, by rw [takeR_list _ _ (by simp)]; rfl, ?_⟩
    rw [flagV, octV_cons _ _ _ hc]
    congr 1
    rcases (by omega : c.toNat = 0 ∨ c.toNat = 1) with k | k
    · rw [k]
      exact UInt8.toNat_inj.1 k
    · rw [k]
      exact UInt8.toNat_inj.1 k

theorem item_at {x : Itm} (hx : goodI x = true) (r : List UInt8) : iX (txt (itW x ++ r)) 0 = x ∧ iR4 (txt (itW x ++ r)) 0 = txt r ∧ iE4 (txt (itW x ++ r)) 0 = 0 := by
  obtain ⟨⟨n, hn, hn2⟩, m, hm, hm2⟩ := good_nums hx
  have e : itW x ++ r = numBytes n ++ (x.b.l ++ (x.s.l ++ (numBytes m ++ r))) := by
    unfold itW
    rw [hn, hm, Int.toNat_natCast, Int.toNat_natCast]
    simp only [List.append_assoc]
  obtain ⟨a1, a2, a3⟩ := num_read n (x.b.l ++ (x.s.l ++ (numBytes m ++ r))) (by omega)
  obtain ⟨b1, b2, b3⟩ := nr_label x.b (x.s.l ++ (numBytes m ++ r))
  obtain ⟨c1, c2, c3⟩ := nr_label x.s (numBytes m ++ r)
  obtain ⟨d1, d2, d3⟩ := num_read m r (by omega)
  rw [e]
  have h2 : iR2 (txt (numBytes n ++ (x.b.l ++ (x.s.l ++ (numBytes m ++ r))))) 0 = txt (x.s.l ++ (numBytes m ++ r)) := by rw [iR2, a2, a3, b2]
  have h2e : iE2 (txt (numBytes n ++ (x.b.l ++ (x.s.l ++ (numBytes m ++ r))))) 0 = 0 := by rw [iE2, a2, a3, b3]
  have h3 : iR3 (txt (numBytes n ++ (x.b.l ++ (x.s.l ++ (numBytes m ++ r))))) 0 = txt (numBytes m ++ r) := by rw [iR3, h2, h2e, c2]
  have h3e : iE3 (txt (numBytes n ++ (x.b.l ++ (x.s.l ++ (numBytes m ++ r))))) 0 = 0 := by rw [iE3, h2, h2e, c3]
  refine ⟨?_, by rw [iR4, h3, h3e, d2], by rw [iE4, h3, h3e, d3]⟩
  rw [iX, a1, a2, a3, b1, h2, h2e, c1, h3, h3e, d1, ← hn, ← hm]
theorem item_one (l : List UInt8) (h : iE4 (txt l) 0 = 0) : ∃ m, iR4 (txt l) 0 = txt m ∧ l = itW (iX (txt l) 0) ++ m := by
  have h3 : iE3 (txt l) 0 = 0 := numE_z h
  have h2 : iE2 (txt l) 0 = 0 := takeE_z h3
  have h1 : numE (txt l) 0 = 0 := takeE_z h2
  obtain ⟨n, hn, hv, m1, hm1, e1⟩ := num_one l h1
  unfold iE2 at h2
  rw [h1, hm1] at h2
  obtain ⟨m2, hm2, e2⟩ := nr_label1 m1 h2
  have r2 : iR2 (txt l) 0 = txt m2 := by rw [iR2, h1, hm1, hm2]
  have q2 : iE2 (txt l) 0 = 0 := by rw [iE2, h1, hm1, h2]
  unfold iE3 at h3
  rw [r2, q2] at h3
  obtain ⟨m3, hm3, e3⟩ := nr_label1 m2 h3
  have r3 : iR3 (txt l) 0 = txt m3 := by rw [iR3, r2, q2, hm3]
  have q3 : iE3 (txt l) 0 = 0 := by rw [iE3, r2, q2, h3]
  unfold iE4 at h
  rw [r3, q3] at h
  obtain ⟨k, hk, hv4, m4, hm4, e4⟩ := num_one m3 h
  refine ⟨m4, by rw [iR4, r3, q3, hm4], ?_⟩
  have hx : iX (txt l) 0 = ⟨n, labelV (txt m1) 0, labelV (txt m2) 0, k⟩ := by rw [iX, hv, h1, hm1, r2, q2, r3, q3, hv4]
  rw [hx, itW, Int.toNat_natCast, Int.toNat_natCast]
  simp only [List.append_assoc]
  rw [← e4, ← e3, ← e2]
  exact e1
theorem leaf_at {x : Lf} (hx : chkF x = 0) (r : List UInt8) : lX (txt (x.a.l ++ x.v.l ++ numBytes x.e.toNat ++ r)) 0 = x ∧ lR3 (txt (x.a.l ++ x.v.l ++ numBytes x.e.toNat ++ r)) 0 = txt r ∧ lE3 (txt (x.a.l ++ x.v.l ++ numBytes x.e.toNat ++ r)) 0 = 0 := by
  obtain ⟨m, hm, hm2⟩ := chkF_num hx
  have e : x.a.l ++ x.v.l ++ numBytes x.e.toNat ++ r = x.a.l ++ (x.v.l ++ (numBytes m ++ r)) := by
    rw [hm, Int.toNat_natCast]
    simp only [List.append_assoc]
  obtain ⟨b1, b2, b3⟩ := nr_label x.a (x.v.l ++ (numBytes m ++ r))
  obtain ⟨c1, c2, c3⟩ := nr_label x.v (numBytes m ++ r)
  obtain ⟨d1, d2, d3⟩ := num_read m r (by omega)
  rw [e]
  have h1 : lR1 (txt (x.a.l ++ (x.v.l ++ (numBytes m ++ r)))) 0 = txt (x.v.l ++ (numBytes m ++ r)) := b2
  have h1e : lE1 (txt (x.a.l ++ (x.v.l ++ (numBytes m ++ r)))) 0 = 0 := b3
  have h2 : lR2 (txt (x.a.l ++ (x.v.l ++ (numBytes m ++ r)))) 0 = txt (numBytes m ++ r) := by rw [lR2, h1, h1e, c2]
  have h2e : lE2 (txt (x.a.l ++ (x.v.l ++ (numBytes m ++ r)))) 0 = 0 := by rw [lE2, h1, h1e, c3]
  refine ⟨?_, by rw [lR3, h2, h2e, d2], by rw [lE3, h2, h2e, d3]⟩
  rw [lX, b1, h1, h1e, c1, h2, h2e, d1, ← hm]
theorem leaf_one (l : List UInt8) (h : lE3 (txt l) 0 = 0) : ∃ m, lR3 (txt l) 0 = txt m ∧ l = (lX (txt l) 0).a.l ++ (lX (txt l) 0).v.l ++ numBytes (lX (txt l) 0).e.toNat ++ m := by
  have h2 : lE2 (txt l) 0 = 0 := numE_z h
  have h1 : takeE (txt l) 0 32 = 0 := takeE_z h2
  obtain ⟨m1, hm1, e1⟩ := nr_label1 l h1
  have r1 : lR1 (txt l) 0 = txt m1 := hm1
  have q1 : lE1 (txt l) 0 = 0 := h1
  unfold lE2 at h2
  rw [r1, q1] at h2
  obtain ⟨m2, hm2, e2⟩ := nr_label1 m1 h2
  have r2 : lR2 (txt l) 0 = txt m2 := by rw [lR2, r1, q1, hm2]
  have q2 : lE2 (txt l) 0 = 0 := by rw [lE2, r1, q1, h2]
  unfold lE3 at h
  rw [r2, q2] at h
  obtain ⟨k, hk, hv, m3, hm3, e3⟩ := num_one m2 h
  refine ⟨m3, by rw [lR3, r2, q2, hm3], ?_⟩
  have hx : lX (txt l) 0 = ⟨labelV (txt l) 0, labelV (txt m1) 0, k⟩ := by rw [lX, r1, q1, r2, q2, hv]
  rw [hx]
  simp only [Int.toNat_natCast, List.append_assoc]
  rw [← e3, ← e2]
  exact e1
theorem doneV_zero {R : ByteArray} {e : Int} (h : doneV R e = 0) : e = 0 ∧ R.size = 0 := by
  unfold doneV at h
  split at h
  · cases h
  · rename_i k
    subst h
    exact ⟨rfl, Classical.byContradiction fun q => k ⟨rfl, q⟩⟩
theorem txt_none {m : List UInt8} (h : (txt m).size = 0) : m = [] := by
  rw [txt_size] at h
  exact List.eq_nil_of_length_eq_zero h
theorem nd_back (d : Nd) (h : chkN d = 0) : rdErr (stx (ndW d)) = 0 ∧ rdNd (stx (ndW d)) = d := by
  have key : rdN (stx (ndW d)) = d ∧ rdD (stx (ndW d)) = 0 := by
    cases d with
    | leaf x =>
      have hw : ndW (.leaf x) = (if false = true then (1 : UInt8) else 0) :: (x.a.l ++ x.v.l ++ numBytes x.e.toNat ++ []) := by rw [List.append_nil]; rfl
      obtain ⟨a1, a2, a3⟩ := nr_flag false (x.a.l ++ x.v.l ++ numBytes x.e.toNat ++ [])
      obtain ⟨b1, b2, b3⟩ := leaf_at (show chkF x = 0 from h) []
      have f : rdF (stx (ndW (.leaf x))) = false := by rw [hw]; exact a1
      have r : rdR (stx (ndW (.leaf x))) = txt (x.a.l ++ x.v.l ++ numBytes x.e.toNat ++ []) := by rw [hw]; exact a2
      have q : rdE (stx (ndW (.leaf x))) = 0 := by rw [hw]; exact a3
      refine ⟨?_, ?_⟩
      · rw [rdN, f, if_neg (by decide), r, q, b1]
      · rw [rdD, f, if_neg (by decide), r, q, b2, b3]
        rfl
    | inner x y =>
      have hg : goodI x = true ∧ goodI y = true := by
        have h : chkI x y = 0 := h
        unfold chkI at h
        split at h
        · rename_i k; rwa [Bool.and_eq_true] at k
        · cases h
      have hw : ndW (.inner x y) = (if true = true then (1 : UInt8) else 0) :: (itW x ++ (itW y ++ [])) := by rw [List.append_nil]; rfl
      obtain ⟨a1, a2, a3⟩ := nr_flag true (itW x ++ (itW y ++ []))
      obtain ⟨b1, b2, b3⟩ := item_at hg.1 (itW y ++ [])
      obtain ⟨c1, c2, c3⟩ := item_at hg.2 []
      have f : rdF (stx (ndW (.inner x y))) = true := by rw [hw]; exact a1
      have r : rdR (stx (ndW (.inner x y))) = txt (itW x ++ (itW y ++ [])) := by rw [hw]; exact a2
      have q : rdE (stx (ndW (.inner x y))) = 0 := by rw [hw]; exact a3
      refine ⟨?_, ?_⟩
      · rw [rdN, f, if_pos rfl, r, q, b1, b2, b3, c1]
      · rw [rdD, f, if_pos rfl, r, q, b2, b3, c2, c3]
        rfl
    | none => cases h
  have he : rdErr (stx (ndW d)) = 0 := by rw [rdErr, key.2, key.1, if_neg (by decide), h]
  exact ⟨he, by rw [rdNd, if_pos he, key.1]⟩
theorem nd_one (l : List UInt8) (h : rdErr (stx l) = 0) : chkN (rdNd (stx l)) = 0 ∧ ndW (rdNd (stx l)) = l := by
  have hd : rdD (stx l) = 0 := by
    unfold rdErr at h
    split at h
    · rename_i k; exact absurd h k
    · rename_i k; exact Classical.byContradiction fun q => k q
  have hc : chkN (rdN (stx l)) = 0 := by
    unfold rdErr at h
    rw [if_neg (by rw [hd]; decide)] at h
    exact h
  rw [rdNd, if_pos h]
  refine ⟨hc, ?_⟩
  cases hf : rdF (stx l)
  · have hN : rdN (stx l) = .leaf (lX (rdR (stx l)) (rdE (stx l))) := if_neg (by rw [hf]; decide)
    rw [rdD, if_neg (by rw [hf]; decide)] at hd
    obtain ⟨d1, d2⟩ := doneV_zero hd
    have q : rdE (stx l) = 0 := takeE_z (takeE_z (numE_z d1))
    obtain ⟨m, hm, e⟩ := nr_flag1 l q
    have r : rdR (stx l) = txt m := hm
    rw [r, q] at d1 d2 hN
    obtain ⟨m2, hm2, e2⟩ := leaf_one m d1
    rw [hm2] at d2
    rw [txt_none d2, List.append_nil] at e2
    rw [hN]
    show (0 : UInt8) :: _ = l
    rw [← e2, e, if_neg (by rw [show flagV (txt l) 0 = false from hf]; decide)]
  · have hN : rdN (stx l) = .inner (iX (rdR (stx l)) (rdE (stx l))) (iX (iR4 (rdR (stx l)) (rdE (stx l))) (iE4 (rdR (stx l)) (rdE (stx l)))) := if_pos hf
    rw [rdD, if_pos hf] at hd
    obtain ⟨d1, d2⟩ := doneV_zero hd
    have q4 : iE4 (rdR (stx l)) (rdE (stx l)) = 0 := numE_z (takeE_z (takeE_z (numE_z d1)))
    have q : rdE (stx l) = 0 := numE_z (takeE_z (takeE_z (numE_z q4)))
    obtain ⟨m, hm, e⟩ := nr_flag1 l q
    have r : rdR (stx l) = txt m := hm
    rw [r, q] at d1 d2 hN q4
    obtain ⟨m2, hm2, e2⟩ := item_one m q4
    rw [hm2, q4] at d1 d2 hN
    obtain ⟨m3, hm3, e3⟩ := item_one m2 d1
    rw [hm3] at d2
    rw [txt_none d2, List.append_nil] at e3
    rw [hN]
    show (1 : UInt8) :: _ = l
    rw [← e3, ← e2, e, if_pos (show flagV (txt l) 0 = true from hf)]
end Go.Proofs.YtnffmgpnhlcakaaDoor
