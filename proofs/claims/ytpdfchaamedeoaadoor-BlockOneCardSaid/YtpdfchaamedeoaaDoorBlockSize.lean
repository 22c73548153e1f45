/- Blocks: what is read is no longer than what it was read from: plain facts. Conditions: none. -/
import Derived.Test.YtpdfchaamedeoaaDoorBlockMath
namespace Go.Proofs.YtpdfchaamedeoaaDoor
open Go

theorem take_sz (s : ByteArray) (e : Int) (n : Nat) : (takeS s e n).size + (takeR s e n).size ≤ s.size := by
  unfold takeS takeR
  by_cases h : e = 0 ∧ n ≤ s.size
  · rw [if_pos h, if_pos h, ByteArray.size_extract, ByteArray.size_extract]
    have := h.2
    omega
  · rw [if_neg h, if_neg h]
    show 0 + s.size ≤ s.size
    omega
theorem takeR_sz (s : ByteArray) (e : Int) (n : Nat) : (takeR s e n).size ≤ s.size := by
  have := take_sz s e n
  omega
theorem numS_sz (s : ByteArray) (e : Int) : (numS s e).size ≤ s.size := by
  unfold numS
  exact Nat.le_trans (takeR_sz _ _ _) (takeR_sz _ _ _)
theorem text_sz (s : ByteArray) (e : Int) : (textV s e).size + (textR s e).size ≤ s.size := by
  unfold textV textR
  exact Nat.le_trans (take_sz _ _ _) (numS_sz s e)
theorem numV_errB (R : ByteArray) (err : Int) (h : numE R err ≠ 0) : numV R err = 0 := by
  unfold numE at h
  unfold numV numOk
  split
  · rfl
  · rename_i hz
    split
    · rfl
    · rename_i hb
      exfalso
      rw [if_neg (fun e => hb e.2)] at h
      refine hz ?_
      unfold numE0 takeE at h
      unfold numT takeS
      split at h
      · rename_i e
        rw [if_neg (fun e2 => by omega)]
        rfl
      · rw [if_neg (fun e2 => h e2.1)]
        rfl
theorem belV_range (s : ByteArray) (e m : Int) (hm : 0 < m) : 0 ≤ belV s e m ∧ belV s e m < m := by
  unfold belV
  split
  · omega
  · rename_i h
    refine ⟨numV_nonneg s e, ?_⟩
    by_cases k : numE s e = 0
    · have : ¬ m ≤ numV s e := fun q => h ⟨k, q⟩
      omega
    · rw [numV_errB s e k]
      exact hm
theorem rdB_sz (s : ByteArray) (e : Int) (a : List UInt8) : (rdB s e a).ent.key.length + (rdB s e a).rest.size ≤ a.length + s.size ∧ (rdB s e a).ent.val.length ≤ s.size ∧ (rdB s e a).rest.size ≤ s.size := by
  have h1 := numS_sz s e
  have h2 := text_sz (numS s e) (numE s e)
  have h3 := takeR_sz (textR (numS s e) (numE s e)) (textE (numS s e) (numE s e)) 1
  have h4 := text_sz (takeR (textR (numS s e) (numE s e)) (textE (numS s e) (numE s e)) 1) (octE (textR (numS s e) (numE s e)) (textE (numS s e) (numE s e)) 1)
  have h5 : ∀ n, (a.take n).length ≤ a.length := fun n => by rw [List.length_take]; exact Nat.min_le_right _ _
  unfold rdB
  simp only
  generalize numV s e = n at *
  generalize textV (numS s e) (numE s e) = t at *
  generalize textR (numS s e) (numE s e) = s2 at *
  generalize textE (numS s e) (numE s e) = e2 at *
  generalize flagV s2 e2 = g at *
  generalize textV (takeR s2 e2 1) (octE s2 e2 1) = v at *
  generalize textR (takeR s2 e2 1) (octE s2 e2 1) = s4 at *
  generalize textE (takeR s2 e2 1) (octE s2 e2 1) = e4 at *
  generalize takeR s2 e2 1 = s3 at *
  generalize octE s2 e2 1 = e3 at *
  have q1 : (if g = true then s3 else s4).size ≤ s2.size := by
    cases g
    · simp only [Bool.false_eq_true, if_false]; omega
    · simp only [if_true]; omega
  have q2 : (if g = true then txt [] else v).data.toList.length ≤ s.size := by
    cases g
    · simp only [Bool.false_eq_true, if_false]
      show v.size ≤ _
      omega
    · simp only [if_true]
      exact Nat.zero_le _
  have q3 : t.data.toList.length = t.size := rfl
  have q4 := h5 n.toNat
  generalize (if g = true then s3 else s4) = S4 at *
  generalize (if g = true then txt [] else v) = V at *
  generalize (if g = true then e3 else e4) = E4 at *
  split
  · exact ⟨by simp only [List.length_nil]; omega, Nat.zero_le _, by simp only; omega⟩
  · split
    · exact ⟨by simp only [List.length_nil]; omega, Nat.zero_le _, by simp only; omega⟩
    · split
      · exact ⟨by simp only [List.length_nil]; omega, Nat.zero_le _, by simp only; omega⟩
      · refine ⟨?_, q2, by simp only; omega⟩
        simp only [List.length_append]
        omega
theorem rdsB_step (n : Nat) (s : ByteArray) (e : Int) (a : List UInt8) : rdsB (n + 1) s e a = if (rdB s e a).fail ≠ 0 then ⟨(rdB s e a).fail, [], (rdB s e a).rest, (rdB s e a).err⟩ else ⟨(rdsB n (rdB s e a).rest (rdB s e a).err (rdB s e a).ent.key).fail, (rdB s e a).ent :: (rdsB n (rdB s e a).rest (rdB s e a).err (rdB s e a).ent.key).list, (rdsB n (rdB s e a).rest (rdB s e a).err (rdB s e a).ent.key).rest, (rdsB n (rdB s e a).rest (rdB s e a).err (rdB s e a).ent.key).err⟩ := by
  rw [rdsB]
/-- Entries that were read, and those that are still to be read. -/
def behindB (L : List Ent) (r : RdsB) : RdsB := ⟨r.fail, L ++ r.list, r.rest, r.err⟩
theorem behindB_nil (r : RdsB) : behindB [] r = r := rfl
theorem behindB_ok {L : List Ent} {n : Nat} {s : ByteArray} {e : Int} {a : List UInt8} (h : (rdB s e a).fail = 0) : behindB L (rdsB (n + 1) s e a) = behindB (L ++ [(rdB s e a).ent]) (rdsB n (rdB s e a).rest (rdB s e a).err (rdB s e a).ent.key) := by
  rw [rdsB_step, if_neg (by rw [h]; decide)]
  unfold behindB
  simp
theorem behindB_bad {L : List Ent} {n : Nat} {s : ByteArray} {e : Int} {a : List UInt8} (h : (rdB s e a).fail ≠ 0) : (behindB L (rdsB (n + 1) s e a)).fail = (rdB s e a).fail := by
  rw [rdsB_step, if_pos h]
  rfl
end Go.Proofs.YtpdfchaamedeoaaDoor
