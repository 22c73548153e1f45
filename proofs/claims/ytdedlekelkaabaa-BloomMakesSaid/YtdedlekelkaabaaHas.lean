/- For every list of texts and every number the law BloomHas returns true. Conditions: none. -/
import Derived.Test.YtdedlekelkaabaaBloom8
import Derived.Test.YtdedlekelkaabaaRow
import Derived.ChangeMaps5
namespace Go.Proofs.Ytdedlekelkaabaa.has
open Go Go.ChangeShapes Go.WideShapes Go.ChangeAt Go.ChangeMaps Go.RowKit Go.Proofs.Ytdedlekelkaabaa
attribute [local go_sem] Oper.semAt_some

theorem strs_in {w : World} {v : Value} {K : List (List UInt8)} (h : StrsAt w v K) : InStrs w v K.length (fun i => stx (K.getD i [])) := by
  obtain ⟨ao, cap, rfl, h2⟩ := h
  refine ⟨ao, cap, rfl, fun i hi => ?_⟩
  obtain ⟨g, rfl, h3⟩ := h2 i hi
  refine ⟨_, rfl, ?_⟩
  rw [show (⟨g, 0, none⟩ : Addr).add i = ⟨g, i, none⟩ by simp [Addr.add]; exact fun e => e.symm]
  exact h3
theorem keys_of (K : List (List UInt8)) : keysL (fun i => stx (K.getD i [])) K.length = K := by
  unfold keysL
  apply List.ext_getElem
  · simp
  · intro i h1 h2
    simp [h2]
theorem txt_stx (l : List UInt8) : txt l = stx l := rfl
/-- What is written is read. -/
theorem read_back (p : Nat) (bs : List UInt8) (hg : goodB p bs.length = true) : readE (txt (encB p bs)) = 0 ∧ readP (txt (encB p bs)) = p ∧ readT (txt (encB p bs)) = txt bs := by
  have hgd := of_decide_eq_true hg
  have hL := enc_len p bs (by omega) (by omega)
  have e0 : rE0 (txt (encB p bs)) = 0 := by
    unfold rE0
    rw [if_pos (by simp [ByteArray.size]; omega)]
  obtain ⟨n1, n2, n3⟩ := num_read p (numBytes bs.length ++ bs) (by omega)
  obtain ⟨t1, t2, t3⟩ := text_read bs [] (by omega)
  rw [List.append_nil] at t1 t2 t3
  have m1 : numV (txt (encB p bs)) 0 = p := n1
  have m2 : numS (txt (encB p bs)) 0 = txt (numBytes bs.length ++ bs) := n2
  have m3 : numE (txt (encB p bs)) 0 = 0 := n3
  have hp : readP (txt (encB p bs)) = p := by rw [readP, e0, m1]
  have ht : readT (txt (encB p bs)) = txt bs := by rw [readT, e0, m2, m3, t1]
  have hd : readD (txt (encB p bs)) = 0 := by
    rw [readD, e0, m2, m3, t2, t3]
    rfl
  refine ⟨?_, hp, ht⟩
  rw [readE, if_pos hd, hp, ht, show (txt bs).size = bs.length by simp [ByteArray.size], hg]
  rfl

end Go.Proofs.Ytdedlekelkaabaa.has
