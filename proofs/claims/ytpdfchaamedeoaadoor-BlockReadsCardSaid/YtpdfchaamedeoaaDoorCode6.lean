/- The reader's Below, Text, Flag, Label. Conditions: none. -/
import Derived.Test.YtpdfchaamedeoaaDoorCode5
namespace Go.Proofs.YtpdfchaamedeoaaDoor
open Go Go.RowKit

def belV (s : ByteArray) (err most : Int) : Int := if numE s err = 0 ∧ most ≤ numV s err then 0 else numV s err
def belE (s : ByteArray) (err most : Int) : Int := if numE s err = 0 ∧ most ≤ numV s err then 2 else numE s err
theorem numV_nonneg (s : ByteArray) (err : Int) : 0 ≤ numV s err := by
  unfold numV numOk
  split
  · decide
  · split
    · decide
    · omega
theorem belV_nonneg (s : ByteArray) (err most : Int) : 0 ≤ belV s err most := by
  unfold belV
  split
  · decide
  · exact numV_nonneg s err

set_option maxRecDepth 100000 in
theorem RBelow_any (B b : Nat) (s : ByteArray) (err most : Int) (w : World) (h : ReaderAt B b s err w) :
    Calls Tryd.prog 44 #[.pointer (some ⟨b, 0, none⟩), .int .i64 most] w fun r w' => r = .returned (.int .i64 (belV s err most)) ∧ ReaderAt B b (numS s err) (belE s err most) w' ∧ Near B b w w' := by
  have HN := Lib.hid (RNumber_all B b s err w h)
  obtain ⟨V, hV⟩ : ∃ V, belV s err most = V := ⟨_, rfl⟩
  obtain ⟨E, hE⟩ : ∃ E, belE s err most = E := ⟨_, rfl⟩
  obtain ⟨S, hS⟩ : ∃ S, numS s err = S := ⟨_, rfl⟩
  unfold belV at hV
  unfold belE at hE
  rw [show belV s err most = V from hV, show belE s err most = E from hE, hS]
  rw [hS] at HN
  generalize numV s err = n at *
  generalize numE s err = d at *
  by_cases hd : d = 0
  · subst hd
    by_cases hm : most ≤ n
    · rw [if_pos ⟨rfl, hm⟩] at hV hE
      have HV := Lib.hid hV
      have HE := Lib.hid hE
      have hm' : decide (most ≤ n) = true := decide_eq_true hm
      clear hV hE h hm hS
      go_enter Tryd.func44, Tryd.ntmps44
      go_wp2_with fail
      refine HN.out.mono ?_
      rintro e w1 ⟨rfl, k1, b1⟩
      have h1 := (Lib.cell_of_heap k1.2 1).trans (rfl : _ = some (Value.int .i64 0))
      have f1 := Lib.frozen_of_heap k1.2 1
      have k2 := Lib.hid (k1.err 2)
      have b2 : Near B b w (w1.setCell ⟨b, 1, none⟩ (.int .i64 2)) := b1.setCell (p := ⟨b, 1, none⟩) rfl _
      clear k1
      go_wp2_with fail
      go_ret
      exact ⟨by rw [← HV.out]; rfl, by rw [← HE.out]; exact k2.out, b2⟩
    · rw [if_neg (fun e => hm e.2)] at hV hE
      have HV := Lib.hid hV
      have HE := Lib.hid hE
      have hm' : decide (most ≤ n) = false := decide_eq_false hm
      clear hV hE h hm hS
      go_enter Tryd.func44, Tryd.ntmps44
      go_wp2_with fail
      refine HN.out.mono ?_
      rintro e w1 ⟨rfl, k1, b1⟩
      have h1 := (Lib.cell_of_heap k1.2 1).trans (rfl : _ = some (Value.int .i64 0))
      have k2 := Lib.hid k1
      clear k1
      go_wp2_with fail
      go_ret
      exact ⟨by rw [← HV.out]; rfl, by rw [← HE.out]; exact k2.out, b1⟩
  · rw [if_neg (fun e => hd e.1)] at hV hE
    have HV := Lib.hid hV
    have HE := Lib.hid hE
    have hq : (d == 0) = false := by rw [beq_eq_false_iff_ne]; exact hd
    clear hV hE h hS
    go_enter Tryd.func44, Tryd.ntmps44
    go_wp2_with fail
    refine HN.out.mono ?_
    rintro e w1 ⟨rfl, k1, b1⟩
    have h1 := (Lib.cell_of_heap k1.2 1).trans (rfl : _ = some (Value.int .i64 d))
    have k2 := Lib.hid k1
    clear k1
    go_wp2_with fail
    go_ret
    exact ⟨by rw [← HV.out]; rfl, by rw [← HE.out]; exact k2.out, b1⟩

def flagV (s : ByteArray) (err : Int) : Bool := octV s err 1 == 1
set_option maxRecDepth 100000 in
theorem RFlag_any (B b : Nat) (s : ByteArray) (err : Int) (w : World) (h : ReaderAt B b s err w) :
    Calls Tryd.prog 85 #[.pointer (some ⟨b, 0, none⟩)] w fun r w' => r = .returned (.bool (flagV s err)) ∧ ReaderAt B b (takeR s err 1) (octE s err 1) w' ∧ Near B b w w' := by
  have HO := Lib.hid (octet_any B b s err 1 w h)
  unfold flagV
  generalize octV s err 1 = v at *
  clear h
  go_enter Tryd.func85, Tryd.ntmps85
  go_wp2_with fail
  refine HO.out.mono ?_
  rintro e w1 ⟨rfl, k1, b1⟩
  have k2 := Lib.hid k1
  clear k1
  go_wp2_with fail
  go_ret
  exact ⟨rfl, k2.out, b1⟩

/-- The text that Text takes. -/
def textN (s : ByteArray) (err : Int) : Nat := (belV s err 65537).toNat
def textV (s : ByteArray) (err : Int) : ByteArray := takeS (numS s err) (belE s err 65537) (textN s err)
def textR (s : ByteArray) (err : Int) : ByteArray := takeR (numS s err) (belE s err 65537) (textN s err)
def textE (s : ByteArray) (err : Int) : Int := takeE (numS s err) (belE s err 65537) (textN s err)
theorem textV_size (s : ByteArray) (err : Int) : (textV s err).size ≤ 65536 := by
  unfold textV takeS
  split
  · rename_i h
    have h1 : (textN s err : Int) ≤ 65536 := by
      have h2 := h.1
      have h3 := belV_nonneg s err 65537
      unfold belE at h2
      unfold textN
      split at h2
      · cases h2
      · rename_i h4
        have h5 : belV s err 65537 = numV s err := if_neg h4
        have : ¬ 65537 ≤ numV s err := fun e => h4 ⟨h2, e⟩
        omega
    rw [ByteArray.size_extract]
    omega
  · exact Nat.zero_le _
theorem Clone_any (s : ByteArray) (w : World) (hs : s.size ≤ 65536) :
    Calls Tryd.prog 54 #[.string s] w fun r w' => r = .returned (.string s) ∧ Below w.heap.size w w' := by
  have HC := Lib.hid (Tryd.stringslite_Clone s w (by omega))
  clear hs
  go_enter Tryd.func54, Tryd.ntmps54
  go_wp2_with fail
  refine HC.out.mono ?_
  rintro e w1 ⟨rfl, b1⟩
  go_wp2_with fail
  go_ret
  exact ⟨rfl, b1⟩

set_option maxRecDepth 100000 in
theorem RText_any (B b : Nat) (s : ByteArray) (err : Int) (w : World) (h : ReaderAt B b s err w) (hBw : B ≤ w.heap.size) :
    Calls Tryd.prog 84 #[.pointer (some ⟨b, 0, none⟩)] w fun r w' => r = .returned (.string (textV s err)) ∧ ReaderAt B b (textR s err) (textE s err) w' ∧ Near B b w w' := by
  have HB := Lib.hid (RBelow_any B b s err 65537 w h)
  have HT : ∀ w, ReaderAt B b (numS s err) (belE s err 65537) w → Hid (Calls Tryd.prog 104 #[.pointer (some ⟨b, 0, none⟩), .int .i64 (textN s err)] w fun r w' => r = .returned (.string (textV s err)) ∧ ReaderAt B b (textR s err) (textE s err) w' ∧ Near B b w w') := fun w h => Lib.hid (take_any B b _ _ _ w h)
  rw [show belV s err 65537 = (textN s err : Int) by have := belV_nonneg s err 65537; unfold textN; omega] at HB
  have HZ := Lib.hid (textV_size s err)
  generalize textV s err = T at *
  generalize textN s err = n at *
  clear h
  go_enter Tryd.func84, Tryd.ntmps84
  go_wp2_with fail
  refine HB.out.mono ?_
  rintro e w1 ⟨rfl, k1, b1⟩
  go_wp2_with fail
  refine (HT _ k1).out.mono ?_
  rintro e w2 ⟨rfl, k2, b2⟩
  go_wp2_with fail
  refine (Clone_any T w2 HZ.out).mono ?_
  rintro e w3 ⟨rfl, b3⟩
  have K := Lib.hid (k2.below b3)
  have b4 := (b1.trans b2).trans (b3.near (Nat.le_trans hBw (b1.trans b2).size))
  clear k2 k1
  go_wp2_with fail
  go_ret
  exact ⟨rfl, K.out, b4⟩
end Go.Proofs.YtpdfchaamedeoaaDoor
