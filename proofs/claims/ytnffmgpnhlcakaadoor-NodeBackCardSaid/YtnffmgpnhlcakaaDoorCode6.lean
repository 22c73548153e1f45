/- The reader's Below, Text, Flag, Label. Conditions: none. -/
import Derived.Test.YtnffmgpnhlcakaaDoorCode5
namespace Go.Proofs.YtnffmgpnhlcakaaDoor
open Go Go.RowKit

def belV (s : ByteArray) (err most : Int) : Int := if numE s err = 0 ∧ most ≤ numV s err then 0 else numV s err
def belE (s : ByteArray) (err most : Int) : Int := if numE s err = 0 ∧ most ≤ numV s err then 2 else numE s err
theorem numV_nonneg (s : ByteArray) (err : Int) : 0 ≤ numV s err := by
  unfold numV numOk
  split
  · decide
  · split
    · decide
    · omega
theorem belV_nonneg (s : ByteArray) (err most : Int) : 0 ≤ belV s err most := by
  unfold belV
  split
  · decide
  · exact numV_nonneg s err

def flagV (s : ByteArray) (err : Int) : Bool := octV s err 1 == 1
set_option maxRecDepth 100000 in
theorem RFlag_any (B b : Nat) (s : ByteArray) (err : Int) (w : World) (h : ReaderAt B b s err w) :
    Calls Tryd.prog 24 #[.pointer (some ⟨b, 0, none⟩)] w fun r w' => r = .returned (.bool (flagV s err)) ∧ ReaderAt B b (takeR s err 1) (octE s err 1) w' ∧ Near B b w w' := by
  have HO := Lib.hid (octet_any B b s err 1 w h)
  unfold flagV
  generalize octV s err 1 = v at *
  clear h
  go_enter Tryd.func24, Tryd.ntmps24
  go_wp2_with fail
  refine HO.out.mono ?_
  rintro e w1 ⟨rfl, k1, b1⟩
  have k2 := Lib.hid k1
  clear k1
  go_wp2_with fail
  go_ret
  exact ⟨rfl, k2.out, b1⟩

/-- The text that Text takes. -/
def textN (s : ByteArray) (err : Int) : Nat := (belV s err 65537).toNat
def textV (s : ByteArray) (err : Int) : ByteArray := takeS (numS s err) (belE s err 65537) (textN s err)
def textR (s : ByteArray) (err : Int) : ByteArray := takeR (numS s err) (belE s err 65537) (textN s err)
def textE (s : ByteArray) (err : Int) : Int := takeE (numS s err) (belE s err 65537) (textN s err)
theorem textV_size (s : ByteArray) (err : Int) : (textV s err).size ≤ 65536 := by
  unfold textV takeS
  split
  · rename_i h
    have h1 : (textN s err : Int) ≤ 65536 := by
      have h2 := h.1
      have h3 := belV_nonneg s err 65537
      unfold belE at h2
      unfold textN
      split at h2
      · cases h2
      · rename_i h4
        have h5 : belV s err 65537 = numV s err := if_neg h4
        have : ¬ 65537 ≤ numV s err := fun e => h4 ⟨h2, e⟩
        omega
    rw [ByteArray.size_extract]
    omega
  · exact Nat.zero_le _
end Go.Proofs.YtnffmgpnhlcakaaDoor
