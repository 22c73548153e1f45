/- Texts that the next ones stand on: Code5, Code6, CodeMath, Code7, Code8, BlockMath, Row, Strs, AppNone, Ents. -/
import Derived.Test.YtgegipijappfhaaDoorBM1
import Derived.Lib.BufferWrite
import Derived.Test.YtgegipijappfhaaDoorRows
import Derived.ProofKit
import Derived.OpenShut
import Derived.Test.YtgegipijappfhaaDoorShelf
import Derived.Lib.Hide
import Derived.Laws.BytesArg
import Derived.Laws.IdiomStrings
import Derived.Laws.AppendOwn
import Derived.IntWalk
import Derived.Laws.AppendOwnNone
import Derived.Maps.AppendAt
import Derived.Deep.AppendLies
namespace Go.Proofs.YtgegipijappfhaaDoor
open Go Go.RowKit

/-- The bytes that Number takes, and what it leaves. -/
def numT (s : ByteArray) (err : Int) : ByteArray := takeS (takeR s err 1) (octE s err 8) (octV s err 8).toNat
def numS (s : ByteArray) (err : Int) : ByteArray := takeR (takeR s err 1) (octE s err 8) (octV s err 8).toNat
def numE0 (s : ByteArray) (err : Int) : Int := takeE (takeR s err 1) (octE s err 8) (octV s err 8).toNat
theorem octV_range (s : ByteArray) (err : Int) : 0 ≤ octV s err 8 ∧ octV s err 8 ≤ 8 := by
  unfold octV
  split
  · rename_i h; exact ⟨by omega, h.2.2⟩
  · decide
theorem beVal_put (l : List UInt8) (c : UInt8) : beVal (l ++ [c]) = 256 * beVal l + c.toNat := by simp [beVal]
theorem beVal_lt : ∀ (l : List UInt8), beVal l < 256 ^ l.length := fun l => by
  have : ∀ (m : List UInt8) (n k : Nat), n < 256 ^ k → m.foldl (fun n c => 256 * n + c.toNat) n < 256 ^ (k + m.length) := fun m => by
    induction m with
    | nil => intro n k h; simpa using h
    | cons c m ih =>
      intro n k h
      have hc := c.toNat_lt
      have := ih (256 * n + c.toNat) (k + 1) (by rw [Nat.pow_succ]; omega)
      rw [List.length_cons, show k + (m.length + 1) = k + 1 + m.length by omega]
      exact this
  have := this l 0 0 (by decide)
  simpa [beVal] using this

def numBad (T : ByteArray) : Bool := decide (at_ T 0 = 0 ∨ 9223372036854775807 < beVal T.data.toList)
def numOk (T : ByteArray) : Int := if numBad T then 0 else beVal T.data.toList
theorem u64_or (a b : Nat) (ha : a < 18446744073709551616) (hb : b < 18446744073709551616) : bits .or .u64 (a : Int) (b : Int) = ((a ||| b : Nat) : Int) := by
  have hx : a ||| b < 2 ^ 64 := Nat.or_lt_two_pow (by omega) (by omega)
  show IntKind.u64.wrap ((BitVec.ofInt 64 (a : Int) ||| BitVec.ofInt 64 (b : Int)).toNat : Int) = _
  rw [BitVec.toNat_or, ofInt_u64 a (by omega), ofInt_u64 b (by omega)]
  show ((a ||| b : Nat) : Int) % 2 ^ IntKind.u64.bits = _
  rw [show (2 : Int) ^ IntKind.u64.bits = 18446744073709551616 from rfl]
  omega
theorem or_byte (n c : Nat) (hc : c < 256) : n * 256 ||| c = 256 * n + c := by
  have := Nat.shiftLeft_add_eq_or_of_lt (i := 8) (b := c) (by omega) n
  rw [Nat.shiftLeft_eq, show 2 ^ 8 = 256 from rfl] at this
  omega

set_option maxRecDepth 100000 in
theorem RNumber_any (B b : Nat) (s : ByteArray) (err : Int) (w : World) (h : ReaderAt B b s err w) (T : ByteArray) (hT : numT s err = T) (hne : T.size ≠ 0) (h8 : T.size ≤ 8) :
    Calls Tryd.prog 64 #[.pointer (some ⟨b, 0, none⟩)] w fun r w' => r = .returned (.int .i64 (numOk T)) ∧ ReaderAt B b (numS s err) (if numBad T then 4 else numE0 s err) w' ∧ Near B b w w' := by
  have HO := Lib.hid (octet_any B b s err 8 w h)
  obtain ⟨k, hk⟩ : ∃ k : Nat, octV s err 8 = k := ⟨(octV s err 8).toNat, by have := octV_range s err; omega⟩
  rw [hk] at HO
  unfold numT at hT
  rw [hk, Int.toNat_natCast] at hT
  have HK : ∀ w, ReaderAt B b (takeR s err 1) (octE s err 8) w → Hid (Calls Tryd.prog 88 #[.pointer (some ⟨b, 0, none⟩), .int .i64 k] w fun r w' => r = .returned (.string T) ∧ ReaderAt B b (takeR (takeR s err 1) (octE s err 8) k) (takeE (takeR s err 1) (octE s err 8) k) w' ∧ Near B b w w') := fun w h => Lib.hid (by
    have := take_any B b _ _ k w h
    rwa [hT] at this)
  have hv : T.toList.isEmpty = false := by
    rw [Bool.eq_false_iff]
    exact fun e => hne ((toList_empty T).1 e)
  have HS0 : Hid (numS s err = takeR (takeR s err 1) (octE s err 8) k) := Lib.hid (by unfold numS; rw [hk, Int.toNat_natCast])
  have HE0 : Hid (numE0 s err = takeE (takeR s err 1) (octE s err 8) k) := Lib.hid (by unfold numE0; rw [hk, Int.toNat_natCast])
  obtain ⟨E, hE⟩ : ∃ E, (if numBad T then 4 else numE0 s err) = E := ⟨_, rfl⟩
  obtain ⟨V, hV⟩ : ∃ V, numOk T = V := ⟨_, rfl⟩
  obtain ⟨S, hS⟩ : ∃ S, numS s err = S := ⟨_, rfl⟩
  rw [hE, hV, hS]
  have HE := Lib.hid hE
  have HV := Lib.hid hV
  have HS := Lib.hid hS
  clear hT hk h hne hE hV hS
  go_enter Tryd.func64, Tryd.ntmps64
  go_wp2_with fail
  refine HO.out.mono ?_
  rintro e w1 ⟨rfl, k1, b1⟩
  go_wp2_with fail
  refine (HK _ k1).out.mono ?_
  rintro e w2 ⟨rfl, k2, b2⟩
  go_wp2_with fail
  go_loop [4, 14] (fun x t => ∃ i : Nat, i ≤ T.size ∧ t = .int .i64 i ∧ Hid (x = .int .u64 (beVal (T.data.toList.take i)))) (fun _ t => (T.size - intOf t).toNat)
  case atStart => exact ⟨0, Nat.zero_le _, rfl, Lib.hid rfl⟩
  case round =>
    obtain ⟨i, hi, rfl, HX⟩ := hrel
    obtain ⟨N, hN⟩ : ∃ N, beVal (T.data.toList.take i) = N := ⟨_, rfl⟩
    have hx := HX.out
    rw [hN] at hx
    subst hx
    by_cases hlt : i < T.size
    · have hlt' : (i : Int) < T.size := by omega
      have hNb : (N : Int) < 72057594037927936 := by
        have := beVal_lt (T.data.toList.take i)
        rw [hN] at this
        have h2 : (T.data.toList.take i).length ≤ 7 := by rw [List.length_take]; omega
        have h3 := Nat.pow_le_pow_right (show 0 < 256 by decide) h2
        have : N < 256 ^ 7 := by omega
        omega
      have hc := (at_ T i).toNat_lt
      have hat := get_at T i hlt
      have hor : bits .or .u64 ((N : Int) * 256) ((at_ T i).toNat : Int) = ((256 * N + (at_ T i).toNat : Nat) : Int) := by
        rw [show (N : Int) * 256 = ((N * 256 : Nat) : Int) by omega, u64_or _ _ (by omega) (by omega), or_byte _ _ hc]
      go_wp2_with fail
      refine ⟨⟨i + 1, hlt, by go_num, Lib.hid ?_⟩, by simp [intOf]; omega⟩
      have hl : i < T.data.toList.length := hlt
      have hat2 : T.data.toList[i] = at_ T i := by
        unfold at_
        rw [List.getD_eq_getElem?_getD, List.getElem?_eq_getElem hl]
        rfl
      rw [List.take_succ_eq_append_getElem hl, beVal_put, hN, hat2]
      rfl
    · obtain rfl : i = T.size := by omega
      have hN2 : beVal T.data.toList = N := by
        rw [← hN]
        exact congrArg beVal (List.take_of_length_le (Nat.le_refl _)).symm
      have h0 : 0 < T.size := by
        rcases Nat.eq_zero_or_pos T.size with e | e
        · rw [(toList_empty T).2 e] at hv; cases hv
        · exact e
      have h0' : (0 : Int) < T.size := by omega
      have hat := get_at T 0 h0
      have h1 := (Lib.cell_of_heap k2.2 1).trans (rfl : _ = some (Value.int .i64 _))
      have f1 := Lib.frozen_of_heap k2.2 1
      have K4 := Lib.hid (k2.err 4)
      have K2 := Lib.hid k2
      have b3 := b1.trans b2
      have b4 : Near B b w (w2.setCell ⟨b, 1, none⟩ (.int .i64 4)) := b3.setCell (p := ⟨b, 1, none⟩) rfl _
      clear k2
      by_cases hz : at_ T 0 = 0
      · have hz2 : ((at_ T 0).toNat : Int) = 0 := by rw [hz]; rfl
        have HB : Hid (numBad T = true) := Lib.hid (decide_eq_true (.inl hz))
        clear hz
        go_wp2_with fail
        go_ret
        exact ⟨by rw [← HV.out]; unfold numOk; rw [if_pos HB.out]; rfl, by rw [← HE.out, if_pos HB.out, ← HS.out, HS0.out]; exact K4.out, b4⟩
      · have hz2 : (((at_ T 0).toNat : Int) == 0) = false := by
          rw [beq_eq_false_iff_ne]
          intro e
          exact hz (UInt8.toNat_inj.1 (by have : (at_ T 0).toNat = 0 := by omega
                                          exact this))
        by_cases hb : 9223372036854775807 < N
        · have hb2 : decide ((9223372036854775807 : Int) < N) = true := decide_eq_true (by omega)
          have HB : Hid (numBad T = true) := Lib.hid (decide_eq_true (.inr (by rw [hN2]; exact hb)))
          clear hz hb
          go_wp2_with fail
          go_ret
          exact ⟨by rw [← HV.out]; unfold numOk; rw [if_pos HB.out]; rfl, by rw [← HE.out, if_pos HB.out, ← HS.out, HS0.out]; exact K4.out, b4⟩
        · have hb2 : decide ((9223372036854775807 : Int) < N) = false := decide_eq_false (by omega)
          have hb3 : wrap64 (N : Int) = N := IntWalk.wrap64_in _ (by omega)
          have HB : Hid (¬ numBad T = true) := Lib.hid (by
            unfold numBad
            rw [decide_eq_true_eq]
            rintro (e | e)
            · exact hz e
            · rw [hN2] at e; exact hb e)
          have HN := Lib.hid hN2
          clear hz hb hN2
          go_wp2_with fail
          go_ret
          exact ⟨by rw [← HV.out]; unfold numOk; rw [if_neg HB.out, HN.out]; rfl, by rw [← HE.out, if_neg HB.out, ← HS.out, HS0.out, HE0.out]; exact K2.out, b3⟩

set_option maxRecDepth 100000 in
theorem RNumber_none (B b : Nat) (s : ByteArray) (err : Int) (w : World) (h : ReaderAt B b s err w) (T : ByteArray) (hT : numT s err = T) (hne : T.size = 0) :
    Calls Tryd.prog 64 #[.pointer (some ⟨b, 0, none⟩)] w fun r w' => r = .returned (.int .i64 0) ∧ ReaderAt B b (numS s err) (numE0 s err) w' ∧ Near B b w w' := by
  have HO := Lib.hid (octet_any B b s err 8 w h)
  obtain ⟨k, hk⟩ : ∃ k : Nat, octV s err 8 = k := ⟨(octV s err 8).toNat, by have := octV_range s err; omega⟩
  rw [hk] at HO
  unfold numT at hT
  rw [hk, Int.toNat_natCast] at hT
  have HK : ∀ w, ReaderAt B b (takeR s err 1) (octE s err 8) w → Hid (Calls Tryd.prog 88 #[.pointer (some ⟨b, 0, none⟩), .int .i64 k] w fun r w' => r = .returned (.string T) ∧ ReaderAt B b (takeR (takeR s err 1) (octE s err 8) k) (takeE (takeR s err 1) (octE s err 8) k) w' ∧ Near B b w w') := fun w h => Lib.hid (by
    have := take_any B b _ _ k w h
    rwa [hT] at this)
  have hv : T.toList.isEmpty = true := (toList_empty T).2 hne
  have HS0 : Hid (numS s err = takeR (takeR s err 1) (octE s err 8) k) := Lib.hid (by unfold numS; rw [hk, Int.toNat_natCast])
  have HE0 : Hid (numE0 s err = takeE (takeR s err 1) (octE s err 8) k) := Lib.hid (by unfold numE0; rw [hk, Int.toNat_natCast])
  obtain ⟨E, hE⟩ : ∃ E, numE0 s err = E := ⟨_, rfl⟩
  obtain ⟨S, hS⟩ : ∃ S, numS s err = S := ⟨_, rfl⟩
  rw [hE, hS]
  have HE := Lib.hid hE
  have HS := Lib.hid hS
  clear hT hk h hne hE hS
  go_enter Tryd.func64, Tryd.ntmps64
  go_wp2_with fail
  refine HO.out.mono ?_
  rintro e w1 ⟨rfl, k1, b1⟩
  go_wp2_with fail
  refine (HK _ k1).out.mono ?_
  rintro e w2 ⟨rfl, k2, b2⟩
  have K2 := Lib.hid k2
  have b3 := b1.trans b2
  clear k2
  go_wp2_with fail
  go_ret
  exact ⟨rfl, by rw [← HE.out, ← HS.out, HS0.out, HE0.out]; exact K2.out, b3⟩

theorem numT_size (s : ByteArray) (err : Int) : (numT s err).size ≤ 8 := by
  have := octV_range s err
  unfold numT takeS
  split
  · rename_i h
    rw [ByteArray.size_extract]
    omega
  · exact Nat.zero_le _
/-- What Number answers, and the error it leaves. -/
def numV (s : ByteArray) (err : Int) : Int := if (numT s err).size = 0 then 0 else numOk (numT s err)
def numE (s : ByteArray) (err : Int) : Int := if (numT s err).size ≠ 0 ∧ numBad (numT s err) = true then 4 else numE0 s err
theorem RNumber_all (B b : Nat) (s : ByteArray) (err : Int) (w : World) (h : ReaderAt B b s err w) :
    Calls Tryd.prog 64 #[.pointer (some ⟨b, 0, none⟩)] w fun r w' => r = .returned (.int .i64 (numV s err)) ∧ ReaderAt B b (numS s err) (numE s err) w' ∧ Near B b w w' := by
  by_cases hz : (numT s err).size = 0
  · have := RNumber_none B b s err w h _ rfl hz
    rwa [show numV s err = 0 from if_pos hz, show numE s err = numE0 s err from if_neg (fun e => e.1 hz)]
  · have := RNumber_any B b s err w h _ rfl hz (numT_size s err)
    rw [show numV s err = numOk (numT s err) from if_neg hz]
    have he : numE s err = if numBad (numT s err) then 4 else numE0 s err := by
      unfold numE
      simp [hz]
    rwa [he]
end Go.Proofs.YtgegipijappfhaaDoor
namespace Go.Proofs.YtgegipijappfhaaDoor
open Go Go.RowKit

def belV (s : ByteArray) (err most : Int) : Int := if numE s err = 0 ∧ most ≤ numV s err then 0 else numV s err
def belE (s : ByteArray) (err most : Int) : Int := if numE s err = 0 ∧ most ≤ numV s err then 2 else numE s err
theorem numV_nonneg (s : ByteArray) (err : Int) : 0 ≤ numV s err := by
  unfold numV numOk
  split
  · decide
  · split
    · decide
    · omega
theorem belV_nonneg (s : ByteArray) (err most : Int) : 0 ≤ belV s err most := by
  unfold belV
  split
  · decide
  · exact numV_nonneg s err

set_option maxRecDepth 100000 in
theorem RBelow_any (B b : Nat) (s : ByteArray) (err most : Int) (w : World) (h : ReaderAt B b s err w) :
    Calls Tryd.prog 47 #[.pointer (some ⟨b, 0, none⟩), .int .i64 most] w fun r w' => r = .returned (.int .i64 (belV s err most)) ∧ ReaderAt B b (numS s err) (belE s err most) w' ∧ Near B b w w' := by
  have HN := Lib.hid (RNumber_all B b s err w h)
  obtain ⟨V, hV⟩ : ∃ V, belV s err most = V := ⟨_, rfl⟩
  obtain ⟨E, hE⟩ : ∃ E, belE s err most = E := ⟨_, rfl⟩
  obtain ⟨S, hS⟩ : ∃ S, numS s err = S := ⟨_, rfl⟩
  unfold belV at hV
  unfold belE at hE
  rw [show belV s err most = V from hV, show belE s err most = E from hE, hS]
  rw [hS] at HN
  generalize numV s err = n at *
  generalize numE s err = d at *
  by_cases hd : d = 0
  · subst hd
    by_cases hm : most ≤ n
    · rw [if_pos ⟨rfl, hm⟩] at hV hE
      have HV := Lib.hid hV
      have HE := Lib.hid hE
      have hm' : decide (most ≤ n) = true := decide_eq_true hm
      clear hV hE h hm hS
      go_enter Tryd.func47, Tryd.ntmps47
      go_wp2_with fail
      refine HN.out.mono ?_
      rintro e w1 ⟨rfl, k1, b1⟩
      have h1 := (Lib.cell_of_heap k1.2 1).trans (rfl : _ = some (Value.int .i64 0))
      have f1 := Lib.frozen_of_heap k1.2 1
      have k2 := Lib.hid (k1.err 2)
      have b2 : Near B b w (w1.setCell ⟨b, 1, none⟩ (.int .i64 2)) := b1.setCell (p := ⟨b, 1, none⟩) rfl _
      clear k1
      go_wp2_with fail
      go_ret
      exact ⟨by rw [← HV.out]; rfl, by rw [← HE.out]; exact k2.out, b2⟩
    · rw [if_neg (fun e => hm e.2)] at hV hE
      have HV := Lib.hid hV
      have HE := Lib.hid hE
      have hm' : decide (most ≤ n) = false := decide_eq_false hm
      clear hV hE h hm hS
      go_enter Tryd.func47, Tryd.ntmps47
      go_wp2_with fail
      refine HN.out.mono ?_
      rintro e w1 ⟨rfl, k1, b1⟩
      have h1 := (Lib.cell_of_heap k1.2 1).trans (rfl : _ = some (Value.int .i64 0))
      have k2 := Lib.hid k1
      clear k1
      go_wp2_with fail
      go_ret
      exact ⟨by rw [← HV.out]; rfl, by rw [← HE.out]; exact k2.out, b1⟩
  · rw [if_neg (fun e => hd e.1)] at hV hE
    have HV := Lib.hid hV
    have HE := Lib.hid hE
    have hq : (d == 0) = false := by rw [beq_eq_false_iff_ne]; exact hd
    clear hV hE h hS
    go_enter Tryd.func47, Tryd.ntmps47
    go_wp2_with fail
    refine HN.out.mono ?_
    rintro e w1 ⟨rfl, k1, b1⟩
    have h1 := (Lib.cell_of_heap k1.2 1).trans (rfl : _ = some (Value.int .i64 d))
    have k2 := Lib.hid k1
    clear k1
    go_wp2_with fail
    go_ret
    exact ⟨by rw [← HV.out]; rfl, by rw [← HE.out]; exact k2.out, b1⟩

def flagV (s : ByteArray) (err : Int) : Bool := octV s err 1 == 1
set_option maxRecDepth 100000 in
theorem RFlag_any (B b : Nat) (s : ByteArray) (err : Int) (w : World) (h : ReaderAt B b s err w) :
    Calls Tryd.prog 83 #[.pointer (some ⟨b, 0, none⟩)] w fun r w' => r = .returned (.bool (flagV s err)) ∧ ReaderAt B b (takeR s err 1) (octE s err 1) w' ∧ Near B b w w' := by
  have HO := Lib.hid (octet_any B b s err 1 w h)
  unfold flagV
  generalize octV s err 1 = v at *
  clear h
  go_enter Tryd.func83, Tryd.ntmps83
  go_wp2_with fail
  refine HO.out.mono ?_
  rintro e w1 ⟨rfl, k1, b1⟩
  have k2 := Lib.hid k1
  clear k1
  go_wp2_with fail
  go_ret
  exact ⟨rfl, k2.out, b1⟩

/-- The text that Text takes. -/
def textN (s : ByteArray) (err : Int) : Nat := (belV s err 65537).toNat
def textV (s : ByteArray) (err : Int) : ByteArray := takeS (numS s err) (belE s err 65537) (textN s err)
def textR (s : ByteArray) (err : Int) : ByteArray := takeR (numS s err) (belE s err 65537) (textN s err)
def textE (s : ByteArray) (err : Int) : Int := takeE (numS s err) (belE s err 65537) (textN s err)
theorem textV_size (s : ByteArray) (err : Int) : (textV s err).size ≤ 65536 := by
  unfold textV takeS
  split
  · rename_i h
    have h1 : (textN s err : Int) ≤ 65536 := by
      have h2 := h.1
      have h3 := belV_nonneg s err 65537
      unfold belE at h2
      unfold textN
      split at h2
      · cases h2
      · rename_i h4
        have h5 : belV s err 65537 = numV s err := if_neg h4
        have : ¬ 65537 ≤ numV s err := fun e => h4 ⟨h2, e⟩
        omega
    rw [ByteArray.size_extract]
    omega
  · exact Nat.zero_le _
theorem Clone_any (s : ByteArray) (w : World) (hs : s.size ≤ 65536) :
    Calls Tryd.prog 34 #[.string s] w fun r w' => r = .returned (.string s) ∧ Below w.heap.size w w' := by
  have HC := Lib.hid (Tryd.stringslite_Clone s w (by omega))
  clear hs
  go_enter Tryd.func34, Tryd.ntmps34
  go_wp2_with fail
  refine HC.out.mono ?_
  rintro e w1 ⟨rfl, b1⟩
  go_wp2_with fail
  go_ret
  exact ⟨rfl, b1⟩

set_option maxRecDepth 100000 in
theorem RText_any (B b : Nat) (s : ByteArray) (err : Int) (w : World) (h : ReaderAt B b s err w) (hBw : B ≤ w.heap.size) :
    Calls Tryd.prog 65 #[.pointer (some ⟨b, 0, none⟩)] w fun r w' => r = .returned (.string (textV s err)) ∧ ReaderAt B b (textR s err) (textE s err) w' ∧ Near B b w w' := by
  have HB := Lib.hid (RBelow_any B b s err 65537 w h)
  have HT : ∀ w, ReaderAt B b (numS s err) (belE s err 65537) w → Hid (Calls Tryd.prog 88 #[.pointer (some ⟨b, 0, none⟩), .int .i64 (textN s err)] w fun r w' => r = .returned (.string (textV s err)) ∧ ReaderAt B b (textR s err) (textE s err) w' ∧ Near B b w w') := fun w h => Lib.hid (take_any B b _ _ _ w h)
  rw [show belV s err 65537 = (textN s err : Int) by have := belV_nonneg s err 65537; unfold textN; omega] at HB
  have HZ := Lib.hid (textV_size s err)
  generalize textV s err = T at *
  generalize textN s err = n at *
  clear h
  go_enter Tryd.func65, Tryd.ntmps65
  go_wp2_with fail
  refine HB.out.mono ?_
  rintro e w1 ⟨rfl, k1, b1⟩
  go_wp2_with fail
  refine (HT _ k1).out.mono ?_
  rintro e w2 ⟨rfl, k2, b2⟩
  go_wp2_with fail
  refine (Clone_any T w2 HZ.out).mono ?_
  rintro e w3 ⟨rfl, b3⟩
  have K := Lib.hid (k2.below b3)
  have b4 := (b1.trans b2).trans (b3.near (Nat.le_trans hBw (b1.trans b2).size))
  clear k2 k1
  go_wp2_with fail
  go_ret
  exact ⟨rfl, K.out, b4⟩
end Go.Proofs.YtgegipijappfhaaDoor
namespace Go.Proofs.YtgegipijappfhaaDoor
open Go

theorem takeS_list (l : List UInt8) (n : Nat) (h : n ≤ l.length) : takeS (txt l) 0 n = txt (l.take n) := by
  rw [takeS, if_pos ⟨rfl, by rw [txt_size]; exact h⟩]
  apply ByteArray.ext
  rw [ByteArray.data_extract]
  apply Array.toList_inj.1
  simp
theorem takeR_list (l : List UInt8) (n : Nat) (h : n ≤ l.length) : takeR (txt l) 0 n = txt (l.drop n) := by
  rw [takeR, if_pos ⟨rfl, by rw [txt_size]; exact h⟩]
  apply ByteArray.ext
  rw [ByteArray.data_extract]
  apply Array.toList_inj.1
  rw [Array.toList_extract]
  rw [txt_size, List.extract_eq_take_drop]
  exact List.take_of_length_le (by simp)
theorem takeE_list (l : List UInt8) (n : Nat) (h : n ≤ l.length) : takeE (txt l) 0 n = 0 := by
  rw [takeE, if_neg (by rw [txt_size]; omega)]
theorem takeE_short (l : List UInt8) (n : Nat) (h : l.length < n) : takeE (txt l) 0 n = 5 := by
  rw [takeE, if_pos ⟨rfl, by rw [txt_size]; exact h⟩]
theorem takeS_short (l : List UInt8) (n : Nat) (h : l.length < n) : takeS (txt l) 0 n = txt [] := by
  rw [takeS, if_neg (by rw [txt_size]; omega)]
theorem takeR_short (l : List UInt8) (n : Nat) (h : l.length < n) : takeR (txt l) 0 n = txt l := by
  rw [takeR, if_neg (by rw [txt_size]; omega)]
theorem takeS_err (s : ByteArray) (e : Int) (n : Nat) (h : e ≠ 0) : takeS s e n = txt [] := by rw [takeS, if_neg (fun k => h k.1)]
theorem takeR_err (s : ByteArray) (e : Int) (n : Nat) (h : e ≠ 0) : takeR s e n = s := by rw [takeR, if_neg (fun k => h k.1)]
theorem takeE_err (s : ByteArray) (e : Int) (n : Nat) (h : e ≠ 0) : takeE s e n = e := by rw [takeE, if_neg (fun k => h k.1)]
theorem at_cons (c : UInt8) (l : List UInt8) : at_ (txt (c :: l)) 0 = c := rfl

theorem octV_cons (c : UInt8) (l : List UInt8) (m : Int) (h : (c.toNat : Int) ≤ m) : octV (txt (c :: l)) 0 m = c.toNat := by
  rw [octV, if_pos ⟨rfl, by rw [txt_size]; simp, by rw [at_cons]; exact h⟩, at_cons]
theorem octE_cons (c : UInt8) (l : List UInt8) (m : Int) (h : (c.toNat : Int) ≤ m) : octE (txt (c :: l)) 0 m = 0 := by
  rw [octE, if_neg (by simp), if_neg (by rw [txt_size]; simp), at_cons, if_pos h]
theorem octE_big (c : UInt8) (l : List UInt8) (m : Int) (h : m < (c.toNat : Int)) : octE (txt (c :: l)) 0 m = 4 := by
  rw [octE, if_neg (by simp), if_neg (by rw [txt_size]; simp), at_cons, if_neg (by omega)]
theorem octE_nil (m : Int) : octE (txt []) 0 m = 5 := rfl
theorem octE_err (s : ByteArray) (e m : Int) (h : e ≠ 0) : octE s e m = e := by rw [octE, if_pos h]

theorem numTail_head (n : Nat) (h : n < 9223372036854775808) (h0 : n ≠ 0) : at_ (txt (numTail n)) 0 ≠ 0 := by
  obtain ⟨h1, h2⟩ := numLen_bounds n (by omega)
  obtain ⟨h3, h4⟩ := h2 h0
  have e : at_ (txt (numTail n)) 0 = UInt8.ofNat (n / 256 ^ (numLen n - 1)) := by
    show (numTail n).getD 0 0 = _
    rw [List.getD_eq_getElem?_getD, numTail]
    simp [h3]
  rw [e]
  intro k
  have k2 := congrArg UInt8.toNat k
  have hp : 0 < 256 ^ (numLen n - 1) := Nat.pow_pos (by decide)
  have h5 : n / 256 ^ (numLen n - 1) < 256 := by
    rw [Nat.div_lt_iff_lt_mul hp]
    have : 256 ^ numLen n = 256 * 256 ^ (numLen n - 1) := by rw [← Nat.pow_succ', show (numLen n - 1).succ = numLen n by omega]
    omega
  have h6 : 1 ≤ n / 256 ^ (numLen n - 1) := by rw [Nat.le_div_iff_mul_le hp]; omega
  simp at k2
  omega

/-- What was written of a number is read. -/
theorem num_read (n : Nat) (l : List UInt8) (h : n < 9223372036854775808) : numV (txt (numBytes n ++ l)) 0 = n ∧ numS (txt (numBytes n ++ l)) 0 = txt l ∧ numE (txt (numBytes n ++ l)) 0 = 0 := by
  have hk := numLen_le n h
  have hb := numLen_byte n h
  have ho : ((UInt8.ofNat (numLen n)).toNat : Int) ≤ 8 := by rw [hb]; omega
  have e : numBytes n ++ l = UInt8.ofNat (numLen n) :: (numTail n ++ l) := rfl
  rw [e]
  have t1 : takeR (txt (UInt8.ofNat (numLen n) :: (numTail n ++ l))) 0 1 = txt (numTail n ++ l) := by rw [takeR_list _ _ (by simp)]; rfl
  have o1 : (octV (txt (UInt8.ofNat (numLen n) :: (numTail n ++ l))) 0 8).toNat = numLen n := by rw [octV_cons _ _ _ ho, hb]; rfl
  have o2 := octE_cons (UInt8.ofNat (numLen n)) (numTail n ++ l) 8 ho
  have hl : numLen n ≤ (numTail n ++ l).length := by rw [List.length_append, numTail_length]; omega
  have T : numT (txt (UInt8.ofNat (numLen n) :: (numTail n ++ l))) 0 = txt (numTail n) := by
    rw [numT, t1, o1, o2, takeS_list _ _ hl, List.take_left' (numTail_length n)]
  have S : numS (txt (UInt8.ofNat (numLen n) :: (numTail n ++ l))) 0 = txt l := by
    rw [numS, t1, o1, o2, takeR_list _ _ hl, List.drop_left' (numTail_length n)]
  have E0 : numE0 (txt (UInt8.ofNat (numLen n) :: (numTail n ++ l))) 0 = 0 := by
    rw [numE0, t1, o1, o2, takeE_list _ _ hl]
  rw [numV, numE, T, S, E0, txt_size, numTail_length]
  by_cases h0 : n = 0
  · subst h0
    rw [numLen_zero]
    simp
  · obtain ⟨h3, _⟩ := (numLen_bounds n (by omega)).2 h0
    have hbad : numBad (txt (numTail n)) = false := by
      rw [numBad, decide_eq_false_iff_not]
      rintro (k | k)
      · exact numTail_head n h h0 k
      · have : beVal (txt (numTail n)).data.toList = n := beVal_numTail n (by omega)
        rw [this] at k
        omega
    rw [if_neg (by omega), numOk, hbad]
    refine ⟨?_, rfl, by simp⟩
    have : beVal (txt (numTail n)).data.toList = n := beVal_numTail n (by omega)
    simp [this]

/-- Of a number's bytes that are cut off some are wanting. -/
theorem num_short (n k : Nat) (h : n < 9223372036854775808) (hk : k < (numBytes n).length) : numE (txt ((numBytes n).take k)) 0 = 5 := by
  have hk2 := numLen_le n h
  have hb := numLen_byte n h
  cases k with
  | zero =>
    have hT : (numT (txt []) 0).size = 0 := by
      unfold numT
      rw [octE_nil, takeS_err _ _ _ (by decide)]
      rfl
    rw [List.take_zero, numE, if_neg (fun e => e.1 hT), numE0, octE_nil, takeE_err _ _ _ (by decide)]
  | succ k =>
    rw [numBytes_eq, List.take_succ_cons]
    have ho : ((UInt8.ofNat (numLen n)).toNat : Int) ≤ 8 := by rw [hb]; omega
    have t1 : takeR (txt (UInt8.ofNat (numLen n) :: (numTail n).take k)) 0 1 = txt ((numTail n).take k) := by rw [takeR_list _ _ (by simp)]; rfl
    have o1 : (octV (txt (UInt8.ofNat (numLen n) :: (numTail n).take k)) 0 8).toNat = numLen n := by rw [octV_cons _ _ _ ho, hb]; rfl
    have o2 := octE_cons (UInt8.ofNat (numLen n)) ((numTail n).take k) 8 ho
    have hl : ((numTail n).take k).length < numLen n := by
      rw [numBytes_length] at hk
      rw [List.length_take, numTail_length]
      omega
    have hT : (numT (txt (UInt8.ofNat (numLen n) :: (numTail n).take k)) 0).size = 0 := by
      rw [numT, t1, o1, o2, takeS_short _ _ hl]
      rfl
    rw [numE, if_neg (fun e => e.1 hT), numE0, t1, o1, o2, takeE_short _ _ hl]

/-- A number's digits to the base 256, so many of them. -/
theorem digs_succ (n k : Nat) : (List.range (k + 1)).map (fun j => UInt8.ofNat (n / 256 ^ (k + 1 - 1 - j))) = (List.range k).map (fun j => UInt8.ofNat (n / 256 / 256 ^ (k - 1 - j))) ++ [UInt8.ofNat n] := by
  rw [List.range_succ, List.map_append]
  congr 1
  · apply List.map_congr_left
    intro j hj
    have hj := List.mem_range.1 hj
    rw [Nat.div_div_eq_div_mul, ← Nat.pow_succ', show k + 1 - 1 - j = k - 1 - j + 1 by omega]
  · simp
theorem digs_beVal : ∀ (k : Nat) (l : List UInt8), l.length = k → (List.range k).map (fun j => UInt8.ofNat (beVal l / 256 ^ (k - 1 - j))) = l := by
  intro k
  induction k with
  | zero => intro l hn; rw [List.length_eq_zero_iff] at hn; subst hn; rfl
  | succ k ih =>
    intro l hn
    have hl : l ≠ [] := by intro e; rw [e] at hn; cases hn
    obtain ⟨m, c, rfl⟩ : ∃ m c, l = m ++ [c] := ⟨l.dropLast, l.getLast hl, (List.dropLast_concat_getLast hl).symm⟩
    have hm : m.length = k := by simpa using hn
    have hc := c.toNat_lt
    rw [digs_succ, beVal_put, show (256 * beVal m + c.toNat) / 256 = beVal m by omega, ih m hm]
    congr 2
    apply UInt8.toNat_inj.1
    simp
theorem numLen_of (l : List UInt8) (h : l.length ≤ 8) (h0 : l = [] ∨ at_ (txt l) 0 ≠ 0) : numLen (beVal l) = l.length := by
  have hlt := beVal_lt l
  have h64 : (256 : Nat) ^ l.length ≤ 256 ^ 8 := Nat.pow_le_pow_right (by decide) h
  obtain ⟨b1, b2⟩ := numLen_bounds (beVal l) (by omega)
  cases l with
  | nil => rfl
  | cons c l =>
    have hc : c ≠ 0 := by
      rcases h0 with h0 | h0
      · cases h0
      · exact h0
    have hc1 : 1 ≤ c.toNat := by
      have : c.toNat ≠ 0 := fun e => hc (UInt8.toNat_inj.1 e)
      omega
    have hv : beVal (c :: l) = c.toNat * 256 ^ l.length + beVal l := by
      have := beVal_append [c] l
      rw [show beVal [c] = c.toNat by simp [beVal]] at this
      exact this
    have hge : 256 ^ l.length ≤ beVal (c :: l) := by
      have := Nat.mul_le_mul_right (256 ^ l.length) hc1
      omega
    have hp : 0 < 256 ^ l.length := Nat.pow_pos (by decide)
    obtain ⟨b3, b4⟩ := b2 (by omega)
    rw [List.length_cons] at hlt ⊢
    have u1 : l.length < numLen (beVal (c :: l)) := (Nat.pow_lt_pow_iff_right (show 1 < 256 by decide)).1 (Nat.lt_of_le_of_lt hge b1)
    have u2 : numLen (beVal (c :: l)) - 1 < l.length + 1 := (Nat.pow_lt_pow_iff_right (show 1 < 256 by decide)).1 (Nat.lt_of_le_of_lt b4 hlt)
    omega
theorem numE_of_zero {s : ByteArray} (h : numE s 0 = 0) : ((numT s 0).size ≠ 0 → numBad (numT s 0) = false) ∧ numE0 s 0 = 0 := by
  unfold numE at h
  split at h
  · cases h
  · rename_i k
    refine ⟨fun h1 => ?_, h⟩
    cases hb : numBad (numT s 0)
    · rfl
    · exact absurd ⟨h1, hb⟩ k

/-- What is read as a number is what is written of it. -/
theorem num_one (l : List UInt8) (h : numE (txt l) 0 = 0) : ∃ n : Nat, n < 9223372036854775808 ∧ numV (txt l) 0 = n ∧ ∃ m, numS (txt l) 0 = txt m ∧ l = numBytes n ++ m := by
  obtain ⟨h1, h2⟩ := numE_of_zero h
  cases l with
  | nil =>
    rw [numE0, octE_nil, takeE_err _ _ _ (by decide)] at h2
    cases h2
  | cons c l =>
    by_cases hc : (c.toNat : Int) ≤ 8
    · have t1 : takeR (txt (c :: l)) 0 1 = txt l := by rw [takeR_list _ _ (by simp)]; rfl
      have o1 : (octV (txt (c :: l)) 0 8).toNat = c.toNat := by rw [octV_cons _ _ _ hc]; rfl
      have o2 := octE_cons c l 8 hc
      by_cases hl : c.toNat ≤ l.length
      · have T : numT (txt (c :: l)) 0 = txt (l.take c.toNat) := by rw [numT, t1, o1, o2, takeS_list _ _ hl]
        have S : numS (txt (c :: l)) 0 = txt (l.drop c.toNat) := by rw [numS, t1, o1, o2, takeR_list _ _ hl]
        have L : (l.take c.toNat).length = c.toNat := by rw [List.length_take]; omega
        rw [T, txt_size, L] at h1
        have hlen : numLen (beVal (l.take c.toNat)) = c.toNat := by
          rw [← L]
          conv => lhs; rw [L]
          rw [numLen_of _ (by omega)]
          by_cases h0 : c.toNat = 0
          · left; rw [h0]; rfl
          · right
            have := h1 h0
            rw [numBad, decide_eq_false_iff_not] at this
            exact fun e => this (.inl e)
        have hbig : beVal (l.take c.toNat) < 9223372036854775808 := by
          by_cases h0 : c.toNat = 0
          · rw [h0]; show beVal [] < _; decide
          · have := h1 h0
            rw [numBad, decide_eq_false_iff_not] at this
            have k : ¬ 9223372036854775807 < beVal (l.take c.toNat) := fun e => this (.inr e)
            omega
        refine ⟨beVal (l.take c.toNat), hbig, ?_, _, S, ?_⟩
        · rw [numV, T, txt_size, L]
          by_cases h0 : c.toNat = 0
          · rw [if_pos h0, h0]; rfl
          · rw [if_neg h0, numOk, h1 h0]
            simp
        · rw [numBytes_eq, numTail, hlen, digs_beVal _ _ L, List.cons_append, List.take_append_drop]
          congr 1
          apply UInt8.toNat_inj.1
          simp
      · rw [numE0, t1, o1, o2, takeE_short _ _ (by omega)] at h2
        cases h2
    · have o2 := octE_big c l 8 (by omega)
      rw [numE0, o2, takeE_err _ _ _ (by decide)] at h2
      cases h2

theorem belE_le {s : ByteArray} (m : Int) (h : belE s 0 m = 0) : numE s 0 = 0 ∧ numV s 0 < m ∧ belV s 0 m = numV s 0 := by
  unfold belE at h
  split at h
  · cases h
  · rename_i k
    have : ¬ m ≤ numV s 0 := fun e => k ⟨h, e⟩
    exact ⟨h, by omega, if_neg k⟩
theorem bel_of {s : ByteArray} {e m : Int} (h : ¬ m ≤ numV s e) : belE s e m = numE s e ∧ belV s e m = numV s e := ⟨if_neg fun k => h k.2, if_neg fun k => h k.2⟩

/-- What was written of a text is read. -/
theorem text_read (t l : List UInt8) (h : t.length ≤ 65536) : textV (txt (numBytes t.length ++ t ++ l)) 0 = txt t ∧ textR (txt (numBytes t.length ++ t ++ l)) 0 = txt l ∧ textE (txt (numBytes t.length ++ t ++ l)) 0 = 0 := by
  rw [List.append_assoc]
  obtain ⟨v, s, e⟩ := num_read t.length (t ++ l) (by omega)
  obtain ⟨b1, b2⟩ := bel_of (s := txt (numBytes t.length ++ (t ++ l))) (e := 0) (m := 65537) (by rw [v]; omega)
  have n : textN (txt (numBytes t.length ++ (t ++ l))) 0 = t.length := by rw [textN, b2, v]; rfl
  rw [textV, textR, textE, n, b1, e, s, takeS_list _ _ (by simp), takeR_list _ _ (by simp), takeE_list _ _ (by simp)]
  simp

/-- Of a text's bytes that are cut off some are wanting. -/
theorem text_short (t : List UInt8) (k : Nat) (h : t.length ≤ 65536) (hk : k < (numBytes t.length ++ t).length) : textE (txt ((numBytes t.length ++ t).take k)) 0 = 5 := by
  by_cases hb : k < (numBytes t.length).length
  · rw [List.take_append_of_le_length (by omega)]
    have hn := num_short t.length k (by omega) hb
    have be : belE (txt ((numBytes t.length).take k)) 0 65537 = 5 := by
      rw [belE, hn, if_neg (fun e => by cases e.1)]
    rw [textE, be, takeE_err _ _ _ (by decide)]
  · rw [List.take_append, List.take_of_length_le (by omega)]
    rw [List.length_append] at hk
    obtain ⟨v, s, e⟩ := num_read t.length (t.take (k - (numBytes t.length).length)) (by omega)
    generalize ht : t.take (k - (numBytes t.length).length) = u at *
    have hu : u.length < t.length := by rw [← ht, List.length_take]; omega
    obtain ⟨b1, b2⟩ := bel_of (s := txt (numBytes t.length ++ u)) (e := 0) (m := 65537) (by rw [v]; omega)
    have n : textN (txt (numBytes t.length ++ u)) 0 = t.length := by rw [textN, b2, v]; rfl
    rw [textE, n, b1, e, s, takeE_short _ _ hu]

/-- What is read as a text is what is written of it. -/
theorem text_one (l : List UInt8) (h : textE (txt l) 0 = 0) : ∃ t : List UInt8, t.length ≤ 65536 ∧ textV (txt l) 0 = txt t ∧ ∃ m, textR (txt l) 0 = txt m ∧ l = numBytes t.length ++ t ++ m := by
  have hb : belE (txt l) 0 65537 = 0 := by
    rcases Decidable.em (belE (txt l) 0 65537 = 0) with k | k
    · exact k
    · rw [textE, takeE_err _ _ _ k] at h
      exact h
  obtain ⟨b1, b2, b3⟩ := belE_le _ hb
  obtain ⟨n, n1, n2, m, n3, n4⟩ := num_one l b1
  have N : textN (txt l) 0 = n := by rw [textN, b3, n2]; rfl
  rw [textE, hb, n3, N] at h
  have hn : n ≤ m.length := by
    rcases Nat.lt_or_ge m.length n with k | k
    · rw [takeE_short _ _ k] at h; cases h
    · exact k
  have hl : (m.take n).length = n := by rw [List.length_take]; omega
  refine ⟨m.take n, by omega, ?_, m.drop n, ?_, ?_⟩
  · rw [textV, hb, n3, N, takeS_list _ _ hn]
  · rw [textR, hb, n3, N, takeR_list _ _ hn]
  · rw [hl, List.append_assoc, List.take_append_drop]
    exact n4

theorem num_err (s : ByteArray) (e : Int) (h : e ≠ 0) : numV s e = 0 ∧ numS s e = s ∧ numE s e = e := by
  have r1 : takeR s e 1 = s := takeR_err _ _ _ h
  have o1 : octE s e 8 = e := octE_err _ _ _ h
  have T : (numT s e).size = 0 := by rw [numT, r1, o1, takeS_err _ _ _ h]; rfl
  exact ⟨if_pos T, by rw [numS, r1, o1, takeR_err _ _ _ h], by rw [numE, if_neg (fun k => k.1 T), numE0, r1, o1, takeE_err _ _ _ h]⟩
theorem text_err (s : ByteArray) (e : Int) (h : e ≠ 0) : textV s e = txt [] ∧ textR s e = s ∧ textE s e = e := by
  obtain ⟨v, n, k⟩ := num_err s e h
  have b : belE s e 65537 = e := by rw [belE, k, if_neg (fun x => h x.1)]
  rw [textV, textR, textE, b, n, takeS_err _ _ _ h, takeR_err _ _ _ h, takeE_err _ _ _ h]
  exact ⟨rfl, rfl, rfl⟩
end Go.Proofs.YtgegipijappfhaaDoor
namespace Go.Proofs.YtgegipijappfhaaDoor
open Go Go.RowKit

theorem size_u8 : (Tryd.prog.info? 5).map (·.size) = some 1 := by kernel_rfl
set_option maxRecDepth 100000 in
theorem copy_lab (w : World) (ty : TypeId) (g : Nat) (a l : Lab) (h : rowAt w g = some (cellsL a)) :
    (Builtin.copy_ #[54, 9] ty #[.slice (some ⟨g, 0, none⟩) 32 32, .string ⟨l.l.toArray⟩]).run Tryd.prog w = .ok (goInt 32) (w.setRow g (cellsL l)) := by
  obtain ⟨t, ht⟩ := heap_of_rowAt h
  have hs : (ByteArray.mk l.l.toArray).size = 32 := by show l.l.toArray.size = 32; rw [List.size_toArray, l.h]
  have hz : (cellsL a).size = 32 := by simp
  have := Lib.run_copy_row_string (P := Tryd.prog) w 54 9 ty 5 g 0 32 32 ⟨l.l.toArray⟩ (cellsL a) t Tryd.underlying54 size_u8 ht (by rw [hs]; exact Nat.le_refl _) (by rw [hs, hz]; exact Nat.le_refl _)
  rw [this, hs]
  congr 2
  have hd : (cellsL a).toList.drop (0 + 32) = [] := List.drop_eq_nil_of_le (by rw [Array.length_toList, hz]; exact Nat.le_refl _)
  rw [hd]
  simp [cellsL, Lib.byteCells]
  exact fun _ _ => rfl
set_option maxRecDepth 100000 in
theorem copy_none (w : World) (ty : TypeId) (g : Nat) :
    (Builtin.copy_ #[54, 9] ty #[.slice (some ⟨g, 0, none⟩) 32 32, .string ⟨#[]⟩]).run Tryd.prog w = .ok (goInt 0) w :=
  Lib.run_copy_empty_string (P := Tryd.prog) w _ _ _ 5 _ _ _ _ Tryd.underlying54 (by rw [size_u8]; rfl) rfl

theorem ReaderAt.above {B b : Nat} {s : ByteArray} {err : Int} {w w' : World} (h : ReaderAt B b s err w) (k : Below (b + 1) w w') : ReaderAt B b s err w' :=
  ⟨h.1, (k.block b (Nat.lt_succ_self _)).trans h.2⟩

/-- The label that Label takes. -/
def labelV (s : ByteArray) (err : Int) : Lab := if h : err = 0 ∧ 32 ≤ s.size then ⟨s.data.toList.take 32, by rw [List.length_take]; exact Nat.min_eq_left h.2⟩ else zeroLab
end Go.Proofs.YtgegipijappfhaaDoor
namespace Go.Proofs.YtgegipijappfhaaDoor
open Go Go.RowKit

def numW (bs : List UInt8) (err n : Int) : List UInt8 := if n < 0 then [] else added bs err (numBytes n.toNat)
def numWE (err n : Int) : Int := if n < 0 then (if err = 0 then 1 else err) else err
theorem WNumber_all (B b : Nat) (bs : List UInt8) (err n : Int) (w : World) (h : WriterAt B b bs err w) (hn : n < 9223372036854775808) (hBw : B ≤ w.heap.size) :
    Calls Tryd.prog 41 #[.pointer (some ⟨b, 0, none⟩), .int .i64 n] w fun r w' => r = .returned (.tuple #[]) ∧ WriterAt B b (numW bs err n) (numWE err n) w' ∧ Near B b w w' := by
  by_cases h0 : n < 0
  · rw [numW, numWE, if_pos h0, if_pos h0]
    exact Number_neg B b bs err n w h h0
  · rw [numW, numWE, if_neg h0, if_neg h0]
    obtain ⟨m, rfl⟩ : ∃ m : Nat, n = m := ⟨n.toNat, by omega⟩
    exact Number_any B b bs err m w h (by omega) hBw
def textW (bs : List UInt8) (err : Int) (s : ByteArray) : List UInt8 := if 65536 < s.size then [] else added (added bs err (numBytes s.size)) err s.data.toList
def textWE (err : Int) (s : ByteArray) : Int := if 65536 < s.size then (if err = 0 then 2 else err) else err
theorem WText_all (B b : Nat) (bs : List UInt8) (err : Int) (s : ByteArray) (w : World) (h : WriterAt B b bs err w) (hBw : B ≤ w.heap.size) :
    Calls Tryd.prog 54 #[.pointer (some ⟨b, 0, none⟩), .string s] w fun r w' => r = .returned (.tuple #[]) ∧ WriterAt B b (textW bs err s) (textWE err s) w' ∧ Near B b w w' := by
  by_cases h0 : 65536 < s.size
  · rw [textW, textWE, if_pos h0, if_pos h0]
    exact Text_big B b bs err s w h h0
  · rw [textW, textWE, if_neg h0, if_neg h0]
    exact Text_any B b bs err s w h (by omega) hBw
def doneS (bs : List UInt8) (err : Int) : List UInt8 := if err ≠ 0 ∨ 65536 < bs.length then [] else bs
def doneE (bs : List UInt8) (err : Int) : Int := if err ≠ 0 then err else if 65536 < bs.length then 2 else 0
theorem WDone_all (B b : Nat) (bs : List UInt8) (err : Int) (w : World) (h : WriterAt B b bs err w) :
    Calls Tryd.prog 43 #[.pointer (some ⟨b, 0, none⟩)] w fun r w' => r = .returned (.tuple #[.string (txt (doneS bs err)), .int .i64 (doneE bs err)]) ∧ Below w.heap.size w w' := by
  refine (Done_any B b bs err w h).mono ?_
  rintro e w' ⟨rfl, hb⟩
  refine ⟨?_, hb⟩
  rw [doneS, doneE]
  by_cases he : err = 0
  · by_cases hl : 65536 < bs.length
    · simp [he, hl]
    · simp [he, hl]
  · simp [he]
theorem doneE_zero {bs : List UInt8} {err : Int} (h : doneE bs err = 0) : err = 0 ∧ bs.length ≤ 65536 ∧ doneS bs err = bs := by
  unfold doneE at h
  split at h
  · contradiction
  · split at h
    · cases h
    · rename_i h1 h2
      have h1 : err = 0 := by omega
      exact ⟨h1, by omega, by rw [doneS, if_neg (by omega)]⟩
theorem doneE_err {bs : List UInt8} {err : Int} (h : doneE bs err ≠ 0) : doneS bs err = [] := by
  unfold doneE at h
  unfold doneS
  by_cases h1 : err ≠ 0
  · rw [if_pos (.inl h1)]
  · by_cases h2 : 65536 < bs.length
    · rw [if_pos (.inr h2)]
    · rw [if_neg h1, if_neg h2] at h
      exact absurd rfl h
theorem numWE_zero {err n : Int} (h : numWE err n = 0) : 0 ≤ n ∧ err = 0 := by
  unfold numWE at h
  split at h
  · split at h
    · cases h
    · contradiction
  · exact ⟨by omega, h⟩
theorem textWE_zero {err : Int} {s : ByteArray} (h : textWE err s = 0) : s.size ≤ 65536 ∧ err = 0 := by
  unfold textWE at h
  split at h
  · split at h
    · cases h
    · contradiction
  · exact ⟨by omega, h⟩
theorem added_le {bs : List UInt8} {s : List UInt8} (h : bs.length ≤ 65536) : added bs 0 s = bs ++ s := if_pos ⟨rfl, h⟩
/-- Where what is there in the end isn't too long, all was added. -/
theorem added_end {bs s : List UInt8} (h : (added bs 0 s).length ≤ 65536) : bs.length ≤ 65536 ∧ added bs 0 s = bs ++ s := by
  by_cases hb : bs.length ≤ 65536
  · exact ⟨hb, added_le hb⟩
  · rw [added, if_neg (fun e => hb e.2)] at h
    exact absurd h hb
end Go.Proofs.YtgegipijappfhaaDoor
namespace Go.Proofs.YtgegipijappfhaaDoor
open Go

/-- How many bytes two keys have in common. -/
def commonB : List UInt8 → List UInt8 → Nat
  | a :: x, b :: y => if a = b then commonB x y + 1 else 0
  | [], _ => 0
  | _ :: _, [] => 0
theorem commonB_nil (a : List UInt8) : commonB [] a = 0 := by cases a <;> rfl
theorem commonB_nil' (a : List UInt8) : commonB a [] = 0 := by cases a <;> rfl
theorem commonB_le : ∀ a b : List UInt8, commonB a b ≤ a.length ∧ commonB a b ≤ b.length
  | [], b => by rw [commonB_nil]; exact ⟨Nat.zero_le _, Nat.zero_le _⟩
  | _ :: _, [] => ⟨Nat.zero_le _, Nat.zero_le _⟩
  | a :: x, b :: y => by
    have := commonB_le x y
    unfold commonB
    split
    · simp only [List.length_cons]; omega
    · exact ⟨Nat.zero_le _, Nat.zero_le _⟩
theorem commonB_take : ∀ a b : List UInt8, a.take (commonB a b) = b.take (commonB a b)
  | [], b => by rw [commonB_nil]; simp
  | _ :: _, [] => by rw [commonB_nil']; simp
  | a :: x, b :: y => by
    have := commonB_take x y
    unfold commonB
    split
    · rename_i h; rw [List.take_succ_cons, List.take_succ_cons, this, h]
    · simp
/-- Where both go on and are alike up to n, at least n. -/
theorem commonB_ge : ∀ (n : Nat) (a b : List UInt8), n ≤ a.length → n ≤ b.length → a.take n = b.take n → n ≤ commonB a b
  | 0, _, _, _, _, _ => Nat.zero_le _
  | n + 1, [], _, h, _, _ => by simp at h
  | n + 1, _ :: _, [], _, h, _ => by simp at h
  | n + 1, a :: x, b :: y, h1, h2, h3 => by
    rw [List.take_succ_cons, List.take_succ_cons] at h3
    injection h3 with h3 h4
    have := commonB_ge n x y (by simpa using h1) (by simpa using h2) h4
    unfold commonB
    rw [if_pos h3]
    omega
/-- Where they part. -/
theorem commonB_part : ∀ (n : Nat) (a b : List UInt8), n < a.length → n < b.length → a.getD n 0 ≠ b.getD n 0 → commonB a b ≤ n
  | _, [], _, h, _, _ => by simp at h
  | _, _ :: _, [], _, h, _ => by simp at h
  | 0, a :: x, b :: y, _, _, h => by
    unfold commonB
    rw [if_neg (by simpa using h)]
    exact Nat.le_refl _
  | n + 1, a :: x, b :: y, h1, h2, h3 => by
    have := commonB_part n x y (by simpa using h1) (by simpa using h2) (by simpa using h3)
    unfold commonB
    split
    · omega
    · exact Nat.zero_le _
theorem take_getD : ∀ (n : Nat) (a b : List UInt8), n < a.length → n < b.length → a.take n = b.take n → a.getD n 0 = b.getD n 0 → a.take (n + 1) = b.take (n + 1) := by
  intro n a b h1 h2 h3 h4
  rw [List.take_succ_eq_append_getElem h1, List.take_succ_eq_append_getElem h2, h3]
  rw [List.getD_eq_getElem?_getD, List.getD_eq_getElem?_getD, List.getElem?_eq_getElem h1, List.getElem?_eq_getElem h2] at h4
  have h5 : a[n] = b[n] := h4
  rw [h5]

/-- The error of an entry behind a key. -/
def oneB (x : Ent) (ahead : List UInt8) : Nat :=
  if x.key = [] ∨ (x.gone = true ∧ x.val ≠ []) then 3
  else if 100 < x.key.length ∨ 4000 < x.val.length then 2
  else if ahead < x.key then 0 else 3
def goB : List UInt8 → List Ent → Nat
  | _, [] => 0
  | a, x :: l => if oneB x a = 0 then goB x.key l else oneB x a
def checkB (l : List Ent) : Nat := if 256 < l.length then 2 else goB [] l
theorem oneB_zero {x : Ent} {a : List UInt8} : oneB x a = 0 ↔ x.key ≠ [] ∧ (x.gone = true → x.val = []) ∧ x.key.length ≤ 100 ∧ x.val.length ≤ 4000 ∧ a < x.key := by
  unfold oneB
  constructor
  · intro h
    split at h
    · cases h
    · rename_i h1
      split at h
      · cases h
      · rename_i h2
        split at h
        · rename_i h3
          refine ⟨fun e => h1 (.inl e), fun e => ?_, by omega, by omega, h3⟩
          by_cases hv : x.val = []
          · exact hv
          · exact absurd (.inr ⟨e, hv⟩) h1
        · cases h
  · rintro ⟨h1, h2, h3, h4, h5⟩
    rw [if_neg (fun e => e.elim h1 (fun q => q.2 (h2 q.1))), if_neg (by omega), if_pos h5]
theorem goB_cons_ok {x : Ent} {a : List UInt8} {l : List Ent} (h : oneB x a = 0) : goB a (x :: l) = goB x.key l := by rw [goB, if_pos h]
theorem goB_cons_bad {x : Ent} {a : List UInt8} {l : List Ent} (h : oneB x a ≠ 0) : goB a (x :: l) = oneB x a := by rw [goB, if_neg h]
theorem goB_zero : ∀ {l : List Ent} {a : List UInt8}, goB a l = 0 → rising l ∧ ∀ x ∈ l, x.key ≠ [] ∧ (x.gone = true → x.val = []) ∧ x.key.length ≤ 100 ∧ x.val.length ≤ 4000 ∧ a < x.key
  | [], _, _ => ⟨List.Pairwise.nil, fun x h => by cases h⟩
  | x :: l, a, h => by
    by_cases h1 : oneB x a = 0
    · rw [goB_cons_ok h1] at h
      obtain ⟨h2, h3⟩ := goB_zero h
      obtain ⟨k1, k2, k3, k4, k5⟩ := oneB_zero.1 h1
      refine ⟨List.Pairwise.cons (fun y hy => (h3 y hy).2.2.2.2) h2, fun y hy => ?_⟩
      rcases List.mem_cons.1 hy with rfl | hy
      · exact ⟨k1, k2, k3, k4, k5⟩
      · obtain ⟨q1, q2, q3, q4, q5⟩ := h3 y hy
        exact ⟨q1, q2, q3, q4, klt_trans k5 q5⟩
    · rw [goB_cons_bad h1] at h
      exact absurd h h1
theorem goB_drop {l : List Ent} {i : Nat} {x : Ent} {a : List UInt8} (h : l[i]? = some x) : goB a (l.drop i) = if oneB x a = 0 then goB x.key (l.drop (i + 1)) else oneB x a := by
  have hl := (List.getElem?_eq_some_iff.1 h)
  rw [List.drop_eq_getElem_cons hl.1, hl.2, goB]

/-- An entry behind a key, as bytes. -/
def encE (a : List UInt8) (x : Ent) : List UInt8 :=
  numBytes (commonB a x.key) ++ (numBytes (x.key.length - commonB a x.key) ++ x.key.drop (commonB a x.key)) ++ [if x.gone then 1 else 0] ++ (if x.gone then [] else numBytes x.val.length ++ x.val)
def encB : List UInt8 → List Ent → List UInt8
  | _, [] => []
  | a, x :: l => encE a x ++ encB x.key l
def textB (l : List Ent) : List UInt8 := numBytes l.length ++ encB [] l
theorem encB_take : ∀ (l : List Ent) (i : Nat) (x : Ent) (a : List UInt8), l[i]? = some x → encB a (l.take (i + 1)) = encB a (l.take i) ++ encE (if 0 < i then (l.getD (i - 1) x).key else a) x
  | [], i, x, _, h => by simp at h
  | y :: l, 0, x, a, h => by
    obtain rfl : y = x := by simpa using h
    simp [encB]
  | y :: l, i + 1, x, a, h => by
    have := encB_take l i x y.key (by simpa using h)
    rw [List.take_succ_cons, List.take_succ_cons, encB, encB, this, List.append_assoc]
    congr 3
    by_cases hi : 0 < i
    · rw [if_pos hi, if_pos (by omega)]
      obtain ⟨j, rfl⟩ : ∃ j, i = j + 1 := ⟨i - 1, by omega⟩
      simp
    · obtain rfl : i = 0 := by omega
      simp

/-- What is read of an entry behind a key: the error (0: none), the entry, what is left, the reader's error. -/
structure RdB where
  fail : Int
  ent : Ent
  rest : ByteArray
  err : Int
def rdB (s : ByteArray) (e : Int) (a : List UInt8) : RdB :=
  let n := numV s e
  let t := textV (numS s e) (numE s e)
  let s2 := textR (numS s e) (numE s e)
  let e2 := textE (numS s e) (numE s e)
  let g := flagV s2 e2
  let s3 := takeR s2 e2 1
  let e3 := octE s2 e2 1
  let v := if g then txt [] else textV s3 e3
  let s4 := if g then s3 else textR s3 e3
  let e4 := if g then e3 else textE s3 e3
  let k := a.take n.toNat ++ t.data.toList
  if e4 ≠ 0 ∧ e4 ≠ 3 then ⟨e4, ⟨[], [], false⟩, s4, e4⟩
  else if (a.length : Int) < n then ⟨3, ⟨[], [], false⟩, s4, e4⟩
  else if n < commonB a k then ⟨3, ⟨[], [], false⟩, s4, e4⟩
  else ⟨0, ⟨k, v.data.toList, g⟩, s4, e4⟩
/-- So many entries, one behind the other. -/
structure RdsB where
  fail : Int
  list : List Ent
  rest : ByteArray
  err : Int
def rdsB : Nat → ByteArray → Int → List UInt8 → RdsB
  | 0, s, e, _ => ⟨0, [], s, e⟩
  | n + 1, s, e, a =>
    let q := rdB s e a
    if q.fail ≠ 0 then ⟨q.fail, [], q.rest, q.err⟩
    else let r := rdsB n q.rest q.err q.ent.key
      ⟨r.fail, q.ent :: r.list, r.rest, r.err⟩
/-- What a reader says in the end. -/
def doneR (s : ByteArray) (e : Int) : Int := if e = 0 ∧ s.size ≠ 0 then 3 else e
theorem doneR_zero {s : ByteArray} {e : Int} (h : doneR s e = 0) : e = 0 ∧ s.size = 0 := by
  unfold doneR at h
  split at h
  · cases h
  · rename_i k
    subst h
    refine ⟨rfl, ?_⟩
    by_cases q : s.size = 0
    · exact q
    · exact absurd ⟨rfl, q⟩ k
/-- What is read of a frame's text: the error, the entries. -/
def readB (t : List UInt8) : Int × List Ent :=
  let r := rdsB (belV (txt t) 0 257).toNat (numS (txt t) 0) (belE (txt t) 0 257) []
  let d := doneR r.rest r.err
  if r.fail ≠ 0 then (r.fail, [])
  else if d ≠ 0 then (d, [])
  else if checkB r.list ≠ 0 then (checkB r.list, [])
  else (0, r.list)

theorem flag_read (b : Bool) (l : List UInt8) : flagV (txt ((if b then 1 else 0) :: l)) 0 = b ∧ takeR (txt ((if b then 1 else 0) :: l)) 0 1 = txt l ∧ octE (txt ((if b then 1 else 0) :: l)) 0 1 = 0 := by
  cases b
  · exact ⟨by rw [flagV, octV_cons _ _ _ (by decide)]; rfl, takeR_list _ 1 (by simp), octE_cons _ _ _ (by decide)⟩
  · exact ⟨by rw [flagV, octV_cons _ _ _ (by decide)]; rfl, takeR_list _ 1 (by simp), octE_cons _ _ _ (by decide)⟩
/-- An entry that was written is read. -/
theorem rdB_enc (a : List UInt8) (x : Ent) (l : List UInt8) (hk : x.key.length ≤ 100) (hv : x.val.length ≤ 4000) (hg : x.gone = true → x.val = []) : rdB (txt (encE a x ++ l)) 0 a = ⟨0, x, txt l, 0⟩ := by
  obtain ⟨c1, c2⟩ := commonB_le a x.key
  have ct := commonB_take a x.key
  obtain ⟨n, hn⟩ : ∃ n, commonB a x.key = n := ⟨_, rfl⟩
  have hkey : a.take n ++ x.key.drop n = x.key := by rw [← hn, ct, List.take_append_drop]
  unfold encE
  rw [hn] at c1 c2 ⊢
  obtain ⟨k, v, g⟩ := x
  simp only at hk hv hg c1 c2 hn hkey ⊢
  have hd : (k.drop n).length = k.length - n := List.length_drop
  rw [show numBytes n ++ (numBytes (k.length - n) ++ k.drop n) ++ [if g = true then 1 else 0] ++ (if g = true then [] else numBytes v.length ++ v) ++ l = numBytes n ++ (numBytes (k.drop n).length ++ k.drop n ++ ((if g then 1 else 0) :: ((if g = true then [] else numBytes v.length ++ v) ++ l))) by
    rw [hd]; simp only [List.append_assoc, List.cons_append, List.nil_append]]
  obtain ⟨n1, n2, n3⟩ := num_read n (numBytes (k.drop n).length ++ k.drop n ++ ((if g then 1 else 0) :: ((if g = true then [] else numBytes v.length ++ v) ++ l))) (by omega)
  obtain ⟨t1, t2, t3⟩ := text_read (k.drop n) ((if g then 1 else 0) :: ((if g = true then [] else numBytes v.length ++ v) ++ l)) (by omega)
  obtain ⟨f1, f2, f3⟩ := flag_read g ((if g = true then [] else numBytes v.length ++ v) ++ l)
  unfold rdB
  simp only [n1, n2, n3, t1, t2, t3, f1, f2, f3]
  have hk2 : a.take (n : Int).toNat ++ (txt (k.drop n)).data.toList = k := by
    rw [Int.toNat_natCast]
    exact hkey
  rw [hk2, hn]
  cases g with
  | true =>
    obtain rfl := hg rfl
    simp only [if_true, List.nil_append]
    rw [if_neg (by omega), if_neg (by omega), if_neg (by omega)]
  | false =>
    obtain ⟨v1, v2, v3⟩ := text_read v l (by omega)
    simp only [Bool.false_eq_true, if_false, v1, v2, v3]
    rw [if_neg (by omega), if_neg (by omega), if_neg (by omega)]
theorem rdsB_enc : ∀ (l : List Ent) (a m : List UInt8), (∀ x ∈ l, x.key.length ≤ 100 ∧ x.val.length ≤ 4000 ∧ (x.gone = true → x.val = [])) → rdsB l.length (txt (encB a l ++ m)) 0 a = ⟨0, l, txt m, 0⟩
  | [], a, m, _ => rfl
  | x :: l, a, m, h => by
    obtain ⟨h1, h2, h3⟩ := h x (by simp)
    have := rdsB_enc l x.key m fun y hy => h y (by simp [hy])
    rw [encB, List.append_assoc, List.length_cons, rdsB, rdB_enc a x _ h1 h2 h3]
    simp only [ne_eq, not_true_eq_false, if_false]
    rw [this]
/-- What was written is read. -/
theorem readB_text (l : List Ent) (h : checkB l = 0) : readB (textB l) = (0, l) := by
  have hc := h
  unfold checkB at h
  split at h
  · cases h
  · rename_i hl
    obtain ⟨_, h2⟩ := goB_zero h
    obtain ⟨n1, n2, n3⟩ := num_read l.length (encB [] l) (by omega)
    have b1 : belV (txt (numBytes l.length ++ encB [] l)) 0 257 = l.length := by rw [belV, if_neg (by omega), n1]
    have b2 : belE (txt (numBytes l.length ++ encB [] l)) 0 257 = 0 := by rw [belE, if_neg (by omega), n3]
    have := rdsB_enc l [] [] fun x hx => ⟨(h2 x hx).2.2.1, (h2 x hx).2.2.2.1, (h2 x hx).2.1⟩
    rw [List.append_nil] at this
    unfold readB textB
    rw [b1, b2, n2, Int.toNat_natCast, this]
    simp only [ne_eq, not_true_eq_false, if_false]
    rw [if_neg (by simp [doneR, txt_size]), if_neg (by rw [hc]; simp)]
theorem flag_one (l : List UInt8) (h : octE (txt l) 0 1 = 0) : ∃ m, l = (if flagV (txt l) 0 then 1 else 0) :: m ∧ takeR (txt l) 0 1 = txt m := by
  cases l with
  | nil => rw [octE_nil] at h; cases h
  | cons c m =>
    have hc : (c.toNat : Int) ≤ 1 := by
      by_cases k : (c.toNat : Int) ≤ 1
      · exact k
      · rw [octE_big _ _ _ (by omega)] at h; cases h
    refine ⟨m, ?_, takeR_list _ 1 (by simp)⟩
    rw [flagV, octV_cons _ _ _ hc]
    congr 1
    rcases (by omega : c.toNat = 0 ∨ c.toNat = 1) with q | q
    · rw [q]
      exact UInt8.toNat_inj.1 q
    · rw [q]
      exact UInt8.toNat_inj.1 q
theorem octE_err0 {s : ByteArray} {e : Int} (h : octE s e 1 = 0) : e = 0 := by
  by_cases k : e = 0
  · exact k
  · rw [octE_err _ _ _ k] at h; exact absurd h k
theorem textE_err0 {s : ByteArray} {e : Int} (h : textE s e = 0) : e = 0 := by
  by_cases k : e = 0
  · exact k
  · rw [(text_err s e k).2.2] at h; exact absurd h k
theorem numE_err0 {s : ByteArray} {e : Int} (h : numE s e = 0) : e = 0 := by
  by_cases k : e = 0
  · exact k
  · rw [(num_err s e k).2.2] at h; exact absurd h k
/-- What is read without an error was written so. -/
theorem rdB_one (l a : List UInt8) (x : Ent) (s : ByteArray) (h : rdB (txt l) 0 a = ⟨0, x, s, 0⟩) (hv : x.gone = true → x.val = []) : ∃ m, s = txt m ∧ l = encE a x ++ m := by
  unfold rdB at h
  simp only at h
  obtain ⟨E4, hE4⟩ : ∃ E4, (if flagV (textR (numS (txt l) 0) (numE (txt l) 0)) (textE (numS (txt l) 0) (numE (txt l) 0)) = true then octE (textR (numS (txt l) 0) (numE (txt l) 0)) (textE (numS (txt l) 0) (numE (txt l) 0)) 1 else textE (takeR (textR (numS (txt l) 0) (numE (txt l) 0)) (textE (numS (txt l) 0) (numE (txt l) 0)) 1) (octE (textR (numS (txt l) 0) (numE (txt l) 0)) (textE (numS (txt l) 0) (numE (txt l) 0)) 1)) = E4 := ⟨_, rfl⟩
  rw [hE4] at h
  have e40 : E4 = 0 := by
    split at h
    · injection h
    · split at h
      · injection h
      · split at h <;> injection h
  subst e40
  have o3 : octE (textR (numS (txt l) 0) (numE (txt l) 0)) (textE (numS (txt l) 0) (numE (txt l) 0)) 1 = 0 := by
    split at hE4
    · exact hE4
    · exact textE_err0 hE4
  have o2 := octE_err0 o3
  have o1 := textE_err0 o2
  obtain ⟨n, hn, n1, m1, n2, rfl⟩ := num_one l o1
  rw [n2, o1] at o2 o3 hE4
  rw [n1, n2, o1] at h
  obtain ⟨t, ht, t1, m2, t2, rfl⟩ := text_one m1 o2
  rw [t2, o2] at o3 hE4
  rw [t1, t2, o2] at h
  obtain ⟨m3, f1, f2⟩ := flag_one m2 o3
  rw [f2, o3] at hE4 h
  rw [if_neg (by simp)] at h
  split at h
  · injection h with q; cases q
  · rename_i ha
    split at h
    · injection h with q; cases q
    · rename_i hc
      injection h with _ hx hs _
      rw [Int.toNat_natCast, show (txt t).data.toList = t from rfl] at hx hc
      have na : n ≤ a.length := by omega
      have hlen : (a.take n).length = n := by rw [List.length_take]; omega
      have hge : n ≤ commonB a (a.take n ++ t) := commonB_ge n _ _ na (by rw [List.length_append, hlen]; omega) (by rw [List.take_append_of_le_length (by omega), List.take_take, Nat.min_self])
      have hcn : commonB a (a.take n ++ t) = n := by omega
      have hdrop : (a.take n ++ t).drop n = t := by rw [List.drop_append, hlen, Nat.sub_self, List.drop_zero, List.drop_eq_nil_of_le (by omega), List.nil_append]
      have hklen : (a.take n ++ t).length - n = t.length := by rw [List.length_append, hlen]; omega
      by_cases hg : flagV (txt m2) 0 = true
      · rw [hg] at hx hs f1
        simp only [if_true] at hx hs f1
        subst hx hs
        refine ⟨m3, rfl, ?_⟩
        unfold encE
        simp only [hcn, hdrop, hklen, if_true]
        rw [f1]
        simp only [List.append_assoc, List.cons_append, List.nil_append]
      · have hg : flagV (txt m2) 0 = false := by simpa using hg
        rw [hg] at hx hs f1 hE4
        simp only [Bool.false_eq_true, if_false] at hx hs f1 hE4
        obtain ⟨v, hvl, v1, m4, v2, rfl⟩ := text_one m3 hE4
        rw [v1] at hx
        rw [v2] at hs
        subst hx hs
        refine ⟨m4, rfl, ?_⟩
        unfold encE
        simp only [hcn, hdrop, hklen, Bool.false_eq_true, if_false]
        rw [f1]
        simp only [List.append_assoc, List.cons_append, List.nil_append]
theorem rdB_eta : ∀ r : RdB, r.fail = 0 → r.err = 0 → r = ⟨0, r.ent, r.rest, 0⟩
  | ⟨f, x, s, e⟩, h1, h2 => by
    have h1 : f = 0 := h1
    have h2 : e = 0 := h2
    subst h1 h2
    rfl
theorem rdB_err (s : ByteArray) (e : Int) (a : List UInt8) (h : e ≠ 0) : (rdB s e a).fail = 0 → (rdB s e a).err ≠ 0 := by
  intro hf he
  unfold rdB at hf he
  simp only at hf he
  obtain ⟨E, hE⟩ : ∃ E, (if flagV (textR (numS s e) (numE s e)) (textE (numS s e) (numE s e)) = true then octE (textR (numS s e) (numE s e)) (textE (numS s e) (numE s e)) 1 else textE (takeR (textR (numS s e) (numE s e)) (textE (numS s e) (numE s e)) 1) (octE (textR (numS s e) (numE s e)) (textE (numS s e) (numE s e)) 1)) = E := ⟨_, rfl⟩
  rw [hE] at hf he
  have key : E = 0 := by
    split at he
    · exact he
    · split at he
      · exact he
      · split at he <;> exact he
  subst key
  have o3 : octE (textR (numS s e) (numE s e)) (textE (numS s e) (numE s e)) 1 = 0 := by
    split at hE
    · exact hE
    · exact textE_err0 hE
  exact h (numE_err0 (textE_err0 (octE_err0 o3)))
theorem rdsB_err : ∀ (n : Nat) (s : ByteArray) (e : Int) (a : List UInt8), e ≠ 0 → (rdsB n s e a).fail = 0 → (rdsB n s e a).err ≠ 0
  | 0, s, e, a, h, _ => h
  | n + 1, s, e, a, h, hf => by
    rw [rdsB] at hf ⊢
    simp only at hf ⊢
    split at hf
    · rename_i q
      exact absurd hf q
    · rename_i q
      have q0 : (rdB s e a).fail = 0 := by simpa using q
      rw [if_neg q]
      exact rdsB_err n _ _ _ (rdB_err s e a h q0) hf
theorem rdsB_one : ∀ (n : Nat) (l a : List UInt8), (rdsB n (txt l) 0 a).fail = 0 → (rdsB n (txt l) 0 a).err = 0 → (∀ x ∈ (rdsB n (txt l) 0 a).list, x.gone = true → x.val = []) →
    (rdsB n (txt l) 0 a).list.length = n ∧ ∃ m, (rdsB n (txt l) 0 a).rest = txt m ∧ l = encB a (rdsB n (txt l) 0 a).list ++ m
  | 0, l, a, _, _, _ => ⟨rfl, l, rfl, rfl⟩
  | n + 1, l, a, hf, he, hx => by
    rw [rdsB] at hf he hx ⊢
    simp only at hf he hx ⊢
    split at hf
    · rename_i q
      exact absurd hf q
    · rename_i q
      have q0 : (rdB (txt l) 0 a).fail = 0 := by simpa using q
      rw [if_neg q] at he hx ⊢
      simp only at he hx ⊢
      have q1 : (rdB (txt l) 0 a).err = 0 := by
        by_cases k : (rdB (txt l) 0 a).err = 0
        · exact k
        · exact absurd he (rdsB_err n _ _ _ k hf)
      obtain ⟨m, hm, hl⟩ := rdB_one l a (rdB (txt l) 0 a).ent (rdB (txt l) 0 a).rest (rdB_eta _ q0 q1) (hx _ (by simp))
      rw [q1, hm] at hf he hx ⊢
      obtain ⟨h1, m2, h2, h3⟩ := rdsB_one n m (rdB (txt l) 0 a).ent.key hf he fun x k => hx x (by simp [k])
      refine ⟨by rw [List.length_cons, h1], m2, h2, ?_⟩
      rw [encB, List.append_assoc, ← h3]
      exact hl
theorem checkB_gone {l : List Ent} (h : checkB l = 0) : ∀ x ∈ l, x.gone = true → x.val = [] := by
  unfold checkB at h
  split at h
  · cases h
  · exact fun x hx => ((goB_zero h).2 x hx).2.1
/-- What is read without an error was written so: there is one spelling. -/
theorem readB_one (t : List UInt8) (h : (readB t).1 = 0) : checkB (readB t).2 = 0 ∧ t = textB (readB t).2 := by
  unfold readB at h ⊢
  simp only at h ⊢
  split at h
  · rename_i q
    exact absurd h q
  · rename_i q
    have q0 : (rdsB (belV (txt t) 0 257).toNat (numS (txt t) 0) (belE (txt t) 0 257) []).fail = 0 := by simpa using q
    rw [if_neg q]
    split at h
    · rename_i k
      exact absurd h k
    · rename_i k
      rw [if_neg k]
      obtain ⟨he, hz⟩ := doneR_zero (Decidable.not_not.1 k)
      split at h
      · rename_i c
        exact absurd h (by simpa using c)
      · rename_i c
        have c0 : checkB (rdsB (belV (txt t) 0 257).toNat (numS (txt t) 0) (belE (txt t) 0 257) []).list = 0 := by simpa using c
        rw [if_neg c]
        clear h k c q
        have hb : belE (txt t) 0 257 = 0 := by
          by_cases e : belE (txt t) 0 257 = 0
          · exact e
          · exact absurd he (rdsB_err _ _ _ _ e q0)
        obtain ⟨b1, b2, b3⟩ := belE_le 257 hb
        obtain ⟨n, hn, n1, m, n2, rfl⟩ := num_one t b1
        rw [b3, n1, Int.toNat_natCast, n2, hb] at q0 he hz c0 ⊢
        obtain ⟨h1, m2, h2, h3⟩ := rdsB_one n m [] q0 he (checkB_gone c0)
        rw [h2, txt_size] at hz
        obtain rfl := List.eq_nil_of_length_eq_zero hz
        rw [List.append_nil] at h3
        refine ⟨c0, ?_⟩
        unfold textB
        rw [h1, ← h3]
end Go.Proofs.YtgegipijappfhaaDoor
namespace Go.Proofs.YtgegipijappfhaaDoor
open Go

theorem take_sz (s : ByteArray) (e : Int) (n : Nat) : (takeS s e n).size + (takeR s e n).size ≤ s.size := by
  unfold takeS takeR
  by_cases h : e = 0 ∧ n ≤ s.size
  · rw [if_pos h, if_pos h, ByteArray.size_extract, ByteArray.size_extract]
    have := h.2
    omega
  · rw [if_neg h, if_neg h]
    show 0 + s.size ≤ s.size
    omega
theorem takeR_sz (s : ByteArray) (e : Int) (n : Nat) : (takeR s e n).size ≤ s.size := by
  have := take_sz s e n
  omega
theorem numS_sz (s : ByteArray) (e : Int) : (numS s e).size ≤ s.size := by
  unfold numS
  exact Nat.le_trans (takeR_sz _ _ _) (takeR_sz _ _ _)
theorem text_sz (s : ByteArray) (e : Int) : (textV s e).size + (textR s e).size ≤ s.size := by
  unfold textV textR
  exact Nat.le_trans (take_sz _ _ _) (numS_sz s e)
theorem numV_errB (R : ByteArray) (err : Int) (h : numE R err ≠ 0) : numV R err = 0 := by
  unfold numE at h
  unfold numV numOk
  split
  · rfl
  · rename_i hz
    split
    · rfl
    · rename_i hb
      exfalso
      rw [if_neg (fun e => hb e.2)] at h
      refine hz ?_
      unfold numE0 takeE at h
      unfold numT takeS
      split at h
      · rename_i e
        rw [if_neg (fun e2 => by omega)]
        rfl
      · rw [if_neg (fun e2 => h e2.1)]
        rfl
theorem belV_range (s : ByteArray) (e m : Int) (hm : 0 < m) : 0 ≤ belV s e m ∧ belV s e m < m := by
  unfold belV
  split
  · omega
  · rename_i h
    refine ⟨numV_nonneg s e, ?_⟩
    by_cases k : numE s e = 0
    · have : ¬ m ≤ numV s e := fun q => h ⟨k, q⟩
      omega
    · rw [numV_errB s e k]
      exact hm
theorem rdB_sz (s : ByteArray) (e : Int) (a : List UInt8) : (rdB s e a).ent.key.length + (rdB s e a).rest.size ≤ a.length + s.size ∧ (rdB s e a).ent.val.length ≤ s.size ∧ (rdB s e a).rest.size ≤ s.size := by
  have h1 := numS_sz s e
  have h2 := text_sz (numS s e) (numE s e)
  have h3 := takeR_sz (textR (numS s e) (numE s e)) (textE (numS s e) (numE s e)) 1
  have h4 := text_sz (takeR (textR (numS s e) (numE s e)) (textE (numS s e) (numE s e)) 1) (octE (textR (numS s e) (numE s e)) (textE (numS s e) (numE s e)) 1)
  have h5 : ∀ n, (a.take n).length ≤ a.length := fun n => by rw [List.length_take]; exact Nat.min_le_right _ _
  unfold rdB
  simp only
  generalize numV s e = n at *
  generalize textV (numS s e) (numE s e) = t at *
  generalize textR (numS s e) (numE s e) = s2 at *
  generalize textE (numS s e) (numE s e) = e2 at *
  generalize flagV s2 e2 = g at *
  generalize textV (takeR s2 e2 1) (octE s2 e2 1) = v at *
  generalize textR (takeR s2 e2 1) (octE s2 e2 1) = s4 at *
  generalize textE (takeR s2 e2 1) (octE s2 e2 1) = e4 at *
  generalize takeR s2 e2 1 = s3 at *
  generalize octE s2 e2 1 = e3 at *
  have q1 : (if g = true then s3 else s4).size ≤ s2.size := by
    cases g
    · simp only [Bool.false_eq_true, if_false]; omega
    · simp only [if_true]; omega
  have q2 : (if g = true then txt [] else v).data.toList.length ≤ s.size := by
    cases g
    · simp only [Bool.false_eq_true, if_false]
      show v.size ≤ _
      omega
    · simp only [if_true]
      exact Nat.zero_le _
  have q3 : t.data.toList.length = t.size := rfl
  have q4 := h5 n.toNat
  generalize (if g = true then s3 else s4) = S4 at *
  generalize (if g = true then txt [] else v) = V at *
  generalize (if g = true then e3 else e4) = E4 at *
  split
  · exact ⟨by simp only [List.length_nil]; omega, Nat.zero_le _, by simp only; omega⟩
  · split
    · exact ⟨by simp only [List.length_nil]; omega, Nat.zero_le _, by simp only; omega⟩
    · split
      · exact ⟨by simp only [List.length_nil]; omega, Nat.zero_le _, by simp only; omega⟩
      · refine ⟨?_, q2, by simp only; omega⟩
        simp only [List.length_append]
        omega
theorem rdsB_step (n : Nat) (s : ByteArray) (e : Int) (a : List UInt8) : rdsB (n + 1) s e a = if (rdB s e a).fail ≠ 0 then ⟨(rdB s e a).fail, [], (rdB s e a).rest, (rdB s e a).err⟩ else ⟨(rdsB n (rdB s e a).rest (rdB s e a).err (rdB s e a).ent.key).fail, (rdB s e a).ent :: (rdsB n (rdB s e a).rest (rdB s e a).err (rdB s e a).ent.key).list, (rdsB n (rdB s e a).rest (rdB s e a).err (rdB s e a).ent.key).rest, (rdsB n (rdB s e a).rest (rdB s e a).err (rdB s e a).ent.key).err⟩ := by
  rw [rdsB]
/-- Entries that were read, and those that are still to be read. -/
def behindB (L : List Ent) (r : RdsB) : RdsB := ⟨r.fail, L ++ r.list, r.rest, r.err⟩
theorem behindB_nil (r : RdsB) : behindB [] r = r := rfl
theorem behindB_ok {L : List Ent} {n : Nat} {s : ByteArray} {e : Int} {a : List UInt8} (h : (rdB s e a).fail = 0) : behindB L (rdsB (n + 1) s e a) = behindB (L ++ [(rdB s e a).ent]) (rdsB n (rdB s e a).rest (rdB s e a).err (rdB s e a).ent.key) := by
  rw [rdsB_step, if_neg (by rw [h]; decide)]
  unfold behindB
  simp
theorem behindB_bad {L : List Ent} {n : Nat} {s : ByteArray} {e : Int} {a : List UInt8} (h : (rdB s e a).fail ≠ 0) : (behindB L (rdsB (n + 1) s e a)).fail = (rdB s e a).fail := by
  rw [rdsB_step, if_pos h]
  rfl
end Go.Proofs.YtgegipijappfhaaDoor
namespace Go.Proofs.YtgegipijappfhaaDoor
open Go Go.ChangeShapes Go.WideShapes Go.ChangeAt Go.RowKit

theorem own : ownKnob Tryd.prog.godebug = none := by kernel_rfl
theorem laidOut : laidOutB Tryd.prog = true := by kernel_rfl

section
variable {H : Type} {enc : TypeId × Value → H}

/-- Each of these types can be read to its bottom. -/
def Readable (ts : List TypeId) : Prop := ∀ t ∈ ts, Tryd.prog.readableRec t = true ∧ t < Tryd.prog.types.size

theorem readable_of_all {ts : List TypeId} (h : (ts.all fun t => Tryd.prog.readableRec t && decide (t < Tryd.prog.types.size)) = true) : Readable ts := fun t ht => by
  have := List.all_eq_true.1 h t ht
  simpa using this

theorem args_stay {W W' : World} (hb : Below W.heap.size W W') : ∀ (ts : List TypeId) (vs : List Value) (ds : List (DataW H)) (ps : List MemPlace), Readable ts →
    DataW.TrodAll enc Tryd.prog W 0 (fun _ => true) true ts vs ds ps → (∀ x ∈ ps, x.block < W.heap.size) → ∀ sp : Nat → Bool, (∀ p ∈ ps, sp p.block = true) → DataW.TrodAll enc Tryd.prog W' 0 sp true ts vs ds ps
  | [], [], [], _, _, h, _, _, _ => h
  | t :: ts, v :: vs, d :: ds, ps, hr, h, hlt, sp, hs => by
    obtain ⟨p, q, h1, h2, rfl⟩ := h
    obtain ⟨r1, r2⟩ := hr t (by simp)
    refine ⟨p, q, ?_, ?_, rfl⟩
    · exact WideElems.Trod_stays laidOut r1 r2 h1 (fun x hx => hb.same (hlt x (by simp [hx]))) (fun x hx => hs x (by simp [hx]))
    · exact args_stay hb ts vs ds q (fun u hu => hr u (by simp [hu])) h2 (fun x hx => hlt x (by simp [hx])) sp (fun x hx => hs x (by simp [hx]))
  | [], [], _ :: _, _, _, h, _, _, _ => h.elim
  | [], _ :: _, _, _, _, h, _, _, _ => h.elim
  | _ :: _, [], _, _, _, h, _, _, _ => h.elim
  | _ :: _, _ :: _, [], _, _, h, _, _, _ => h.elim

theorem len_of_args {W : World} {sp : Nat → Bool} : ∀ (ts : List TypeId) (vs : List Value) (ds : List (DataW H)) (ps : List MemPlace), DataW.TrodAll enc Tryd.prog W 0 sp true ts vs ds ps → ds.length = ts.length ∧ vs.length = ts.length
  | [], [], [], _, _ => ⟨rfl, rfl⟩
  | _ :: ts, _ :: vs, _ :: ds, ps, h => by
    obtain ⟨p, q, _, h2, _⟩ := h
    have := len_of_args ts vs ds q h2
    simp [this.1, this.2]
  | [], [], _ :: _, _, h => h.elim
  | [], _ :: _, _, _, h => h.elim
  | _ :: _, [], _, _, h => h.elim
  | _ :: _, _ :: _, [], _, h => h.elim

theorem trodAll_four {P : Program} {W : World} {base : Nat} {sp : Nat → Bool} {held : Bool} {t0 t1 t2 t3 : TypeId} {args : Array Value} {ds : List (DataW H)} {ps : List MemPlace} (h : DataW.TrodAll enc P W base sp held [t0, t1, t2, t3] args.toList ds ps) :
    ∃ v0 v1 v2 v3 d0 d1 d2 d3 p0 p1 p2 p3, args = #[v0, v1, v2, v3] ∧ ds = [d0, d1, d2, d3] ∧ ps = p0 ++ (p1 ++ (p2 ++ p3)) ∧ DataW.Trod enc P W base sp held t0 v0 d0 p0 ∧ DataW.Trod enc P W base sp held t1 v1 d1 p1 ∧ DataW.Trod enc P W base sp held t2 v2 d2 p2 ∧ DataW.Trod enc P W base sp held t3 v3 d3 p3 := by
  obtain ⟨v0, vs0, d0, ds0, p0, q0, e0, rfl, rfl, h0, r0⟩ := trodAll_cons h
  obtain ⟨v1, vs1, d1, ds1, p1, q1, rfl, rfl, rfl, h1, r1⟩ := trodAll_cons r0
  obtain ⟨v2, vs2, d2, ds2, p2, q2, rfl, rfl, rfl, h2, r2⟩ := trodAll_cons r1
  obtain ⟨v3, vs3, d3, ds3, p3, q3, rfl, rfl, rfl, h3, r3⟩ := trodAll_cons r2
  obtain ⟨rfl, rfl, rfl⟩ := trodAll_nil r3
  refine ⟨v0, v1, v2, v3, d0, d1, d2, d3, p0, p1, p2, p3, ?_, rfl, by simp, h0, h1, h2, h3⟩
  cases args
  simp_all

/-- THE LAW's END: it returned true, and below the heap's old size nothing has turned. -/
theorem law_post {f : Func} {s : ChangeSpec} {W W' : World} {args : Array Value} {ds gs : List (DataW H)} {before : List MemPlace} (hv : s.vars = [])
    (hW : DataW.Whole enc Tryd.prog f.params.toList s.vars false W args.toList ds gs before) (hr : Readable f.params.toList)
    (hs : ∀ l : List (DataW H), l.length = f.params.toList.length → s.fn H l = { results := [.lit (.bool true)], args := l }) (ht : f.resultTypes = #[4]) (hb : Below W.heap.size W W') :
    s.post enc Tryd.prog f false true false false W args (.bool true) W' := by
  have hlt : ∀ p ∈ before, p.block < W.heap.size := fun p hp => hW.lt p hp
  have hW0 := hW
  obtain ⟨p, q, hA, hV, hbe, _, _⟩ := hW0
  rw [hv] at hV
  obtain ⟨rfl, rfl⟩ := trodVars_none hV
  rw [List.append_nil] at hbe
  subst hbe
  have hl := (len_of_args _ _ _ _ hA).1
  have hfn : s.fn H (ds ++ []) = { results := [.lit (.bool true)], args := ds } := by rw [List.append_nil]; exact hs ds hl
  refine ⟨ds, [], before, [], before, [], hW, ?_, ?_, ?_, World.keptBut_mono (fun p hp => ⟨hp, .inr (.inl hp)⟩) (hb.frame (· ∈ before)), fun h => nomatch h⟩
  · rw [hfn, ht]
    exact trodAll_mk1 (shut_bool Tryd.underlying4 _)
  · rw [hfn]
    exact args_stay hb _ _ _ _ hr hA hlt _ (fun x hx => by simpa using hlt x hx)
  · rw [hfn, hv]
    exact rfl
end

/-- Cells that are bytes. -/
theorem bytes_of_cells : ∀ cs : List Value, (∀ i, i < cs.length → ∃ n : Int, cs[i]? = some (.int .u8 n) ∧ 0 ≤ n ∧ n ≤ 255) → ∃ l : List UInt8, cs = l.map Extern.Stop.cell
  | [], _ => ⟨[], rfl⟩
  | c :: cs, h => by
    obtain ⟨n, hn, h0, h1⟩ := h 0 (by simp)
    obtain ⟨l, hl⟩ := bytes_of_cells cs fun i hi => by simpa using h (i + 1) (by simpa using hi)
    simp only [List.getElem?_cons_zero, Option.some.injEq] at hn
    refine ⟨UInt8.ofNat n.toNat :: l, ?_⟩
    rw [List.map_cons, hn, hl]
    exact congrArg (fun x => Value.int .u8 x :: l.map Extern.Stop.cell) (byte_of_int h0 (by omega)).symm
theorem wf_u8 {n : Int} (h : (Lit.int .u8 n).wf = true) : 0 ≤ n ∧ n ≤ 255 := by
  simpa [Lit.wf, IntKind.min, IntKind.max, IntKind.signed, IntKind.bits] using h
theorem wf_i64 {n : Int} (h : (Lit.int .i64 n).wf = true) : -9223372036854775808 ≤ n ∧ n ≤ 9223372036854775807 := by
  simpa [Lit.wf, IntKind.min, IntKind.max, IntKind.signed, IntKind.bits] using h
theorem cellsOf_u8 : Tryd.prog.cellsOf 5 = 1 := by kernel_rfl
theorem cellsOf_int : Tryd.prog.cellsOf 3 = 1 := by kernel_rfl
section
variable {P : Program} {H : Type} {enc : TypeId × Value → H} {W : World} {sp : Nat → Bool} {held : Bool} {base : Nat} {t e i : TypeId}
theorem lab_of_cells {fuel : Nat} {cs : List Value} {x : DataW H × List MemPlace} (hu : P.underlying t = some (.array 32 e)) (he : P.underlying e = some (.int .u8)) (ce : P.cellsOf e = 1) (ct : P.cellsOf t = 32)
    (hf : DataW.trod enc P W 0 sp held fuel t cs = some x) : ∃ a : Lab, cs = a.l.map Extern.Stop.cell := by
  obtain ⟨xs, m, _, _, hl, hn, hel⟩ := DataW.trod_array hu hf
  rw [ct] at hl
  obtain ⟨l, hl2⟩ := bytes_of_cells cs fun i hi => by
    have h1 := hel i (by omega)
    rw [ce, List.getElem?_eq_getElem (show i < xs.length by omega)] at h1
    obtain ⟨n, e1, _, e3⟩ := DataW.trod_int he h1
    obtain ⟨w0, w1⟩ := wf_u8 e3
    refine ⟨n, ?_, w0, w1⟩
    have e4 : (List.take 1 (List.drop (i * 1) cs))[0]? = some (.int .u8 n) := by rw [e1]; rfl
    simpa using e4
  exact ⟨⟨l, by rw [hl2] at hl; simpa using hl⟩, hl2⟩
theorem agg_of_array {n : Nat} {v : Value} (hu : P.underlying t = some (.array n e)) (hval : Value.okWide P W .any base t v) : ∃ cs, v = .agg cs := by
  unfold Value.okWide at hval
  rw [hu] at hval
  obtain ⟨cs, h, _⟩ := hval
  exact ⟨cs, h⟩
theorem agg_of_struct {fs : Array Field} {v : Value} (hu : P.underlying t = some (.struct fs)) (hval : Value.okWide P W .any base t v) : ∃ cs, v = .agg cs := by
  unfold Value.okWide at hval
  rw [hu] at hval
  obtain ⟨cs, h, _⟩ := hval
  exact ⟨cs, h⟩
/-- A label that came in. -/
theorem open_lab {v : Value} {d : DataW H} {p : List MemPlace} (hu : P.underlying t = some (.array 32 e)) (he : P.underlying e = some (.int .u8)) (ce : P.cellsOf e = 1) (ct : P.cellsOf t = 32)
    (hval : Value.okWide P W .any base t v) (hd : DataW.Trod enc P W 0 sp held t v d p) : ∃ a : Lab, v = .agg (cellsL a) := by
  obtain ⟨cs, rfl⟩ := agg_of_array hu hval
  obtain ⟨fuel, hf⟩ := hd
  obtain ⟨a, ha⟩ := lab_of_cells hu he ce ct hf
  exact ⟨a, by rw [cellsL, ← ha]; rfl⟩
/-- A prefix that came in. -/
theorem open_pre {tl : TypeId} {f0 f1 : Field} {v : Value} {d : DataW H} {p : List MemPlace} (hs : P.underlying t = some (.struct #[f0, f1])) (hi : P.underlying f0.type = some (.int .i64)) (ci : P.cellsOf f0.type = 1)
    (h1t : f1.type = tl) (o0 : f0.offset = 0) (o1 : f1.offset = 1)
    (hu : P.underlying tl = some (.array 32 e)) (he : P.underlying e = some (.int .u8)) (ce : P.cellsOf e = 1) (ct : P.cellsOf tl = 32) (cp : P.cellsOf t = 33)
    (hval : Value.okWide P W .any base t v) (hd : DataW.Trod enc P W 0 sp held t v d p) : ∃ (n : Int) (a : Lab), v = .agg (cellsP n a) ∧ (Lit.int .i64 n).wf = true := by
  obtain ⟨cs, rfl⟩ := agg_of_struct hs hval
  obtain ⟨fuel, hf⟩ := hd
  obtain ⟨y0, y1, m, _, hl, h0, h1⟩ := trod_struct2 hs hf
  rw [cp] at hl
  subst h1t
  rw [ci, o0] at h0
  rw [ct, o1] at h1
  obtain ⟨n, e1, _, e3⟩ := DataW.trod_int hi h0
  obtain ⟨a, ha⟩ := lab_of_cells hu he ce ct h1
  refine ⟨n, a, ?_, e3⟩
  have hl' : cs.toList.length = 33 := hl
  have e4 : cs.toList = .int .i64 n :: a.l.map Extern.Stop.cell := by
    rw [← ha]
    match hc : cs.toList, hl' with
    | c :: r, hr =>
      have : (Value.agg cs).cells.toList = c :: r := hc
      rw [this] at e1
      simp only [List.drop_zero, List.take_succ_cons, List.take_zero, List.cons.injEq, and_true] at e1
      rw [e1]
      simp only [List.drop_succ_cons, List.drop_zero]
      rw [List.take_of_length_le (by simp at hr; omega)]
  rw [cellsP, ← e4]
end
end Go.Proofs.YtgegipijappfhaaDoor
namespace Go.Proofs.YtgegipijappfhaaDoor
open Go Go.RowKit

/-- Bytes as a text. -/
abbrev stx (l : List UInt8) : ByteArray := ⟨l.toArray⟩
theorem stx_size (l : List UInt8) : (stx l).size = l.length := by show l.toArray.size = _; rw [List.size_toArray]
theorem stx_list (s : ByteArray) : stx s.data.toList = s := rfl

theorem stx_append (l m : List UInt8) : stx l ++ stx m = stx (l ++ m) := by
  apply ByteArray.ext
  rw [ByteArray.data_append]
  apply Array.toList_inj.1
  simp
theorem stx_extract (l : List UInt8) (i j : Nat) : (stx l).extract i j = stx ((l.take j).drop i) := by
  apply ByteArray.ext
  rw [ByteArray.data_extract]
  apply Array.toList_inj.1
  simp [List.extract_eq_take_drop, List.drop_take]

theorem cellLt {w : World} {a : Addr} {v : Value} (h : w.cell? a = some v) : a.block < w.heap.size := by
  unfold World.cell? at h
  rcases Nat.lt_or_ge a.block w.heap.size with k | k
  · exact k
  · rw [Array.getElem?_eq_none k] at h
    cases h
def atB (s : ByteArray) (i : Nat) : UInt8 := s.data.toList.getD i 0
theorem atB_get (s : ByteArray) (i : Nat) (h : i < s.size) : s[i] = atB s i := by
  have h2 : i < s.data.toList.length := h
  unfold atB
  rw [List.getD_eq_getElem?_getD, List.getElem?_eq_getElem h2]
  rfl

theorem sClone_any (s : ByteArray) (w : World) (hs : s.size ≤ 281474976710656) :
    Calls Tryd.prog 34 #[.string s] w fun r w' => r = .returned (.string s) ∧ Below w.heap.size w w' := by
  have HC := Lib.hid (Tryd.stringslite_Clone s w hs)
  clear hs
  go_enter Tryd.func34, Tryd.ntmps34
  go_wp2_with fail
  refine HC.out.mono ?_
  rintro e w1 ⟨rfl, b1⟩
  go_wp2_with fail
  go_ret
  exact ⟨rfl, b1⟩

def strCells (ts : List (List UInt8)) : List Value := ts.map fun t => .string (stx t)
theorem strCells_length (ts : List (List UInt8)) : (strCells ts).length = ts.length := by simp [strCells]
theorem strCells_put (ts : List (List UInt8)) (t : List UInt8) : strCells ts ++ [.string (stx t)] = strCells (ts ++ [t]) := by simp [strCells]
/-- A list of texts of the call's own. -/
def OwnStrs (w : World) (B : Nat) (v : Value) (ts : List (List UInt8)) : Prop := w.ownsRow B 9 1 v ts.length (strCells ts)
theorem OwnStrs.below {w w' : World} {B : Nat} {v : Value} {ts : List (List UInt8)} (h : OwnStrs w B v ts) (k : Below w.heap.size w w') : OwnStrs w' B v ts :=
  World.ownsRow.kept h (row := none) ⟨k.os, k.tape, k.output, k.size, fun j hj _ => k.block j hj⟩ (by cases hv : v.ownBlock <;> simp)
theorem info_str : ∃ i : TypeInfo, Tryd.prog.info? 9 = some i ∧ i.zero = some (.string ⟨#[]⟩) ∧ i.size = 1 ∧ i.bytes = 16 := by
  have h : (Tryd.prog.info? 9).map (fun i => (i.zero, i.size, i.bytes)) = some (some (.string ⟨#[]⟩), 1, 16) := by kernel_rfl
  cases hq : Tryd.prog.info? 9 with
  | none => rw [hq] at h; cases h
  | some i =>
    rw [hq] at h
    simp only [Option.map_some, Option.some.injEq, Prod.mk.injEq] at h
    exact ⟨i, rfl, h.1, h.2.1, h.2.2⟩
theorem ownStrs_empty (w : World) : OwnStrs (w.alloc (.cells #[] 9)) w.heap.size (.slice (some ⟨w.heap.size, 0, none⟩) 0 0) [] :=
  ⟨rfl, .inr ⟨w.heap.size, 0, #[], rfl, Nat.le_refl _, heap_alloc_new w _, Nat.le_refl _, Nat.zero_le _, rfl, rfl⟩⟩
/-- A list of texts that lie in memory. -/
def StrsAt (w : World) (v : Value) (ts : List (List UInt8)) : Prop :=
  ∃ ao cap, v = .slice ao ts.length cap ∧ ∀ i, i < ts.length → ∃ g, ao = some ⟨g, 0, none⟩ ∧ w.cell? ⟨g, i, none⟩ = some (.string (stx (ts.getD i [])))
theorem OwnStrs.lie {w : World} {B : Nat} {v : Value} {ts : List (List UInt8)} (h : OwnStrs w B v ts) : StrsAt w v ts := by
  have h' := h
  rcases h.2 with ⟨h1, h2⟩ | ⟨g, cap, cur, h1, _⟩
  · exact ⟨none, 0, by rw [h1, h2], fun i hi => absurd hi (by omega)⟩
  · refine ⟨_, _, h1, fun i hi => ⟨g, rfl, ?_⟩⟩
    have hb : v.ownBlock = some g := by rw [h1]; rfl
    have := World.ownsRow.cells h' hb i (.string (stx (ts.getD i []))) (by
      rw [strCells, List.getElem?_map, List.getElem?_eq_getElem hi, List.getD_eq_getElem?_getD, List.getElem?_eq_getElem hi]
      rfl)
    rw [← this]
    congr 1
    exact (show (⟨g, 0, none⟩ : Addr).add i = ⟨g, i, none⟩ by simp [Addr.add]; exact fun e => e.symm).symm
theorem StrsAt.below {w w' : World} {v : Value} {ts : List (List UInt8)} (h : StrsAt w v ts) (k : Below w.heap.size w w') : StrsAt w' v ts := by
  obtain ⟨ao, cap, h1, h2⟩ := h
  refine ⟨ao, cap, h1, fun i hi => ?_⟩
  obtain ⟨g, h3, h4⟩ := h2 i hi
  exact ⟨g, h3, (k.cell (p := ⟨g, i, none⟩) (cellLt h4)).trans h4⟩
theorem StrsAt.take {w : World} {v : Value} {ts : List (List UInt8)} (h : StrsAt w v ts) (k : Nat) (hk : k ≤ ts.length) : ∃ ao cap, v = .slice ao ts.length cap ∧ StrsAt w (.slice ao k cap) (ts.take k) := by
  obtain ⟨ao, cap, h1, h2⟩ := h
  refine ⟨ao, cap, h1, ao, cap, by rw [List.length_take, Nat.min_eq_left hk], fun i hi => ?_⟩
  rw [List.length_take, Nat.min_eq_left hk] at hi
  obtain ⟨g, h3, h4⟩ := h2 i (by omega)
  refine ⟨g, h3, ?_⟩
  rw [h4]
  congr 3
  rw [List.getD_eq_getElem?_getD, List.getD_eq_getElem?_getD, List.getElem?_take, if_pos hi]
theorem OwnStrs.shape {w : World} {B : Nat} {v : Value} {ts : List (List UInt8)} (h : OwnStrs w B v ts) : ∃ ao cap, v = .slice ao ts.length cap := by
  rcases h.2 with ⟨h1, h2⟩ | ⟨g, cap, cur, h1, _⟩
  · exact ⟨none, 0, by rw [h1, h2]⟩
  · exact ⟨_, _, h1⟩

/-- At most so many bytes. -/
def cutS (l : List UInt8) (n : Nat) : List UInt8 := l.take n
set_option maxRecDepth 100000 in
theorem l3Cut_any (s : ByteArray) (n : Nat) (w : World) (hn : n ≤ 100000) : Calls Tryd.prog 11 #[.string s, .int .i64 n] w fun e w' => e = .returned (.string (stx (s.data.toList.take n))) ∧ w' = w := by
  have hn0 : (0 : Int) ≤ n := by omega
  by_cases h : n < s.size
  · have h1 : decide (n < s.size) = true := decide_eq_true h
    have h2 : (n : Int) ≤ s.size := by omega
    have HX : Hid (s.extract 0 n = stx (s.data.toList.take n)) := Lib.hid (stx_extract s.data.toList 0 n)
    clear h
    go_enter Tryd.func11, Tryd.ntmps11
    go_wp2_with fail
    go_ret
    exact ⟨by rw [← HX.out]; rfl, rfl⟩
  · have h1 : decide (n < s.size) = false := decide_eq_false h
    have HX : Hid (stx (s.data.toList.take n) = s) := Lib.hid (by rw [List.take_of_length_le (show s.data.toList.length ≤ n from by show s.size ≤ n; omega)])
    clear h
    go_enter Tryd.func11, Tryd.ntmps11
    go_wp2_with fail
    go_ret
    exact ⟨by rw [HX.out]; rfl, rfl⟩
theorem stx_inj {a b : List UInt8} (h : stx a = stx b) : a = b := congrArg (fun x : ByteArray => x.data.toList) h

theorem str_ne {a b : ByteArray} (h : a ≠ b) : (a.toList == b.toList) = false := by
  rw [beq_eq_false_iff_ne, ByteArray.toList_eq, ByteArray.toList_eq]
  exact fun e => h (ByteArray.ext (Array.toList_inj.1 e))
theorem toList_none (s : ByteArray) : s.toList.isEmpty = true ↔ s.size = 0 := by
  rw [ByteArray.toList_eq, List.isEmpty_iff, ← List.length_eq_zero_iff, Array.length_toList]
  rfl
/-- A row of another type stays as it is. -/
theorem own_other {w w' : World} {B C e1 e2 s1 s2 n m : Nat} {v u : Value} {xs ys : List Value} (h1 : w.ownsRow B e1 s1 v n xs) (h2 : w.ownsRow C e2 s2 u m ys) (he : e1 ≠ e2) (hg : w.grownBy w' u.ownBlock) : w'.ownsRow B e1 s1 v n xs := by
  refine h1.kept hg ?_
  rcases h1.2 with ⟨a1, _⟩ | ⟨g, cap, cur, a1, _, a3, _⟩
  · left; rw [a1]; rfl
  · right
    rcases h2.2 with ⟨c1, _⟩ | ⟨g2, cap2, cur2, c1, _, c3, _⟩
    · rw [a1, c1]; simp [Value.ownBlock]
    · rw [a1, c1]
      intro e
      have : g = g2 := by simpa [Value.ownBlock] using e
      subst this
      rw [a3] at c3
      injection c3 with c3
      injection c3 with _ c4
      exact he c4
end Go.Proofs.YtgegipijappfhaaDoor
namespace Go.Proofs.YtgegipijappfhaaDoor
open Go Go.RowKit

theorem run_append_none_len {P : Program} {w : World} {base : Nat} {t e : TypeId} {i : TypeInfo} {size : Nat} (ht : P.underlying t = some (.slice e)) (hi : P.info? e = some i)
    {v : Value} {n : Nat} {xs : List Value} (hown : w.ownsRow base e size v n xs) (cap : Nat) (ty : TypeId) :
    (Builtin.append_ #[t, t] ty #[v, .slice none 0 cap]).run P w = .ok v w := by
  rcases hown.2 with ⟨rfl, rfl⟩ | ⟨g, cap, cur, rfl, _, _, hnc, _⟩
  · simp [Builtin.append_, run_underlying ht, sizeOf, typeInfo, hi, Builtin.lenOf, Builtin.firstCells]
  · simp [Builtin.append_, run_underlying ht, sizeOf, typeInfo, hi, Builtin.lenOf, Builtin.firstCells, hnc, storeCells]
end Go.Proofs.YtgegipijappfhaaDoor
namespace Go.Proofs.YtgegipijappfhaaDoor
open Go Go.RowKit

def entC (x : Ent) : List Value := [.string (stx x.key), .string (stx x.val), .bool x.gone]
def entCells (l : List Ent) : List Value := l.flatMap entC
theorem entCells_length (l : List Ent) : (entCells l).length = l.length * 3 := by
  induction l with
  | nil => rfl
  | cons f r ih => simp [entCells, entC] at ih ⊢; omega
theorem entCells_append (l m : List Ent) : entCells (l ++ m) = entCells l ++ entCells m := by simp [entCells]
theorem entCells_one (f : Ent) : entCells [f] = entC f := by simp [entCells]
theorem entCells_get : ∀ (fs : List Ent) (i : Nat) (f : Ent), fs[i]? = some f → (entCells fs)[i * 3]? = some (.string (stx f.key)) ∧ (entCells fs)[i * 3 + 1]? = some (.string (stx f.val)) ∧ (entCells fs)[i * 3 + 2]? = some (.bool f.gone)
  | x :: r, 0, f, h => by
    obtain rfl : x = f := by simpa using h
    simp [entCells, entC]
  | x :: r, i + 1, f, h => by
    have := entCells_get r i f (by simpa using h)
    have e : ∀ k, (entCells (x :: r))[(i + 1) * 3 + k]? = (entCells r)[i * 3 + k]? := fun k => by
      rw [show entCells (x :: r) = entC x ++ entCells r by simp [entCells], List.getElem?_append_right (by simp [entC]; omega)]
      congr 1
      simp [entC]
      omega
    exact ⟨(e 0).trans this.1, (e 1).trans this.2.1, (e 2).trans this.2.2⟩
theorem oneE (x : Ent) : ∀ u ∈ entC x, u.oneCell' = true := by
  intro u hu
  simp only [entC, List.mem_cons, List.mem_nil_iff, or_false] at hu
  rcases hu with rfl | rfl | rfl <;> rfl
theorem oneEs (l : List Ent) : ∀ u ∈ entCells l, u.oneCell' = true := by
  intro u hu
  obtain ⟨x, _, hx⟩ := List.mem_flatMap.1 hu
  exact oneE x u hx

/-- An entry's three cells. -/
def EntAt (w : World) (g o : Nat) (x : Ent) : Prop :=
  w.cell? ⟨g, o, none⟩ = some (.string (stx x.key)) ∧ w.cell? ⟨g, o + 1, none⟩ = some (.string (stx x.val)) ∧ w.cell? ⟨g, o + 2, none⟩ = some (.bool x.gone)
theorem EntAt.below {w w' : World} {g o : Nat} {x : Ent} (h : EntAt w g o x) (k : Below w.heap.size w w') : EntAt w' g o x := by
  obtain ⟨h1, h2, h3⟩ := h
  exact ⟨(k.cell (p := ⟨g, o, none⟩) (cellLt h1)).trans h1, (k.cell (p := ⟨g, o + 1, none⟩) (cellLt h2)).trans h2, (k.cell (p := ⟨g, o + 2, none⟩) (cellLt h3)).trans h3⟩
theorem EntAt.lt {w : World} {g o : Nat} {x : Ent} (h : EntAt w g o x) : g < w.heap.size := cellLt h.1
/-- Entries that lie in memory. -/
def EntsAt (w : World) (v : Value) (es : List Ent) : Prop :=
  ∃ A cap, v = .slice A es.length cap ∧ es.length ≤ cap ∧ cap ≤ maxLen ∧ ∀ i x, es[i]? = some x → ∃ g o, A = some ⟨g, o, none⟩ ∧ EntAt w g (o + i * 3) x
theorem EntsAt.below {w w' : World} {v : Value} {es : List Ent} (h : EntsAt w v es) (k : Below w.heap.size w w') : EntsAt w' v es := by
  obtain ⟨A, cap, h1, h2, h3, h4⟩ := h
  refine ⟨A, cap, h1, h2, h3, fun i x hi => ?_⟩
  obtain ⟨g, o, h5, h6⟩ := h4 i x hi
  exact ⟨g, o, h5, h6.below k⟩
theorem EntsAt.nil (w : World) : EntsAt w (.slice none 0 0) [] := ⟨none, 0, rfl, Nat.le_refl _, Nat.zero_le _, fun i x h => by simp at h⟩
/-- What s[k:] is. -/
def cutV (A : Option Addr) (n cap k : Nat) : Value := .slice (if cap = k then A else A.map (·.add (k * 3))) (n - k) (cap - k)
theorem add_lit (g o k : Nat) : (⟨g, o, none⟩ : Addr).add k = ⟨g, o + k, none⟩ := by
  unfold Addr.add
  split
  · rename_i h; rw [h]; rfl
  · rfl
theorem EntsAt.drop {w : World} {A : Option Addr} {n cap k : Nat} {es : List Ent} (h : EntsAt w (.slice A n cap) es) (hk : k ≤ es.length) : EntsAt w (cutV A n cap k) (es.drop k) := by
  obtain ⟨A', cap', h1, h2, h3, h4⟩ := h
  obtain ⟨rfl, rfl, rfl⟩ : A = A' ∧ n = es.length ∧ cap = cap' := by simpa using h1
  refine ⟨_, _, by rw [List.length_drop]; rfl, by rw [List.length_drop]; omega, by omega, fun i x hi => ?_⟩
  rw [List.getElem?_drop] at hi
  obtain ⟨g, o, rfl, h6⟩ := h4 _ x hi
  have hl := (List.getElem?_eq_some_iff.1 hi).1
  rw [if_neg (by omega)]
  refine ⟨g, o + k * 3, by rw [Option.map_some, add_lit], ?_⟩
  rwa [show o + k * 3 + i * 3 = o + (k + i) * 3 by omega]
theorem EntsAt.take {w : World} {A : Option Addr} {n cap k : Nat} {es : List Ent} (h : EntsAt w (.slice A n cap) es) (hk : k ≤ es.length) : EntsAt w (.slice A k cap) (es.take k) := by
  obtain ⟨A', cap', h1, h2, h3, h4⟩ := h
  obtain ⟨rfl, rfl, rfl⟩ : A = A' ∧ n = es.length ∧ cap = cap' := by simpa using h1
  refine ⟨_, _, by rw [List.length_take, Nat.min_eq_left hk], by rw [List.length_take]; omega, by omega, fun i x hi => ?_⟩
  rw [List.getElem?_take] at hi
  split at hi
  · exact h4 i x hi
  · cases hi
theorem EntsAt.cells {w : World} {g o n cap : Nat} {es : List Ent} (h : EntsAt w (.slice (some ⟨g, o, none⟩) n cap) es) : ∀ j u, (entCells es)[j]? = some u → w.cell? ((⟨g, o, none⟩ : Addr).add j) = some u := by
  intro j u hu
  obtain ⟨A', cap', h1, h2, h3, h4⟩ := h
  have hj : j < es.length * 3 := by rw [← entCells_length]; exact (List.getElem?_eq_some_iff.1 hu).1
  obtain ⟨x, hx⟩ : ∃ x, es[j / 3]? = some x := ⟨_, List.getElem?_eq_getElem (by omega)⟩
  obtain ⟨g', o', e, k1, k2, k3⟩ := h4 _ x hx
  obtain ⟨e1, _, _⟩ : some (⟨g, o, none⟩ : Addr) = A' ∧ n = es.length ∧ cap = cap' := by simpa using h1
  rw [e] at e1
  obtain ⟨rfl, rfl⟩ : g = g' ∧ o = o' := by simpa using e1
  obtain ⟨c0, c1, c2⟩ := entCells_get es _ x hx
  rw [add_lit]
  rcases (by omega : j = j / 3 * 3 ∨ j = j / 3 * 3 + 1 ∨ j = j / 3 * 3 + 2) with q | q | q
  · rw [← q] at c0 k1
    rw [k1, ← hu, c0]
  · rw [← q] at c1
    rw [show o + j / 3 * 3 + 1 = o + (j / 3 * 3 + 1) by omega, ← q] at k2
    rw [k2, ← hu, c1]
  · rw [← q] at c2
    rw [show o + j / 3 * 3 + 2 = o + (j / 3 * 3 + 2) by omega, ← q] at k3
    rw [k3, ← hu, c2]

/-- Entries of the call's own. -/
def OwnEnts (w : World) (B : Nat) (v : Value) (es : List Ent) : Prop := w.ownsRow B 36 3 v es.length (entCells es)
theorem OwnEnts.lie {w : World} {B : Nat} {v : Value} {es : List Ent} (h : OwnEnts w B v es) : EntsAt w v es := by
  rcases h.2 with ⟨rfl, h0⟩ | ⟨g, cap, cur, rfl, hb, hg, h1, h2, h3, h4⟩
  · exact ⟨none, 0, by rw [h0], by omega, Nat.zero_le _, fun i f hi => by rw [List.eq_nil_of_length_eq_zero h0] at hi; simp at hi⟩
  · refine ⟨_, cap, rfl, h1, h2, fun i f hi => ⟨g, 0, rfl, ?_⟩⟩
    obtain ⟨e0, e1, e2⟩ := entCells_get es i f hi
    have hl : i < es.length := (List.getElem?_eq_some_iff.1 hi).1
    have e : ∀ k, k < 3 → w.cell? ⟨g, i * 3 + k, none⟩ = (entCells es)[i * 3 + k]? := fun k hk => by
      rw [Lib.cell_of_heap hg (i * 3 + k), ← h4, List.getElem?_take, if_pos (by omega)]
      simp
    have z : 0 + i * 3 = i * 3 := Nat.zero_add _
    unfold EntAt
    rw [z]
    exact ⟨(e 0 (by decide)).trans e0, (e 1 (by decide)).trans e1, (e 2 (by decide)).trans e2⟩
theorem OwnEnts.shape {w : World} {B : Nat} {v : Value} {es : List Ent} (h : OwnEnts w B v es) : ∃ ao cap, v = .slice ao es.length cap := by
  rcases h.2 with ⟨h1, h2⟩ | ⟨g, cap, cur, h1, _⟩
  · exact ⟨none, 0, by rw [h1, h2]⟩
  · exact ⟨_, _, h1⟩
theorem OwnEnts.below {w w' : World} {B : Nat} {v : Value} {es : List Ent} (h : OwnEnts w B v es) (k : Below w.heap.size w w') : OwnEnts w' B v es :=
  World.ownsRow.kept h (row := none) ⟨k.os, k.tape, k.output, k.size, fun j hj _ => k.block j hj⟩ (by cases hv : v.ownBlock <;> simp)
theorem OwnEnts.low {w : World} {B B' : Nat} {v : Value} {es : List Ent} (h : OwnEnts w B v es) (hb : B' ≤ B) : OwnEnts w B' v es :=
  ⟨h.1, h.2.imp id fun ⟨g, cap, cur, h1, h2, h3⟩ => ⟨g, cap, cur, h1, Nat.le_trans hb h2, h3⟩⟩
theorem OwnEnts.grown {w w' : World} {B : Nat} {v : Value} {es : List Ent} {a : World} (h : OwnEnts w B v es) (hg : w.grownBy w' v.ownBlock) (b : Below B a w) (hB : B ≤ w.heap.size) : Below B a w' :=
  b.grown hg hB (fun k hk => (World.ownsRow.lt h k hk).1)
theorem ownEnts_nil (w : World) (B : Nat) : OwnEnts w B (.slice none 0 0) [] := World.ownsRow_nil w B _ 3
theorem ownEnts_new (w : World) (B n : Nat) (hn : n = w.heap.size) (hB : B ≤ n) : OwnEnts (w.alloc (.cells #[] 36)) B (.slice (some ⟨n, 0, none⟩) 0 0) [] := by
  subst hn
  exact ⟨rfl, .inr ⟨w.heap.size, 0, #[], rfl, hB, heap_alloc_new w _, Nat.le_refl _, Nat.zero_le _, rfl, rfl⟩⟩
theorem info_ent : ∃ i : TypeInfo, Tryd.prog.info? 36 = some i ∧ i.zero = some (.agg #[.string ⟨#[]⟩, .string ⟨#[]⟩, .bool false]) ∧ i.size = 3 ∧ i.bytes = 40 := by
  have h : (Tryd.prog.info? 36).map (fun i => (i.zero, i.size, i.bytes)) = some (some (.agg #[.string ⟨#[]⟩, .string ⟨#[]⟩, .bool false]), 3, 40) := by kernel_rfl
  cases hq : Tryd.prog.info? 36 with
  | none => rw [hq] at h; cases h
  | some i =>
    rw [hq] at h
    simp only [Option.map_some, Option.some.injEq, Prod.mk.injEq] at h
    exact ⟨i, rfl, h.1, h.2.1, h.2.2⟩
/-- One entry is put behind a list of the call's own. -/
theorem wpList_put_ent {ops : Array Oper} {rest : List Oper} {o : Oper} {a : Act} {w : World} {Q : Exit → Act → World → Prop} (hgd : o.guard = none) (s x : Operand)
    (ho : o.op = .call { callee := .builtin .append, args := #[s, x], argTypes := #[22, 22] }) (B : Nat) (v : Value) (es : List Ent) (hs : a.eval s = v) (hown : OwnEnts w B v es)
    (t : Ent) (g c : Nat) (hx : a.eval x = .slice (some ⟨g, 0, none⟩) 1 c) (hcell : EntAt w g 0 t) (hB : B ≤ w.heap.size) (hl : es.length ≤ 1000000)
    (h : ∀ v' w', OwnEnts w' B v' (es ++ [t]) → w.grownBy w' v.ownBlock → (v'.ownBlock = v.ownBlock ∨ v'.ownBlock = some w.heap.size) → wpList Tryd.prog ops Q rest (a.put o.dst v') w') : wpList Tryd.prog ops Q (o :: rest) a w := by
  obtain ⟨i0, hi, hz0, hz1, hz2⟩ := info_ent
  refine wpList_append_own_at (P := Tryd.prog) w hgd s x 22 ho B 36 i0 _ 3 40 Tryd.underlying22 hi hz0 hz1 hz2 rfl (by decide) v es.length (entCells es) hs hown ⟨g, 0, none⟩ 1 c (entC t) hx rfl ?_ (oneE t) (by unfold maxLen; omega) (by omega) hB ?_
  · intro j u hu
    rw [add_lit, Nat.zero_add]
    obtain ⟨k0, k1, k2⟩ := hcell
    match j, hu with
    | 0, hu => rw [k0]; exact hu
    | 1, hu => rw [k1]; exact hu
    | 2, hu => rw [k2]; exact hu
  · intro v' w' h1 h2 _ h4
    refine h v' w' ?_ h2 h4
    unfold OwnEnts
    rw [entCells_append, entCells_one, List.length_append]
    exact h1
/-- Entries are put behind a list of the call's own. -/
theorem wpList_put_ents {ops : Array Oper} {rest : List Oper} {o : Oper} {a : Act} {w : World} {Q : Exit → Act → World → Prop} (hgd : o.guard = none) (s x : Operand)
    (ho : o.op = .call { callee := .builtin .append, args := #[s, x], argTypes := #[22, 22] }) (B : Nat) (v : Value) (es : List Ent) (hs : a.eval s = v) (hown : OwnEnts w B v es)
    (u : Value) (ts : List Ent) (hx : a.eval x = u) (hu : EntsAt w u ts) (hB : B ≤ w.heap.size) (hl : es.length ≤ 1000000) (hl2 : ts.length ≤ 1000000)
    (h : ∀ v' w', OwnEnts w' B v' (es ++ ts) → w.grownBy w' v.ownBlock → (v'.ownBlock = v.ownBlock ∨ v'.ownBlock = some w.heap.size) → wpList Tryd.prog ops Q rest (a.put o.dst v') w') : wpList Tryd.prog ops Q (o :: rest) a w := by
  obtain ⟨i0, hi, hz0, hz1, hz2⟩ := info_ent
  obtain ⟨A, cap, hu1, hu2, hu3, hu4⟩ := id hu
  have key : ∀ (ad : Addr), (∀ j u, (entCells ts)[j]? = some u → w.cell? (ad.add j) = some u) → u = .slice (some ad) ts.length cap → wpList Tryd.prog ops Q (o :: rest) a w := fun ad hc hv => by
    refine wpList_append_own_at (P := Tryd.prog) w hgd s x 22 ho B 36 i0 _ 3 40 Tryd.underlying22 hi hz0 hz1 hz2 rfl (by decide) v es.length (entCells es) hs hown ad ts.length cap (entCells ts) (hx.trans hv) (entCells_length ts) hc (oneEs ts) (by unfold maxLen; omega) (by omega) hB ?_
    intro v' w' h1 h2 _ h4
    refine h v' w' ?_ h2 h4
    unfold OwnEnts
    rw [entCells_append, List.length_append]
    exact h1
  by_cases h0 : ts = []
  · subst h0
    cases A with
    | some ad => exact key ad (fun j u hj => by simp [entCells] at hj) hu1
    | none =>
      have hrun := run_append_none_len (w := w) Tryd.underlying22 hi hown cap o.type
      refine wpList_plain hgd fun K hK => ?_
      unfold Oper.wp execOp
      simp only [ho, resolve, invoke, builtin, Sem.run_bind, Sem.run_pure, Result.andThen_ok, List.map_toArray, List.map_cons, List.map_nil, hs, hx.trans hu1, List.length_nil, hrun]
      exact hK _ _ (h v w (by rw [List.append_nil]; exact hown) ⟨rfl, rfl, rfl, Nat.le_refl _, fun _ _ _ => rfl⟩ (.inl rfl))
  · obtain ⟨y, hy⟩ : ∃ y, ts[0]? = some y := by
      cases ts with
      | nil => exact absurd rfl h0
      | cons y r => exact ⟨y, rfl⟩
    obtain ⟨g, o', rfl, _⟩ := hu4 0 y hy
    subst hu1
    exact key _ hu.cells rfl
end Go.Proofs.YtgegipijappfhaaDoor
