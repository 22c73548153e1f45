/- The reader's Number. Conditions: none. -/
import Derived.Test.YtnffmgpnhlcakaaDoorCode4
import Derived.Test.YtnffmgpnhlcakaaDoorNumMath
namespace Go.Proofs.YtnffmgpnhlcakaaDoor
open Go Go.RowKit

/-- The bytes that Number takes, and what it leaves. -/
def numT (s : ByteArray) (err : Int) : ByteArray := takeS (takeR s err 1) (octE s err 8) (octV s err 8).toNat
def numS (s : ByteArray) (err : Int) : ByteArray := takeR (takeR s err 1) (octE s err 8) (octV s err 8).toNat
def numE0 (s : ByteArray) (err : Int) : Int := takeE (takeR s err 1) (octE s err 8) (octV s err 8).toNat
theorem octV_range (s : ByteArray) (err : Int) : 0 ≤ octV s err 8 ∧ octV s err 8 ≤ 8 := by
  unfold octV
  split
  · rename_i h; exact ⟨by omega, h.2.2⟩
  · decide
theorem beVal_put (l : List UInt8) (c : UInt8) : beVal (l ++ [c]) = 256 * beVal l + c.toNat := by simp [beVal]
theorem beVal_lt : ∀ (l : List UInt8), beVal l < 256 ^ l.length := fun l => by
  have : ∀ (m : List UInt8) (n k : Nat), n < 256 ^ k → m.foldl (fun n c => 256 * n + c.toNat) n < 256 ^ (k + m.length) := fun m => by
    induction m with
    | nil => intro n k h; simpa using h
    | cons c m ih =>
      intro n k h
      have hc := c.toNat_lt
      have := ih (256 * n + c.toNat) (k + 1) (by rw [Nat.pow_succ]; omega)
      rw [List.length_cons, show k + (m.length + 1) = k + 1 + m.length by omega]
      exact this
  have := this l 0 0 (by decide)
  simpa [beVal] using this

def numBad (T : ByteArray) : Bool := decide (at_ T 0 = 0 ∨ 9223372036854775807 < beVal T.data.toList)
def numOk (T : ByteArray) : Int := if numBad T then 0 else beVal T.data.toList
theorem u64_or (a b : Nat) (ha : a < 18446744073709551616) (hb : b < 18446744073709551616) : bits .or .u64 (a : Int) (b : Int) = ((a ||| b : Nat) : Int) := by
  have hx : a ||| b < 2 ^ 64 := Nat.or_lt_two_pow (by omega) (by omega)
  show IntKind.u64.wrap ((BitVec.ofInt 64 (a : Int) ||| BitVec.ofInt 64 (b : Int)).toNat : Int) = _
  rw [BitVec.toNat_or, ofInt_u64 a (by omega), ofInt_u64 b (by omega)]
  show ((a ||| b : Nat) : Int) % 2 ^ IntKind.u64.bits = _
  rw [show (2 : Int) ^ IntKind.u64.bits = 18446744073709551616 from rfl]
  omega
theorem or_byte (n c : Nat) (hc : c < 256) : n * 256 ||| c = 256 * n + c := by
  have := Nat.shiftLeft_add_eq_or_of_lt (i := 8) (b := c) (by omega) n
  rw [Nat.shiftLeft_eq, show 2 ^ 8 = 256 from rfl] at this
  omega

set_option maxRecDepth 100000 in
theorem RNumber_any (B b : Nat) (s : ByteArray) (err : Int) (w : World) (h : ReaderAt B b s err w) (T : ByteArray) (hT : numT s err = T) (hne : T.size ≠ 0) (h8 : T.size ≤ 8) :
    Calls Tryd.prog 27 #[.pointer (some ⟨b, 0, none⟩)] w fun r w' => r = .returned (.int .i64 (numOk T)) ∧ ReaderAt B b (numS s err) (if numBad T then 4 else numE0 s err) w' ∧ Near B b w w' := by
  have HO := Lib.hid (octet_any B b s err 8 w h)
  obtain ⟨k, hk⟩ : ∃ k : Nat, octV s err 8 = k := ⟨(octV s err 8).toNat, by have := octV_range s err; omega⟩
  rw [hk] at HO
  unfold numT at hT
  rw [hk, Int.toNat_natCast] at hT
  have HK : ∀ w, ReaderAt B b (takeR s err 1) (octE s err 8) w → Hid (Calls Tryd.prog 57 #[.pointer (some ⟨b, 0, none⟩), .int .i64 k] w fun r w' => r = .returned (.string T) ∧ ReaderAt B b (takeR (takeR s err 1) (octE s err 8) k) (takeE (takeR s err 1) (octE s err 8) k) w' ∧ Near B b w w') := fun w h => Lib.hid (by
    have := take_any B b _ _ k w h
    rwa [hT] at this)
  have hv : T.toList.isEmpty = false := by
    rw [Bool.eq_false_iff]
    exact fun e => hne ((toList_empty T).1 e)
  have HS0 : Hid (numS s err = takeR (takeR s err 1) (octE s err 8) k) := Lib.hid (by unfold numS; rw [hk, Int.toNat_natCast])
  have HE0 : Hid (numE0 s err = takeE (takeR s err 1) (octE s err 8) k) := Lib.hid (by unfold numE0; rw [hk, Int.toNat_natCast])
  obtain ⟨E, hE⟩ : ∃ E, (if numBad T then 4 else numE0 s err) = E := ⟨_, rfl⟩
  obtain ⟨V, hV⟩ : ∃ V, numOk T = V := ⟨_, rfl⟩
  obtain ⟨S, hS⟩ : ∃ S, numS s err = S := ⟨_, rfl⟩
  rw [hE, hV, hS]
  have HE := Lib.hid hE
  have HV := Lib.hid hV
  have HS := Lib.hid hS
  clear hT hk h hne hE hV hS
  go_enter Tryd.func27, Tryd.ntmps27
  go_wp2_with fail
  refine HO.out.mono ?_
  rintro e w1 ⟨rfl, k1, b1⟩
  go_wp2_with fail
  refine (HK _ k1).out.mono ?_
  rintro e w2 ⟨rfl, k2, b2⟩
  go_wp2_with fail
  go_loop [4, 14] (fun x t => ∃ i : Nat, i ≤ T.size ∧ t = .int .i64 i ∧ Hid (x = .int .u64 (beVal (T.data.toList.take i)))) (fun _ t => (T.size - intOf t).toNat)
  case atStart => exact ⟨0, Nat.zero_le _, rfl, Lib.hid rfl⟩
  case round =>
    obtain ⟨i, hi, rfl, HX⟩ := hrel
    obtain ⟨N, hN⟩ : ∃ N, beVal (T.data.toList.take i) = N := ⟨_, rfl⟩
    have hx := HX.out
    rw [hN] at hx
    subst hx
    by_cases hlt : i < T.size
    · have hlt' : (i : Int) < T.size := by omega
      have hNb : (N : Int) < 72057594037927936 := by
        have := beVal_lt (T.data.toList.take i)
        rw [hN] at this
        have h2 : (T.data.toList.take i).length ≤ 7 := by rw [List.length_take]; omega
        have h3 := Nat.pow_le_pow_right (show 0 < 256 by decide) h2
        have : N < 256 ^ 7 := by omega
        omega
      have hc := (at_ T i).toNat_lt
      have hat := get_at T i hlt
      have hor : bits .or .u64 ((N : Int) * 256) ((at_ T i).toNat : Int) = ((256 * N + (at_ T i).toNat : Nat) : Int) := by
        rw [show (N : Int) * 256 = ((N * 256 : Nat) : Int) by omega, u64_or _ _ (by omega) (by omega), or_byte _ _ hc]
      go_wp2_with fail
      refine ⟨⟨i + 1, hlt, by go_num, Lib.hid ?_⟩, by simp [intOf]; omega⟩
      have hl : i < T.data.toList.length := hlt
      have hat2 : T.data.toList[i] = at_ T i := by
        unfold at_
        rw [List.getD_eq_getElem?_getD, List.getElem?_eq_getElem hl]
        rfl
      rw [List.take_succ_eq_append_getElem hl, beVal_put, hN, hat2]
      rfl
    · obtain rfl : i = T.size := by omega
      have hN2 : beVal T.data.toList = N := by
        rw [← hN]
        exact congrArg beVal (List.take_of_length_le (Nat.le_refl _)).symm
      have h0 : 0 < T.size := by
        rcases Nat.eq_zero_or_pos T.size with e | e
        · rw [(toList_empty T).2 e] at hv; cases hv
        · exact e
      have h0' : (0 : Int) < T.size := by omega
      have hat := get_at T 0 h0
      have h1 := (Lib.cell_of_heap k2.2 1).trans (rfl : _ = some (Value.int .i64 _))
      have f1 := Lib.frozen_of_heap k2.2 1
      have K4 := Lib.hid (k2.err 4)
      have K2 := Lib.hid k2
      have b3 := b1.trans b2
      have b4 : Near B b w (w2.setCell ⟨b, 1, none⟩ (.int .i64 4)) := b3.setCell (p := ⟨b, 1, none⟩) rfl _
      clear k2
      by_cases hz : at_ T 0 = 0
      · have hz2 : ((at_ T 0).toNat : Int) = 0 := by rw [hz]; rfl
        have HB : Hid (numBad T = true) := Lib.hid (decide_eq_true (.inl hz))
        clear hz
        go_wp2_with fail
        go_ret
        exact ⟨by rw [← HV.out]; unfold numOk; rw [if_pos HB.out]; rfl, by rw [← HE.out, if_pos HB.out, ← HS.out, HS0.out]; exact K4.out, b4⟩
      · have hz2 : (((at_ T 0).toNat : Int) == 0) = false := by
          rw [beq_eq_false_iff_ne]
          intro e
          exact hz (UInt8.toNat_inj.1 (by have : (at_ T 0).toNat = 0 := by omega
                                          exact this))
        by_cases hb : 9223372036854775807 < N
        · have hb2 : decide ((9223372036854775807 : Int) < N) = true := decide_eq_true (by omega)
          have HB : Hid (numBad T = true) := Lib.hid (decide_eq_true (.inr (by rw [hN2]; exact hb)))
          clear hz hb
          go_wp2_with fail
          go_ret
          exact ⟨by rw [← HV.out]; unfold numOk; rw [if_pos HB.out]; rfl, by rw [← HE.out, if_pos HB.out, ← HS.out, HS0.out]; exact K4.out, b4⟩
        · have hb2 : decide ((9223372036854775807 : Int) < N) = false := decide_eq_false (by omega)
          have hb3 : wrap64 (N : Int) = N := IntWalk.wrap64_in _ (by omega)
          have HB : Hid (¬ numBad T = true) := Lib.hid (by
            unfold numBad
            rw [decide_eq_true_eq]
            rintro (e | e)
            · exact hz e
            · rw [hN2] at e; exact hb e)
          have HN := Lib.hid hN2
          clear hz hb hN2
          go_wp2_with fail
          go_ret
          exact ⟨by rw [← HV.out]; unfold numOk; rw [if_neg HB.out, HN.out]; rfl, by rw [← HE.out, if_neg HB.out, ← HS.out, HS0.out, HE0.out]; exact K2.out, b3⟩

set_option maxRecDepth 100000 in
theorem RNumber_none (B b : Nat) (s : ByteArray) (err : Int) (w : World) (h : ReaderAt B b s err w) (T : ByteArray) (hT : numT s err = T) (hne : T.size = 0) :
    Calls Tryd.prog 27 #[.pointer (some ⟨b, 0, none⟩)] w fun r w' => r = .returned (.int .i64 0) ∧ ReaderAt B b (numS s err) (numE0 s err) w' ∧ Near B b w w' := by
  have HO := Lib.hid (octet_any B b s err 8 w h)
  obtain ⟨k, hk⟩ : ∃ k : Nat, octV s err 8 = k := ⟨(octV s err 8).toNat, by have := octV_range s err; omega⟩
  rw [hk] at HO
  unfold numT at hT
  rw [hk, Int.toNat_natCast] at hT
  have HK : ∀ w, ReaderAt B b (takeR s err 1) (octE s err 8) w → Hid (Calls Tryd.prog 57 #[.pointer (some ⟨b, 0, none⟩), .int .i64 k] w fun r w' => r = .returned (.string T) ∧ ReaderAt B b (takeR (takeR s err 1) (octE s err 8) k) (takeE (takeR s err 1) (octE s err 8) k) w' ∧ Near B b w w') := fun w h => Lib.hid (by
    have := take_any B b _ _ k w h
    rwa [hT] at this)
  have hv : T.toList.isEmpty = true := (toList_empty T).2 hne
  have HS0 : Hid (numS s err = takeR (takeR s err 1) (octE s err 8) k) := Lib.hid (by unfold numS; rw [hk, Int.toNat_natCast])
  have HE0 : Hid (numE0 s err = takeE (takeR s err 1) (octE s err 8) k) := Lib.hid (by unfold numE0; rw [hk, Int.toNat_natCast])
  obtain ⟨E, hE⟩ : ∃ E, numE0 s err = E := ⟨_, rfl⟩
  obtain ⟨S, hS⟩ : ∃ S, numS s err = S := ⟨_, rfl⟩
  rw [hE, hS]
  have HE := Lib.hid hE
  have HS := Lib.hid hS
  clear hT hk h hne hE hS
  go_enter Tryd.func27, Tryd.ntmps27
  go_wp2_with fail
  refine HO.out.mono ?_
  rintro e w1 ⟨rfl, k1, b1⟩
  go_wp2_with fail
  refine (HK _ k1).out.mono ?_
  rintro e w2 ⟨rfl, k2, b2⟩
  have K2 := Lib.hid k2
  have b3 := b1.trans b2
  clear k2
  go_wp2_with fail
  go_ret
  exact ⟨rfl, by rw [← HE.out, ← HS.out, HS0.out, HE0.out]; exact K2.out, b3⟩

theorem numT_size (s : ByteArray) (err : Int) : (numT s err).size ≤ 8 := by
  have := octV_range s err
  unfold numT takeS
  split
  · rename_i h
    rw [ByteArray.size_extract]
    omega
  · exact Nat.zero_le _
/-- What Number answers, and the error it leaves. -/
def numV (s : ByteArray) (err : Int) : Int := if (numT s err).size = 0 then 0 else numOk (numT s err)
def numE (s : ByteArray) (err : Int) : Int := if (numT s err).size ≠ 0 ∧ numBad (numT s err) = true then 4 else numE0 s err
theorem RNumber_all (B b : Nat) (s : ByteArray) (err : Int) (w : World) (h : ReaderAt B b s err w) :
    Calls Tryd.prog 27 #[.pointer (some ⟨b, 0, none⟩)] w fun r w' => r = .returned (.int .i64 (numV s err)) ∧ ReaderAt B b (numS s err) (numE s err) w' ∧ Near B b w w' := by
  by_cases hz : (numT s err).size = 0
  · have := RNumber_none B b s err w h _ rfl hz
    rwa [show numV s err = 0 from if_pos hz, show numE s err = numE0 s err from if_neg (fun e => e.1 hz)]
  · have := RNumber_any B b s err w h _ rfl hz (numT_size s err)
    rw [show numV s err = numOk (numT s err) from if_neg hz]
    have he : numE s err = if numBad (numT s err) then 4 else numE0 s err := by
      unfold numE
      simp [hz]
    rwa [he]
end Go.Proofs.YtnffmgpnhlcakaaDoor
