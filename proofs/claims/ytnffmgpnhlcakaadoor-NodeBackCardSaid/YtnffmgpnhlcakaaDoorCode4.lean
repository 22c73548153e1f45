/- The reader's numbers. Conditions: none. -/
import Derived.Test.YtnffmgpnhlcakaaDoorCode3
namespace Go.Proofs.YtnffmgpnhlcakaaDoor
open Go Go.RowKit

theorem extract_one (s : ByteArray) (h : 1 ≤ s.size) : s.extract 0 1 = ⟨#[at_ s 0]⟩ := by
  apply ByteArray.ext
  rw [ByteArray.data_extract]
  have h2 : 0 < s.data.size := h
  apply Array.ext
  · simp; omega
  · intro i h3 h4
    have : i = 0 := by simp at h4; omega
    subst this
    simp [at_]
    rw [Array.getElem?_eq_getElem h2]
    rfl

/-- What octet answers, and the error it leaves. -/
def octV (s : ByteArray) (err : Int) (most : Int) : Int := if err = 0 ∧ 1 ≤ s.size ∧ ((at_ s 0).toNat : Int) ≤ most then (at_ s 0).toNat else 0
def octE (s : ByteArray) (err : Int) (most : Int) : Int := if err ≠ 0 then err else if s.size = 0 then 5 else if ((at_ s 0).toNat : Int) ≤ most then 0 else 4

set_option maxRecDepth 100000 in
theorem octet_any (B b : Nat) (s : ByteArray) (err most : Int) (w : World) (h : ReaderAt B b s err w) :
    Calls Tryd.prog 56 #[.pointer (some ⟨b, 0, none⟩), .int .i64 most] w fun r w' => r = .returned (.int .i64 (octV s err most)) ∧ ReaderAt B b (takeR s err 1) (octE s err most) w' ∧ Near B b w w' := by
  have HT := Lib.hid (take_any B b s err 1 w h)
  obtain ⟨V, hV⟩ : ∃ V, octV s err most = V := ⟨_, rfl⟩
  obtain ⟨E, hE⟩ : ∃ E, octE s err most = E := ⟨_, rfl⟩
  rw [hV, hE]
  by_cases hg : err = 0 ∧ 1 ≤ s.size
  · have hs : takeS s err 1 = ⟨#[at_ s 0]⟩ := by rw [takeS, if_pos hg, extract_one s hg.2]
    have he : takeE s err 1 = 0 := by rw [takeE, if_neg (by omega)]; exact hg.1
    rw [hs, he] at HT
    have hc : (⟨#[at_ s 0]⟩ : ByteArray)[0]'(Nat.zero_lt_one) = at_ s 0 := rfl
    have hx : wrap64 ((at_ s 0).toNat : Int) = (at_ s 0).toNat := by
      have := (at_ s 0).toNat_lt
      exact IntWalk.wrap64_in _ (by omega)
    by_cases hm : ((at_ s 0).toNat : Int) ≤ most
    · rw [octV, if_pos ⟨hg.1, hg.2, hm⟩] at hV
      rw [octE, if_neg (by omega), if_neg (by omega), if_pos hm] at hE
      have hm' : decide (most < ((at_ s 0).toNat : Int)) = false := decide_eq_false (by omega)
      have HV := Lib.hid hV
      have HE := Lib.hid hE
      clear hV hE h hg hm hs he
      go_enter Tryd.func56, Tryd.ntmps56
      go_wp2_with fail
      refine HT.out.mono ?_
      rintro e w1 ⟨rfl, k1, b1⟩
      rw [HE.out] at k1
      go_wp2_with fail
      go_ret
      exact ⟨by rw [← HV.out]; exact congrArg (fun x => Ending.returned (Value.int .i64 x)) hx, k1, b1⟩
    · rw [octV, if_neg (by omega)] at hV
      rw [octE, if_neg (by omega), if_neg (by omega), if_neg hm] at hE
      have hm' : decide (most < ((at_ s 0).toNat : Int)) = true := decide_eq_true (by omega)
      have HV := Lib.hid hV
      have HE := Lib.hid hE
      clear hV hE h hg hm hs he
      go_enter Tryd.func56, Tryd.ntmps56
      go_wp2_with fail
      refine HT.out.mono ?_
      rintro e w1 ⟨rfl, k1, b1⟩
      have h1 := (Lib.cell_of_heap k1.2 1).trans (rfl : _ = some (Value.int .i64 0))
      have f1 := Lib.frozen_of_heap k1.2 1
      have k2 := Lib.hid (k1.err 4)
      have b2 : Near B b w (w1.setCell ⟨b, 1, none⟩ (.int .i64 4)) := b1.setCell (p := ⟨b, 1, none⟩) rfl _
      clear k1
      go_wp2_with fail
      go_ret
      exact ⟨by rw [← HV.out]; rfl, by rw [← HE.out]; exact k2.out, b2⟩
  · have hs : takeS s err 1 = ⟨#[]⟩ := by rw [takeS, if_neg hg]
    have he : takeE s err 1 = E := by
      rw [← hE, takeE, octE]
      by_cases h0 : err = 0
      · have : s.size = 0 := by omega
        rw [if_pos ⟨h0, by omega⟩, if_neg (by omega), if_pos this]
      · rw [if_neg (by omega), if_pos h0]
    rw [octV, if_neg (by omega)] at hV
    rw [hs, he] at HT
    have HV := Lib.hid hV
    clear hV hE h hg hs he
    go_enter Tryd.func56, Tryd.ntmps56
    go_wp2_with fail
    refine HT.out.mono ?_
    rintro e w1 ⟨rfl, k1, b1⟩
    go_wp2_with fail
    go_ret
    exact ⟨by rw [← HV.out]; rfl, k1, b1⟩
end Go.Proofs.YtnffmgpnhlcakaaDoor
