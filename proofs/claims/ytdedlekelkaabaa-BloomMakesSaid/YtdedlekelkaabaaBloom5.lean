/- A filter's bytes. Conditions: none. -/
import Derived.Test.YtdedlekelkaabaaBloomMath
import Derived.Test.YtdedlekelkaabaaCode8
import Derived.Test.YtdedlekelkaabaaCodeMath
namespace Go.Proofs.Ytdedlekelkaabaa
open Go Go.RowKit Go.Shelf
attribute [local go_sem] Oper.semAt_some

def encB (p : Nat) (bs : List UInt8) : List UInt8 := numBytes p ++ (numBytes bs.length ++ bs)
theorem conv_in (w : World) (ao : Option Addr) (cap : Nat) (bs : List UInt8) (h0 : 0 < bs.length) (h : BytesIn w ao bs) : (convert 24 9 (.slice ao bs.length cap)).run Try.prog w = .ok (.string (txt bs)) w := by
  obtain ⟨g, o, rfl, _⟩ := h 0 h0
  refine run_convert_bytes_back w _ _ _ ⟨g, o, none⟩ _ bs Try.underlying24 Try.underlying5 Try.underlying9 fun j hj => ?_
  obtain ⟨g', o', h1, h2⟩ := h j hj
  obtain ⟨rfl, rfl⟩ : g = g' ∧ o = o' := by simpa using h1
  have hp : (⟨g, o, none⟩ : Addr).add j = ⟨g, o + j, none⟩ := by unfold Addr.add; split <;> simp_all
  rw [hp, h2]
  simp [List.getD_eq_getElem?_getD, hj]
theorem BytesIn.below {w W : World} {ao : Option Addr} {bs : List UInt8} (h : BytesIn w ao bs) (hb : Below w.heap.size w W) : BytesIn W ao bs := fun i hi => by
  obtain ⟨g, o, h1, h2⟩ := h i hi
  exact ⟨g, o, h1, (hb.cell (p := ⟨g, o + i, none⟩) (cellLt h2)).trans h2⟩
theorem enc_len (p : Nat) (bs : List UInt8) (hp : p ≤ 16) (hb : bs.length ≤ 8192) : (encB p bs).length ≤ 8300 := by
  have h1 := numLen_le p (by omega)
  have h2 := numLen_le bs.length (by omega)
  simp [encB, numBytes]
  omega

set_option maxRecDepth 100000 in
set_option maxHeartbeats 4000000 in
theorem bytes_good (p : Nat) (ao : Option Addr) (cap : Nat) (bs : List UInt8) (w : World) (hB : BytesIn w ao bs) (hg : goodB p bs.length = true) :
    Calls Try.prog 21 #[.agg #[.int .i64 p, .slice ao bs.length cap]] w fun e w' => e = .returned (.tuple #[.string (txt (encB p bs)), .int .i64 0]) ∧ Below w.heap.size w w' := by
  have hgd := of_decide_eq_true hg
  have hL := enc_len p bs (by omega) (by omega)
  have HG : ∀ w, Hid (Calls Try.prog 14 #[.agg #[.int .i64 p, .slice ao bs.length cap]] w fun e w' => e = .returned (.bool true) ∧ Below w.heap.size w w') := fun w => Lib.hid (by
    have := good_any p ao bs.length cap w
    rwa [hg] at this)
  have HC : Hid (∀ W, Below w.heap.size w W → (convert 24 9 (.slice ao bs.length cap)).run Try.prog W = .ok (.string (txt bs)) W) := Lib.hid fun W hW => conv_in W ao cap bs (by omega) (hB.below hW)
  have hs0 : (txt bs).size = bs.length := by simp [ByteArray.size]
  have l1 := numLen_le p (by omega)
  have l2 := numLen_le bs.length (by omega)
  have l3 : (numBytes p).length ≤ 9 := by simp [numBytes]; omega
  have l4 : (numBytes bs.length).length ≤ 9 := by simp [numBytes]; omega
  have e1 : numW [] 0 (p : Int) = numBytes p := by simp [numW, added]; omega
  have e2 : numWE 0 (p : Int) = 0 := by simp [numWE]
  have e3 : textW (numBytes p) 0 (txt bs) = encB p bs := by
    rw [textW, if_neg (by rw [hs0]; omega), hs0]
    have i1 : added (numBytes p) 0 (numBytes bs.length) = numBytes p ++ numBytes bs.length := if_pos ⟨rfl, by omega⟩
    rw [i1, added, if_pos ⟨rfl, by rw [List.length_append]; omega⟩, List.append_assoc]
    rfl
  have e4 : textWE 0 (txt bs) = 0 := by rw [textWE, if_neg (by rw [hs0]; omega)]
  have e5 : doneS (encB p bs) 0 = encB p bs := by rw [doneS, if_neg (by omega)]
  have e6 : doneE (encB p bs) 0 = 0 := by rw [doneE, if_neg (by omega), if_neg (by omega)]
  have HN : ∀ (B b : Nat) (w : World), WriterAt B b [] 0 w → B ≤ w.heap.size → Hid (Calls Try.prog 32 #[.pointer (some ⟨b, 0, none⟩), .int .i64 p] w fun r w' => r = .returned (.tuple #[]) ∧ WriterAt B b (numBytes p) 0 w' ∧ Near B b w w') := fun B b w h hb => Lib.hid (by
    have := WNumber_all B b [] 0 p w h (by omega) hb
    rwa [e1, e2] at this)
  have HT : ∀ (B b : Nat) (w : World), WriterAt B b (numBytes p) 0 w → B ≤ w.heap.size → Hid (Calls Try.prog 33 #[.pointer (some ⟨b, 0, none⟩), .string (txt bs)] w fun r w' => r = .returned (.tuple #[]) ∧ WriterAt B b (encB p bs) 0 w' ∧ Near B b w w') := fun B b w h hb => Lib.hid (by
    have := WText_all B b (numBytes p) 0 (txt bs) w h hb
    rwa [e3, e4] at this)
  have HD : ∀ (B b : Nat) (w : World), WriterAt B b (encB p bs) 0 w → Hid (Calls Try.prog 34 #[.pointer (some ⟨b, 0, none⟩)] w fun r w' => r = .returned (.tuple #[.string (txt (encB p bs)), .int .i64 0]) ∧ Below w.heap.size w w') := fun B b w h => Lib.hid (by
    have := WDone_all B b (encB p bs) 0 w h
    rwa [e5, e6] at this)
  generalize encB p bs = E at *
  obtain ⟨n, hn⟩ : ∃ n, bs.length = n := ⟨_, rfl⟩
  rw [hn] at hgd HG HC ⊢
  have hn1 : 0 < n := by omega
  have hn2 : n ≤ 8192 := hgd.2.2.2
  generalize txt bs = TB at *
  clear hB hg hgd hn hL hs0 e1 e2 e3 e4 e5 e6 l1 l2 l3 l4
  have a1 : Below w.heap.size w (w.alloc (.cells #[.int .i64 p, .slice ao n cap] 26)) := ((Below.refl _ _).alloc (Nat.le_refl _) _)
  have x0 := World.alloc_heap_new w (.cells #[.int .i64 p, .slice ao n cap] 26)
  go_enter Try.func21, Try.ntmps21
  go_wp2_with fail
  generalize w.alloc (.cells #[.int .i64 p, .slice ao n cap] 26) = W0 at *
  refine (HG _).out.mono ?_
  rintro e w1 ⟨rfl, b1⟩
  have x1 := (b1.block _ (heap_lt x0)).trans x0
  have a2 := below_past a1 b1 a1.size
  have c0 : w1.cell? ⟨w.heap.size, 0, none⟩ = some (.int .i64 p) := (Lib.cell_of_heap x1 0).trans rfl
  have c1 : w1.cell? ⟨w.heap.size, 1, none⟩ = some (.slice ao n cap) := (Lib.cell_of_heap x1 1).trans rfl
  clear HG x0 a1 b1
  have hw1 := heap_lt x1
  have a3 := a2.alloc a2.size (.cells #[.slice none 0 0, .int .i64 0] 70)
  have x2 := (Below.heap_alloc w1 (.cells #[.slice none 0 0, .int .i64 0] 70) _ hw1).trans x1
  have y2 := World.alloc_heap_new w1 (.cells #[.slice none 0 0, .int .i64 0] 70)
  have s2 : (w1.alloc (.cells #[.slice none 0 0, .int .i64 0] 70)).heap.size = w1.heap.size + 1 := by simp
  have d0 : (w1.alloc (.cells #[.slice none 0 0, .int .i64 0] 70)).cell? ⟨w.heap.size, 0, none⟩ = some (.int .i64 p) := (Lib.cell_of_heap x2 0).trans rfl
  clear c0 c1 x1 a2
  go_wp2_with fail
  generalize w1.alloc (.cells #[.slice none 0 0, .int .i64 0] 70) = W1 at *
  have k1 : WriterAt (w1.heap.size + 1) w1.heap.size [] 0 W1 := ⟨none, 0, y2, World.ownsRow_nil _ _ _ _, by simp [Value.ownBlock]⟩
  generalize w1.heap.size = b at *
  refine (HN _ b _ k1 (by omega)).out.mono ?_
  rintro e w2 ⟨rfl, k2, n2⟩
  have x3 := (n2.block _ (by omega) (by omega)).trans x2
  have a4 := a3.trans (n2.below (C := w.heap.size) (by omega) (by omega))
  have d1 : w2.cell? ⟨w.heap.size, 1, none⟩ = some (.slice ao n cap) := (Lib.cell_of_heap x3 1).trans rfl
  have hcv := HC.out w2 a4
  have s3 := n2.size
  clear HN x2 y2 d0 k1 n2 a3
  go_wp2_with fail
  refine (HT _ b _ k2 (by omega)).out.mono ?_
  rintro e w3 ⟨rfl, k3, n3⟩
  have a5 := a4.trans (n3.below (C := w.heap.size) (by omega) (by omega))
  clear HT x3 a4 d1 hcv k2 n3
  go_wp2_with fail
  refine (HD _ b _ k3).out.mono ?_
  rintro e w4 ⟨rfl, n4⟩
  have a6 := below_past a5 n4 a5.size
  clear HD a5 k3 n4
  go_wp2_with fail
  go_ret2
  exact ⟨rfl, a6⟩
set_option maxRecDepth 100000 in
theorem bytes_bad (p : Int) (ao : Option Addr) (n cap : Nat) (w : World) (hg : goodB p n = false) :
    Calls Try.prog 21 #[.agg #[.int .i64 p, .slice ao n cap]] w fun e w' => e = .returned (.tuple #[.string ⟨#[]⟩, .int .i64 3]) ∧ Below w.heap.size w w' := by
  have HG : ∀ w, Hid (Calls Try.prog 14 #[.agg #[.int .i64 p, .slice ao n cap]] w fun e w' => e = .returned (.bool false) ∧ Below w.heap.size w w') := fun w => Lib.hid (by
    have := good_any p ao n cap w
    rwa [hg] at this)
  have a1 : Below w.heap.size w (w.alloc (.cells #[.int .i64 p, .slice ao n cap] 26)) := ((Below.refl _ _).alloc (Nat.le_refl _) _)
  clear hg
  go_enter Try.func21, Try.ntmps21
  go_wp2_with fail
  generalize w.alloc (.cells #[.int .i64 p, .slice ao n cap] 26) = W0 at *
  refine (HG _).out.mono ?_
  rintro e w1 ⟨rfl, b1⟩
  have a2 := below_past a1 b1 a1.size
  clear HG a1 b1
  go_wp2_with fail
  go_ret2
  exact ⟨rfl, a2⟩
def encF (p : Int) (bs : List UInt8) : List UInt8 := if goodB p bs.length then encB p.toNat bs else []
def encE (p : Int) (bs : List UInt8) : Int := if goodB p bs.length then 0 else 3
theorem bytes_any (p : Int) (ao : Option Addr) (cap : Nat) (bs : List UInt8) (w : World) (hB : BytesIn w ao bs) :
    Calls Try.prog 21 #[.agg #[.int .i64 p, .slice ao bs.length cap]] w fun e w' => e = .returned (.tuple #[.string (txt (encF p bs)), .int .i64 (encE p bs)]) ∧ Below w.heap.size w w' := by
  unfold encF encE
  cases hg : goodB p bs.length with
  | false => exact bytes_bad p ao bs.length cap w hg
  | true =>
    have h1 := (of_decide_eq_true hg).1
    obtain ⟨q, rfl⟩ : ∃ q : Nat, p = q := ⟨p.toNat, by omega⟩
    exact bytes_good q ao cap bs w hB hg
end Go.Proofs.Ytdedlekelkaabaa
