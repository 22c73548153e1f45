/- Keys, and the seeds of identities' versions. Conditions: the table of the rounds' constants lies where the program lays it. -/
import Derived.Test.YtlldcgofjibdjaaDoorShaMac
import Derived.Test.YtlldcgofjibdjaaDoorRef2n
import Derived.Test.YtlldcgofjibdjaaDoorName4
namespace Go.Proofs.YtlldcgofjibdjaaDoor
open Go Go.RowKit

theorem added_fit (bs s : List UInt8) (h : bs.length ≤ 65536) : added bs 0 s = bs ++ s := by rw [added, if_pos ⟨rfl, h⟩]
/-- May it be a key? -/
def goodK (k : List UInt8) : Bool := decide (0 < k.length ∧ k.length ≤ 64)
/-- The error of a seed. -/
def seedE (k i : List UInt8) (v : Int) : Nat := if goodK k = false then 1 else if (chk i).2 ≠ 0 then (chk i).2 else if v < 0 ∨ 1073741824 < v then 1 else 0
/-- What a seed is made of. -/
def seedT (i : List UInt8) (n : Nat) : List UInt8 := numBytes i.length ++ i ++ numBytes n
def seedL (k i : List UInt8) (v : Int) : Lab := if seedE k i v = 0 then macL k (seedT i v.toNat) else zeroLab
theorem seedT_len (i : List UInt8) (n : Nat) (h : i.length ≤ 200) (hn : n ≤ 1073741824) : (seedT i n).length ≤ 300 := by
  have h1 := numLen_le i.length (by omega)
  have h2 := numLen_le n (by omega)
  rw [seedT, List.length_append, List.length_append, numBytes_length, numBytes_length]
  omega
set_option maxRecDepth 100000 in
theorem laGood_any (k : List UInt8) (w : World) (hk : k.length ≤ 100) : Calls Tryd.prog 11 #[.string (stx k)] w fun e w' => e = .returned (.bool (goodK k)) ∧ Below w.heap.size w w' := by
  unfold goodK
  by_cases h0 : k = []
  · subst h0
    rw [show decide (0 < ([] : List UInt8).length ∧ ([] : List UInt8).length ≤ 64) = false from rfl]
    rw [show stx [] = (⟨#[]⟩ : ByteArray) from rfl]
    go_enter Tryd.func11, Tryd.ntmps11
    go_wp2_with fail
    go_ret
    exact ⟨rfl, Below.refl _ _⟩
  · have hz : (stx k).size = k.length := stx_size k
    have hp := List.length_pos_iff.2 h0
    have he : (stx k).toList.isEmpty = false := by
      rw [← Bool.not_eq_true, toList_none, hz]
      omega
    obtain ⟨n, hn⟩ : ∃ n, k.length = n := ⟨_, rfl⟩
    rw [hn] at hk hp hz ⊢
    by_cases h1 : n ≤ 64
    · rw [decide_eq_true ⟨hp, h1⟩]
      have h1' : (n : Int) ≤ 64 := by omega
      clear hn h0 hp
      generalize stx k = s at *
      go_enter Tryd.func11, Tryd.ntmps11
      go_wp2_with fail
      go_ret
      exact ⟨rfl, Below.refl _ _⟩
    · rw [decide_eq_false (fun e => h1 e.2)]
      have h1' : ¬ (n : Int) ≤ 64 := by omega
      have h1d : decide (n ≤ 64) = false := decide_eq_false h1
      clear hn h0 hp
      generalize stx k = s at *
      go_enter Tryd.func11, Tryd.ntmps11
      go_wp2_with fail
      go_ret
      exact ⟨rfl, Below.refl _ _⟩
theorem row_lab_tmp {ops : Func} {p q : Tmp} {a : Act} {w : World} {b : Nat} {l : Lab} {u : Value} {Q : Ending → World → Prop} (h : ops.results = #[.cell p 23, .tmp q]) (hp : a.tmps.getD p undef = .pointer (some ⟨b, 0, none⟩)) (hq : a.tmps.getD q undef = u) (hd : a.defers = [])
    (hr : rowAt w b = some (cellsL l)) (hQ : Q (.returned (.tuple #[.agg (cellsL l), u])) w) : bodyPost Tryd.prog ops Q .ret a w := by
  subst hq
  exact bodyPost_ret (results_row_tmp h a.tmps w b _ _ hp hr Tryd.underlying23 rfl (by rw [size_cellsL]; kernel_rfl)) hd hQ
/-- What Seed answers. -/
def SeedR (k i : List UInt8) (v : Int) : Value := .tuple #[.agg (cellsL (seedL k i v)), .int .i64 (seedE k i v)]
theorem seedR_err {k i : List UInt8} {v : Int} {e : Nat} (h : seedE k i v = e) (h0 : e ≠ 0) : SeedR k i v = .tuple #[.agg (cellsL zeroLab), .int .i64 e] := by
  rw [SeedR, seedL, if_neg (by rw [h]; exact h0), h]
theorem seedR_ok {k i : List UInt8} {v : Int} (h : seedE k i v = 0) : SeedR k i v = .tuple #[.agg (cellsL (macL k (seedT i v.toNat))), .int .i64 0] := by
  rw [SeedR, seedL, if_pos h, h]
  rfl
set_option maxRecDepth 100000 in
set_option maxHeartbeats 1000000 in
theorem Seed_bad1 (k i : List UInt8) (v : Int) (w : World) (hk : k.length ≤ 100) (hg : goodK k = false) :
    Calls Tryd.prog 8 #[.string (stx k), .string (stx i), .int .i64 v] w fun e w' => e = .returned (SeedR k i v) ∧ Below w.heap.size w w' := by
  rw [seedR_err (e := 1) (by rw [seedE, if_pos hg]) (by decide)]
  have b0 : Below w.heap.size w (w.alloc (.cells (cellsL zeroLab) 23)) := (Below.refl _ _).alloc (Nat.le_refl _) _
  have r0 := rowAt_alloc_at w (cellsL zeroLab) 23 _ rfl
  have HG := Lib.hid (fun w => laGood_any k w hk)
  rw [hg] at HG
  clear hg hk
  go_enter Tryd.func8, Tryd.ntmps8
  go_wp2_with fail
  generalize w.alloc (.cells (cellsL zeroLab) 23) = W at *
  refine (HG.out _).mono ?_
  rintro e w1 ⟨rfl, b1⟩
  have r1 := rowAt_past b1 r0
  have b2 := below_past b0 b1 b0.size
  clear r0 b0 b1 HG
  go_wp2_with fail
  exact row_lab_tmp rfl rfl rfl rfl (rowAt_setRow_same r1 _) ⟨rfl, Below.setRow b2 (Nat.le_refl _) _⟩
set_option maxRecDepth 100000 in
set_option maxHeartbeats 1000000 in
theorem Seed_bad2 (k i : List UInt8) (v : Int) (w : World) (hk : k.length ≤ 100) (hi : i.length ≤ 200) (hg : goodK k = true) (hc : (chk i).2 ≠ 0) :
    Calls Tryd.prog 8 #[.string (stx k), .string (stx i), .int .i64 v] w fun e w' => e = .returned (SeedR k i v) ∧ Below w.heap.size w w' := by
  rw [seedR_err (e := (chk i).2) (by rw [seedE, if_neg (by rw [hg]; decide), if_pos hc]) hc]
  have b0 : Below w.heap.size w (w.alloc (.cells (cellsL zeroLab) 23)) := (Below.refl _ _).alloc (Nat.le_refl _) _
  have r0 := rowAt_alloc_at w (cellsL zeroLab) 23 _ rfl
  have HG := Lib.hid (fun w => laGood_any k w hk)
  rw [hg] at HG
  have HC := Lib.hid (fun w => Check_any (stx i) w (by rw [stx_size]; omega))
  rw [show (stx i).data.toList = i from rfl] at HC
  unfold ChkR at HC
  generalize (chk i).1 = c1 at *
  generalize (chk i).2 = c2 at *
  have hc1 : ((c2 : Int) != 0) = true := by rw [bne_iff_ne]; omega
  have hc2 : (c2 != 0) = true := by rw [bne_iff_ne]; exact hc
  have hc3 : decide ((c2 : Int) = 0) = false := decide_eq_false (by omega)
  clear hg hk hi hc
  go_enter Tryd.func8, Tryd.ntmps8
  go_wp2_with fail
  generalize w.alloc (.cells (cellsL zeroLab) 23) = W at *
  refine (HG.out _).mono ?_
  rintro e w1 ⟨rfl, b1⟩
  have r1 := rowAt_past b1 r0
  have b2 := below_past b0 b1 b0.size
  clear r0 b0 b1 HG
  go_wp2_with fail
  refine (HC.out _).mono ?_
  rintro e w2 ⟨rfl, b1⟩
  have r2 := rowAt_past b1 r1
  have b3 := below_past b2 b1 b2.size
  clear r1 b2 b1 HC
  go_wp2_with fail
  exact row_lab_tmp rfl rfl rfl rfl (rowAt_setRow_same r2 _) ⟨rfl, Below.setRow b3 (Nat.le_refl _) _⟩
set_option maxRecDepth 100000 in
set_option maxHeartbeats 1000000 in
theorem Seed_bad3 (k i : List UInt8) (v : Int) (w : World) (hk : k.length ≤ 100) (hi : i.length ≤ 200) (hg : goodK k = true) (hc : (chk i).2 = 0) (hv : v < 0 ∨ 1073741824 < v) :
    Calls Tryd.prog 8 #[.string (stx k), .string (stx i), .int .i64 v] w fun e w' => e = .returned (SeedR k i v) ∧ Below w.heap.size w w' := by
  rw [seedR_err (e := 1) (by rw [seedE, if_neg (by rw [hg]; decide), if_neg (by rw [hc]; decide), if_pos hv]) (by decide)]
  have b0 : Below w.heap.size w (w.alloc (.cells (cellsL zeroLab) 23)) := (Below.refl _ _).alloc (Nat.le_refl _) _
  have r0 := rowAt_alloc_at w (cellsL zeroLab) 23 _ rfl
  have HG := Lib.hid (fun w => laGood_any k w hk)
  rw [hg] at HG
  have HC := Lib.hid (fun w => Check_any (stx i) w (by rw [stx_size]; omega))
  rw [show (stx i).data.toList = i from rfl] at HC
  unfold ChkR at HC
  rw [hc] at HC
  generalize (chk i).1 = c1 at *
  clear hg hk hi hc
  by_cases h0 : v < 0
  · clear hv
    go_enter Tryd.func8, Tryd.ntmps8
    go_wp2_with fail
    generalize w.alloc (.cells (cellsL zeroLab) 23) = W at *
    refine (HG.out _).mono ?_
    rintro e w1 ⟨rfl, b1⟩
    have r1 := rowAt_past b1 r0
    have b2 := below_past b0 b1 b0.size
    clear r0 b0 b1 HG
    go_wp2_with fail
    refine (HC.out _).mono ?_
    rintro e w2 ⟨rfl, b1⟩
    have r2 := rowAt_past b1 r1
    have b3 := below_past b2 b1 b2.size
    clear r1 b2 b1 HC
    go_wp2_with fail
    exact row_lab_tmp rfl rfl rfl rfl (rowAt_setRow_same r2 _) ⟨rfl, Below.setRow b3 (Nat.le_refl _) _⟩
  · have h1 : 1073741824 < v := by omega
    clear hv
    go_enter Tryd.func8, Tryd.ntmps8
    go_wp2_with fail
    generalize w.alloc (.cells (cellsL zeroLab) 23) = W at *
    refine (HG.out _).mono ?_
    rintro e w1 ⟨rfl, b1⟩
    have r1 := rowAt_past b1 r0
    have b2 := below_past b0 b1 b0.size
    clear r0 b0 b1 HG
    go_wp2_with fail
    refine (HC.out _).mono ?_
    rintro e w2 ⟨rfl, b1⟩
    have r2 := rowAt_past b1 r1
    have b3 := below_past b2 b1 b2.size
    clear r1 b2 b1 HC
    go_wp2_with fail
    exact row_lab_tmp rfl rfl rfl rfl (rowAt_setRow_same r2 _) ⟨rfl, Below.setRow b3 (Nat.le_refl _) _⟩
set_option maxRecDepth 100000 in
set_option maxHeartbeats 1000000 in
theorem Seed_ok (k i : List UInt8) (n : Nat) (w : World) (ht : Cubes w) (hk : k.length ≤ 100) (hi : i.length ≤ 200) (hg : goodK k = true) (hc : (chk i).2 = 0) (hv : n ≤ 1073741824) :
    Calls Tryd.prog 8 #[.string (stx k), .string (stx i), .int .i64 n] w fun e w' => e = .returned (SeedR k i n) ∧ Below w.heap.size w w' := by
  rw [seedR_ok (by rw [seedE, if_neg (by rw [hg]; decide), if_neg (by rw [hc]; decide), if_neg (by omega)]), Int.toNat_natCast]
  have b0 : Below w.heap.size w (w.alloc (.cells (cellsL zeroLab) 23)) := (Below.refl _ _).alloc (Nat.le_refl _) _
  have r0 := rowAt_alloc_at w (cellsL zeroLab) 23 _ rfl
  have HG := Lib.hid (fun w => laGood_any k w hk)
  rw [hg] at HG
  have HC := Lib.hid (fun w => Check_any (stx i) w (by rw [stx_size]; omega))
  rw [show (stx i).data.toList = i from rfl] at HC
  unfold ChkR at HC
  rw [hc] at HC
  generalize (chk i).1 = c1 at *
  have hv1 : ¬ (1073741824 : Int) < n := by omega
  have hv2 : decide (1073741824 < n) = false := decide_eq_false (by omega)
  have hv0 : (0 : Int) ≤ n := by omega
  have HM := Lib.hid (fun w ht => Mac_any k (seedT i n) w ht (by omega) (by have := seedT_len i n hi hv; omega))
  generalize macL k (seedT i n) = R at *
  have z1 := numLen_le i.length (by omega)
  have z2 := numLen_le n (by omega)
  have HI : Hid (i.length ≤ 200) := Lib.hid hi
  have HV : Hid (n ≤ 1073741824) := Lib.hid hv
  have HS : Hid (added (added (added [] 0 (numBytes (stx i).size)) 0 (stx i).data.toList) 0 (numBytes n) = seedT i n) := Lib.hid (by
    rw [stx_size, show (stx i).data.toList = i from rfl, added_fit [] _ (by decide), List.nil_append, added_fit (numBytes i.length) i (by rw [numBytes_length]; omega), added_fit (numBytes i.length ++ i) _ (by rw [List.length_append, numBytes_length]; omega), seedT])
  have HSL : Hid ((seedT i n).length ≤ 300) := Lib.hid (seedT_len i n hi hv)
  have T0 := Lib.hid (ht.below b0)
  clear hg hk hi hc z1 z2 hv ht
  go_enter Tryd.func8, Tryd.ntmps8
  go_wp2_with fail
  generalize w.alloc (.cells (cellsL zeroLab) 23) = W at *
  refine (HG.out _).mono ?_
  rintro e w1 ⟨rfl, b1⟩
  have r1 := rowAt_past b1 r0
  have b2 := below_past b0 b1 b0.size
  have T1 := Lib.hid (T0.out.below b1)
  clear r0 b0 b1 HG T0
  go_wp2_with fail
  refine (HC.out _).mono ?_
  rintro e w2 ⟨rfl, b1⟩
  have r2 := rowAt_past b1 r1
  have b3 := below_past b2 b1 b2.size
  have T2 := Lib.hid (T1.out.below b1)
  clear r1 b2 b1 HC T1
  have bw : Below w2.heap.size w2 (w2.alloc (.cells #[.slice none 0 0, .int .i64 0] 48)) := (Below.refl _ _).alloc (Nat.le_refl _) _
  have k0 : WriterAt w2.heap.size w2.heap.size [] 0 (w2.alloc (.cells #[.slice none 0 0, .int .i64 0] 48)) :=
    ⟨none, 0, heap_alloc_new w2 _, World.ownsRow_nil _ _ _ _, by simp [Value.ownBlock]⟩
  have HT := Lib.hid (Text_any _ _ _ _ (stx i) _ k0 (by rw [stx_size]; have := HI.out; omega) bw.size)
  clear k0
  go_wp2_with fail
  refine HT.out.mono ?_
  rintro e w3 ⟨rfl, k1, b1⟩
  have bw3 := bw.trans (b1.below (Nat.le_refl _) (Nat.le_refl _))
  have HN := Lib.hid (Number_any _ _ _ _ n _ k1 (by have := HV.out; omega) bw3.size)
  clear HT k1 b1 bw
  go_wp2_with fail
  refine HN.out.mono ?_
  rintro e w4 ⟨rfl, k1, b1⟩
  rw [HS.out] at k1
  have bw4 := bw3.trans (b1.below (Nat.le_refl _) (Nat.le_refl _))
  have HD := Lib.hid (Done_any _ _ _ _ _ k1)
  rw [if_neg (by decide), if_neg (by have := HSL.out; omega)] at HD
  clear HN k1 b1 bw3
  go_wp2_with fail
  refine HD.out.mono ?_
  rintro e w5 ⟨rfl, b1⟩
  have bw5 := below_past bw4 b1 bw4.size
  have T3 := Lib.hid (T2.out.below bw5)
  have r3 := rowAt_past bw5 r2
  have b4 := below_past b3 bw5 b3.size
  clear HD b1 bw4 bw5 r2 b3 T2
  go_wp2_with fail
  refine (HM.out _ T3.out).mono ?_
  rintro e w6 ⟨rfl, b1⟩
  have r4 := rowAt_past b1 r3
  have b5 := below_past b4 b1 b4.size
  clear r3 b4 b1 HM T3
  go_wp2_with fail
  exact row_lab_tmp rfl rfl rfl rfl (rowAt_setRow_same r4 _) ⟨rfl, Below.setRow b5 (Nat.le_refl _) _⟩
theorem Seed_any (k i : List UInt8) (v : Int) (w : World) (ht : Cubes w) (hk : k.length ≤ 100) (hi : i.length ≤ 200) :
    Calls Tryd.prog 8 #[.string (stx k), .string (stx i), .int .i64 v] w fun e w' => e = .returned (SeedR k i v) ∧ Below w.heap.size w w' := by
  cases hg : goodK k with
  | false => exact Seed_bad1 k i v w hk hg
  | true =>
    by_cases hc : (chk i).2 = 0
    · by_cases hv : v < 0 ∨ 1073741824 < v
      · exact Seed_bad3 k i v w hk hi hg hc hv
      · obtain ⟨n, rfl⟩ : ∃ n : Nat, v = n := ⟨v.toNat, by omega⟩
        exact Seed_ok k i n w ht hk hi hg hc (by omega)
    · exact Seed_bad2 k i v w hk hi hg hc
end Go.Proofs.YtlldcgofjibdjaaDoor
