/- Texts that the next ones stand on: Block7, BlockLaw, Bloom1, Bloom2, Bloom3, Lists. -/
import Derived.Test.YtgegipijappfhaaDoorBM4
import Derived.Test.YtgegipijappfhaaDoorRows
import Derived.Laws.BitsAllLaws
import Derived.WalkLawsBesides
import Derived.RangeFuncNested
import Derived.RangeFuncBound
import Derived.RangeFuncCalls
import Derived.RangeFuncLeaves
import Derived.Shelf.Abstract
import Derived.Shelf.RegionOpen
import Derived.WalkKit
import Derived.OwnWalkIn
import Derived.TacticsInMore
import Derived.LoopNIn
import Derived.LoopIn
import Derived.RangeFuncFrom
import Derived.Deep.Strs
import Derived.Maps.AppendAt
namespace Go.Proofs.YtgegipijappfhaaDoor
open Go Go.RowKit

theorem near_put {B b : Nat} {a w : World} (h : Near B b a w) {p : Addr} (hp : a.heap.size ≤ p.block) (hB : B ≤ a.heap.size) (u : Value) : Near B b a (w.setCell p u) :=
  ⟨h.os, h.tape, h.output, by simpa [World.setCell] using h.size, fun k hk hn => (Below.heap_setCell _ _ _ _ (by omega)).trans (h.block k hk hn), fun k hk hn hb => (Below.heap_setCell _ _ _ _ (by omega)).trans (h.far k hk hn hb)⟩
theorem near_row {B b : Nat} {a w : World} (h : Near B b a w) {g : Nat} (hp : a.heap.size ≤ g) (hB : B ≤ a.heap.size) (c : Array Value) : Near B b a (w.setRow g c) := h.setRow (Nat.le_trans hB hp) hp c
theorem ReaderAt.put {B b : Nat} {s : ByteArray} {err : Int} {w : World} (h : ReaderAt B b s err w) {p : Addr} (hp : p.block ≠ b) (u : Value) : ReaderAt B b s err (w.setCell p u) :=
  ⟨h.1, (Below.heap_setCell _ _ _ _ (fun e => hp e.symm)).trans h.2⟩
theorem ReaderAt.row {B b : Nat} {s : ByteArray} {err : Int} {w : World} (h : ReaderAt B b s err w) {g : Nat} (hp : g ≠ b) (c : Array Value) : ReaderAt B b s err (w.setRow g c) :=
  ⟨h.1, (setRow_other w g b c (fun e => hp e.symm)).trans h.2⟩
theorem numV_top (s : ByteArray) (err : Int) : numV s err < 9223372036854775808 := by
  unfold numV numOk
  split
  · decide
  · split
    · decide
    · rename_i h
      unfold numBad at h
      simp only [decide_eq_true_eq, not_or] at h
      omega
set_option maxRecDepth 100000 in
set_option maxHeartbeats 2000000 in
theorem kread_any (B b : Nat) (s : ByteArray) (err : Int) (a : List UInt8) (w : World) (h : ReaderAt B b s err w) (hBw : B ≤ w.heap.size) (hb : b < B) (ha : a.length ≤ 1000000) :
    Calls Tryd.prog 48 #[.pointer (some ⟨b, 0, none⟩), .string (stx a)] w fun e w' => e = .returned (.tuple #[entA (rdB s err a).ent, .int .i64 (rdB s err a).fail]) ∧ ReaderAt B b (rdB s err a).rest (rdB s err a).err w' ∧ Near B b w w' := by
  have b0 : Below w.heap.size w (w.alloc (.cells #[.string ⟨#[]⟩, .string ⟨#[]⟩, .bool false] 36)) := (Below.refl _ _).alloc (Nat.le_refl _) _
  have hx4 : (w.alloc (.cells #[.string ⟨#[]⟩, .string ⟨#[]⟩, .bool false] 36)).heap[w.heap.size]? = some (.cells #[.string ⟨#[]⟩, .string ⟨#[]⟩, .bool false] 36) := heap_alloc_new w _
  have hne4 : w.heap.size ≠ b := by omega
  have k0 : ReaderAt B b s err (w.alloc (.cells #[.string ⟨#[]⟩, .string ⟨#[]⟩, .bool false] 36)) := ⟨h.1, (b0.block b (heap_lt h.2)).trans h.2⟩
  have N0 : Near B b w (w.alloc (.cells #[.string ⟨#[]⟩, .string ⟨#[]⟩, .bool false] 36)) := b0.near hBw
  have hB0 := Nat.le_trans hBw b0.size
  have HNU := Lib.hid (RNumber_all B b s err _ k0)
  have HTX := Lib.hid (fun w h hb => RText_any B b (numS s err) (numE s err) w h hb)
  have HFL := Lib.hid (fun w h => RFlag_any B b (textR (numS s err) (numE s err)) (textE (numS s err) (numE s err)) w h)
  have hv0 := numV_nonneg s err
  have hv1 := numV_top s err
  have HTS := Lib.hid (textV_size (numS s err) (numE s err))
  obtain ⟨RD, hRD⟩ : ∃ RD, rdB s err a = RD := ⟨_, rfl⟩
  have HRD := hRD
  unfold rdB at HRD
  simp only at HRD
  rw [hRD]
  clear hRD k0 h
  generalize numV s err = n at *
  generalize textV (numS s err) (numE s err) = t at *
  generalize textR (numS s err) (numE s err) = s2 at *
  generalize textE (numS s err) (numE s err) = e2 at *
  generalize numS s err = s1 at *
  generalize numE s err = e1 at *
  generalize flagV s2 e2 = g at *
  have HTV := Lib.hid (fun w h hb => RText_any B b (takeR s2 e2 1) (octE s2 e2 1) w h hb)
  have HVS := Lib.hid (textV_size (takeR s2 e2 1) (octE s2 e2 1))
  generalize textV (takeR s2 e2 1) (octE s2 e2 1) = v at *
  generalize textR (takeR s2 e2 1) (octE s2 e2 1) = s4 at *
  generalize textE (takeR s2 e2 1) (octE s2 e2 1) = e4 at *
  generalize takeR s2 e2 1 = s3 at *
  generalize octE s2 e2 1 = e3 at *
  have HR := Lib.hid HRD
  clear HRD
  go_enter Tryd.func48, Tryd.ntmps48
  go_wp2_with fail
  generalize (w.alloc (.cells #[.string ⟨#[]⟩, .string ⟨#[]⟩, .bool false] 36)) = W at *
  refine HNU.out.mono ?_
  rintro e w1 ⟨rfl, k1, n1⟩
  have hx1 := near_cells n1 hx4 ent_ne_u8 hne4
  have N1 := N0.trans n1
  have hB1 := Nat.le_trans hB0 n1.size
  have H1 := Lib.hid (HTX.out w1 k1 hB1)
  clear HNU HTX n1 k1 hx4 N0 b0 hB0
  go_wp2_with fail
  refine H1.out.mono ?_
  rintro e w2 ⟨rfl, k2, n2⟩
  have hx2 := near_cells n2 hx1 ent_ne_u8 hne4
  have N2 := N1.trans n2
  have hB2 := Nat.le_trans hB1 n2.size
  have H2 := Lib.hid (HFL.out w2 k2)
  clear H1 HFL n2 k2 hx1 N1 hB1
  go_wp2_with fail
  refine H2.out.mono ?_
  rintro e w3 ⟨rfl, k3, n3⟩
  have hx3 := near_cells n3 hx2 ent_ne_u8 hne4
  have N3 := N2.trans n3
  have hB3 := Nat.le_trans hB2 n3.size
  have bq : Below w3.heap.size w3 (w3.alloc (.cells #[.string ⟨#[]⟩, .string ⟨#[]⟩, .bool g] 36)) := (Below.refl _ _).alloc (Nat.le_refl _) _
  have hy : (w3.alloc (.cells #[.string ⟨#[]⟩, .string ⟨#[]⟩, .bool g] 36)).heap[w3.heap.size]? = some (.cells #[.string ⟨#[]⟩, .string ⟨#[]⟩, .bool g] 36) := heap_alloc_new w3 _
  have hney : w3.heap.size ≠ b := by omega
  have hnxy : w.heap.size ≠ w3.heap.size := Nat.ne_of_lt (heap_lt hx3)
  have hwy : w.heap.size ≤ w3.heap.size := Nat.le_of_lt (heap_lt hx3)
  have hx5 := (bq.block _ (heap_lt hx3)).trans hx3
  have k5 : ReaderAt B b s3 e3 (w3.alloc (.cells #[.string ⟨#[]⟩, .string ⟨#[]⟩, .bool g] 36)) := ⟨k3.1, (bq.block b (heap_lt k3.2)).trans k3.2⟩
  have N5 := N3.trans (bq.near hB3)
  have hB5 := Nat.le_trans hB3 bq.size
  have c2 := (Lib.cell_of_heap hy 2).trans (rfl : _ = some (Value.bool g))
  clear H2 n3 k3 hx2 hx3 N2 N3 hB2 hB3 bq
  obtain ⟨la, hla⟩ : ∃ la, a.length = la := ⟨_, rfl⟩
  have hsz : (stx a).size = la := by rw [stx_size, hla]
  rw [hla] at ha HR
  have hla1 : (la : Int) ≤ 1000000 := by omega
  cases g with
  | true =>
    simp only [if_true] at HR
    have HD := Lib.hid (RDone_any B b s3 e3 _ k5)
    clear HTV HVS
    go_wp2_with fail
    generalize (w3.alloc (.cells #[.string ⟨#[]⟩, .string ⟨#[]⟩, .bool true] 36)) = W3 at *
    clear c2
    refine HD.out.mono ?_
    rintro e w6 ⟨rfl, b6⟩
    have hx6 := (b6.block _ (heap_lt hx5)).trans hx5
    have hy6 := (b6.block _ (heap_lt hy)).trans hy
    have k6 : ReaderAt B b s3 e3 w6 := ⟨k5.1, (b6.block b (heap_lt k5.2)).trans k5.2⟩
    have N6 := N5.trans (b6.near hB5)
    have hB6 := Nat.le_trans hB5 b6.size
    clear HD b6 hx5 hy k5 N5 hB5
    by_cases hE : e3 = 0
    · subst hE
      have HR2 := Lib.hid (HR.out.symm.trans (if_neg (by simp)))
      clear HR
      by_cases hz : s3.size = 0
      · rw [if_neg (by simp [hz])]
        by_cases h1 : (la : Int) < n
        · have h1d : decide ((la : Int) < n) = true := decide_eq_true h1
          have HR3 := Lib.hid (HR2.out.trans (if_pos h1))
          clear HR2
          have a0 := (Lib.cell_of_heap hx6 0).trans (rfl : _ = some (Value.string ⟨#[]⟩))
          have a1 := (Lib.cell_of_heap hx6 1).trans (rfl : _ = some (Value.string ⟨#[]⟩))
          have a2 := (Lib.cell_of_heap hx6 2).trans (rfl : _ = some (Value.bool false))
          have f0 := Lib.frozen_of_heap hx6 0
          have f1 := Lib.frozen_of_heap hx6 1
          have f2 := Lib.frozen_of_heap hx6 2
          go_wp2_with fail
          refine row_ent_tmp rfl rfl rfl rfl (rowAt_of_heap (heap_put (heap_put (heap_put hx6 _) _) _)) rfl ⟨?_, ?_, near_put (near_put (near_put N6 (Nat.le_refl _) hBw _) (Nat.le_refl _) hBw _) (Nat.le_refl _) hBw _⟩
          · rw [HR3.out]; rfl
          · rw [HR3.out]; exact ((k6.put hne4 _).put hne4 _).put hne4 _
        · have h1d : decide ((la : Int) < n) = false := decide_eq_false h1
          have HR3 := Lib.hid (HR2.out.trans (if_neg h1))
          obtain ⟨m, rfl⟩ : ∃ m : Nat, n = m := ⟨n.toNat, by omega⟩
          have hml : m ≤ la := by omega
          have hml' : (m : Int) ≤ la := by omega
          rw [Int.toNat_natCast] at HR3
          have HEX : Hid ((stx a).extract 0 m ++ t = stx (a.take m ++ t.data.toList)) := Lib.hid (by
            rw [show t = stx t.data.toList from rfl, show (stx a).extract 0 m = stx (a.take m) from by
              apply ByteArray.ext
              rw [ByteArray.data_extract]
              apply Array.toList_inj.1
              simp [List.extract_eq_take_drop]]
            exact stx_append _ _)
          have hts : (t.size : Int) ≤ 65536 := by have := HTS.out; omega
          have hes : (((stx a).extract 0 m).size : Int) ≤ 1000000 := by
            rw [ByteArray.size_extract]
            omega
          have hkl : (a.take m ++ t.data.toList).length ≤ 1100000 := by
            rw [List.length_append, List.length_take]
            have : t.data.toList.length = t.size := rfl
            have := HTS.out
            omega
          have HCM := Lib.hid (fun w => kcommon_any2 a (a.take m ++ t.data.toList) w (by rw [hla]; omega) (by omega))
          have hcl := (commonB_le a (a.take m ++ t.data.toList)).1
          obtain ⟨K, hK⟩ : ∃ K, a.take m ++ t.data.toList = K := ⟨_, rfl⟩
          rw [hK] at HR3 HEX HCM hcl
          obtain ⟨C, hC⟩ : ∃ C, commonB a K = C := ⟨_, rfl⟩
          rw [hC] at HR3 HCM hcl
          have hC1 : (C : Int) ≤ 1000000 := by omega
          have hy7 := heap_put (j := 0) hy6 (.string (stx K))
          have hx7 : (w6.setCell ⟨w3.heap.size, 0, none⟩ (.string (stx K))).heap[w.heap.size]? = _ := (Below.heap_setCell _ _ _ _ hnxy).trans hx6
          have k7 := k6.put (p := ⟨w3.heap.size, 0, none⟩) hney (.string (stx K))
          have N7 := near_put N6 (p := ⟨w3.heap.size, 0, none⟩) hwy hBw (.string (stx K))
          have hB7 : B ≤ (w6.setCell ⟨w3.heap.size, 0, none⟩ (.string (stx K))).heap.size := by simpa [World.setCell] using hB6
          have d0 := (Lib.cell_of_heap hy7 0).trans (rfl : _ = some (Value.string (stx K)))
          have y0 := (Lib.cell_of_heap hy6 0).trans (rfl : _ = some (Value.string ⟨#[]⟩))
          have g0 := Lib.frozen_of_heap hy6 0
          have hca := HEX.out
          clear h1 h1d HR2 hkl hK hC HEX hx6 hy6 k6 N6 hB6 hcl hv1 hv0
          go_wp2_with fail
          generalize w6.setCell ⟨w3.heap.size, 0, none⟩ (.string (stx K)) = W7 at *
          clear y0 g0
          refine (HCM.out _).mono ?_
          rintro e w8 ⟨rfl, b8⟩
          have hx8 := (b8.block _ (heap_lt hx7)).trans hx7
          have hy8 := (b8.block _ (heap_lt hy7)).trans hy7
          have k8 : ReaderAt B b s3 0 w8 := ⟨k7.1, (b8.block b (heap_lt k7.2)).trans k7.2⟩
          have N8 := N7.trans (b8.near hB7)
          clear HCM b8 hx7 hy7 k7 N7 hB7 d0
          by_cases h2 : (m : Int) < C
          · have h2d : decide (m < C) = true := decide_eq_true (by omega)
            have HR3 := Lib.hid (HR3.out.trans (if_pos h2))
            have a0 := (Lib.cell_of_heap hx8 0).trans (rfl : _ = some (Value.string ⟨#[]⟩))
            have a1 := (Lib.cell_of_heap hx8 1).trans (rfl : _ = some (Value.string ⟨#[]⟩))
            have a2 := (Lib.cell_of_heap hx8 2).trans (rfl : _ = some (Value.bool false))
            have f0 := Lib.frozen_of_heap hx8 0
            have f1 := Lib.frozen_of_heap hx8 1
            have f2 := Lib.frozen_of_heap hx8 2
            go_wp2_with fail
            refine row_ent_tmp rfl rfl rfl rfl (rowAt_of_heap (heap_put (heap_put (heap_put hx8 _) _) _)) rfl ⟨?_, ?_, near_put (near_put (near_put N8 (Nat.le_refl _) hBw _) (Nat.le_refl _) hBw _) (Nat.le_refl _) hBw _⟩
            · rw [HR3.out]; rfl
            · rw [HR3.out]; exact ((k8.put hne4 _).put hne4 _).put hne4 _
          · have h2d : decide (m < C) = false := decide_eq_false (by omega)
            have HR3 := Lib.hid (HR3.out.trans (if_neg h2))
            have a0 := (Lib.cell_of_heap hx8 0).trans (rfl : _ = some (Value.string ⟨#[]⟩))
            have a1 := (Lib.cell_of_heap hx8 1).trans (rfl : _ = some (Value.string ⟨#[]⟩))
            have a2 := (Lib.cell_of_heap hx8 2).trans (rfl : _ = some (Value.bool false))
            have f0 := Lib.frozen_of_heap hx8 0
            have f1 := Lib.frozen_of_heap hx8 1
            have f2 := Lib.frozen_of_heap hx8 2
            have d0 := (Lib.cell_of_heap hy8 0).trans (rfl : _ = some (Value.string (stx K)))
            have d1 := (Lib.cell_of_heap hy8 1).trans (rfl : _ = some (Value.string ⟨#[]⟩))
            have d2 := (Lib.cell_of_heap hy8 2).trans (rfl : _ = some (Value.bool true))
            go_wp2_with fail
            refine row_ent_tmp rfl rfl rfl rfl (rowAt_of_heap (heap_put (heap_put (heap_put hx8 _) _) _)) rfl ⟨?_, ?_, near_put (near_put (near_put N8 (Nat.le_refl _) hBw _) (Nat.le_refl _) hBw _) (Nat.le_refl _) hBw _⟩
            · rw [HR3.out]; rfl
            · rw [HR3.out]; exact ((k8.put hne4 _).put hne4 _).put hne4 _
      · rw [if_pos ⟨rfl, hz⟩]
        by_cases h1 : (la : Int) < n
        · have h1d : decide ((la : Int) < n) = true := decide_eq_true h1
          have HR3 := Lib.hid (HR2.out.trans (if_pos h1))
          clear HR2
          have a0 := (Lib.cell_of_heap hx6 0).trans (rfl : _ = some (Value.string ⟨#[]⟩))
          have a1 := (Lib.cell_of_heap hx6 1).trans (rfl : _ = some (Value.string ⟨#[]⟩))
          have a2 := (Lib.cell_of_heap hx6 2).trans (rfl : _ = some (Value.bool false))
          have f0 := Lib.frozen_of_heap hx6 0
          have f1 := Lib.frozen_of_heap hx6 1
          have f2 := Lib.frozen_of_heap hx6 2
          go_wp2_with fail
          refine row_ent_tmp rfl rfl rfl rfl (rowAt_of_heap (heap_put (heap_put (heap_put hx6 _) _) _)) rfl ⟨?_, ?_, near_put (near_put (near_put N6 (Nat.le_refl _) hBw _) (Nat.le_refl _) hBw _) (Nat.le_refl _) hBw _⟩
          · rw [HR3.out]; rfl
          · rw [HR3.out]; exact ((k6.put hne4 _).put hne4 _).put hne4 _
        · have h1d : decide ((la : Int) < n) = false := decide_eq_false h1
          have HR3 := Lib.hid (HR2.out.trans (if_neg h1))
          obtain ⟨m, rfl⟩ : ∃ m : Nat, n = m := ⟨n.toNat, by omega⟩
          have hml : m ≤ la := by omega
          have hml' : (m : Int) ≤ la := by omega
          rw [Int.toNat_natCast] at HR3
          have HEX : Hid ((stx a).extract 0 m ++ t = stx (a.take m ++ t.data.toList)) := Lib.hid (by
            rw [show t = stx t.data.toList from rfl, show (stx a).extract 0 m = stx (a.take m) from by
              apply ByteArray.ext
              rw [ByteArray.data_extract]
              apply Array.toList_inj.1
              simp [List.extract_eq_take_drop]]
            exact stx_append _ _)
          have hts : (t.size : Int) ≤ 65536 := by have := HTS.out; omega
          have hes : (((stx a).extract 0 m).size : Int) ≤ 1000000 := by
            rw [ByteArray.size_extract]
            omega
          have hkl : (a.take m ++ t.data.toList).length ≤ 1100000 := by
            rw [List.length_append, List.length_take]
            have : t.data.toList.length = t.size := rfl
            have := HTS.out
            omega
          have HCM := Lib.hid (fun w => kcommon_any2 a (a.take m ++ t.data.toList) w (by rw [hla]; omega) (by omega))
          have hcl := (commonB_le a (a.take m ++ t.data.toList)).1
          obtain ⟨K, hK⟩ : ∃ K, a.take m ++ t.data.toList = K := ⟨_, rfl⟩
          rw [hK] at HR3 HEX HCM hcl
          obtain ⟨C, hC⟩ : ∃ C, commonB a K = C := ⟨_, rfl⟩
          rw [hC] at HR3 HCM hcl
          have hC1 : (C : Int) ≤ 1000000 := by omega
          have hy7 := heap_put (j := 0) hy6 (.string (stx K))
          have hx7 : (w6.setCell ⟨w3.heap.size, 0, none⟩ (.string (stx K))).heap[w.heap.size]? = _ := (Below.heap_setCell _ _ _ _ hnxy).trans hx6
          have k7 := k6.put (p := ⟨w3.heap.size, 0, none⟩) hney (.string (stx K))
          have N7 := near_put N6 (p := ⟨w3.heap.size, 0, none⟩) hwy hBw (.string (stx K))
          have hB7 : B ≤ (w6.setCell ⟨w3.heap.size, 0, none⟩ (.string (stx K))).heap.size := by simpa [World.setCell] using hB6
          have d0 := (Lib.cell_of_heap hy7 0).trans (rfl : _ = some (Value.string (stx K)))
          have y0 := (Lib.cell_of_heap hy6 0).trans (rfl : _ = some (Value.string ⟨#[]⟩))
          have g0 := Lib.frozen_of_heap hy6 0
          have hca := HEX.out
          clear h1 h1d HR2 hkl hK hC HEX hx6 hy6 k6 N6 hB6 hcl hv1 hv0
          go_wp2_with fail
          generalize w6.setCell ⟨w3.heap.size, 0, none⟩ (.string (stx K)) = W7 at *
          clear y0 g0
          refine (HCM.out _).mono ?_
          rintro e w8 ⟨rfl, b8⟩
          have hx8 := (b8.block _ (heap_lt hx7)).trans hx7
          have hy8 := (b8.block _ (heap_lt hy7)).trans hy7
          have k8 : ReaderAt B b s3 0 w8 := ⟨k7.1, (b8.block b (heap_lt k7.2)).trans k7.2⟩
          have N8 := N7.trans (b8.near hB7)
          clear HCM b8 hx7 hy7 k7 N7 hB7 d0
          by_cases h2 : (m : Int) < C
          · have h2d : decide (m < C) = true := decide_eq_true (by omega)
            have HR3 := Lib.hid (HR3.out.trans (if_pos h2))
            have a0 := (Lib.cell_of_heap hx8 0).trans (rfl : _ = some (Value.string ⟨#[]⟩))
            have a1 := (Lib.cell_of_heap hx8 1).trans (rfl : _ = some (Value.string ⟨#[]⟩))
            have a2 := (Lib.cell_of_heap hx8 2).trans (rfl : _ = some (Value.bool false))
            have f0 := Lib.frozen_of_heap hx8 0
            have f1 := Lib.frozen_of_heap hx8 1
            have f2 := Lib.frozen_of_heap hx8 2
            go_wp2_with fail
            refine row_ent_tmp rfl rfl rfl rfl (rowAt_of_heap (heap_put (heap_put (heap_put hx8 _) _) _)) rfl ⟨?_, ?_, near_put (near_put (near_put N8 (Nat.le_refl _) hBw _) (Nat.le_refl _) hBw _) (Nat.le_refl _) hBw _⟩
            · rw [HR3.out]; rfl
            · rw [HR3.out]; exact ((k8.put hne4 _).put hne4 _).put hne4 _
          · have h2d : decide (m < C) = false := decide_eq_false (by omega)
            have HR3 := Lib.hid (HR3.out.trans (if_neg h2))
            have a0 := (Lib.cell_of_heap hx8 0).trans (rfl : _ = some (Value.string ⟨#[]⟩))
            have a1 := (Lib.cell_of_heap hx8 1).trans (rfl : _ = some (Value.string ⟨#[]⟩))
            have a2 := (Lib.cell_of_heap hx8 2).trans (rfl : _ = some (Value.bool false))
            have f0 := Lib.frozen_of_heap hx8 0
            have f1 := Lib.frozen_of_heap hx8 1
            have f2 := Lib.frozen_of_heap hx8 2
            have d0 := (Lib.cell_of_heap hy8 0).trans (rfl : _ = some (Value.string (stx K)))
            have d1 := (Lib.cell_of_heap hy8 1).trans (rfl : _ = some (Value.string ⟨#[]⟩))
            have d2 := (Lib.cell_of_heap hy8 2).trans (rfl : _ = some (Value.bool true))
            go_wp2_with fail
            refine row_ent_tmp rfl rfl rfl rfl (rowAt_of_heap (heap_put (heap_put (heap_put hx8 _) _) _)) rfl ⟨?_, ?_, near_put (near_put (near_put N8 (Nat.le_refl _) hBw _) (Nat.le_refl _) hBw _) (Nat.le_refl _) hBw _⟩
            · rw [HR3.out]; rfl
            · rw [HR3.out]; exact ((k8.put hne4 _).put hne4 _).put hne4 _
    · rw [if_neg (fun q => hE q.1)]
      by_cases hE3 : e3 = 3
      · subst hE3
        have HR2 := Lib.hid (HR.out.symm.trans (if_neg (by simp)))
        clear HR
        by_cases h1 : (la : Int) < n
        · have h1d : decide ((la : Int) < n) = true := decide_eq_true h1
          have HR3 := Lib.hid (HR2.out.trans (if_pos h1))
          clear HR2
          have a0 := (Lib.cell_of_heap hx6 0).trans (rfl : _ = some (Value.string ⟨#[]⟩))
          have a1 := (Lib.cell_of_heap hx6 1).trans (rfl : _ = some (Value.string ⟨#[]⟩))
          have a2 := (Lib.cell_of_heap hx6 2).trans (rfl : _ = some (Value.bool false))
          have f0 := Lib.frozen_of_heap hx6 0
          have f1 := Lib.frozen_of_heap hx6 1
          have f2 := Lib.frozen_of_heap hx6 2
          go_wp2_with fail
          refine row_ent_tmp rfl rfl rfl rfl (rowAt_of_heap (heap_put (heap_put (heap_put hx6 _) _) _)) rfl ⟨?_, ?_, near_put (near_put (near_put N6 (Nat.le_refl _) hBw _) (Nat.le_refl _) hBw _) (Nat.le_refl _) hBw _⟩
          · rw [HR3.out]; rfl
          · rw [HR3.out]; exact ((k6.put hne4 _).put hne4 _).put hne4 _
        · have h1d : decide ((la : Int) < n) = false := decide_eq_false h1
          have HR3 := Lib.hid (HR2.out.trans (if_neg h1))
          obtain ⟨m, rfl⟩ : ∃ m : Nat, n = m := ⟨n.toNat, by omega⟩
          have hml : m ≤ la := by omega
          have hml' : (m : Int) ≤ la := by omega
          rw [Int.toNat_natCast] at HR3
          have HEX : Hid ((stx a).extract 0 m ++ t = stx (a.take m ++ t.data.toList)) := Lib.hid (by
            rw [show t = stx t.data.toList from rfl, show (stx a).extract 0 m = stx (a.take m) from by
              apply ByteArray.ext
              rw [ByteArray.data_extract]
              apply Array.toList_inj.1
              simp [List.extract_eq_take_drop]]
            exact stx_append _ _)
          have hts : (t.size : Int) ≤ 65536 := by have := HTS.out; omega
          have hes : (((stx a).extract 0 m).size : Int) ≤ 1000000 := by
            rw [ByteArray.size_extract]
            omega
          have hkl : (a.take m ++ t.data.toList).length ≤ 1100000 := by
            rw [List.length_append, List.length_take]
            have : t.data.toList.length = t.size := rfl
            have := HTS.out
            omega
          have HCM := Lib.hid (fun w => kcommon_any2 a (a.take m ++ t.data.toList) w (by rw [hla]; omega) (by omega))
          have hcl := (commonB_le a (a.take m ++ t.data.toList)).1
          obtain ⟨K, hK⟩ : ∃ K, a.take m ++ t.data.toList = K := ⟨_, rfl⟩
          rw [hK] at HR3 HEX HCM hcl
          obtain ⟨C, hC⟩ : ∃ C, commonB a K = C := ⟨_, rfl⟩
          rw [hC] at HR3 HCM hcl
          have hC1 : (C : Int) ≤ 1000000 := by omega
          have hy7 := heap_put (j := 0) hy6 (.string (stx K))
          have hx7 : (w6.setCell ⟨w3.heap.size, 0, none⟩ (.string (stx K))).heap[w.heap.size]? = _ := (Below.heap_setCell _ _ _ _ hnxy).trans hx6
          have k7 := k6.put (p := ⟨w3.heap.size, 0, none⟩) hney (.string (stx K))
          have N7 := near_put N6 (p := ⟨w3.heap.size, 0, none⟩) hwy hBw (.string (stx K))
          have hB7 : B ≤ (w6.setCell ⟨w3.heap.size, 0, none⟩ (.string (stx K))).heap.size := by simpa [World.setCell] using hB6
          have d0 := (Lib.cell_of_heap hy7 0).trans (rfl : _ = some (Value.string (stx K)))
          have y0 := (Lib.cell_of_heap hy6 0).trans (rfl : _ = some (Value.string ⟨#[]⟩))
          have g0 := Lib.frozen_of_heap hy6 0
          have hca := HEX.out
          clear h1 h1d HR2 hkl hK hC HEX hx6 hy6 k6 N6 hB6 hcl hv1 hv0
          go_wp2_with fail
          generalize w6.setCell ⟨w3.heap.size, 0, none⟩ (.string (stx K)) = W7 at *
          clear y0 g0
          refine (HCM.out _).mono ?_
          rintro e w8 ⟨rfl, b8⟩
          have hx8 := (b8.block _ (heap_lt hx7)).trans hx7
          have hy8 := (b8.block _ (heap_lt hy7)).trans hy7
          have k8 : ReaderAt B b s3 3 w8 := ⟨k7.1, (b8.block b (heap_lt k7.2)).trans k7.2⟩
          have N8 := N7.trans (b8.near hB7)
          clear HCM b8 hx7 hy7 k7 N7 hB7 d0
          by_cases h2 : (m : Int) < C
          · have h2d : decide (m < C) = true := decide_eq_true (by omega)
            have HR3 := Lib.hid (HR3.out.trans (if_pos h2))
            have a0 := (Lib.cell_of_heap hx8 0).trans (rfl : _ = some (Value.string ⟨#[]⟩))
            have a1 := (Lib.cell_of_heap hx8 1).trans (rfl : _ = some (Value.string ⟨#[]⟩))
            have a2 := (Lib.cell_of_heap hx8 2).trans (rfl : _ = some (Value.bool false))
            have f0 := Lib.frozen_of_heap hx8 0
            have f1 := Lib.frozen_of_heap hx8 1
            have f2 := Lib.frozen_of_heap hx8 2
            go_wp2_with fail
            refine row_ent_tmp rfl rfl rfl rfl (rowAt_of_heap (heap_put (heap_put (heap_put hx8 _) _) _)) rfl ⟨?_, ?_, near_put (near_put (near_put N8 (Nat.le_refl _) hBw _) (Nat.le_refl _) hBw _) (Nat.le_refl _) hBw _⟩
            · rw [HR3.out]; rfl
            · rw [HR3.out]; exact ((k8.put hne4 _).put hne4 _).put hne4 _
          · have h2d : decide (m < C) = false := decide_eq_false (by omega)
            have HR3 := Lib.hid (HR3.out.trans (if_neg h2))
            have a0 := (Lib.cell_of_heap hx8 0).trans (rfl : _ = some (Value.string ⟨#[]⟩))
            have a1 := (Lib.cell_of_heap hx8 1).trans (rfl : _ = some (Value.string ⟨#[]⟩))
            have a2 := (Lib.cell_of_heap hx8 2).trans (rfl : _ = some (Value.bool false))
            have f0 := Lib.frozen_of_heap hx8 0
            have f1 := Lib.frozen_of_heap hx8 1
            have f2 := Lib.frozen_of_heap hx8 2
            have d0 := (Lib.cell_of_heap hy8 0).trans (rfl : _ = some (Value.string (stx K)))
            have d1 := (Lib.cell_of_heap hy8 1).trans (rfl : _ = some (Value.string ⟨#[]⟩))
            have d2 := (Lib.cell_of_heap hy8 2).trans (rfl : _ = some (Value.bool true))
            go_wp2_with fail
            refine row_ent_tmp rfl rfl rfl rfl (rowAt_of_heap (heap_put (heap_put (heap_put hx8 _) _) _)) rfl ⟨?_, ?_, near_put (near_put (near_put N8 (Nat.le_refl _) hBw _) (Nat.le_refl _) hBw _) (Nat.le_refl _) hBw _⟩
            · rw [HR3.out]; rfl
            · rw [HR3.out]; exact ((k8.put hne4 _).put hne4 _).put hne4 _
      · have HR3 := Lib.hid (HR.out.symm.trans (if_pos ⟨hE, hE3⟩))
        have p1 : (e3 != 0) = true := by rw [bne_iff_ne]; exact hE
        have p2 : (e3 != 3) = true := by rw [bne_iff_ne]; exact hE3
        clear HR
        have a0 := (Lib.cell_of_heap hx6 0).trans (rfl : _ = some (Value.string ⟨#[]⟩))
        have a1 := (Lib.cell_of_heap hx6 1).trans (rfl : _ = some (Value.string ⟨#[]⟩))
        have a2 := (Lib.cell_of_heap hx6 2).trans (rfl : _ = some (Value.bool false))
        have f0 := Lib.frozen_of_heap hx6 0
        have f1 := Lib.frozen_of_heap hx6 1
        have f2 := Lib.frozen_of_heap hx6 2
        go_wp2_with fail
        refine row_ent_tmp rfl rfl rfl rfl (rowAt_of_heap (heap_put (heap_put (heap_put hx6 _) _) _)) rfl ⟨?_, ?_, near_put (near_put (near_put N6 (Nat.le_refl _) hBw _) (Nat.le_refl _) hBw _) (Nat.le_refl _) hBw _⟩
        · rw [HR3.out]; rfl
        · rw [HR3.out]; exact ((k6.put hne4 _).put hne4 _).put hne4 _
  | false =>
    simp only [Bool.false_eq_true, if_false] at HR
    have H3 := Lib.hid (HTV.out _ k5 hB5)
    clear HTV k5
    go_wp2_with fail
    generalize (w3.alloc (.cells #[.string ⟨#[]⟩, .string ⟨#[]⟩, .bool false] 36)) = W3 at *
    refine H3.out.mono ?_
    rintro e w5 ⟨rfl, k4, n4⟩
    have hx4 := near_cells n4 hx5 ent_ne_u8 hne4
    have hy4 := near_cells n4 hy ent_ne_u8 hney
    have N4 := N5.trans n4
    have hB4 := Nat.le_trans hB5 n4.size
    have y1 := (Lib.cell_of_heap hy4 1).trans (rfl : _ = some (Value.string ⟨#[]⟩))
    have g1 := Lib.frozen_of_heap hy4 1
    clear H3 c2 hx5 hy N5 hB5 n4
    have hy : (w5.setCell ⟨w3.heap.size, 1, none⟩ (.string v)).heap[w3.heap.size]? = some (.cells #[.string ⟨#[]⟩, .string v, .bool false] 36 (0, 0)) := heap_put (j := 1) hy4 (.string v)
    have hx5 := (Below.heap_setCell w5 ⟨w3.heap.size, 1, none⟩ (.string v) _ hnxy).trans hx4
    have k5 := k4.put (p := ⟨w3.heap.size, 1, none⟩) hney (.string v)
    have N5 := near_put N4 (p := ⟨w3.heap.size, 1, none⟩) hwy hBw (.string v)
    have hB5 : B ≤ (w5.setCell ⟨w3.heap.size, 1, none⟩ (.string v)).heap.size := by simpa [World.setCell] using hB4
    have HD := Lib.hid (RDone_any B b s4 e4 _ k5)
    clear hx4 hy4 k4 N4 hB4
    go_wp2_with fail
    generalize w5.setCell ⟨w3.heap.size, 1, none⟩ (.string v) = W4 at *
    clear y1 g1
    refine HD.out.mono ?_
    rintro e w6 ⟨rfl, b6⟩
    have hx6 := (b6.block _ (heap_lt hx5)).trans hx5
    have hy6 := (b6.block _ (heap_lt hy)).trans hy
    have k6 : ReaderAt B b s4 e4 w6 := ⟨k5.1, (b6.block b (heap_lt k5.2)).trans k5.2⟩
    have N6 := N5.trans (b6.near hB5)
    have hB6 := Nat.le_trans hB5 b6.size
    clear HD b6 hx5 hy k5 N5 hB5
    by_cases hE : e4 = 0
    · subst hE
      have HR2 := Lib.hid (HR.out.symm.trans (if_neg (by simp)))
      clear HR
      by_cases hz : s4.size = 0
      · rw [if_neg (by simp [hz])]
        by_cases h1 : (la : Int) < n
        · have h1d : decide ((la : Int) < n) = true := decide_eq_true h1
          have HR3 := Lib.hid (HR2.out.trans (if_pos h1))
          clear HR2
          have a0 := (Lib.cell_of_heap hx6 0).trans (rfl : _ = some (Value.string ⟨#[]⟩))
          have a1 := (Lib.cell_of_heap hx6 1).trans (rfl : _ = some (Value.string ⟨#[]⟩))
          have a2 := (Lib.cell_of_heap hx6 2).trans (rfl : _ = some (Value.bool false))
          have f0 := Lib.frozen_of_heap hx6 0
          have f1 := Lib.frozen_of_heap hx6 1
          have f2 := Lib.frozen_of_heap hx6 2
          go_wp2_with fail
          refine row_ent_tmp rfl rfl rfl rfl (rowAt_of_heap (heap_put (heap_put (heap_put hx6 _) _) _)) rfl ⟨?_, ?_, near_put (near_put (near_put N6 (Nat.le_refl _) hBw _) (Nat.le_refl _) hBw _) (Nat.le_refl _) hBw _⟩
          · rw [HR3.out]; rfl
          · rw [HR3.out]; exact ((k6.put hne4 _).put hne4 _).put hne4 _
        · have h1d : decide ((la : Int) < n) = false := decide_eq_false h1
          have HR3 := Lib.hid (HR2.out.trans (if_neg h1))
          obtain ⟨m, rfl⟩ : ∃ m : Nat, n = m := ⟨n.toNat, by omega⟩
          have hml : m ≤ la := by omega
          have hml' : (m : Int) ≤ la := by omega
          rw [Int.toNat_natCast] at HR3
          have HEX : Hid ((stx a).extract 0 m ++ t = stx (a.take m ++ t.data.toList)) := Lib.hid (by
            rw [show t = stx t.data.toList from rfl, show (stx a).extract 0 m = stx (a.take m) from by
              apply ByteArray.ext
              rw [ByteArray.data_extract]
              apply Array.toList_inj.1
              simp [List.extract_eq_take_drop]]
            exact stx_append _ _)
          have hts : (t.size : Int) ≤ 65536 := by have := HTS.out; omega
          have hes : (((stx a).extract 0 m).size : Int) ≤ 1000000 := by
            rw [ByteArray.size_extract]
            omega
          have hkl : (a.take m ++ t.data.toList).length ≤ 1100000 := by
            rw [List.length_append, List.length_take]
            have : t.data.toList.length = t.size := rfl
            have := HTS.out
            omega
          have HCM := Lib.hid (fun w => kcommon_any2 a (a.take m ++ t.data.toList) w (by rw [hla]; omega) (by omega))
          have hcl := (commonB_le a (a.take m ++ t.data.toList)).1
          obtain ⟨K, hK⟩ : ∃ K, a.take m ++ t.data.toList = K := ⟨_, rfl⟩
          rw [hK] at HR3 HEX HCM hcl
          obtain ⟨C, hC⟩ : ∃ C, commonB a K = C := ⟨_, rfl⟩
          rw [hC] at HR3 HCM hcl
          have hC1 : (C : Int) ≤ 1000000 := by omega
          have hy7 := heap_put (j := 0) hy6 (.string (stx K))
          have hx7 : (w6.setCell ⟨w3.heap.size, 0, none⟩ (.string (stx K))).heap[w.heap.size]? = _ := (Below.heap_setCell _ _ _ _ hnxy).trans hx6
          have k7 := k6.put (p := ⟨w3.heap.size, 0, none⟩) hney (.string (stx K))
          have N7 := near_put N6 (p := ⟨w3.heap.size, 0, none⟩) hwy hBw (.string (stx K))
          have hB7 : B ≤ (w6.setCell ⟨w3.heap.size, 0, none⟩ (.string (stx K))).heap.size := by simpa [World.setCell] using hB6
          have d0 := (Lib.cell_of_heap hy7 0).trans (rfl : _ = some (Value.string (stx K)))
          have y0 := (Lib.cell_of_heap hy6 0).trans (rfl : _ = some (Value.string ⟨#[]⟩))
          have g0 := Lib.frozen_of_heap hy6 0
          have hca := HEX.out
          clear h1 h1d HR2 hkl hK hC HEX hx6 hy6 k6 N6 hB6 hcl hv1 hv0
          go_wp2_with fail
          generalize w6.setCell ⟨w3.heap.size, 0, none⟩ (.string (stx K)) = W7 at *
          clear y0 g0
          refine (HCM.out _).mono ?_
          rintro e w8 ⟨rfl, b8⟩
          have hx8 := (b8.block _ (heap_lt hx7)).trans hx7
          have hy8 := (b8.block _ (heap_lt hy7)).trans hy7
          have k8 : ReaderAt B b s4 0 w8 := ⟨k7.1, (b8.block b (heap_lt k7.2)).trans k7.2⟩
          have N8 := N7.trans (b8.near hB7)
          clear HCM b8 hx7 hy7 k7 N7 hB7 d0
          by_cases h2 : (m : Int) < C
          · have h2d : decide (m < C) = true := decide_eq_true (by omega)
            have HR3 := Lib.hid (HR3.out.trans (if_pos h2))
            have a0 := (Lib.cell_of_heap hx8 0).trans (rfl : _ = some (Value.string ⟨#[]⟩))
            have a1 := (Lib.cell_of_heap hx8 1).trans (rfl : _ = some (Value.string ⟨#[]⟩))
            have a2 := (Lib.cell_of_heap hx8 2).trans (rfl : _ = some (Value.bool false))
            have f0 := Lib.frozen_of_heap hx8 0
            have f1 := Lib.frozen_of_heap hx8 1
            have f2 := Lib.frozen_of_heap hx8 2
            go_wp2_with fail
            refine row_ent_tmp rfl rfl rfl rfl (rowAt_of_heap (heap_put (heap_put (heap_put hx8 _) _) _)) rfl ⟨?_, ?_, near_put (near_put (near_put N8 (Nat.le_refl _) hBw _) (Nat.le_refl _) hBw _) (Nat.le_refl _) hBw _⟩
            · rw [HR3.out]; rfl
            · rw [HR3.out]; exact ((k8.put hne4 _).put hne4 _).put hne4 _
          · have h2d : decide (m < C) = false := decide_eq_false (by omega)
            have HR3 := Lib.hid (HR3.out.trans (if_neg h2))
            have a0 := (Lib.cell_of_heap hx8 0).trans (rfl : _ = some (Value.string ⟨#[]⟩))
            have a1 := (Lib.cell_of_heap hx8 1).trans (rfl : _ = some (Value.string ⟨#[]⟩))
            have a2 := (Lib.cell_of_heap hx8 2).trans (rfl : _ = some (Value.bool false))
            have f0 := Lib.frozen_of_heap hx8 0
            have f1 := Lib.frozen_of_heap hx8 1
            have f2 := Lib.frozen_of_heap hx8 2
            have d0 := (Lib.cell_of_heap hy8 0).trans (rfl : _ = some (Value.string (stx K)))
            have d1 := (Lib.cell_of_heap hy8 1).trans (rfl : _ = some (Value.string v))
            have d2 := (Lib.cell_of_heap hy8 2).trans (rfl : _ = some (Value.bool false))
            go_wp2_with fail
            refine row_ent_tmp rfl rfl rfl rfl (rowAt_of_heap (heap_put (heap_put (heap_put hx8 _) _) _)) rfl ⟨?_, ?_, near_put (near_put (near_put N8 (Nat.le_refl _) hBw _) (Nat.le_refl _) hBw _) (Nat.le_refl _) hBw _⟩
            · rw [HR3.out]; rfl
            · rw [HR3.out]; exact ((k8.put hne4 _).put hne4 _).put hne4 _
      · rw [if_pos ⟨rfl, hz⟩]
        by_cases h1 : (la : Int) < n
        · have h1d : decide ((la : Int) < n) = true := decide_eq_true h1
          have HR3 := Lib.hid (HR2.out.trans (if_pos h1))
          clear HR2
          have a0 := (Lib.cell_of_heap hx6 0).trans (rfl : _ = some (Value.string ⟨#[]⟩))
          have a1 := (Lib.cell_of_heap hx6 1).trans (rfl : _ = some (Value.string ⟨#[]⟩))
          have a2 := (Lib.cell_of_heap hx6 2).trans (rfl : _ = some (Value.bool false))
          have f0 := Lib.frozen_of_heap hx6 0
          have f1 := Lib.frozen_of_heap hx6 1
          have f2 := Lib.frozen_of_heap hx6 2
          go_wp2_with fail
          refine row_ent_tmp rfl rfl rfl rfl (rowAt_of_heap (heap_put (heap_put (heap_put hx6 _) _) _)) rfl ⟨?_, ?_, near_put (near_put (near_put N6 (Nat.le_refl _) hBw _) (Nat.le_refl _) hBw _) (Nat.le_refl _) hBw _⟩
          · rw [HR3.out]; rfl
          · rw [HR3.out]; exact ((k6.put hne4 _).put hne4 _).put hne4 _
        · have h1d : decide ((la : Int) < n) = false := decide_eq_false h1
          have HR3 := Lib.hid (HR2.out.trans (if_neg h1))
          obtain ⟨m, rfl⟩ : ∃ m : Nat, n = m := ⟨n.toNat, by omega⟩
          have hml : m ≤ la := by omega
          have hml' : (m : Int) ≤ la := by omega
          rw [Int.toNat_natCast] at HR3
          have HEX : Hid ((stx a).extract 0 m ++ t = stx (a.take m ++ t.data.toList)) := Lib.hid (by
            rw [show t = stx t.data.toList from rfl, show (stx a).extract 0 m = stx (a.take m) from by
              apply ByteArray.ext
              rw [ByteArray.data_extract]
              apply Array.toList_inj.1
              simp [List.extract_eq_take_drop]]
            exact stx_append _ _)
          have hts : (t.size : Int) ≤ 65536 := by have := HTS.out; omega
          have hes : (((stx a).extract 0 m).size : Int) ≤ 1000000 := by
            rw [ByteArray.size_extract]
            omega
          have hkl : (a.take m ++ t.data.toList).length ≤ 1100000 := by
            rw [List.length_append, List.length_take]
            have : t.data.toList.length = t.size := rfl
            have := HTS.out
            omega
          have HCM := Lib.hid (fun w => kcommon_any2 a (a.take m ++ t.data.toList) w (by rw [hla]; omega) (by omega))
          have hcl := (commonB_le a (a.take m ++ t.data.toList)).1
          obtain ⟨K, hK⟩ : ∃ K, a.take m ++ t.data.toList = K := ⟨_, rfl⟩
          rw [hK] at HR3 HEX HCM hcl
          obtain ⟨C, hC⟩ : ∃ C, commonB a K = C := ⟨_, rfl⟩
          rw [hC] at HR3 HCM hcl
          have hC1 : (C : Int) ≤ 1000000 := by omega
          have hy7 := heap_put (j := 0) hy6 (.string (stx K))
          have hx7 : (w6.setCell ⟨w3.heap.size, 0, none⟩ (.string (stx K))).heap[w.heap.size]? = _ := (Below.heap_setCell _ _ _ _ hnxy).trans hx6
          have k7 := k6.put (p := ⟨w3.heap.size, 0, none⟩) hney (.string (stx K))
          have N7 := near_put N6 (p := ⟨w3.heap.size, 0, none⟩) hwy hBw (.string (stx K))
          have hB7 : B ≤ (w6.setCell ⟨w3.heap.size, 0, none⟩ (.string (stx K))).heap.size := by simpa [World.setCell] using hB6
          have d0 := (Lib.cell_of_heap hy7 0).trans (rfl : _ = some (Value.string (stx K)))
          have y0 := (Lib.cell_of_heap hy6 0).trans (rfl : _ = some (Value.string ⟨#[]⟩))
          have g0 := Lib.frozen_of_heap hy6 0
          have hca := HEX.out
          clear h1 h1d HR2 hkl hK hC HEX hx6 hy6 k6 N6 hB6 hcl hv1 hv0
          go_wp2_with fail
          generalize w6.setCell ⟨w3.heap.size, 0, none⟩ (.string (stx K)) = W7 at *
          clear y0 g0
          refine (HCM.out _).mono ?_
          rintro e w8 ⟨rfl, b8⟩
          have hx8 := (b8.block _ (heap_lt hx7)).trans hx7
          have hy8 := (b8.block _ (heap_lt hy7)).trans hy7
          have k8 : ReaderAt B b s4 0 w8 := ⟨k7.1, (b8.block b (heap_lt k7.2)).trans k7.2⟩
          have N8 := N7.trans (b8.near hB7)
          clear HCM b8 hx7 hy7 k7 N7 hB7 d0
          by_cases h2 : (m : Int) < C
          · have h2d : decide (m < C) = true := decide_eq_true (by omega)
            have HR3 := Lib.hid (HR3.out.trans (if_pos h2))
            have a0 := (Lib.cell_of_heap hx8 0).trans (rfl : _ = some (Value.string ⟨#[]⟩))
            have a1 := (Lib.cell_of_heap hx8 1).trans (rfl : _ = some (Value.string ⟨#[]⟩))
            have a2 := (Lib.cell_of_heap hx8 2).trans (rfl : _ = some (Value.bool false))
            have f0 := Lib.frozen_of_heap hx8 0
            have f1 := Lib.frozen_of_heap hx8 1
            have f2 := Lib.frozen_of_heap hx8 2
            go_wp2_with fail
            refine row_ent_tmp rfl rfl rfl rfl (rowAt_of_heap (heap_put (heap_put (heap_put hx8 _) _) _)) rfl ⟨?_, ?_, near_put (near_put (near_put N8 (Nat.le_refl _) hBw _) (Nat.le_refl _) hBw _) (Nat.le_refl _) hBw _⟩
            · rw [HR3.out]; rfl
            · rw [HR3.out]; exact ((k8.put hne4 _).put hne4 _).put hne4 _
          · have h2d : decide (m < C) = false := decide_eq_false (by omega)
            have HR3 := Lib.hid (HR3.out.trans (if_neg h2))
            have a0 := (Lib.cell_of_heap hx8 0).trans (rfl : _ = some (Value.string ⟨#[]⟩))
            have a1 := (Lib.cell_of_heap hx8 1).trans (rfl : _ = some (Value.string ⟨#[]⟩))
            have a2 := (Lib.cell_of_heap hx8 2).trans (rfl : _ = some (Value.bool false))
            have f0 := Lib.frozen_of_heap hx8 0
            have f1 := Lib.frozen_of_heap hx8 1
            have f2 := Lib.frozen_of_heap hx8 2
            have d0 := (Lib.cell_of_heap hy8 0).trans (rfl : _ = some (Value.string (stx K)))
            have d1 := (Lib.cell_of_heap hy8 1).trans (rfl : _ = some (Value.string v))
            have d2 := (Lib.cell_of_heap hy8 2).trans (rfl : _ = some (Value.bool false))
            go_wp2_with fail
            refine row_ent_tmp rfl rfl rfl rfl (rowAt_of_heap (heap_put (heap_put (heap_put hx8 _) _) _)) rfl ⟨?_, ?_, near_put (near_put (near_put N8 (Nat.le_refl _) hBw _) (Nat.le_refl _) hBw _) (Nat.le_refl _) hBw _⟩
            · rw [HR3.out]; rfl
            · rw [HR3.out]; exact ((k8.put hne4 _).put hne4 _).put hne4 _
    · rw [if_neg (fun q => hE q.1)]
      by_cases hE3 : e4 = 3
      · subst hE3
        have HR2 := Lib.hid (HR.out.symm.trans (if_neg (by simp)))
        clear HR
        by_cases h1 : (la : Int) < n
        · have h1d : decide ((la : Int) < n) = true := decide_eq_true h1
          have HR3 := Lib.hid (HR2.out.trans (if_pos h1))
          clear HR2
          have a0 := (Lib.cell_of_heap hx6 0).trans (rfl : _ = some (Value.string ⟨#[]⟩))
          have a1 := (Lib.cell_of_heap hx6 1).trans (rfl : _ = some (Value.string ⟨#[]⟩))
          have a2 := (Lib.cell_of_heap hx6 2).trans (rfl : _ = some (Value.bool false))
          have f0 := Lib.frozen_of_heap hx6 0
          have f1 := Lib.frozen_of_heap hx6 1
          have f2 := Lib.frozen_of_heap hx6 2
          go_wp2_with fail
          refine row_ent_tmp rfl rfl rfl rfl (rowAt_of_heap (heap_put (heap_put (heap_put hx6 _) _) _)) rfl ⟨?_, ?_, near_put (near_put (near_put N6 (Nat.le_refl _) hBw _) (Nat.le_refl _) hBw _) (Nat.le_refl _) hBw _⟩
          · rw [HR3.out]; rfl
          · rw [HR3.out]; exact ((k6.put hne4 _).put hne4 _).put hne4 _
        · have h1d : decide ((la : Int) < n) = false := decide_eq_false h1
          have HR3 := Lib.hid (HR2.out.trans (if_neg h1))
          obtain ⟨m, rfl⟩ : ∃ m : Nat, n = m := ⟨n.toNat, by omega⟩
          have hml : m ≤ la := by omega
          have hml' : (m : Int) ≤ la := by omega
          rw [Int.toNat_natCast] at HR3
          have HEX : Hid ((stx a).extract 0 m ++ t = stx (a.take m ++ t.data.toList)) := Lib.hid (by
            rw [show t = stx t.data.toList from rfl, show (stx a).extract 0 m = stx (a.take m) from by
              apply ByteArray.ext
              rw [ByteArray.data_extract]
              apply Array.toList_inj.1
              simp [List.extract_eq_take_drop]]
            exact stx_append _ _)
          have hts : (t.size : Int) ≤ 65536 := by have := HTS.out; omega
          have hes : (((stx a).extract 0 m).size : Int) ≤ 1000000 := by
            rw [ByteArray.size_extract]
            omega
          have hkl : (a.take m ++ t.data.toList).length ≤ 1100000 := by
            rw [List.length_append, List.length_take]
            have : t.data.toList.length = t.size := rfl
            have := HTS.out
            omega
          have HCM := Lib.hid (fun w => kcommon_any2 a (a.take m ++ t.data.toList) w (by rw [hla]; omega) (by omega))
          have hcl := (commonB_le a (a.take m ++ t.data.toList)).1
          obtain ⟨K, hK⟩ : ∃ K, a.take m ++ t.data.toList = K := ⟨_, rfl⟩
          rw [hK] at HR3 HEX HCM hcl
          obtain ⟨C, hC⟩ : ∃ C, commonB a K = C := ⟨_, rfl⟩
          rw [hC] at HR3 HCM hcl
          have hC1 : (C : Int) ≤ 1000000 := by omega
          have hy7 := heap_put (j := 0) hy6 (.string (stx K))
          have hx7 : (w6.setCell ⟨w3.heap.size, 0, none⟩ (.string (stx K))).heap[w.heap.size]? = _ := (Below.heap_setCell _ _ _ _ hnxy).trans hx6
          have k7 := k6.put (p := ⟨w3.heap.size, 0, none⟩) hney (.string (stx K))
          have N7 := near_put N6 (p := ⟨w3.heap.size, 0, none⟩) hwy hBw (.string (stx K))
          have hB7 : B ≤ (w6.setCell ⟨w3.heap.size, 0, none⟩ (.string (stx K))).heap.size := by simpa [World.setCell] using hB6
          have d0 := (Lib.cell_of_heap hy7 0).trans (rfl : _ = some (Value.string (stx K)))
          have y0 := (Lib.cell_of_heap hy6 0).trans (rfl : _ = some (Value.string ⟨#[]⟩))
          have g0 := Lib.frozen_of_heap hy6 0
          have hca := HEX.out
          clear h1 h1d HR2 hkl hK hC HEX hx6 hy6 k6 N6 hB6 hcl hv1 hv0
          go_wp2_with fail
          generalize w6.setCell ⟨w3.heap.size, 0, none⟩ (.string (stx K)) = W7 at *
          clear y0 g0
          refine (HCM.out _).mono ?_
          rintro e w8 ⟨rfl, b8⟩
          have hx8 := (b8.block _ (heap_lt hx7)).trans hx7
          have hy8 := (b8.block _ (heap_lt hy7)).trans hy7
          have k8 : ReaderAt B b s4 3 w8 := ⟨k7.1, (b8.block b (heap_lt k7.2)).trans k7.2⟩
          have N8 := N7.trans (b8.near hB7)
          clear HCM b8 hx7 hy7 k7 N7 hB7 d0
          by_cases h2 : (m : Int) < C
          · have h2d : decide (m < C) = true := decide_eq_true (by omega)
            have HR3 := Lib.hid (HR3.out.trans (if_pos h2))
            have a0 := (Lib.cell_of_heap hx8 0).trans (rfl : _ = some (Value.string ⟨#[]⟩))
            have a1 := (Lib.cell_of_heap hx8 1).trans (rfl : _ = some (Value.string ⟨#[]⟩))
            have a2 := (Lib.cell_of_heap hx8 2).trans (rfl : _ = some (Value.bool false))
            have f0 := Lib.frozen_of_heap hx8 0
            have f1 := Lib.frozen_of_heap hx8 1
            have f2 := Lib.frozen_of_heap hx8 2
            go_wp2_with fail
            refine row_ent_tmp rfl rfl rfl rfl (rowAt_of_heap (heap_put (heap_put (heap_put hx8 _) _) _)) rfl ⟨?_, ?_, near_put (near_put (near_put N8 (Nat.le_refl _) hBw _) (Nat.le_refl _) hBw _) (Nat.le_refl _) hBw _⟩
            · rw [HR3.out]; rfl
            · rw [HR3.out]; exact ((k8.put hne4 _).put hne4 _).put hne4 _
          · have h2d : decide (m < C) = false := decide_eq_false (by omega)
            have HR3 := Lib.hid (HR3.out.trans (if_neg h2))
            have a0 := (Lib.cell_of_heap hx8 0).trans (rfl : _ = some (Value.string ⟨#[]⟩))
            have a1 := (Lib.cell_of_heap hx8 1).trans (rfl : _ = some (Value.string ⟨#[]⟩))
            have a2 := (Lib.cell_of_heap hx8 2).trans (rfl : _ = some (Value.bool false))
            have f0 := Lib.frozen_of_heap hx8 0
            have f1 := Lib.frozen_of_heap hx8 1
            have f2 := Lib.frozen_of_heap hx8 2
            have d0 := (Lib.cell_of_heap hy8 0).trans (rfl : _ = some (Value.string (stx K)))
            have d1 := (Lib.cell_of_heap hy8 1).trans (rfl : _ = some (Value.string v))
            have d2 := (Lib.cell_of_heap hy8 2).trans (rfl : _ = some (Value.bool false))
            go_wp2_with fail
            refine row_ent_tmp rfl rfl rfl rfl (rowAt_of_heap (heap_put (heap_put (heap_put hx8 _) _) _)) rfl ⟨?_, ?_, near_put (near_put (near_put N8 (Nat.le_refl _) hBw _) (Nat.le_refl _) hBw _) (Nat.le_refl _) hBw _⟩
            · rw [HR3.out]; rfl
            · rw [HR3.out]; exact ((k8.put hne4 _).put hne4 _).put hne4 _
      · have HR3 := Lib.hid (HR.out.symm.trans (if_pos ⟨hE, hE3⟩))
        have p1 : (e4 != 0) = true := by rw [bne_iff_ne]; exact hE
        have p2 : (e4 != 3) = true := by rw [bne_iff_ne]; exact hE3
        clear HR
        have a0 := (Lib.cell_of_heap hx6 0).trans (rfl : _ = some (Value.string ⟨#[]⟩))
        have a1 := (Lib.cell_of_heap hx6 1).trans (rfl : _ = some (Value.string ⟨#[]⟩))
        have a2 := (Lib.cell_of_heap hx6 2).trans (rfl : _ = some (Value.bool false))
        have f0 := Lib.frozen_of_heap hx6 0
        have f1 := Lib.frozen_of_heap hx6 1
        have f2 := Lib.frozen_of_heap hx6 2
        go_wp2_with fail
        refine row_ent_tmp rfl rfl rfl rfl (rowAt_of_heap (heap_put (heap_put (heap_put hx6 _) _) _)) rfl ⟨?_, ?_, near_put (near_put (near_put N6 (Nat.le_refl _) hBw _) (Nat.le_refl _) hBw _) (Nat.le_refl _) hBw _⟩
        · rw [HR3.out]; rfl
        · rw [HR3.out]; exact ((k6.put hne4 _).put hne4 _).put hne4 _
end Go.Proofs.YtgegipijappfhaaDoor
namespace Go.Proofs.YtgegipijappfhaaDoor
open Go Go.RowKit

theorem OwnEnts.near {B b C : Nat} {w w' : World} {v : Value} {es : List Ent} (h : OwnEnts w C v es) (n : Near B b w w') (hb : b < C) : OwnEnts w' C v es :=
  ⟨h.1, h.2.imp id fun ⟨g, cap, cur, h1, h2, h3, h4⟩ => ⟨g, cap, cur, h1, h2, near_cells n h3 ent_ne_u8 (by omega), h4⟩⟩
theorem ReaderAt.grown {B b C : Nat} {s : ByteArray} {err : Int} {w w' : World} {v : Value} {es : List Ent} (h : ReaderAt B b s err w) (ho : OwnEnts w C v es) (hg : w.grownBy w' v.ownBlock) (hb : b < C) : ReaderAt B b s err w' :=
  ⟨h.1, (hg.block b (heap_lt h.2) (fun e => by have := (World.ownsRow.lt ho b e.symm).1; omega)).trans h.2⟩
def readE (l : List UInt8) : Int := if opE l ≠ 0 then opE l else (readB (opS l)).1
def readL (l : List UInt8) : List Ent := if readE l = 0 then (readB (opS l)).2 else []
def readN (l : List UInt8) : Int := if readE l = 0 then opN l else 0
/-- What Read leaves behind. -/
def ReadR (w : World) (l : List UInt8) (e : Ending) (w' : World) : Prop :=
  ∃ v, e = .returned (.tuple #[v, .int .i64 (readN l), .int .i64 (readE l)]) ∧ OwnEnts w' w.heap.size v (readL l) ∧ Below w.heap.size w w'
theorem readR_bad {w w' : World} {l : List UInt8} {x : Int} (h : readE l = x) (hx : x ≠ 0) (hb : Below w.heap.size w w') : ReadR w l (.returned (.tuple #[.slice none 0 0, .int .i64 0, .int .i64 x])) w' := by
  refine ⟨.slice none 0 0, ?_, ?_, hb⟩
  · rw [readN, h, if_neg hx]
  · rw [readL, h, if_neg hx]
    exact ownEnts_nil w' _
theorem opS_len (l : List UInt8) : (opS l).length ≤ 65536 := by
  unfold opS
  split
  · rename_i h
    rw [List.length_take]
    unfold opE at h
    split at h
    · cases h
    · split at h
      · cases h
      · rename_i q
        have : ¬ 65536 < num4 l % 16777216 := fun e => q (.inr e)
        omega
  · exact Nat.zero_le _
set_option maxRecDepth 100000 in
set_option maxHeartbeats 2000000 in
theorem kRead_any (s : ByteArray) (w : World) (hs : s.size ≤ 281474976710656) (ht : Tabs w) : Calls Tryd.prog 20 #[.string s] w (ReadR w s.data.toList) := by
  have HO := Lib.hid (sOpen_any s w hs ht)
  unfold OpenR at HO
  obtain ⟨l, hl⟩ : ∃ l, s.data.toList = l := ⟨_, rfl⟩
  rw [hl] at HO ⊢
  clear hl hs ht
  by_cases hE : opE l = 0
  case neg =>
    have hR : readE l = opE l := by rw [readE, if_pos hE]
    have hN : opN l = 0 := by rw [opN, if_neg hE]
    rw [hN] at HO
    have HR := Lib.hid hR
    generalize opE l = x at *
    have p1 : (x != 0) = true := by rw [bne_iff_ne]; exact hE
    generalize stx (opS l) = so at *
    clear hR hN
    have HX := Lib.hid hE
    clear hE
    go_enter Tryd.func20, Tryd.ntmps20
    go_wp2_with fail
    refine HO.out.mono ?_
    rintro e w1 ⟨rfl, b1⟩
    clear HO
    go_wp2_with fail
    go_ret3
    exact readR_bad HR.out HX.out b1
  case pos =>
    have hR : readE l = (readB (opS l)).1 := by rw [readE, if_neg (by rw [hE]; simp)]
    have hLL : readE l = 0 → readL l = (readB (opS l)).2 := fun e => by rw [readL, if_pos e]
    have hNN : readE l = 0 → readN l = opN l := fun e => by rw [readN, if_pos e]
    have htl := opS_len l
    rw [hE] at HO
    obtain ⟨T, hT⟩ : ∃ T, opS l = T := ⟨_, rfl⟩
    rw [hT] at HO hR hLL htl
    have HR := Lib.hid hR
    have HLL := Lib.hid hLL
    have HNN := Lib.hid hNN
    clear hR hLL hNN hE hT
    have HOP := Lib.hid (fun w => Open_any (stx T) w)
    rw [if_pos (by rw [stx_size]; exact htl)] at HOP
    obtain ⟨hn0, hn1⟩ := belV_range (stx T) 0 257 (by decide)
    have hsz : (numS (stx T) 0).size ≤ 65536 := Nat.le_trans (numS_sz _ _) (by rw [stx_size]; exact htl)
    have HBE := Lib.hid (fun B b w h => RBelow_any B b (stx T) 0 257 w h)
    have HRB : Hid (readB T = (let r := rdsB (belV (stx T) 0 257).toNat (numS (stx T) 0) (belE (stx T) 0 257) []; let d := doneR r.rest r.err; if r.fail ≠ 0 then (r.fail, []) else if d ≠ 0 then (d, []) else if checkB r.list ≠ 0 then ((checkB r.list : Int), []) else (0, r.list))) := Lib.hid rfl
    generalize numS (stx T) 0 = S1 at *
    generalize belE (stx T) 0 257 = E1 at *
    obtain ⟨n, hn⟩ : ∃ n : Nat, belV (stx T) 0 257 = n := ⟨(belV (stx T) 0 257).toNat, by omega⟩
    rw [hn] at HBE HRB hn0 hn1
    rw [Int.toNat_natCast] at HRB
    have hn3 : (n : Int) ≤ 256 := by omega
    clear hn hn0 hn1 htl
    obtain ⟨RR, hRR⟩ : ∃ RR, rdsB n S1 E1 [] = RR := ⟨_, rfl⟩
    have H0 : Hid (RR = behindB [] (rdsB (n - 0) S1 E1 [])) := Lib.hid (by rw [behindB_nil, ← hRR]; rfl)
    rw [hRR] at HRB
    clear hRR
    go_enter Tryd.func20, Tryd.ntmps20
    go_wp2_with fail
    refine HO.out.mono ?_
    rintro e w1 ⟨rfl, b1⟩
    clear HO
    go_wp2_with fail
    refine (HOP.out _).mono ?_
    rintro e w2 ⟨rfl, k2, b2⟩
    have hb2 : w1.heap.size < w2.heap.size := heap_lt k2.2
    have b3 := below_past b1 b2 b1.size
    have hwb := b1.size
    obtain ⟨b, hb⟩ : ∃ b, w1.heap.size = b := ⟨_, rfl⟩
    rw [hb] at k2 hb2 hwb
    have k2' : ReaderAt (b + 1) b (stx T) 0 w2 := ⟨rfl, k2.2⟩
    clear HOP b1 b2 k2
    go_wp2_with fail
    refine (HBE.out (b + 1) b _ k2').mono ?_
    rintro e w3 ⟨rfl, k3, n3⟩
    have b4 : Below w.heap.size w w3 := b3.trans (n3.below (by omega) hwb)
    have hB3 : b + 1 ≤ w3.heap.size := Nat.le_trans hb2 n3.size
    clear HBE k2' b3 n3 hb hb2
    go_wp2_with fail
    go_loopw [9, 10, 28] (fun u y x wr => ∃ (i : Nat) (K : List UInt8) (L : List Ent) (s1 : ByteArray) (e1 : Int), i ≤ n ∧ x = .int .i64 i ∧ y = .string (stx K) ∧ Hid (RR = behindB L (rdsB (n - i) s1 e1 K)) ∧ Hid (K.length + s1.size ≤ 65536 ∧ L.length = i ∧ ∀ z ∈ L, z.key.length ≤ 65536 ∧ z.val.length ≤ 65536) ∧ OwnEnts wr (b + 1) u L ∧ ReaderAt (b + 1) b s1 e1 wr ∧ Below w.heap.size w wr ∧ b + 1 ≤ wr.heap.size) (fun _ _ x _ => (n - intOf x).toNat)
    case atStart => exact ⟨0, [], [], S1, E1, Nat.zero_le _, rfl, rfl, H0, Lib.hid ⟨by simpa using hsz, rfl, by simp⟩, ownEnts_nil _ _, k3, b4, hB3⟩
    case round =>
      obtain ⟨i, K, L, s1, e1, hi, rfl, rfl, HI, HSZ, ow, k4, b5, hBr⟩ := hrel
      clear H0 hsz k3 b4 hB3
      by_cases hlt : i < n
      · have hlt' : (i : Int) < n := by omega
        have HRD := Lib.hid (kread_any (b + 1) b s1 e1 K wr k4 hBr (Nat.lt_succ_self b) (by have := HSZ.out.1; omega))
        have HSY := Lib.hid (rdB_sz s1 e1 K)
        obtain ⟨m, hm⟩ : ∃ m, n - i = m + 1 := ⟨n - i - 1, by omega⟩
        have hm2 : n - (i + 1) = m := by omega
        have HOK : Hid ((rdB s1 e1 K).fail = 0 → RR = behindB (L ++ [(rdB s1 e1 K).ent]) (rdsB (n - (i + 1)) (rdB s1 e1 K).rest (rdB s1 e1 K).err (rdB s1 e1 K).ent.key)) := Lib.hid fun e => by rw [HI.out, hm, hm2]; exact behindB_ok e
        have HBAD : Hid ((rdB s1 e1 K).fail ≠ 0 → RR.fail = (rdB s1 e1 K).fail) := Lib.hid fun e => by rw [HI.out, hm]; exact behindB_bad e
        obtain ⟨Q, hQ⟩ : ∃ Q, rdB s1 e1 K = Q := ⟨_, rfl⟩
        rw [hQ] at HRD HSY HOK HBAD
        obtain ⟨qf, qx, qs, qe⟩ := Q
        simp only at HRD HSY HOK HBAD
        unfold entA at HRD
        have hlen : L.length ≤ 1000000 := by have := HSZ.out.2.1; omega
        clear hQ HI hm hm2 k4
        go_wp2_with fail
        refine HRD.out.mono ?_
        rintro e w5 ⟨rfl, k5, n5⟩
        have ow5 := ow.near n5 (Nat.lt_succ_self b)
        have b6 : Below w.heap.size w w5 := b5.trans (n5.below (by omega) hwb)
        have hB5 := Nat.le_trans hBr n5.size
        have bq : Below w5.heap.size w5 (w5.alloc (.cells #[.string (stx qx.key), .string (stx qx.val), .bool qx.gone] 36)) := (Below.refl _ _).alloc (Nat.le_refl _) _
        have r6 := rowAt_alloc_at w5 #[.string (stx qx.key), .string (stx qx.val), .bool qx.gone] 36 _ rfl
        clear HRD ow b5 n5
        by_cases h0 : qf = 0
        · subst h0
          have ow6 := ow5.below bq
          have k6 : ReaderAt (b + 1) b qs qe (w5.alloc (.cells #[.string (stx qx.key), .string (stx qx.val), .bool qx.gone] 36)) := ⟨rfl, (bq.block b (heap_lt k5.2)).trans k5.2⟩
          have b7 := below_past b6 bq b6.size
          have hB6 := Nat.le_trans hB5 bq.size
          have HOK2 := Lib.hid (HOK.out rfl)
          have HNE : Hid (∀ g, u9.ownBlock = some g → g ≠ w5.heap.size) := Lib.hid fun g hg => Nat.ne_of_lt (World.ownsRow.lt ow5 g hg).2
          have c0 := cell_of_rowAt r6 0
          have c1 := cell_of_rowAt r6 1
          have c2 := cell_of_rowAt r6 2
          clear HOK HBAD ow5 k5 b6 bq hB5
          go_upto_region 12 with fail
          generalize w5.alloc (.cells #[.string (stx qx.key), .string (stx qx.val), .bool qx.gone] 36) = W6 at *
          have bq : Below W6.heap.size W6 (W6.alloc (.cells #[.string (stx qx.key), .string (stx qx.val), .bool qx.gone] 36)) := (Below.refl _ _).alloc (Nat.le_refl _) _
          have hc7 := entAt_new W6 qx _ rfl
          have ow7 := ow6.below bq
          have b8 := below_past b7 bq b7.size
          have hB7 := Nat.le_trans hB6 bq.size
          have k7 : ReaderAt (b + 1) b qs qe (W6.alloc (.cells #[.string (stx qx.key), .string (stx qx.val), .bool qx.gone] 36)) := ⟨rfl, (bq.block b (heap_lt k6.2)).trans k6.2⟩
          have r7 := rowAt_past bq r6
          clear ow6 b7 k6 r6 hB6 bq
          go_wp2_with (at_builtin; refine wpList_put_ent rfl _ _ rfl (b + 1) _ L rfl ow7 qx _ 1 rfl hc7 hB7 hlen ?_)
          intro v8 w8 ow8 hg8 _
          have hl7 : w5.heap.size < (W6.alloc (.cells #[.string (stx qx.key), .string (stx qx.val), .bool qx.gone] 36)).heap.size := by
            obtain ⟨t7, ht7⟩ := heap_of_rowAt r7
            exact heap_lt ht7
          have r8 : rowAt w8 w5.heap.size = some #[.string (stx qx.key), .string (stx qx.val), .bool qx.gone] := by
            rw [← r7]
            unfold rowAt
            rw [hg8.block _ hl7 (fun e => HNE.out _ e.symm rfl)]
          have c8 := cell_of_rowAt r8 0
          have k8 := k7.grown ow7 hg8 (Nat.lt_succ_self b)
          have b9 : Below w.heap.size w w8 := (ow7.low (B' := w.heap.size) (by omega)).grown hg8 b8 b8.size
          have hB8 := Nat.le_trans hB7 hg8.size
          have HSZ2 : Hid (qx.key.length + qs.size ≤ 65536 ∧ (L ++ [qx]).length = i + 1 ∧ ∀ z ∈ L ++ [qx], z.key.length ≤ 65536 ∧ z.val.length ≤ 65536) := Lib.hid (by
            obtain ⟨z1, z2, z3⟩ := HSZ.out
            obtain ⟨y1, y2, y3⟩ := HSY.out
            refine ⟨by omega, by rw [List.length_append, z2]; rfl, fun z hz => ?_⟩
            rcases List.mem_append.1 hz with h | h
            · exact z3 z h
            · obtain rfl := List.mem_singleton.1 h
              omega)
          clear ow7 hg8 k7 r7 r8 hl7 hB7 b8 hc7 HSZ HSY HNE c0 c1 c2
          go_wp2_with fail
          exact ⟨⟨i + 1, qx.key, L ++ [qx], qs, qe, hlt, by go_num, rfl, HOK2, HSZ2, ow8, k8, b9, hB8⟩, by simp [intOf]; omega⟩
        · have p1 : (qf != 0) = true := by rw [bne_iff_ne]; exact h0
          have HX := Lib.hid h0
          have b7 := below_past b6 bq b6.size
          have HF := Lib.hid (HBAD.out h0)
          clear HOK HBAD ow5 k5 b6 bq hB5 h0 r6
          go_wp2_with fail
          go_ret3
          refine readR_bad (x := qf) ?_ HX.out b7
          rw [HR.out, HRB.out, HF.out, if_pos HX.out]
      · obtain rfl : i = n := by omega
        have HRR : Hid (RR = ⟨0, L, s1, e1⟩) := Lib.hid (by rw [HI.out, Nat.sub_self]; unfold behindB rdsB; simp)
        have HD := Lib.hid (RDone_any (b + 1) b s1 e1 wr k4)
        rw [show (if e1 = 0 ∧ s1.size ≠ 0 then (3 : Int) else e1) = doneR s1 e1 from rfl] at HD
        rw [HRR.out] at HRB
        simp only at HRB
        rw [if_neg (by simp)] at HRB
        have HCK := Lib.hid (fun w (h : EntsAt w u9 L) => kCheck_any u9 L w h (fun z hz => by have := HSZ.out.2.2 z hz; omega))
        clear HI k4
        generalize doneR s1 e1 = D at *
        by_cases hD : D = 0
        · subst hD
          rw [if_neg (by simp)] at HRB
          go_wp2_with fail
          refine HD.out.mono ?_
          rintro e w5 ⟨rfl, b6⟩
          have ow5 := ow.below b6
          have b7 := below_past b5 b6 b5.size
          have HC2 := Lib.hid (HCK.out _ ow5.lie)
          clear HD HCK ow b5 b6
          go_wp2_with fail
          refine HC2.out.mono ?_
          rintro e w6 ⟨rfl, b8⟩
          have ow6 := ow5.below b8
          have b9 := below_past b7 b8 b7.size
          clear HC2 ow5 b7 b8
          by_cases hC : checkB L = 0
          · have hR0 : readE l = 0 := by rw [HR.out, HRB.out, if_neg (by rw [hC]; simp)]
            have hRL : readL l = L := by rw [HLL.out hR0, HRB.out, if_neg (by rw [hC]; simp)]
            have hRN := HNN.out hR0
            rw [hC]
            have HRs := Lib.hid (⟨hR0, hRL, hRN⟩ : readE l = 0 ∧ readL l = L ∧ readN l = (opN l : Nat))
            clear hR0 hRL hRN hC
            go_wp2_with fail
            go_ret3
            refine ⟨u9, ?_, ?_, b9⟩
            · rw [HRs.out.1, HRs.out.2.2]; rfl
            · rw [HRs.out.2.1]; exact ow6.low (by omega)
          · have hR1 : readE l = (checkB L : Nat) := by rw [HR.out, HRB.out, if_pos hC]
            have HR1 := Lib.hid hR1
            generalize checkB L = x at *
            have p1 : ((x : Int) != 0) = true := by rw [bne_iff_ne]; omega
            have p2 : (x != 0) = true := by rw [bne_iff_ne]; exact hC
            have HX := Lib.hid hC
            clear hR1 hC
            go_wp2_with fail
            go_ret3
            exact readR_bad HR1.out (by have := HX.out; omega) b9
        · have HR1 : Hid (readE l = D) := Lib.hid (by rw [HR.out, HRB.out, if_pos hD])
          have p1 : (D != 0) = true := by rw [bne_iff_ne]; exact hD
          have HX := Lib.hid hD
          clear hD HRB HCK
          go_wp2_with fail
          refine HD.out.mono ?_
          rintro e w5 ⟨rfl, b6⟩
          have b7 := below_past b5 b6 b5.size
          clear HD b5 b6
          go_wp2_with fail
          go_ret3
          exact readR_bad HR1.out HX.out b7
end Go.Proofs.YtgegipijappfhaaDoor
namespace Go.Proofs.YtgegipijappfhaaDoor
open Go Go.RowKit

def aw9 : List Ent := [⟨[97, 97], [49], false⟩, ⟨[97, 98], [], true⟩]
theorem aw9_check : checkB aw9 = 0 := by decide +kernel
theorem aw9_len : (textB aw9).length = 17 := by decide +kernel
theorem smallB_of {l : List Ent} (h : ∀ x ∈ l, x.key.length ≤ 1000000 ∧ x.val.length ≤ 1000000) : smallB l := h
theorem makeB_ok {l : List Ent} (h : checkB l = 0) (h2 : (textB l).length ≤ 65536) : MakeR l = .tuple #[.string (stx (frame (textB l))), .int .i64 0] := by
  unfold MakeR makeB
  rw [if_neg (by rw [h]; simp), if_pos h2]
  rfl
/-- What was made is read, whatever stands behind it. -/
theorem read_made {l : List Ent} (h : checkB l = 0) (h2 : (textB l).length ≤ 65536) (m : List UInt8) : readE (frame (textB l) ++ m) = 0 ∧ readL (frame (textB l) ++ m) = l ∧ readN (frame (textB l) ++ m) = ((frame (textB l)).length : Nat) := by
  obtain ⟨e1, e2, e3⟩ := open_frame (textB l) m h2
  have hr : readE (frame (textB l) ++ m) = 0 := by rw [readE, if_neg (by rw [e1]; simp), e2, readB_text l h]
  refine ⟨hr, ?_, ?_⟩
  · rw [readL, if_pos hr, e2, readB_text l h]
  · rw [readN, if_pos hr, e3, frame_length]
theorem ents_two (w : World) (n : Nat) (hn : n = w.heap.size) (x y : Ent) : EntsAt (w.alloc (.cells #[.string (stx x.key), .string (stx x.val), .bool x.gone, .string (stx y.key), .string (stx y.val), .bool y.gone] 36)) (.slice (some ⟨n, 0, none⟩) 2 2) [x, y] := by
  subst hn
  have r := rowAt_alloc_at w #[.string (stx x.key), .string (stx x.val), .bool x.gone, .string (stx y.key), .string (stx y.val), .bool y.gone] 36 _ rfl
  refine ⟨_, _, rfl, Nat.le_refl _, by decide, fun i z hz => ⟨_, _, rfl, ?_⟩⟩
  have hi : i < 2 := (List.getElem?_eq_some_iff.1 hz).1
  rcases (by omega : i = 0 ∨ i = 1) with rfl | rfl
  · obtain rfl : x = z := by simpa using hz
    exact ⟨cell_of_rowAt r 0, cell_of_rowAt r 1, cell_of_rowAt r 2⟩
  · obtain rfl : y = z := by simpa using hz
    exact ⟨cell_of_rowAt r 3, cell_of_rowAt r 4, cell_of_rowAt r 5⟩
end Go.Proofs.YtgegipijappfhaaDoor
namespace Go.Proofs.YtgegipijappfhaaDoor
open Go Go.RowKit

/-- A word of 64 bits as it lies in a cell. -/
def qv (x : UInt64) : Int := (x.toNat : Int)
theorem q_lt (x : UInt64) : qv x < 2 ^ 64 := by have := x.toNat_lt; unfold qv; omega
theorem q_ge (x : UInt64) : 0 ≤ qv x := Int.natCast_nonneg _
theorem q_xor (x y : UInt64) : bits .xor .u64 (qv x) (qv y) = qv (x ^^^ y) := by
  unfold qv
  show IntKind.u64.wrap ((BitVec.ofInt 64 (x.toNat : Int) ^^^ BitVec.ofInt 64 (y.toNat : Int)).toNat : Int) = _
  rw [BitVec.toNat_xor, ofInt_u64 _ x.toNat_lt, ofInt_u64 _ y.toNat_lt]
  show ((x.toNat ^^^ y.toNat : Nat) : Int) % 2 ^ IntKind.u64.bits = _
  have hx : x.toNat ^^^ y.toNat < 2 ^ 64 := Nat.xor_lt_two_pow x.toNat_lt y.toNat_lt
  rw [UInt64.toNat_xor, show (2 : Int) ^ IntKind.u64.bits = 18446744073709551616 from rfl]
  omega
theorem q_or (x y : UInt64) : bits .or .u64 (qv x) (qv y) = qv (x ||| y) := by
  unfold qv
  show IntKind.u64.wrap ((BitVec.ofInt 64 (x.toNat : Int) ||| BitVec.ofInt 64 (y.toNat : Int)).toNat : Int) = _
  rw [BitVec.toNat_or, ofInt_u64 _ x.toNat_lt, ofInt_u64 _ y.toNat_lt]
  show ((x.toNat ||| y.toNat : Nat) : Int) % 2 ^ IntKind.u64.bits = _
  have hx : x.toNat ||| y.toNat < 2 ^ 64 := Nat.or_lt_two_pow x.toNat_lt y.toNat_lt
  rw [UInt64.toNat_or, show (2 : Int) ^ IntKind.u64.bits = 18446744073709551616 from rfl]
  omega
theorem q_mul (x y : UInt64) : qv x * qv y % 18446744073709551616 = qv (x * y) := by
  unfold qv
  rw [UInt64.toNat_mul]
  have : ((x.toNat * y.toNat : Nat) : Int) = (x.toNat : Int) * (y.toNat : Int) := Int.natCast_mul _ _
  omega
theorem q_add (x y : UInt64) : (qv x + qv y) % 18446744073709551616 = qv (x + y) := by
  unfold qv
  rw [UInt64.toNat_add]
  omega
theorem q_mulw (x y : UInt64) : IntKind.u64.wrap (qv x * qv y) = qv (x * y) := by
  show (qv x * qv y) % 2 ^ IntKind.u64.bits = _
  rw [show (2 : Int) ^ IntKind.u64.bits = 18446744073709551616 from rfl]
  exact q_mul x y
theorem q_addw (x y : UInt64) : IntKind.u64.wrap (qv x + qv y) = qv (x + y) := by
  show (qv x + qv y) % 2 ^ IntKind.u64.bits = _
  rw [show (2 : Int) ^ IntKind.u64.bits = 18446744073709551616 from rfl]
  exact q_add x y
theorem q_shr (x : UInt64) (k : Nat) (hk : k < 64) : qv x / (2 ^ k : Nat) = qv (x >>> UInt64.ofNat k) := by
  show (x.toNat : Int) / (2 ^ k : Nat) = ((x >>> UInt64.ofNat k).toNat : Int)
  rw [UInt64.toNat_shiftRight, UInt64.toNat_ofNat', Nat.mod_eq_of_lt (show k < 2 ^ 64 by omega), Nat.mod_eq_of_lt hk, Nat.shiftRight_eq_div_pow]
  rfl
theorem q_byte (c : UInt8) : qv (UInt64.ofNat c.toNat) = (c.toNat : Int) := by
  unfold qv
  rw [UInt64.toNat_ofNat', Nat.mod_eq_of_lt (by have := c.toNat_lt; omega)]
def h0 : UInt64 := 14695981039346656037
def hm : UInt64 := 1099511628211
def hn : UInt64 := 13787848793156543929
def hstep (h : UInt64) (c : UInt8) : UInt64 := (h ^^^ UInt64.ofNat c.toNat) * hm
def hfin (h : UInt64) : UInt64 := let a := (h ^^^ (h >>> UInt64.ofNat 29)) * hn; a ^^^ (a >>> UInt64.ofNat 32)
def hashL (l : List UInt8) : UInt64 := hfin (l.foldl hstep h0)
theorem hash_step (l : List UInt8) (s : ByteArray) (i : Nat) (hs : s.data.toList = l) (hi : i < s.size) : (l.take (i + 1)).foldl hstep h0 = hstep ((l.take i).foldl hstep h0) (at_ s i) := by
  subst hs
  have hl : i < s.data.toList.length := hi
  have hat2 : s.data.toList[i] = at_ s i := by
    unfold at_
    rw [List.getD_eq_getElem?_getD, List.getElem?_eq_getElem hl]
    rfl
  rw [List.take_succ_eq_append_getElem hl, List.foldl_append, hat2]
  rfl
theorem hash_round (H : UInt64) (c : UInt8) : IntKind.u64.wrap (bits .xor .u64 (qv H) (c.toNat : Int) * 1099511628211) = qv (hstep H c) := by
  rw [← q_byte, q_xor, show (1099511628211 : Int) = qv hm from rfl, q_mulw]
  rfl
theorem hash_end1 (H : UInt64) : bits .xor .u64 (qv H) (qv H / 536870912) = qv (H ^^^ (H >>> UInt64.ofNat 29)) := by
  have := q_shr H 29 (by decide)
  rw [show ((2 ^ 29 : Nat) : Int) = 536870912 from rfl] at this
  rw [this, q_xor]
theorem hash_end2 (H : UInt64) : IntKind.u64.wrap (qv H * 13787848793156543929) = qv (H * hn) := by
  rw [show (13787848793156543929 : Int) = qv hn from rfl, q_mulw]
theorem hash_end3 (H : UInt64) : bits .xor .u64 (qv H) (qv H / 4294967296) = qv (H ^^^ (H >>> UInt64.ofNat 32)) := by
  have := q_shr H 32 (by decide)
  rw [show ((2 ^ 32 : Nat) : Int) = 4294967296 from rfl] at this
  rw [this, q_xor]
set_option maxRecDepth 100000 in
theorem bHash_any (s : ByteArray) (w : World) (hs : s.size ≤ 281474976710656) :
    Calls Tryd.prog 90 #[.string s] w fun e w' => e = .returned (.int .u64 (qv (hashL s.data.toList))) ∧ w' = w := by
  have hsz : (s.size : Int) ≤ 281474976710656 := by omega
  obtain ⟨V, hVV⟩ : ∃ V, hashL s.data.toList = V := ⟨_, rfl⟩
  rw [hVV]
  have HVV := Lib.hid hVV
  clear hs hVV
  go_enter Tryd.func90, Tryd.ntmps90
  go_wp2_with fail
  go_loop [3, 7] (fun h x => ∃ i : Nat, i ≤ s.size ∧ x = .int .i64 i ∧ Hid (h = .int .u64 (qv ((s.data.toList.take i).foldl hstep h0)))) (fun _ x => (s.size - intOf x).toNat)
  case atStart => exact ⟨0, Nat.zero_le _, rfl, Lib.hid rfl⟩
  case round =>
    obtain ⟨i, hi, rfl, HX⟩ := hrel
    have hx := HX.out
    subst hx
    by_cases hlt : i < s.size
    · have hlt' : (i : Int) < s.size := by omega
      have hat := get_at s i hlt
      have HS := Lib.hid (hash_step s.data.toList s i rfl hlt)
      generalize (s.data.toList.take i).foldl hstep h0 = H at *
      have hcb : ((at_ s i).toNat : Int) < 256 := by have := (at_ s i).toNat_lt; omega
      have hca : (0 : Int) ≤ ((at_ s i).toNat : Int) := Int.natCast_nonneg _
      have hr := hash_round H (at_ s i)
      clear HX
      go_wp2_with fail
      exact ⟨⟨i + 1, hlt, by go_num, Lib.hid (by rw [HS.out])⟩, by simp [intOf]; omega⟩
    · obtain rfl : i = s.size := by omega
      have HF : Hid (hfin ((s.data.toList.take s.size).foldl hstep h0) = V) := Lib.hid (by
        rw [show s.data.toList.take s.size = s.data.toList from List.take_of_length_le (Nat.le_refl _)]
        exact HVV.out)
      generalize (s.data.toList.take s.size).foldl hstep h0 = H at *
      have e1 := hash_end1 H
      obtain ⟨A1, hA1⟩ : ∃ A1, H ^^^ (H >>> UInt64.ofNat 29) = A1 := ⟨_, rfl⟩
      rw [hA1] at e1
      have e2 := hash_end2 A1
      obtain ⟨A2, hA2⟩ : ∃ A2, A1 * hn = A2 := ⟨_, rfl⟩
      rw [hA2] at e2
      have e3 := hash_end3 A2
      have hV : A2 ^^^ (A2 >>> UInt64.ofNat 32) = V := by
        rw [← HF.out, hfin, hA1, hA2]
      rw [hV] at e3
      have g1 := q_ge H
      have g2 := q_ge A2
      clear HX HF hA1 hA2 hV
      go_wp2_with fail
      go_ret
      exact ⟨rfl, rfl⟩
set_option maxRecDepth 100000 in
theorem r8Hash_any (s : ByteArray) (w : World) (hs : s.size ≤ 281474976710656) :
    Calls Tryd.prog 94 #[.string s] w fun e w' => e = .returned (.int .u64 (qv (hashL s.data.toList))) ∧ w' = w := by
  have hsz : (s.size : Int) ≤ 281474976710656 := by omega
  obtain ⟨V, hVV⟩ : ∃ V, hashL s.data.toList = V := ⟨_, rfl⟩
  rw [hVV]
  have HVV := Lib.hid hVV
  clear hs hVV
  go_enter Tryd.func94, Tryd.ntmps94
  go_wp2_with fail
  go_loop [3, 4] (fun h x => ∃ i : Nat, i ≤ s.size ∧ x = .int .i64 i ∧ Hid (h = .int .u64 (qv ((s.data.toList.take i).foldl hstep h0)))) (fun _ x => (s.size - intOf x).toNat)
  case atStart => exact ⟨0, Nat.zero_le _, rfl, Lib.hid rfl⟩
  case round =>
    obtain ⟨i, hi, rfl, HX⟩ := hrel
    have hx := HX.out
    subst hx
    by_cases hlt : i < s.size
    · have hlt' : (i : Int) < s.size := by omega
      have hat := get_at s i hlt
      have HS := Lib.hid (hash_step s.data.toList s i rfl hlt)
      generalize (s.data.toList.take i).foldl hstep h0 = H at *
      have hcb : ((at_ s i).toNat : Int) < 256 := by have := (at_ s i).toNat_lt; omega
      have hca : (0 : Int) ≤ ((at_ s i).toNat : Int) := Int.natCast_nonneg _
      have hr := hash_round H (at_ s i)
      clear HX
      go_wp2_with fail
      exact ⟨⟨i + 1, hlt, by go_num, Lib.hid (by rw [HS.out])⟩, by simp [intOf]; omega⟩
    · obtain rfl : i = s.size := by omega
      have HF : Hid (hfin ((s.data.toList.take s.size).foldl hstep h0) = V) := Lib.hid (by
        rw [show s.data.toList.take s.size = s.data.toList from List.take_of_length_le (Nat.le_refl _)]
        exact HVV.out)
      generalize (s.data.toList.take s.size).foldl hstep h0 = H at *
      have e1 := hash_end1 H
      obtain ⟨A1, hA1⟩ : ∃ A1, H ^^^ (H >>> UInt64.ofNat 29) = A1 := ⟨_, rfl⟩
      rw [hA1] at e1
      have e2 := hash_end2 A1
      obtain ⟨A2, hA2⟩ : ∃ A2, A1 * hn = A2 := ⟨_, rfl⟩
      rw [hA2] at e2
      have e3 := hash_end3 A2
      have hV : A2 ^^^ (A2 >>> UInt64.ofNat 32) = V := by
        rw [← HF.out, hfin, hA1, hA2]
      rw [hV] at e3
      have g1 := q_ge H
      have g2 := q_ge A2
      clear HX HF hA1 hA2 hV
      go_wp2_with fail
      go_ret
      exact ⟨rfl, rfl⟩
end Go.Proofs.YtgegipijappfhaaDoor
namespace Go.Proofs.YtgegipijappfhaaDoor
open Go Go.RowKit Go.Shelf
attribute [local go_sem] Oper.semAt_some

/-- How far from place to place. -/
def strideQ (H : UInt64) : UInt64 := (H >>> UInt64.ofNat 32) ||| 1
/-- Place number i of a key with hash H among m bits. -/
def plQ (H : UInt64) (m i : Nat) : UInt64 := (H + UInt64.ofNat i * strideQ H) % UInt64.ofNat m
theorem plQ_lt (H : UInt64) (m i : Nat) (h : 0 < m ∧ m < 2 ^ 64) : (plQ H m i).toNat < m := by
  unfold plQ
  rw [UInt64.toNat_mod, UInt64.toNat_ofNat', Nat.mod_eq_of_lt h.2]
  exact Nat.mod_lt _ h.1
/-- A place among m. -/
abbrev PlT (m : Nat) : Type := { x : UInt64 // x.toNat < m }
def plT (H : UInt64) (m : Nat) (h : 0 < m ∧ m < 2 ^ 64) (i : Nat) : PlT m := ⟨plQ H m i, plQ_lt H m i h⟩
def plsT (H : UInt64) (m : Nat) (h : 0 < m ∧ m < 2 ^ 64) (p : Nat) : List (PlT m) := (List.range p).map (plT H m h)
theorem plsT_succ (H : UInt64) (m : Nat) (h : 0 < m ∧ m < 2 ^ 64) (p : Nat) : plsT H m h (p + 1) = plsT H m h p ++ [plT H m h p] := by simp [plsT, List.range_succ]
theorem plsT_length (H : UInt64) (m : Nat) (h : 0 < m ∧ m < 2 ^ 64) (p : Nat) : (plsT H m h p).length = p := by simp [plsT]
theorem plsT_prefix (H : UInt64) (m : Nat) (h : 0 < m ∧ m < 2 ^ 64) (i p : Nat) (hi : i ≤ p) : plsT H m h i <+: plsT H m h p := by
  obtain ⟨k, rfl⟩ := Nat.exists_eq_add_of_le hi
  unfold plsT
  rw [List.range_add, List.map_append]
  exact List.prefix_append _ _
theorem stride_q (H : UInt64) : bits .or .u64 (qv H / 4294967296) 1 = qv (strideQ H) := by
  have := q_shr H 32 (by decide)
  rw [show ((2 ^ 32 : Nat) : Int) = 4294967296 from rfl] at this
  rw [this, show (1 : Int) = qv 1 from rfl, q_or]
  rfl
theorem qv_nat (i : Nat) (h : i < 2 ^ 64) : qv (UInt64.ofNat i) = (i : Int) := by
  unfold qv
  rw [UInt64.toNat_ofNat', Nat.mod_eq_of_lt h]
theorem place_q1 (g : UInt64) (i : Nat) (h : i < 2 ^ 64) : IntKind.u64.wrap ((i : Int) * qv g) = qv (UInt64.ofNat i * g) := by
  rw [← qv_nat i h, q_mulw]
theorem place_q2 (H x : UInt64) (m : Nat) (h : m < 2 ^ 64) : qv (H + x) % (m : Int) = qv ((H + x) % UInt64.ofNat m) := by
  unfold qv
  rw [UInt64.toNat_mod, UInt64.toNat_ofNat', Nat.mod_eq_of_lt h]
  omega

set_option maxRecDepth 100000 in
theorem places_any (p : Int) (v : Value) (key : ByteArray) (w : World) (hs : key.size ≤ 281474976710656) :
    Calls Tryd.prog 72 #[.agg #[.int .i64 p, v], .string key] w fun e w' => e = .returned (.func (.func 91) #[] #[.pointer (some ⟨w.heap.size, 0, none⟩), .pointer (some ⟨w.heap.size + 1, 0, none⟩), .pointer (some ⟨w.heap.size + 1 + 1, 0, none⟩)]) ∧
      w' = ((w.alloc (.cells #[.int .i64 p, v] 56)).alloc (.cells #[.int .u64 (qv (hashL key.data.toList))] 126)).alloc (.cells #[.int .u64 (qv (strideQ (hashL key.data.toList)))] 126) := by
  have HH : ∀ w, Hid (Calls Tryd.prog 90 #[.string key] w fun e w' => e = .returned (.int .u64 (qv (hashL key.data.toList))) ∧ w' = w) := fun w => Lib.hid (bHash_any key w hs)
  generalize hashL key.data.toList = H at *
  have e1 := stride_q H
  have g1 := q_ge H
  go_enter Tryd.func72, Tryd.ntmps72
  go_wp2_with fail
  refine (HH _).out.mono ?_
  rintro e w1 ⟨rfl, rfl⟩
  go_wp2_with fail
  go_ret
  exact ⟨rfl, rfl⟩

/-- What a round keeps: the three blocks that the function has taken with it. -/
def KeepQ (b : Nat) (W W' : World) : Prop := ∀ k, b ≤ k → k < b + 3 → W'.heap[k]? = W.heap[k]?
theorem keepQ_t {b : Nat} {A B C : World} (h : KeepQ b A B) (k : KeepQ b B C) : KeepQ b A C := fun i h1 h2 => (k i h1 h2).trans (h i h1 h2)
theorem keepQ_b {b : Nat} {w : World} (hb : b + 3 ≤ w.heap.size) (W : World) (l : Nat) (o o' : Obj) (hl : w.heap.size ≤ l) (_ : W.heap[l]? = some o) (_ : o.isCells = false) (_ : o.isWalk = false) : KeepQ b W (W.putObj l o') := fun k _ h2 => World.putObj_heap_other (by omega)
/-- The three blocks. -/
def TakenQ (W : World) (b : Nat) (p : Int) (v : Value) (H : UInt64) : Prop :=
  W.heap[b]? = some (.cells #[.int .i64 p, v] 56 (0, 0)) ∧ W.heap[b + 1]? = some (.cells #[.int .u64 (qv H)] 126 (0, 0)) ∧ W.heap[b + 1 + 1]? = some (.cells #[.int .u64 (qv (strideQ H))] 126 (0, 0))
theorem TakenQ.keep {W W' : World} {b : Nat} {p : Int} {v : Value} {H : UInt64} (h : TakenQ W b p v H) (k : KeepQ b W W') : TakenQ W' b p v H :=
  ⟨(k b (Nat.le_refl _) (by omega)).trans h.1, (k (b + 1) (by omega) (by omega)).trans h.2.1, (k (b + 1 + 1) (by omega) (by omega)).trans h.2.2⟩

set_option maxRecDepth 100000 in
set_option maxHeartbeats 2000000 in
theorem iter_in (F : Fence) (n : Nat) (hF : F.fn 91) (hro : F.round = none) (hn : 1 ≤ n) (l b p len cap : Nat) (ao : Option Addr) (H : UInt64) (hp : p ≤ 1000) (h0 : 0 < len) (hlen : len ≤ 100000) (hm : 0 < 8 * len ∧ 8 * len < 2 ^ 64) (J Jx : List (PlT (8 * len)) → World → Prop)
    (hY : ∀ pre x W, J pre W → pre.length < p → YieldAt F (n - 1) Tryd.prog l #[.int .u64 (qv x.1)] W fun e W' =>
      (e = .returned (.bool true) ∧ J (pre ++ [x]) W' ∧ KeepQ b W W') ∨ (e = .returned (.bool false) ∧ Jx (pre ++ [x]) W'))
    (W : World) (hT : TakenQ W b p (.slice ao len cap) H) (hJ : J [] W) :
    CallsIn F n Tryd.prog 91 #[.func (.yield l) #[] #[], .pointer (some ⟨b, 0, none⟩), .pointer (some ⟨b + 1, 0, none⟩), .pointer (some ⟨b + 1 + 1, 0, none⟩)] W fun e W' => (∃ v, e = .returned v) ∧
      ((∃ ys, ys = plsT H (8 * len) hm p ∧ J ys W') ∨ (∃ pre, pre <+: plsT H (8 * len) hm p ∧ Jx pre W')) := by
  have hpi : (p : Int) ≤ 1000 := by omega
  have hli : (len : Int) ≤ 100000 := by omega
  have hl0 : (0 : Int) < len := by omega
  refine callsIn_of_wp Tryd.func91 rfl hF ?_ hro
  simp only [Tryd.ntmps91, List.size_toArray, List.length_cons, List.length_nil, Nat.reduceAdd, Nat.reduceSub, Array.replicate_succ, Array.replicate_zero, List.push_toArray, List.append_toArray, List.nil_append, List.cons_append]
  have c0 : W.cell? ⟨b, 0, none⟩ = some (.int .i64 p) := (Lib.cell_of_heap hT.1 0).trans rfl
  gi_wp2
  gi_loopw [9] (fun x wr => ∃ i : Nat, i ≤ p ∧ x = .int .u64 i ∧ TakenQ wr b p (.slice ao len cap) H ∧ J (plsT H (8 * len) hm i) wr) (fun x _ => (p - intOf x).toNat)
  case atStart => exact ⟨0, Nat.zero_le _, rfl, hT, hJ⟩
  case round =>
    obtain ⟨i, hi, rfl, T1, J1⟩ := hrel
    clear c0
    by_cases hlt : i < p
    · have hlt' : (i : Int) < p := by omega
      have e1 := place_q1 (strideQ H) i (by omega)
      have e2 := q_addw H (UInt64.ofNat i * strideQ H)
      have e3 := place_q2 H (UInt64.ofNat i * strideQ H) (8 * len) (by omega)
      rw [show ((8 * len : Nat) : Int) = 8 * (len : Int) by omega, show (H + UInt64.ofNat i * strideQ H) % UInt64.ofNat (8 * len) = plQ H (8 * len) i from rfl] at e3
      have g3 := q_ge (H + UInt64.ofNat i * strideQ H)
      have hYv : (plT H (8 * len) hm i).1 = plQ H (8 * len) i := rfl
      obtain ⟨fn, tmps, assign, body, hy, hR⟩ := hY (plsT H (8 * len) hm i) (plT H (8 * len) hm i) wr J1 (by rw [plsT_length]; exact hlt)
      have HR := Lib.hid hR
      have c1 : wr.cell? ⟨b, 1, none⟩ = some (.slice ao len cap) := (Lib.cell_of_heap T1.1 1).trans rfl
      have c2 : wr.cell? ⟨b + 1, 0, none⟩ = some (.int .u64 (qv H)) := (Lib.cell_of_heap T1.2.1 0).trans rfl
      have c3 : wr.cell? ⟨b + 1 + 1, 0, none⟩ = some (.int .u64 (qv (strideQ H))) := (Lib.cell_of_heap T1.2.2 0).trans rfl
      have HS := Lib.hid (plsT_succ H (8 * len) hm i)
      clear hR hY
      rw [← hYv] at e3
      clear hYv
      generalize UInt64.ofNat i * strideQ H = X at *
      generalize plT H (8 * len) hm i = Y at *
      have HPX := Lib.hid (plsT_prefix H (8 * len) hm (i + 1) p hlt)
      gi_wp2
      refine HR.out.mono ?_
      rintro e W3 (⟨rfl, hJ3, hk3⟩ | ⟨rfl, hJx3⟩)
      · have T3 := Lib.hid (T1.keep hk3)
        have J3 := Lib.hid hJ3
        clear T1 J1 HR hJ3 hk3 c1 c2 c3
        gi_wp2
        exact ⟨⟨i + 1, hlt, by go_num, T3.out, by rw [HS.out]; exact J3.out⟩, by simp [intOf]; omega⟩
      · have J3 := Lib.hid hJx3
        clear T1 J1 HR hJx3 c1 c2 c3
        gi_wp2
        refine bodyPost_ret (results_none rfl _ _ _) rfl ?_
        exact ⟨⟨_, rfl⟩, .inr ⟨_, by rw [← HS.out]; exact HPX.out, J3.out⟩⟩
    · obtain rfl : i = p := by omega
      have HJ := Lib.hid J1
      clear T1 J1
      gi_wp2
      go_end0
      exact ⟨⟨_, rfl⟩, .inl ⟨_, rfl, HJ.out⟩⟩
/-- The function that hands out the places, as a range over it wants it. -/
theorem iter_stops (F : Fence) (n : Nat) (hF : F.fn 91) (hro : F.round = none) (hn : 1 ≤ n) (b p len cap : Nat) (ao : Option Addr) (H : UInt64) (hp : p ≤ 1000) (h0 : 0 < len) (hlen : len ≤ 100000) (hm : 0 < 8 * len ∧ 8 * len < 2 ^ 64) (w : World) (hT : TakenQ w b p (.slice ao len cap) H) :
    SeqStopsK F n Tryd.prog 91 #[.pointer (some ⟨b, 0, none⟩), .pointer (some ⟨b + 1, 0, none⟩), .pointer (some ⟨b + 1 + 1, 0, none⟩)] (fun x : PlT (8 * len) => #[.int .u64 (qv x.1)]) (KeepQ b) (fun xs => xs = plsT H (8 * len) hm p) (fun pre => pre <+: plsT H (8 * len) hm p) p w :=
  fun l J Jx W hW _ _ hY hJ => iter_in F n hF hro hn l b p len cap ao H hp h0 hlen hm J Jx hY W (hT.keep fun k _ hk => hW.block k (Nat.lt_of_lt_of_le hk (by
    have := (Array.getElem?_eq_some_iff.1 hT.2.2).1
    omega))) hJ
end Go.Proofs.YtgegipijappfhaaDoor
namespace Go.Proofs.YtgegipijappfhaaDoor
open Go Go.RowKit Go.Shelf
attribute [local go_sem] Oper.semAt_some

def goodB (p : Int) (n : Nat) : Bool := decide (1 ≤ p ∧ p ≤ 16 ∧ 1 ≤ n ∧ n ≤ 8192)
set_option maxRecDepth 100000 in
theorem good_any (p : Int) (ao : Option Addr) (n cap : Nat) (w : World) :
    Calls Tryd.prog 71 #[.agg #[.int .i64 p, .slice ao n cap]] w fun e w' => e = .returned (.bool (goodB p n)) ∧ Below w.heap.size w w' := by
  by_cases h : 1 ≤ p
  · have q1 : decide (1 ≤ p) = true := decide_eq_true h
    by_cases h2 : p ≤ 16
    · have q2 : decide (p ≤ 16) = true := decide_eq_true h2
      by_cases h3 : 1 ≤ n
      · have q3 : decide ((1 : Int) ≤ n) = true := decide_eq_true (by omega)
        by_cases h4 : n ≤ 8192
        · have q4 : decide ((n : Int) ≤ 8192) = true := decide_eq_true (by omega)
          have hg : goodB p n = true := decide_eq_true ⟨h, h2, h3, h4⟩
          clear h2 h3 h4
          rw [hg]
          clear h
          go_enter Tryd.func71, Tryd.ntmps71
          go_wp2_with fail
          go_ret
          exact ⟨rfl, (Below.refl _ _).alloc (Nat.le_refl _) _⟩
        · have q4 : decide ((n : Int) ≤ 8192) = false := decide_eq_false (by omega)
          have hg : goodB p n = false := decide_eq_false (fun e => h4 e.2.2.2)
          clear h2 h3 h4
          rw [hg]
          clear h
          go_enter Tryd.func71, Tryd.ntmps71
          go_wp2_with fail
          go_ret
          exact ⟨rfl, (Below.refl _ _).alloc (Nat.le_refl _) _⟩
      · have q3 : decide ((1 : Int) ≤ n) = false := decide_eq_false (by omega)
        have hg : goodB p n = false := decide_eq_false (fun e => h3 e.2.2.1)
        clear h2 h3
        rw [hg]
        clear h
        go_enter Tryd.func71, Tryd.ntmps71
        go_wp2_with fail
        go_ret
        exact ⟨rfl, (Below.refl _ _).alloc (Nat.le_refl _) _⟩
    · have q2 : decide (p ≤ 16) = false := decide_eq_false h2
      have hg : goodB p n = false := decide_eq_false (fun e => h2 e.2.1)
      clear h2
      rw [hg]
      clear h
      go_enter Tryd.func71, Tryd.ntmps71
      go_wp2_with fail
      go_ret
      exact ⟨rfl, (Below.refl _ _).alloc (Nat.le_refl _) _⟩
  · have q1 : decide (1 ≤ p) = false := decide_eq_false h
    have hg : goodB p n = false := decide_eq_false (fun e => h e.1)
    rw [hg]
    clear h
    go_enter Tryd.func71, Tryd.ntmps71
    go_wp2_with fail
    go_ret
    exact ⟨rfl, (Below.refl _ _).alloc (Nat.le_refl _) _⟩

/-- Bytes that lie in a row. -/
def BytesIn (w : World) (ao : Option Addr) (bs : List UInt8) : Prop := ∀ i, i < bs.length → ∃ g o, ao = some ⟨g, o, none⟩ ∧ w.cell? ⟨g, o + i, none⟩ = some (.int .u8 ((bs.getD i 0).toNat : Int))
def bitK (bs : List UInt8) (k : Nat) : Bool := (bs.getD (k / 8) 0).toNat / 2 ^ (k % 8) % 2 == 1
def mayB (bs : List UInt8) (H : UInt64) (p : Nat) : Bool := (List.range p).all fun i => bitK bs (plQ H (8 * bs.length) i).toNat
def mayF (p : Int) (bs : List UInt8) (H : UInt64) : Bool := !goodB p bs.length || mayB bs H p.toNat

theorem bit_and : ∀ (c : Fin 256) (j : Fin 8), bits .and .u8 ((c.val : Int) / 2 ^ j.val) 1 = ((c.val / 2 ^ j.val % 2 : Nat) : Int) := by decide +kernel
theorem byte_bit (c : UInt8) (k : Nat) : bits .and .u8 ((c.toNat : Int) / 2 ^ (k % 8)) 1 = ((c.toNat / 2 ^ (k % 8) % 2 : Nat) : Int) :=
  bit_and ⟨c.toNat, c.toNat_lt⟩ ⟨k % 8, Nat.mod_lt _ (by decide)⟩
theorem own_heap {β : Type} (b : Nat) (cs : Array Value) (T : TypeId) (fr : Nat × Nat) : Own (fun (_ : β) (W : World) => W.heap[b]? = some (.cells cs T fr)) := by
  intro s W W' row hs hg hr
  have hlt := (Array.getElem?_eq_some_iff.1 hs).1
  refine (hg.block b hlt fun e => ?_).trans hs
  obtain ⟨o, ho, hc⟩ := hr b e.symm
  rw [hs] at ho
  obtain rfl := Option.some.inj ho
  cases hc

set_option maxRecDepth 100000 in
set_option maxHeartbeats 4000000 in
theorem may_good (p : Nat) (ao : Option Addr) (cap : Nat) (bs : List UInt8) (key : ByteArray) (w : World) (hs : key.size ≤ 281474976710656) (hB : BytesIn w ao bs) (hg : goodB p bs.length = true) :
    Calls Tryd.prog 36 #[.agg #[.int .i64 p, .slice ao bs.length cap], .string key] w fun e w' => e = .returned (.bool (mayB bs (hashL key.data.toList) p)) ∧ Below w.heap.size w w' := by
  have hgd := of_decide_eq_true hg
  have HG : ∀ w, Hid (Calls Tryd.prog 71 #[.agg #[.int .i64 p, .slice ao bs.length cap]] w fun e w' => e = .returned (.bool true) ∧ Below w.heap.size w w') := fun w => Lib.hid (by
    have := good_any p ao bs.length cap w
    rwa [hg] at this)
  have HP : ∀ w, Hid (Calls Tryd.prog 72 #[.agg #[.int .i64 p, .slice ao bs.length cap], .string key] w fun e w' => e = .returned (.func (.func 91) #[] #[.pointer (some ⟨w.heap.size, 0, none⟩), .pointer (some ⟨w.heap.size + 1, 0, none⟩), .pointer (some ⟨w.heap.size + 1 + 1, 0, none⟩)]) ∧
      w' = ((w.alloc (.cells #[.int .i64 p, .slice ao bs.length cap] 56)).alloc (.cells #[.int .u64 (qv (hashL key.data.toList))] 126)).alloc (.cells #[.int .u64 (qv (strideQ (hashL key.data.toList)))] 126)) := fun w => Lib.hid (places_any p _ key w hs)
  generalize hashL key.data.toList = H at *
  obtain ⟨n, hn⟩ : ∃ n, bs.length = n := ⟨_, rfl⟩
  rw [hn] at hgd
  have HN := Lib.hid hn
  have HB := Lib.hid hB
  have hn1 : 0 < n := by omega
  have hn2 : n ≤ 8192 := hgd.2.2.2
  have hp1 : p ≤ 16 := by have := hgd.2.1; omega
  rw [hn] at HG HP ⊢
  clear hs hB hg hgd hn
  have h3 : Fence.wide.fn 36 := trivial
  refine (callsIn_wide (n := 6)).1 ?_
  refine callsIn_of_wp_marks Tryd.func36 rfl h3 ?_ rfl
  simp only [Tryd.ntmps36, List.size_toArray, List.length_cons, List.length_nil, Nat.reduceAdd, Nat.reduceSub, Array.replicate_succ, Array.replicate_zero, List.push_toArray, List.append_toArray, List.nil_append, List.cons_append]
  gi_wp2
  have a1 : Below w.heap.size w ((w.alloc (.cells #[.int .i64 p, .slice ao n cap] 56)).alloc (.cells #[.bool false] 4)) := ((Below.refl _ _).alloc (Nat.le_refl _) _).alloc (by simp only [World.size_alloc]; omega) _
  have x0 : ((w.alloc (.cells #[.int .i64 p, .slice ao n cap] 56)).alloc (.cells #[.bool false] 4)).heap[w.heap.size]? = some (.cells #[.int .i64 p, .slice ao n cap] 56 (0, 0)) := (Below.heap_alloc _ _ _ (by simp)).trans (World.alloc_heap_new w _)
  have x1 : ((w.alloc (.cells #[.int .i64 p, .slice ao n cap] 56)).alloc (.cells #[.bool false] 4)).heap[w.heap.size + 1]? = some (.cells #[.bool false] 4 (0, 0)) := by
    have := World.alloc_heap_new (w.alloc (.cells #[.int .i64 p, .slice ao n cap] 56)) (.cells #[.bool false] 4)
    rwa [World.size_alloc] at this
  generalize ((w.alloc (.cells #[.int .i64 p, .slice ao n cap] 56)).alloc (.cells #[.bool false] 4)) = W0 at *
  have hW0 : w.heap.size + 1 < W0.heap.size := (Array.getElem?_eq_some_iff.1 x1).1
  refine ⟨trivial, ?_⟩
  refine (callsIn_wide.2 (HG _).out).mono ?_
  rintro e w1 ⟨rfl, b1⟩
  have y0 := (b1.block _ (by omega)).trans x0
  have y1 := (b1.block _ hW0).trans x1
  have a2 := below_past a1 b1 a1.size
  have hw1 := Nat.lt_of_lt_of_le hW0 b1.size
  clear HG x0 x1 a1 b1 hW0
  have c0 : w1.cell? ⟨w.heap.size, 0, none⟩ = some (.int .i64 p) := (Lib.cell_of_heap y0 0).trans rfl
  have c1 : w1.cell? ⟨w.heap.size, 1, none⟩ = some (.slice ao n cap) := (Lib.cell_of_heap y0 1).trans rfl
  gi_wp2
  refine ⟨trivial, ?_⟩
  refine (callsIn_wide.2 (HP _).out).mono ?_
  rintro e w2 ⟨rfl, rfl⟩
  have a3 : Below w1.heap.size w1 (((w1.alloc (.cells #[.int .i64 p, .slice ao n cap] 56)).alloc (.cells #[.int .u64 (qv H)] 126)).alloc (.cells #[.int .u64 (qv (strideQ H))] 126)) := (((Below.refl _ _).alloc (Nat.le_refl _) _).alloc (by simp only [World.size_alloc]; omega) _).alloc (by simp only [World.size_alloc]; omega) _
  have t1 : TakenQ (((w1.alloc (.cells #[.int .i64 p, .slice ao n cap] 56)).alloc (.cells #[.int .u64 (qv H)] 126)).alloc (.cells #[.int .u64 (qv (strideQ H))] 126)) w1.heap.size p (.slice ao n cap) H := by
    refine ⟨(Below.heap_alloc _ _ _ (by simp; omega)).trans ((Below.heap_alloc _ _ _ (by simp)).trans (World.alloc_heap_new w1 _)), (Below.heap_alloc _ _ _ (by simp)).trans ?_, ?_⟩
    · have := World.alloc_heap_new (w1.alloc (.cells #[.int .i64 p, .slice ao n cap] 56)) (.cells #[.int .u64 (qv H)] 126)
      rwa [World.size_alloc] at this
    · have := World.alloc_heap_new ((w1.alloc (.cells #[.int .i64 p, .slice ao n cap] 56)).alloc (.cells #[.int .u64 (qv H)] 126)) (.cells #[.int .u64 (qv (strideQ H))] 126)
      rwa [World.size_alloc, World.size_alloc] at this
  have hz2 : (((w1.alloc (.cells #[.int .i64 p, .slice ao n cap] 56)).alloc (.cells #[.int .u64 (qv H)] 126)).alloc (.cells #[.int .u64 (qv (strideQ H))] 126)).heap.size = w1.heap.size + 3 := by simp
  gi_wp2
  generalize (((w1.alloc (.cells #[.int .i64 p, .slice ao n cap] 56)).alloc (.cells #[.int .u64 (qv H)] 126)).alloc (.cells #[.int .u64 (qv (strideQ H))] 126)) = W2 at *
  have z0 := (a3.block _ (by omega)).trans y0
  have z1 := (a3.block _ hw1).trans y1
  have a4 := below_past a2 a3 a2.size
  clear y0 y1 a2 a3 c0 c1 HP
  have hm : 0 < 8 * n ∧ 8 * n < 2 ^ 64 := ⟨by omega, by omega⟩
  obtain ⟨g, o, hgo, _⟩ := HB.out 0 (by rw [HN.out]; exact hn1)
  subst hgo
  have HC : Hid (∀ W, Below w.heap.size w W → ∀ i, i < n → W.cell? ⟨g, o + i, none⟩ = some (.int .u8 ((bs.getD i 0).toNat : Int))) := Lib.hid fun W hW i hi => by
    obtain ⟨g', o', h1, h2⟩ := HB.out i (by rw [HN.out]; exact hi)
    obtain ⟨rfl, rfl⟩ : g = g' ∧ o = o' := by simpa using h1
    exact (hW.cell (p := ⟨g, o + i, none⟩) (cellLt h2)).trans h2
  refine wpIn_rangeFunc_ownF (F := Fence.wide) (n := 6) rfl (by decide) (gf := 91) (lb := #[.pointer (some ⟨w1.heap.size, 0, none⟩), .pointer (some ⟨w1.heap.size + 1, 0, none⟩), .pointer (some ⟨w1.heap.size + 1 + 1, 0, none⟩)]) rfl trivial (enters_of Tryd.func91 (by kernel_rfl) rfl)
    (iter_stops Fence.wide 5 trivial rfl (by decide) w1.heap.size p n cap (some ⟨g, o, none⟩) H (by omega) hn1 (by omega) hm W2 t1) keepQ_t (keepQ_b (by omega)) (Below.refl _ _) (fun _ => rfl)
    (fun pre W => ((W.heap[w.heap.size]? = some (.cells #[.int .i64 p, .slice (some ⟨g, o, none⟩) n cap] 56 (0, 0)) ∧ W.heap[w.heap.size + 1]? = some (.cells #[.bool false] 4 (0, 0))) ∧ Below w.heap.size w W) ∧ ∀ x ∈ pre, bitK bs x.1.toNat = true)
    (fun c pre W => ((W.heap[w.heap.size + 1]? = some (.cells #[.bool false] 4 (0, 0))) ∧ Below w.heap.size w W) ∧ c = .ret ∧ ∃ x ∈ pre, bitK bs x.1.toNat = false)
    (fun s A B row hs hg hr => ⟨⟨⟨own_heap _ _ _ _ s A B row hs.1.1.1 hg (fun r e => (hr r e).2), own_heap _ _ _ _ s A B row hs.1.1.2 hg (fun r e => (hr r e).2)⟩, ownFrom_below (B := W2.heap.size) (Nat.le_refl _) (by omega) s A B row hs.1.2 hg hr⟩, hs.2⟩)
    (fun c s A B row hs hg hr => ⟨⟨own_heap _ _ _ _ s A B row hs.1.1 hg (fun r e => (hr r e).2), ownFrom_below (B := W2.heap.size) (Nat.le_refl _) (by omega) s A B row hs.1.2 hg hr⟩, hs.2⟩)
    ⟨⟨⟨z0, z1⟩, a4⟩, fun x hx => by cases hx⟩
    (fun x => { tmps := #[.agg #[.int .i64 p, .slice (some ⟨g, o, none⟩) n cap], .string key, .pointer (some ⟨w.heap.size, 0, none⟩), undef, .pointer (some ⟨w.heap.size + 1, 0, none⟩), .int .u64 (qv x.1), .agg #[.int .i64 p, .slice (some ⟨g, o, none⟩) n cap], .bool true, .bool false, .agg #[.int .i64 p, .slice (some ⟨g, o, none⟩) n cap], .string key, .func (.func 91) #[] #[.pointer (some ⟨w1.heap.size, 0, none⟩), .pointer (some ⟨w1.heap.size + 1, 0, none⟩), .pointer (some ⟨w1.heap.size + 1 + 1, 0, none⟩)], .int .u64 (qv x.1), undef, undef, undef, undef, undef, undef, undef, undef, undef, undef, undef], defers := [] }) ?assign ?body ?done ?stop
  case assign =>
    intro l x W K hK
    gi_wp2
    exact hK
  case body =>
    rintro l pre ⟨x, hx⟩ W ⟨⟨⟨i0, i1⟩, i2⟩, i3⟩ _
    have c1 : W.cell? ⟨w.heap.size, 1, none⟩ = some (.slice (some ⟨g, o, none⟩) n cap) := (Lib.cell_of_heap i0 1).trans rfl
    have c2 : W.cell? ⟨w.heap.size + 1, 0, none⟩ = some (.bool false) := (Lib.cell_of_heap i1 0).trans rfl
    have f2 := Lib.frozen_of_heap i1 0
    obtain ⟨k, hk⟩ : ∃ k, x.toNat = k := ⟨_, rfl⟩
    have hkv : qv x = (k : Int) := by rw [← hk]; rfl
    have c3 := HC.out W i2 (k / 8) (by omega)
    obtain ⟨c, hc⟩ : ∃ c, bs.getD (k / 8) 0 = c := ⟨_, rfl⟩
    rw [hc] at c3
    have hk1 : (k : Int) / 8 < n := by omega
    have hk2 : (0 : Int) ≤ k := by omega
    have hcb : (c.toNat : Int) < 256 := by have := c.toNat_lt; omega
    have hand := byte_bit c (k : Nat)
    have hbk : bitK bs k = (c.toNat / 2 ^ (k % 8) % 2 == 1) := by rw [bitK, hc]
    dsimp only
    rw [hkv]
    by_cases hb : c.toNat / 2 ^ (k % 8) % 2 = 1
    · rw [hb] at hand hbk
      have hbk2 : bitK bs k = true := hbk
      clear hb hbk
      gi_wp2
      exact ⟨KeepsOthers.refl _, fun _ _ _ => rfl, ⟨⟨i0, i1⟩, i2⟩, fun y hy => by
        rcases List.mem_append.1 hy with hy | hy
        · exact i3 y hy
        · obtain rfl : y = ⟨x, hx⟩ := by simpa using hy
          show bitK bs x.toNat = true
          rw [hk]
          exact hbk2⟩
    · have hb0 : c.toNat / 2 ^ (k % 8) % 2 = 0 := by omega
      rw [hb0] at hand hbk
      have hbk2 : bitK bs k = false := hbk
      clear hb hb0 hbk
      gi_wp2
      exact ⟨KeepsOthers.setCell _ _ _, ⟨(heap_put i1 (.bool false)).trans rfl, i2.setCell (p := ⟨w.heap.size + 1, 0, none⟩) (Nat.le_succ _) _⟩, rfl, ⟨x, hx⟩, by simp, by show bitK bs x.toNat = false; rw [hk]; exact hbk2⟩
  case done =>
    rintro D ys W hD rfl ⟨⟨⟨i0, i1⟩, i2⟩, i3⟩ hK
    have hmay : mayB bs H p = true := by
      unfold mayB
      rw [List.all_eq_true, HN.out]
      intro i hi
      exact i3 (plT H (8 * n) hm i) (List.mem_map.2 ⟨i, hi, rfl⟩)
    have c2 : W.cell? ⟨w.heap.size + 1, 0, none⟩ = some (.bool false) := (Lib.cell_of_heap i1 0).trans rfl
    have f2 := Lib.frozen_of_heap i1 0
    have HMAY := Lib.hid hmay
    clear hmay
    gi_wp2
    have hK' := (KeepsOthers.setCell W ⟨w.heap.size + 1, 0, none⟩ (.bool true)).same D _ hK rfl
    have hx1 := heap_put (j := 0) i1 (.bool true)
    refine ⟨by simp, .inl ⟨_, _, rfl, run_takeDeferred hK', ?_⟩⟩
    have hc5 := cell_kept ((Lib.cell_of_heap hx1 0).trans rfl) (grownBy_putObj' _ D (.deferred none)) (fun r e => by cases e; exact ⟨_, hK', rfl⟩)
    refine ⟨.bool true, ?_, by rw [HMAY.out], (i2.setCell (p := ⟨w.heap.size + 1, 0, none⟩) (Nat.le_succ _) _).trans (belowK_b (w := w) (Nat.le_refl _) _ D _ _ (by omega) hK' rfl rfl)⟩
    simp [results, Tryd.f36, go_sem, hc5]
  case stop =>
    rintro D c pre W hD hp ⟨⟨i1, i2⟩, rfl, x, hx, hbx⟩ hK
    have hmay : mayB bs H p = false := by
      unfold mayB
      rw [HN.out]
      have hx2 := hp.subset hx
      unfold plsT at hx2
      obtain ⟨i, hi, rfl⟩ := List.mem_map.1 hx2
      cases hq : (List.range p).all fun i => bitK bs (plQ H (8 * n) i).toNat with
      | false => rfl
      | true =>
        have := List.all_eq_true.1 hq i hi
        rw [show (plT H (8 * n) hm i).1 = plQ H (8 * n) i from rfl, this] at hbx
        cases hbx
    have HMAY := Lib.hid hmay
    clear hmay hp hx hbx
    gi_wp2
    refine ⟨by simp, .inl ⟨_, _, rfl, run_takeDeferred hK, ?_⟩⟩
    have hc5 := cell_kept ((Lib.cell_of_heap i1 0).trans rfl) (grownBy_putObj' _ D (.deferred none)) (fun r e => by cases e; exact ⟨_, hK, rfl⟩)
    refine ⟨.bool false, ?_, by rw [HMAY.out], i2.trans (belowK_b (w := w) (Nat.le_refl _) _ D _ _ (by omega) hK rfl rfl)⟩
    simp [results, Tryd.f36, go_sem, hc5]
set_option maxRecDepth 100000 in
theorem may_bad (p : Int) (ao : Option Addr) (n cap : Nat) (key : ByteArray) (w : World) (hg : goodB p n = false) :
    Calls Tryd.prog 36 #[.agg #[.int .i64 p, .slice ao n cap], .string key] w fun e w' => e = .returned (.bool true) ∧ Below w.heap.size w w' := by
  have HG : ∀ w, Hid (Calls Tryd.prog 71 #[.agg #[.int .i64 p, .slice ao n cap]] w fun e w' => e = .returned (.bool false) ∧ Below w.heap.size w w') := fun w => Lib.hid (by
    have := good_any p ao n cap w
    rwa [hg] at this)
  have a1 : Below w.heap.size w ((w.alloc (.cells #[.int .i64 p, .slice ao n cap] 56)).alloc (.cells #[.bool false] 4)) := ((Below.refl _ _).alloc (Nat.le_refl _) _).alloc (by simp only [World.size_alloc]; omega) _
  have r1 : rowAt ((w.alloc (.cells #[.int .i64 p, .slice ao n cap] 56)).alloc (.cells #[.bool false] 4)) (w.heap.size + 1) = some #[.bool false] := rowAt_alloc_at _ _ _ _ (by simp only [World.size_alloc])
  clear hg
  go_enter Tryd.func36, Tryd.ntmps36
  go_wp2_with fail
  generalize ((w.alloc (.cells #[.int .i64 p, .slice ao n cap] 56)).alloc (.cells #[.bool false] 4)) = W0 at *
  refine (HG _).out.mono ?_
  rintro e w1 ⟨rfl, b1⟩
  have r2 := rowAt_past b1 r1
  have a2 := below_past a1 b1 a1.size
  have c2 := cell_of_rowAt r2 0
  have f2 := frozen_of_rowAt r2 0
  clear HG r1 a1 b1 r2
  go_wp2_with fail
  exact bodyPost_ret (v := .bool true) (by simp [results, Tryd.f36, go_sem, c2]) rfl ⟨rfl, a2.setCell (p := ⟨w.heap.size + 1, 0, none⟩) (Nat.le_succ _) _⟩
theorem may_any (p : Int) (ao : Option Addr) (cap : Nat) (bs : List UInt8) (key : ByteArray) (w : World) (hs : key.size ≤ 281474976710656) (hB : BytesIn w ao bs) :
    Calls Tryd.prog 36 #[.agg #[.int .i64 p, .slice ao bs.length cap], .string key] w fun e w' => e = .returned (.bool (mayF p bs (hashL key.data.toList))) ∧ Below w.heap.size w w' := by
  unfold mayF
  cases hg : goodB p bs.length with
  | false => exact may_bad p ao bs.length cap key w hg
  | true =>
    have h1 := (of_decide_eq_true hg).1
    obtain ⟨q, rfl⟩ : ∃ q : Nat, p = q := ⟨p.toNat, by omega⟩
    rw [Int.toNat_natCast]
    exact may_good q ao cap bs key w hs hB hg
end Go.Proofs.YtgegipijappfhaaDoor
namespace Go.Proofs.YtgegipijappfhaaDoor
open Go Go.ChangeShapes Go.WideShapes Go.ChangeAt Go.RowKit

/-- A list of texts that came in. -/
def InStrs (w : World) (v : Value) (len : Nat) (S : Nat → ByteArray) : Prop :=
  ∃ ao cap, v = .slice ao len cap ∧ ∀ i, i < len → ∃ a, ao = some a ∧ w.cell? (a.add i) = some (.string (S i))
theorem in_strs {P : Program} {H : Type} {enc : TypeId × Value → H} {W : World} {sp : Nat → Bool} {held : Bool} {base t e : TypeId} {v : Value} {d : DataW H} {p : List MemPlace} (ht : P.underlying t = some (.slice e)) (he : P.underlying e = some .string) (ce : P.cellsOf e = 1) (hval : Value.okWide P W .any base t v) (hd : DataW.Trod enc P W 0 sp held t v d p) :
    ∃ (len : Nat) (S : Nat → ByteArray), InStrs W v len S := by
  obtain ⟨ao, len, cap, rfl⟩ := okWide_slice ht hval
  obtain ⟨fuel, hf⟩ := hd
  rcases Deep.open_strs ht he ce hf with ⟨h, _⟩ | ⟨a, len', cap', m, S, hcs, _, hl, hm, hmm, _, hx⟩
  · have hc : ao = none ∧ len = 0 ∧ cap = 0 := by simpa [Value.cells] using h
    obtain ⟨rfl, rfl, rfl⟩ := hc
    exact ⟨0, fun _ => ⟨#[]⟩, none, 0, rfl, fun i hi => absurd hi (Nat.not_lt_zero i)⟩
  · have hc : (ao = some a ∧ len = len' ∧ cap = cap') := by simpa [Value.cells] using hcs
    obtain ⟨rfl, rfl, rfl⟩ := hc
    have hlm : len ≤ m := by rw [hmm]; split <;> omega
    exact ⟨len, S, some a, cap, rfl, fun i hi => ⟨a, rfl, (hx i (by omega)).1⟩⟩
/-- A byte that came in. -/
theorem in_byte {P : Program} {H : Type} {enc : TypeId × Value → H} {W : World} {sp : Nat → Bool} {held : Bool} {base t : TypeId} {v : Value} {d : DataW H} {p : List MemPlace} (hu : P.underlying t = some (.int .u8)) (hval : Value.okWide P W .any base t v) (hd : DataW.Trod enc P W 0 sp held t v d p) :
    ∃ c : UInt8, v = .int .u8 (c.toNat : Int) := by
  obtain ⟨n, rfl, _, _, w0⟩ := open_int hu hval hd
  obtain ⟨h0, h1⟩ := wf_u8 w0
  exact ⟨UInt8.ofNat n.toNat, congrArg (Value.int .u8) (byte_of_int h0 (by omega)).symm⟩
theorem cellsOf_string : Tryd.prog.cellsOf 9 = 1 := by kernel_rfl
theorem InStrs.below {w w' : World} {v : Value} {len : Nat} {S : Nat → ByteArray} (h : InStrs w v len S) (k : Below w.heap.size w w') : InStrs w' v len S := by
  obtain ⟨ao, cap, h1, h2⟩ := h
  refine ⟨ao, cap, h1, fun i hi => ?_⟩
  obtain ⟨a, h3, h4⟩ := h2 i hi
  exact ⟨a, h3, (k.cell (p := a.add i) (cellLt h4)).trans h4⟩
theorem one_cell {w : World} {T : TypeId} (x : Value) : ∀ j u, [x][j]? = some u → (w.alloc (.cells #[x] T)).cell? ((⟨w.heap.size, 0, none⟩ : Addr).add j) = some u := by
  intro j u hu
  have hj : j = 0 := by
    have := (List.getElem?_eq_some_iff.1 hu).1
    simpa using this
  subst hj
  have hu2 : x = u := by simpa using hu
  rw [← hu2, show (⟨w.heap.size, 0, none⟩ : Addr).add 0 = ⟨w.heap.size, 0, none⟩ by simp [Addr.add]]
  exact cell_of_rowAt (rowAt_alloc_at w #[x] T _ rfl) 0

/-- The first m texts, cut. -/
def cutsL (S : Nat → ByteArray) (c m : Nat) : List (List UInt8) := (List.range m).map fun i => (S i).data.toList.take c
theorem cutsL_length (S : Nat → ByteArray) (c m : Nat) : (cutsL S c m).length = m := by simp [cutsL]
theorem cutsL_succ (S : Nat → ByteArray) (c m : Nat) : cutsL S c (m + 1) = cutsL S c m ++ [(S m).data.toList.take c] := by simp [cutsL, List.range_succ]
theorem cutsL_short (S : Nat → ByteArray) (c m : Nat) : ∀ t ∈ cutsL S c m, t.length ≤ c := by
  intro t ht
  obtain ⟨i, _, rfl⟩ := List.mem_map.1 ht
  exact List.length_take_le _ _
theorem cutsL_get (S : Nat → ByteArray) (c m i : Nat) (h : i < m) : (cutsL S c m).getD i [] = (S i).data.toList.take c := by
  rw [List.getD_eq_getElem?_getD, cutsL, List.getElem?_map, List.getElem?_range h]
  rfl
/-- An empty list of the call's own, in a block that is behind others. -/
theorem ownStrs_new (w : World) (B n : Nat) (hn : n = w.heap.size) (hB : B ≤ n) : OwnStrs (w.alloc (.cells #[] 9)) B (.slice (some ⟨n, 0, none⟩) 0 0) [] := by
  subst hn
  exact ⟨rfl, .inr ⟨w.heap.size, 0, #[], rfl, hB, heap_alloc_new w _, Nat.le_refl _, Nat.zero_le _, rfl, rfl⟩⟩

/-- A text is put behind a list of the call's own. -/
theorem wpList_put_text {ops : Array Oper} {rest : List Oper} {o : Oper} {a : Act} {w : World} {Q : Exit → Act → World → Prop} (hgd : o.guard = none) (s x : Operand)
    (ho : o.op = .call { callee := .builtin .append, args := #[s, x], argTypes := #[107, 107] }) (B : Nat) (v : Value) (ts : List (List UInt8)) (hs : a.eval s = v) (hown : OwnStrs w B v ts)
    (t : List UInt8) (ad : Addr) (c : Nat) (hx : a.eval x = .slice (some ad) 1 c) (hcell : w.cell? ad = some (.string (stx t))) (hB : B ≤ w.heap.size) (hl : ts.length ≤ 1000000)
    (h : ∀ v' w', OwnStrs w' B v' (ts ++ [t]) → w.grownBy w' v.ownBlock → (v'.ownBlock = v.ownBlock ∨ v'.ownBlock = some w.heap.size) → wpList Tryd.prog ops Q rest (a.put o.dst v') w') : wpList Tryd.prog ops Q (o :: rest) a w := by
  obtain ⟨i0, hi, hz0, hz1, hz2⟩ := info_str
  refine wpList_append_own_at (P := Tryd.prog) w hgd s x 107 ho B 9 i0 (.string ⟨#[]⟩) 1 16 Tryd.underlying107 hi hz0 hz1 hz2 rfl (by decide) v ts.length (strCells ts) hs hown ad 1 c [.string (stx t)] hx rfl ?_ ?_ (by unfold maxLen; omega) (by omega) hB ?_
  · intro j u hu
    have hj : j = 0 := by
      have := (List.getElem?_eq_some_iff.1 hu).1
      simpa using this
    subst hj
    have hu2 : Value.string (stx t) = u := by simpa using hu
    rw [← hu2, show ad.add 0 = ad by simp [Addr.add]]
    exact hcell
  · intro u hu
    have hu2 : u = Value.string (stx t) := by simpa using hu
    rw [hu2]
    rfl
  · intro v' w' h1 h2 _ h4
    refine h v' w' ?_ h2 h4
    show w'.ownsRow B 9 1 v' (ts ++ [t]).length (strCells (ts ++ [t]))
    rw [List.length_append, ← strCells_put]
    exact h1
/-- Two lists lie in two blocks. -/
def Apart (v u : Value) : Prop := ∀ g, v.ownBlock = some g → u.ownBlock ≠ some g
theorem Apart.symm {v u : Value} (h : Apart v u) : Apart u v := fun g h1 h2 => h g h2 h1
theorem Apart.grow {w : World} {B : Nat} {v v' u : Value} {us : List (List UInt8)} {N : Nat} (h : Apart v u) (hu : OwnStrs w B u us) (hat : v'.ownBlock = v.ownBlock ∨ v'.ownBlock = some N) (hN : w.heap.size ≤ N) : Apart v' u := by
  intro g h1 h2
  rcases hat with e | e
  · exact h g (e ▸ h1) h2
  · rw [e] at h1
    have := (World.ownsRow.lt hu g h2).2
    simp only [Option.some.injEq] at h1
    omega
theorem OwnStrs.apart {w w' : World} {B : Nat} {v u : Value} {us : List (List UInt8)} (hu : OwnStrs w B u us) (h : Apart v u) (hg : w.grownBy w' v.ownBlock) : OwnStrs w' B u us := by
  refine World.ownsRow.kept hu hg ?_
  cases hq : u.ownBlock with
  | none => exact .inl rfl
  | some g => exact .inr (fun e => h g e.symm hq)
theorem OwnStrs.grown {w w' : World} {B : Nat} {v : Value} {ts : List (List UInt8)} {a : World} (h : OwnStrs w B v ts) (hg : w.grownBy w' v.ownBlock) (b : Below B a w) (hB : B ≤ w.heap.size) : Below B a w' :=
  b.grown hg hB (fun k hk => (World.ownsRow.lt h k hk).1)

theorem take_alike {ts us : List (List UInt8)} {i : Nat} (h : ts.take i = us.take i) (h1 : i < ts.length) (h2 : i < us.length) (he : ts.getD i [] = us.getD i []) : ts.take (i + 1) = us.take (i + 1) := by
  rw [List.take_succ_eq_append_getElem h1, List.take_succ_eq_append_getElem h2, h]
  congr 2
  rw [List.getD_eq_getElem?_getD, List.getElem?_eq_getElem h1, List.getD_eq_getElem?_getD, List.getElem?_eq_getElem h2] at he
  exact he

end Go.Proofs.YtgegipijappfhaaDoor
