/- Blocks: an entry is read; blocks are read. Conditions: the tables lie where the program lays them. -/
import Derived.Test.YtpdfchaamedeoaaDoorBlock4
import Derived.Test.YtpdfchaamedeoaaDoorBlockMath
namespace Go.Proofs.YtpdfchaamedeoaaDoor
open Go Go.RowKit

theorem near_put {B b : Nat} {a w : World} (h : Near B b a w) {p : Addr} (hp : a.heap.size ≤ p.block) (hB : B ≤ a.heap.size) (u : Value) : Near B b a (w.setCell p u) :=
  ⟨h.os, h.tape, h.output, by simpa [World.setCell] using h.size, fun k hk hn => (Below.heap_setCell _ _ _ _ (by omega)).trans (h.block k hk hn), fun k hk hn hb => (Below.heap_setCell _ _ _ _ (by omega)).trans (h.far k hk hn hb)⟩
theorem near_row {B b : Nat} {a w : World} (h : Near B b a w) {g : Nat} (hp : a.heap.size ≤ g) (hB : B ≤ a.heap.size) (c : Array Value) : Near B b a (w.setRow g c) := h.setRow (Nat.le_trans hB hp) hp c
theorem ReaderAt.put {B b : Nat} {s : ByteArray} {err : Int} {w : World} (h : ReaderAt B b s err w) {p : Addr} (hp : p.block ≠ b) (u : Value) : ReaderAt B b s err (w.setCell p u) :=
  ⟨h.1, (Below.heap_setCell _ _ _ _ (fun e => hp e.symm)).trans h.2⟩
theorem ReaderAt.row {B b : Nat} {s : ByteArray} {err : Int} {w : World} (h : ReaderAt B b s err w) {g : Nat} (hp : g ≠ b) (c : Array Value) : ReaderAt B b s err (w.setRow g c) :=
  ⟨h.1, (setRow_other w g b c (fun e => hp e.symm)).trans h.2⟩
theorem numV_top (s : ByteArray) (err : Int) : numV s err < 9223372036854775808 := by
  unfold numV numOk
  split
  · decide
  · split
    · decide
    · rename_i h
      unfold numBad at h
      simp only [decide_eq_true_eq, not_or] at h
      omega
theorem row_ent_tmp {ops : Func} {p q : Tmp} {a : Act} {w : World} {b : Nat} {c : Array Value} {u : Value} {Q : Ending → World → Prop} (h : ops.results = #[.cell p 42, .tmp q]) (hp : a.tmps.getD p undef = .pointer (some ⟨b, 0, none⟩)) (hq : a.tmps.getD q undef = u) (hd : a.defers = [])
    (hr : rowAt w b = some c) (hc : c.size = 3) (hQ : Q (.returned (.tuple #[.agg c, u])) w) : bodyPost Tryd.prog ops Q .ret a w := by
  subst hq
  exact bodyPost_ret (results_row_tmp h a.tmps w b _ _ hp hr Tryd.underlying42 rfl (by rw [hc]; kernel_rfl)) hd hQ
set_option maxRecDepth 100000 in
set_option maxHeartbeats 2000000 in
theorem kread_any (B b : Nat) (s : ByteArray) (err : Int) (a : List UInt8) (w : World) (h : ReaderAt B b s err w) (hBw : B ≤ w.heap.size) (hb : b < B) (ha : a.length ≤ 1000000) :
    Calls Tryd.prog 45 #[.pointer (some ⟨b, 0, none⟩), .string (stx a)] w fun e w' => e = .returned (.tuple #[entA (rdB s err a).ent, .int .i64 (rdB s err a).fail]) ∧ ReaderAt B b (rdB s err a).rest (rdB s err a).err w' ∧ Near B b w w' := by
  have b0 : Below w.heap.size w (w.alloc (.cells #[.string ⟨#[]⟩, .string ⟨#[]⟩, .bool false] 42)) := (Below.refl _ _).alloc (Nat.le_refl _) _
  have hx4 : (w.alloc (.cells #[.string ⟨#[]⟩, .string ⟨#[]⟩, .bool false] 42)).heap[w.heap.size]? = some (.cells #[.string ⟨#[]⟩, .string ⟨#[]⟩, .bool false] 42) := heap_alloc_new w _
  have hne4 : w.heap.size ≠ b := by omega
  have k0 : ReaderAt B b s err (w.alloc (.cells #[.string ⟨#[]⟩, .string ⟨#[]⟩, .bool false] 42)) := ⟨h.1, (b0.block b (heap_lt h.2)).trans h.2⟩
  have N0 : Near B b w (w.alloc (.cells #[.string ⟨#[]⟩, .string ⟨#[]⟩, .bool false] 42)) := b0.near hBw
  have hB0 := Nat.le_trans hBw b0.size
  have HNU := Lib.hid (RNumber_all B b s err _ k0)
  have HTX := Lib.hid (fun w h hb => RText_any B b (numS s err) (numE s err) w h hb)
  have HFL := Lib.hid (fun w h => RFlag_any B b (textR (numS s err) (numE s err)) (textE (numS s err) (numE s err)) w h)
  have hv0 := numV_nonneg s err
  have hv1 := numV_top s err
  have HTS := Lib.hid (textV_size (numS s err) (numE s err))
  obtain ⟨RD, hRD⟩ : ∃ RD, rdB s err a = RD := ⟨_, rfl⟩
  have HRD := hRD
  unfold rdB at HRD
  simp only at HRD
  rw [hRD]
  clear hRD k0 h
  generalize numV s err = n at *
  generalize textV (numS s err) (numE s err) = t at *
  generalize textR (numS s err) (numE s err) = s2 at *
  generalize textE (numS s err) (numE s err) = e2 at *
  generalize numS s err = s1 at *
  generalize numE s err = e1 at *
  generalize flagV s2 e2 = g at *
  have HTV := Lib.hid (fun w h hb => RText_any B b (takeR s2 e2 1) (octE s2 e2 1) w h hb)
  have HVS := Lib.hid (textV_size (takeR s2 e2 1) (octE s2 e2 1))
  generalize textV (takeR s2 e2 1) (octE s2 e2 1) = v at *
  generalize textR (takeR s2 e2 1) (octE s2 e2 1) = s4 at *
  generalize textE (takeR s2 e2 1) (octE s2 e2 1) = e4 at *
  generalize takeR s2 e2 1 = s3 at *
  generalize octE s2 e2 1 = e3 at *
  have HR := Lib.hid HRD
  clear HRD
  go_enter Tryd.func45, Tryd.ntmps45
  go_wp2_with fail
  generalize (w.alloc (.cells #[.string ⟨#[]⟩, .string ⟨#[]⟩, .bool false] 42)) = W at *
  refine HNU.out.mono ?_
  rintro e w1 ⟨rfl, k1, n1⟩
  have hx1 := near_cells n1 hx4 ent_ne_u8 hne4
  have N1 := N0.trans n1
  have hB1 := Nat.le_trans hB0 n1.size
  have H1 := Lib.hid (HTX.out w1 k1 hB1)
  clear HNU HTX n1 k1 hx4 N0 b0 hB0
  go_wp2_with fail
  refine H1.out.mono ?_
  rintro e w2 ⟨rfl, k2, n2⟩
  have hx2 := near_cells n2 hx1 ent_ne_u8 hne4
  have N2 := N1.trans n2
  have hB2 := Nat.le_trans hB1 n2.size
  have H2 := Lib.hid (HFL.out w2 k2)
  clear H1 HFL n2 k2 hx1 N1 hB1
  go_wp2_with fail
  refine H2.out.mono ?_
  rintro e w3 ⟨rfl, k3, n3⟩
  have hx3 := near_cells n3 hx2 ent_ne_u8 hne4
  have N3 := N2.trans n3
  have hB3 := Nat.le_trans hB2 n3.size
  have bq : Below w3.heap.size w3 (w3.alloc (.cells #[.string ⟨#[]⟩, .string ⟨#[]⟩, .bool g] 42)) := (Below.refl _ _).alloc (Nat.le_refl _) _
  have hy : (w3.alloc (.cells #[.string ⟨#[]⟩, .string ⟨#[]⟩, .bool g] 42)).heap[w3.heap.size]? = some (.cells #[.string ⟨#[]⟩, .string ⟨#[]⟩, .bool g] 42) := heap_alloc_new w3 _
  have hney : w3.heap.size ≠ b := by omega
  have hnxy : w.heap.size ≠ w3.heap.size := Nat.ne_of_lt (heap_lt hx3)
  have hwy : w.heap.size ≤ w3.heap.size := Nat.le_of_lt (heap_lt hx3)
  have hx5 := (bq.block _ (heap_lt hx3)).trans hx3
  have k5 : ReaderAt B b s3 e3 (w3.alloc (.cells #[.string ⟨#[]⟩, .string ⟨#[]⟩, .bool g] 42)) := ⟨k3.1, (bq.block b (heap_lt k3.2)).trans k3.2⟩
  have N5 := N3.trans (bq.near hB3)
  have hB5 := Nat.le_trans hB3 bq.size
  have c2 := (Lib.cell_of_heap hy 2).trans (rfl : _ = some (Value.bool g))
  clear H2 n3 k3 hx2 hx3 N2 N3 hB2 hB3 bq
  obtain ⟨la, hla⟩ : ∃ la, a.length = la := ⟨_, rfl⟩
  have hsz : (stx a).size = la := by rw [stx_size, hla]
  rw [hla] at ha HR
  have hla1 : (la : Int) ≤ 1000000 := by omega
  cases g with
  | true =>
    simp only [if_true] at HR
    have HD := Lib.hid (RDone_any B b s3 e3 _ k5)
    clear HTV HVS
    go_wp2_with fail
    generalize (w3.alloc (.cells #[.string ⟨#[]⟩, .string ⟨#[]⟩, .bool true] 42)) = W3 at *
    clear c2
    refine HD.out.mono ?_
    rintro e w6 ⟨rfl, b6⟩
    have hx6 := (b6.block _ (heap_lt hx5)).trans hx5
    have hy6 := (b6.block _ (heap_lt hy)).trans hy
    have k6 : ReaderAt B b s3 e3 w6 := ⟨k5.1, (b6.block b (heap_lt k5.2)).trans k5.2⟩
    have N6 := N5.trans (b6.near hB5)
    have hB6 := Nat.le_trans hB5 b6.size
    clear HD b6 hx5 hy k5 N5 hB5
    by_cases hE : e3 = 0
    · subst hE
      have HR2 := Lib.hid (HR.out.symm.trans (if_neg (by simp)))
      clear HR
      by_cases hz : s3.size = 0
      · rw [if_neg (by simp [hz])]
        by_cases h1 : (la : Int) < n
        · have h1d : decide ((la : Int) < n) = true := decide_eq_true h1
          have HR3 := Lib.hid (HR2.out.trans (if_pos h1))
          clear HR2
          have a0 := (Lib.cell_of_heap hx6 0).trans (rfl : _ = some (Value.string ⟨#[]⟩))
          have a1 := (Lib.cell_of_heap hx6 1).trans (rfl : _ = some (Value.string ⟨#[]⟩))
          have a2 := (Lib.cell_of_heap hx6 2).trans (rfl : _ = some (Value.bool false))
          have f0 := Lib.frozen_of_heap hx6 0
          have f1 := Lib.frozen_of_heap hx6 1
          have f2 := Lib.frozen_of_heap hx6 2
          go_wp2_with fail
          refine row_ent_tmp rfl rfl rfl rfl (rowAt_of_heap (heap_put (heap_put (heap_put hx6 _) _) _)) rfl ⟨?_, ?_, near_put (near_put (near_put N6 (Nat.le_refl _) hBw _) (Nat.le_refl _) hBw _) (Nat.le_refl _) hBw _⟩
          · rw [HR3.out]; rfl
          · rw [HR3.out]; exact ((k6.put hne4 _).put hne4 _).put hne4 _
        · have h1d : decide ((la : Int) < n) = false := decide_eq_false h1
          have HR3 := Lib.hid (HR2.out.trans (if_neg h1))
          obtain ⟨m, rfl⟩ : ∃ m : Nat, n = m := ⟨n.toNat, by omega⟩
          have hml : m ≤ la := by omega
          have hml' : (m : Int) ≤ la := by omega
          rw [Int.toNat_natCast] at HR3
          have HEX : Hid ((stx a).extract 0 m ++ t = stx (a.take m ++ t.data.toList)) := Lib.hid (by
            rw [show t = stx t.data.toList from rfl, show (stx a).extract 0 m = stx (a.take m) from by
              apply ByteArray.ext
              rw [ByteArray.data_extract]
              apply Array.toList_inj.1
              simp [List.extract_eq_take_drop]]
            exact stx_append _ _)
          have hts : (t.size : Int) ≤ 65536 := by have := HTS.out; omega
          have hes : (((stx a).extract 0 m).size : Int) ≤ 1000000 := by
            rw [ByteArray.size_extract]
            omega
          have hkl : (a.take m ++ t.data.toList).length ≤ 1100000 := by
            rw [List.length_append, List.length_take]
            have : t.data.toList.length = t.size := rfl
            have := HTS.out
            omega
          have HCM := Lib.hid (fun w => kcommon_any2 a (a.take m ++ t.data.toList) w (by rw [hla]; omega) (by omega))
          have hcl := (commonB_le a (a.take m ++ t.data.toList)).1
          obtain ⟨K, hK⟩ : ∃ K, a.take m ++ t.data.toList = K := ⟨_, rfl⟩
          rw [hK] at HR3 HEX HCM hcl
          obtain ⟨C, hC⟩ : ∃ C, commonB a K = C := ⟨_, rfl⟩
          rw [hC] at HR3 HCM hcl
          have hC1 : (C : Int) ≤ 1000000 := by omega
          have hy7 := heap_put (j := 0) hy6 (.string (stx K))
          have hx7 : (w6.setCell ⟨w3.heap.size, 0, none⟩ (.string (stx K))).heap[w.heap.size]? = _ := (Below.heap_setCell _ _ _ _ hnxy).trans hx6
          have k7 := k6.put (p := ⟨w3.heap.size, 0, none⟩) hney (.string (stx K))
          have N7 := near_put N6 (p := ⟨w3.heap.size, 0, none⟩) hwy hBw (.string (stx K))
          have hB7 : B ≤ (w6.setCell ⟨w3.heap.size, 0, none⟩ (.string (stx K))).heap.size := by simpa [World.setCell] using hB6
          have d0 := (Lib.cell_of_heap hy7 0).trans (rfl : _ = some (Value.string (stx K)))
          have y0 := (Lib.cell_of_heap hy6 0).trans (rfl : _ = some (Value.string ⟨#[]⟩))
          have g0 := Lib.frozen_of_heap hy6 0
          have hca := HEX.out
          clear h1 h1d HR2 hkl hK hC HEX hx6 hy6 k6 N6 hB6 hcl hv1 hv0
          go_wp2_with fail
          generalize w6.setCell ⟨w3.heap.size, 0, none⟩ (.string (stx K)) = W7 at *
          clear y0 g0
          refine (HCM.out _).mono ?_
          rintro e w8 ⟨rfl, b8⟩
          have hx8 := (b8.block _ (heap_lt hx7)).trans hx7
          have hy8 := (b8.block _ (heap_lt hy7)).trans hy7
          have k8 : ReaderAt B b s3 0 w8 := ⟨k7.1, (b8.block b (heap_lt k7.2)).trans k7.2⟩
          have N8 := N7.trans (b8.near hB7)
          clear HCM b8 hx7 hy7 k7 N7 hB7 d0
          by_cases h2 : (m : Int) < C
          · have h2d : decide (m < C) = true := decide_eq_true (by omega)
            have HR3 := Lib.hid (HR3.out.trans (if_pos h2))
            have a0 := (Lib.cell_of_heap hx8 0).trans (rfl : _ = some (Value.string ⟨#[]⟩))
            have a1 := (Lib.cell_of_heap hx8 1).trans (rfl : _ = some (Value.string ⟨#[]⟩))
            have a2 := (Lib.cell_of_heap hx8 2).trans (rfl : _ = some (Value.bool false))
            have f0 := Lib.frozen_of_heap hx8 0
            have f1 := Lib.frozen_of_heap hx8 1
            have f2 := Lib.frozen_of_heap hx8 2
            go_wp2_with fail
            refine row_ent_tmp rfl rfl rfl rfl (rowAt_of_heap (heap_put (heap_put (heap_put hx8 _) _) _)) rfl ⟨?_, ?_, near_put (near_put (near_put N8 (Nat.le_refl _) hBw _) (Nat.le_refl _) hBw _) (Nat.le_refl _) hBw _⟩
            · rw [HR3.out]; rfl
            · rw [HR3.out]; exact ((k8.put hne4 _).put hne4 _).put hne4 _
          · have h2d : decide (m < C) = false := decide_eq_false (by omega)
            have HR3 := Lib.hid (HR3.out.trans (if_neg h2))
            have a0 := (Lib.cell_of_heap hx8 0).trans (rfl : _ = some (Value.string ⟨#[]⟩))
            have a1 := (Lib.cell_of_heap hx8 1).trans (rfl : _ = some (Value.string ⟨#[]⟩))
            have a2 := (Lib.cell_of_heap hx8 2).trans (rfl : _ = some (Value.bool false))
            have f0 := Lib.frozen_of_heap hx8 0
            have f1 := Lib.frozen_of_heap hx8 1
            have f2 := Lib.frozen_of_heap hx8 2
            have d0 := (Lib.cell_of_heap hy8 0).trans (rfl : _ = some (Value.string (stx K)))
            have d1 := (Lib.cell_of_heap hy8 1).trans (rfl : _ = some (Value.string ⟨#[]⟩))
            have d2 := (Lib.cell_of_heap hy8 2).trans (rfl : _ = some (Value.bool true))
            go_wp2_with fail
            refine row_ent_tmp rfl rfl rfl rfl (rowAt_of_heap (heap_put (heap_put (heap_put hx8 _) _) _)) rfl ⟨?_, ?_, near_put (near_put (near_put N8 (Nat.le_refl _) hBw _) (Nat.le_refl _) hBw _) (Nat.le_refl _) hBw _⟩
            · rw [HR3.out]; rfl
            · rw [HR3.out]; exact ((k8.put hne4 _).put hne4 _).put hne4 _
      · rw [if_pos ⟨rfl, hz⟩]
        by_cases h1 : (la : Int) < n
        · have h1d : decide ((la : Int) < n) = true := decide_eq_true h1
          have HR3 := Lib.hid (HR2.out.trans (if_pos h1))
          clear HR2
          have a0 := (Lib.cell_of_heap hx6 0).trans (rfl : _ = some (Value.string ⟨#[]⟩))
          have a1 := (Lib.cell_of_heap hx6 1).trans (rfl : _ = some (Value.string ⟨#[]⟩))
          have a2 := (Lib.cell_of_heap hx6 2).trans (rfl : _ = some (Value.bool false))
          have f0 := Lib.frozen_of_heap hx6 0
          have f1 := Lib.frozen_of_heap hx6 1
          have f2 := Lib.frozen_of_heap hx6 2
          go_wp2_with fail
          refine row_ent_tmp rfl rfl rfl rfl (rowAt_of_heap (heap_put (heap_put (heap_put hx6 _) _) _)) rfl ⟨?_, ?_, near_put (near_put (near_put N6 (Nat.le_refl _) hBw _) (Nat.le_refl _) hBw _) (Nat.le_refl _) hBw _⟩
          · rw [HR3.out]; rfl
          · rw [HR3.out]; exact ((k6.put hne4 _).put hne4 _).put hne4 _
        · have h1d : decide ((la : Int) < n) = false := decide_eq_false h1
          have HR3 := Lib.hid (HR2.out.trans (if_neg h1))
          obtain ⟨m, rfl⟩ : ∃ m : Nat, n = m := ⟨n.toNat, by omega⟩
          have hml : m ≤ la := by omega
          have hml' : (m : Int) ≤ la := by omega
          rw [Int.toNat_natCast] at HR3
          have HEX : Hid ((stx a).extract 0 m ++ t = stx (a.take m ++ t.data.toList)) := Lib.hid (by
            rw [show t = stx t.data.toList from rfl, show (stx a).extract 0 m = stx (a.take m) from by
              apply ByteArray.ext
              rw [ByteArray.data_extract]
              apply Array.toList_inj.1
              simp [List.extract_eq_take_drop]]
            exact stx_append _ _)
          have hts : (t.size : Int) ≤ 65536 := by have := HTS.out; omega
          have hes : (((stx a).extract 0 m).size : Int) ≤ 1000000 := by
            rw [ByteArray.size_extract]
            omega
          have hkl : (a.take m ++ t.data.toList).length ≤ 1100000 := by
            rw [List.length_append, List.length_take]
            have : t.data.toList.length = t.size := rfl
            have := HTS.out
            omega
          have HCM := Lib.hid (fun w => kcommon_any2 a (a.take m ++ t.data.toList) w (by rw [hla]; omega) (by omega))
          have hcl := (commonB_le a (a.take m ++ t.data.toList)).1
          obtain ⟨K, hK⟩ : ∃ K, a.take m ++ t.data.toList = K := ⟨_, rfl⟩
          rw [hK] at HR3 HEX HCM hcl
          obtain ⟨C, hC⟩ : ∃ C, commonB a K = C := ⟨_, rfl⟩
          rw [hC] at HR3 HCM hcl
          have hC1 : (C : Int) ≤ 1000000 := by omega
          have hy7 := heap_put (j := 0) hy6 (.string (stx K))
          have hx7 : (w6.setCell ⟨w3.heap.size, 0, none⟩ (.string (stx K))).heap[w.heap.size]? = _ := (Below.heap_setCell _ _ _ _ hnxy).trans hx6
          have k7 := k6.put (p := ⟨w3.heap.size, 0, none⟩) hney (.string (stx K))
          have N7 := near_put N6 (p := ⟨w3.heap.size, 0, none⟩) hwy hBw (.string (stx K))
          have hB7 : B ≤ (w6.setCell ⟨w3.heap.size, 0, none⟩ (.string (stx K))).heap.size := by simpa [World.setCell] using hB6
          have d0 := (Lib.cell_of_heap hy7 0).trans (rfl : _ = some (Value.string (stx K)))
          have y0 := (Lib.cell_of_heap hy6 0).trans (rfl : _ = some (Value.string ⟨#[]⟩))
          have g0 := Lib.frozen_of_heap hy6 0
          have hca := HEX.out
          clear h1 h1d HR2 hkl hK hC HEX hx6 hy6 k6 N6 hB6 hcl hv1 hv0
          go_wp2_with fail
          generalize w6.setCell ⟨w3.heap.size, 0, none⟩ (.string (stx K)) = W7 at *
          clear y0 g0
          refine (HCM.out _).mono ?_
          rintro e w8 ⟨rfl, b8⟩
          have hx8 := (b8.block _ (heap_lt hx7)).trans hx7
          have hy8 := (b8.block _ (heap_lt hy7)).trans hy7
          have k8 : ReaderAt B b s3 0 w8 := ⟨k7.1, (b8.block b (heap_lt k7.2)).trans k7.2⟩
          have N8 := N7.trans (b8.near hB7)
          clear HCM b8 hx7 hy7 k7 N7 hB7 d0
          by_cases h2 : (m : Int) < C
          · have h2d : decide (m < C) = true := decide_eq_true (by omega)
            have HR3 := Lib.hid (HR3.out.trans (if_pos h2))
            have a0 := (Lib.cell_of_heap hx8 0).trans (rfl : _ = some (Value.string ⟨#[]⟩))
            have a1 := (Lib.cell_of_heap hx8 1).trans (rfl : _ = some (Value.string ⟨#[]⟩))
            have a2 := (Lib.cell_of_heap hx8 2).trans (rfl : _ = some (Value.bool false))
            have f0 := Lib.frozen_of_heap hx8 0
            have f1 := Lib.frozen_of_heap hx8 1
            have f2 := Lib.frozen_of_heap hx8 2
            go_wp2_with fail
            refine row_ent_tmp rfl rfl rfl rfl (rowAt_of_heap (heap_put (heap_put (heap_put hx8 _) _) _)) rfl ⟨?_, ?_, near_put (near_put (near_put N8 (Nat.le_refl _) hBw _) (Nat.le_refl _) hBw _) (Nat.le_refl _) hBw _⟩
            · rw [HR3.out]; rfl
            · rw [HR3.out]; exact ((k8.put hne4 _).put hne4 _).put hne4 _
          · have h2d : decide (m < C) = false := decide_eq_false (by omega)
            have HR3 := Lib.hid (HR3.out.trans (if_neg h2))
            have a0 := (Lib.cell_of_heap hx8 0).trans (rfl : _ = some (Value.string ⟨#[]⟩))
            have a1 := (Lib.cell_of_heap hx8 1).trans (rfl : _ = some (Value.string ⟨#[]⟩))
            have a2 := (Lib.cell_of_heap hx8 2).trans (rfl : _ = some (Value.bool false))
            have f0 := Lib.frozen_of_heap hx8 0
            have f1 := Lib.frozen_of_heap hx8 1
            have f2 := Lib.frozen_of_heap hx8 2
            have d0 := (Lib.cell_of_heap hy8 0).trans (rfl : _ = some (Value.string (stx K)))
            have d1 := (Lib.cell_of_heap hy8 1).trans (rfl : _ = some (Value.string ⟨#[]⟩))
            have d2 := (Lib.cell_of_heap hy8 2).trans (rfl : _ = some (Value.bool true))
            go_wp2_with fail
            refine row_ent_tmp rfl rfl rfl rfl (rowAt_of_heap (heap_put (heap_put (heap_put hx8 _) _) _)) rfl ⟨?_, ?_, near_put (near_put (near_put N8 (Nat.le_refl _) hBw _) (Nat.le_refl _) hBw _) (Nat.le_refl _) hBw _⟩
            · rw [HR3.out]; rfl
            · rw [HR3.out]; exact ((k8.put hne4 _).put hne4 _).put hne4 _
    · rw [if_neg (fun q => hE q.1)]
      by_cases hE3 : e3 = 3
      · subst hE3
        have HR2 := Lib.hid (HR.out.symm.trans (if_neg (by simp)))
        clear HR
        by_cases h1 : (la : Int) < n
        · have h1d : decide ((la : Int) < n) = true := decide_eq_true h1
          have HR3 := Lib.hid (HR2.out.trans (if_pos h1))
          clear HR2
          have a0 := (Lib.cell_of_heap hx6 0).trans (rfl : _ = some (Value.string ⟨#[]⟩))
          have a1 := (Lib.cell_of_heap hx6 1).trans (rfl : _ = some (Value.string ⟨#[]⟩))
          have a2 := (Lib.cell_of_heap hx6 2).trans (rfl : _ = some (Value.bool false))
          have f0 := Lib.frozen_of_heap hx6 0
          have f1 := Lib.frozen_of_heap hx6 1
          have f2 := Lib.frozen_of_heap hx6 2
          go_wp2_with fail
          refine row_ent_tmp rfl rfl rfl rfl (rowAt_of_heap (heap_put (heap_put (heap_put hx6 _) _) _)) rfl ⟨?_, ?_, near_put (near_put (near_put N6 (Nat.le_refl _) hBw _) (Nat.le_refl _) hBw _) (Nat.le_refl _) hBw _⟩
          · rw [HR3.out]; rfl
          · rw [HR3.out]; exact ((k6.put hne4 _).put hne4 _).put hne4 _
        · have h1d : decide ((la : Int) < n) = false := decide_eq_false h1
          have HR3 := Lib.hid (HR2.out.trans (if_neg h1))
          obtain ⟨m, rfl⟩ : ∃ m : Nat, n = m := ⟨n.toNat, by omega⟩
          have hml : m ≤ la := by omega
          have hml' : (m : Int) ≤ la := by omega
          rw [Int.toNat_natCast] at HR3
          have HEX : Hid ((stx a).extract 0 m ++ t = stx (a.take m ++ t.data.toList)) := Lib.hid (by
            rw [show t = stx t.data.toList from rfl, show (stx a).extract 0 m = stx (a.take m) from by
              apply ByteArray.ext
              rw [ByteArray.data_extract]
              apply Array.toList_inj.1
              simp [List.extract_eq_take_drop]]
            exact stx_append _ _)
          have hts : (t.size : Int) ≤ 65536 := by have := HTS.out; omega
          have hes : (((stx a).extract 0 m).size : Int) ≤ 1000000 := by
            rw [ByteArray.size_extract]
            omega
          have hkl : (a.take m ++ t.data.toList).length ≤ 1100000 := by
            rw [List.length_append, List.length_take]
            have : t.data.toList.length = t.size := rfl
            have := HTS.out
            omega
          have HCM := Lib.hid (fun w => kcommon_any2 a (a.take m ++ t.data.toList) w (by rw [hla]; omega) (by omega))
          have hcl := (commonB_le a (a.take m ++ t.data.toList)).1
          obtain ⟨K, hK⟩ : ∃ K, a.take m ++ t.data.toList = K := ⟨_, rfl⟩
          rw [hK] at HR3 HEX HCM hcl
          obtain ⟨C, hC⟩ : ∃ C, commonB a K = C := ⟨_, rfl⟩
          rw [hC] at HR3 HCM hcl
          have hC1 : (C : Int) ≤ 1000000 := by omega
          have hy7 := heap_put (j := 0) hy6 (.string (stx K))
          have hx7 : (w6.setCell ⟨w3.heap.size, 0, none⟩ (.string (stx K))).heap[w.heap.size]? = _ := (Below.heap_setCell _ _ _ _ hnxy).trans hx6
          have k7 := k6.put (p := ⟨w3.heap.size, 0, none⟩) hney (.string (stx K))
          have N7 := near_put N6 (p := ⟨w3.heap.size, 0, none⟩) hwy hBw (.string (stx K))
          have hB7 : B ≤ (w6.setCell ⟨w3.heap.size, 0, none⟩ (.string (stx K))).heap.size := by simpa [World.setCell] using hB6
          have d0 := (Lib.cell_of_heap hy7 0).trans (rfl : _ = some (Value.string (stx K)))
          have y0 := (Lib.cell_of_heap hy6 0).trans (rfl : _ = some (Value.string ⟨#[]⟩))
          have g0 := Lib.frozen_of_heap hy6 0
          have hca := HEX.out
          clear h1 h1d HR2 hkl hK hC HEX hx6 hy6 k6 N6 hB6 hcl hv1 hv0
          go_wp2_with fail
          generalize w6.setCell ⟨w3.heap.size, 0, none⟩ (.string (stx K)) = W7 at *
          clear y0 g0
          refine (HCM.out _).mono ?_
          rintro e w8 ⟨rfl, b8⟩
          have hx8 := (b8.block _ (heap_lt hx7)).trans hx7
          have hy8 := (b8.block _ (heap_lt hy7)).trans hy7
          have k8 : ReaderAt B b s3 3 w8 := ⟨k7.1, (b8.block b (heap_lt k7.2)).trans k7.2⟩
          have N8 := N7.trans (b8.near hB7)
          clear HCM b8 hx7 hy7 k7 N7 hB7 d0
          by_cases h2 : (m : Int) < C
          · have h2d : decide (m < C) = true := decide_eq_true (by omega)
            have HR3 := Lib.hid (HR3.out.trans (if_pos h2))
            have a0 := (Lib.cell_of_heap hx8 0).trans (rfl : _ = some (Value.string ⟨#[]⟩))
            have a1 := (Lib.cell_of_heap hx8 1).trans (rfl : _ = some (Value.string ⟨#[]⟩))
            have a2 := (Lib.cell_of_heap hx8 2).trans (rfl : _ = some (Value.bool false))
            have f0 := Lib.frozen_of_heap hx8 0
            have f1 := Lib.frozen_of_heap hx8 1
            have f2 := Lib.frozen_of_heap hx8 2
            go_wp2_with fail
            refine row_ent_tmp rfl rfl rfl rfl (rowAt_of_heap (heap_put (heap_put (heap_put hx8 _) _) _)) rfl ⟨?_, ?_, near_put (near_put (near_put N8 (Nat.le_refl _) hBw _) (Nat.le_refl _) hBw _) (Nat.le_refl _) hBw _⟩
            · rw [HR3.out]; rfl
            · rw [HR3.out]; exact ((k8.put hne4 _).put hne4 _).put hne4 _
          · have h2d : decide (m < C) = false := decide_eq_false (by omega)
            have HR3 := Lib.hid (HR3.out.trans (if_neg h2))
            have a0 := (Lib.cell_of_heap hx8 0).trans (rfl : _ = some (Value.string ⟨#[]⟩))
            have a1 := (Lib.cell_of_heap hx8 1).trans (rfl : _ = some (Value.string ⟨#[]⟩))
            have a2 := (Lib.cell_of_heap hx8 2).trans (rfl : _ = some (Value.bool false))
            have f0 := Lib.frozen_of_heap hx8 0
            have f1 := Lib.frozen_of_heap hx8 1
            have f2 := Lib.frozen_of_heap hx8 2
            have d0 := (Lib.cell_of_heap hy8 0).trans (rfl : _ = some (Value.string (stx K)))
            have d1 := (Lib.cell_of_heap hy8 1).trans (rfl : _ = some (Value.string ⟨#[]⟩))
            have d2 := (Lib.cell_of_heap hy8 2).trans (rfl : _ = some (Value.bool true))
            go_wp2_with fail
            refine row_ent_tmp rfl rfl rfl rfl (rowAt_of_heap (heap_put (heap_put (heap_put hx8 _) _) _)) rfl ⟨?_, ?_, near_put (near_put (near_put N8 (Nat.le_refl _) hBw _) (Nat.le_refl _) hBw _) (Nat.le_refl _) hBw _⟩
            · rw [HR3.out]; rfl
            · rw [HR3.out]; exact ((k8.put hne4 _).put hne4 _).put hne4 _
      · have HR3 := Lib.hid (HR.out.symm.trans (if_pos ⟨hE, hE3⟩))
        have p1 : (e3 != 0) = true := by rw [bne_iff_ne]; exact hE
        have p2 : (e3 != 3) = true := by rw [bne_iff_ne]; exact hE3
        clear HR
        have a0 := (Lib.cell_of_heap hx6 0).trans (rfl : _ = some (Value.string ⟨#[]⟩))
        have a1 := (Lib.cell_of_heap hx6 1).trans (rfl : _ = some (Value.string ⟨#[]⟩))
        have a2 := (Lib.cell_of_heap hx6 2).trans (rfl : _ = some (Value.bool false))
        have f0 := Lib.frozen_of_heap hx6 0
        have f1 := Lib.frozen_of_heap hx6 1
        have f2 := Lib.frozen_of_heap hx6 2
        go_wp2_with fail
        refine row_ent_tmp rfl rfl rfl rfl (rowAt_of_heap (heap_put (heap_put (heap_put hx6 _) _) _)) rfl ⟨?_, ?_, near_put (near_put (near_put N6 (Nat.le_refl _) hBw _) (Nat.le_refl _) hBw _) (Nat.le_refl _) hBw _⟩
        · rw [HR3.out]; rfl
        · rw [HR3.out]; exact ((k6.put hne4 _).put hne4 _).put hne4 _
  | false =>
    simp only [Bool.false_eq_true, if_false] at HR
    have H3 := Lib.hid (HTV.out _ k5 hB5)
    clear HTV k5
    go_wp2_with fail
    generalize (w3.alloc (.cells #[.string ⟨#[]⟩, .string ⟨#[]⟩, .bool false] 42)) = W3 at *
    refine H3.out.mono ?_
    rintro e w5 ⟨rfl, k4, n4⟩
    have hx4 := near_cells n4 hx5 ent_ne_u8 hne4
    have hy4 := near_cells n4 hy ent_ne_u8 hney
    have N4 := N5.trans n4
    have hB4 := Nat.le_trans hB5 n4.size
    have y1 := (Lib.cell_of_heap hy4 1).trans (rfl : _ = some (Value.string ⟨#[]⟩))
    have g1 := Lib.frozen_of_heap hy4 1
    clear H3 c2 hx5 hy N5 hB5 n4
    have hy : (w5.setCell ⟨w3.heap.size, 1, none⟩ (.string v)).heap[w3.heap.size]? = some (.cells #[.string ⟨#[]⟩, .string v, .bool false] 42 (0, 0)) := heap_put (j := 1) hy4 (.string v)
    have hx5 := (Below.heap_setCell w5 ⟨w3.heap.size, 1, none⟩ (.string v) _ hnxy).trans hx4
    have k5 := k4.put (p := ⟨w3.heap.size, 1, none⟩) hney (.string v)
    have N5 := near_put N4 (p := ⟨w3.heap.size, 1, none⟩) hwy hBw (.string v)
    have hB5 : B ≤ (w5.setCell ⟨w3.heap.size, 1, none⟩ (.string v)).heap.size := by simpa [World.setCell] using hB4
    have HD := Lib.hid (RDone_any B b s4 e4 _ k5)
    clear hx4 hy4 k4 N4 hB4
    go_wp2_with fail
    generalize w5.setCell ⟨w3.heap.size, 1, none⟩ (.string v) = W4 at *
    clear y1 g1
    refine HD.out.mono ?_
    rintro e w6 ⟨rfl, b6⟩
    have hx6 := (b6.block _ (heap_lt hx5)).trans hx5
    have hy6 := (b6.block _ (heap_lt hy)).trans hy
    have k6 : ReaderAt B b s4 e4 w6 := ⟨k5.1, (b6.block b (heap_lt k5.2)).trans k5.2⟩
    have N6 := N5.trans (b6.near hB5)
    have hB6 := Nat.le_trans hB5 b6.size
    clear HD b6 hx5 hy k5 N5 hB5
    by_cases hE : e4 = 0
    · subst hE
      have HR2 := Lib.hid (HR.out.symm.trans (if_neg (by simp)))
      clear HR
      by_cases hz : s4.size = 0
      · rw [if_neg (by simp [hz])]
        by_cases h1 : (la : Int) < n
        · have h1d : decide ((la : Int) < n) = true := decide_eq_true h1
          have HR3 := Lib.hid (HR2.out.trans (if_pos h1))
          clear HR2
          have a0 := (Lib.cell_of_heap hx6 0).trans (rfl : _ = some (Value.string ⟨#[]⟩))
          have a1 := (Lib.cell_of_heap hx6 1).trans (rfl : _ = some (Value.string ⟨#[]⟩))
          have a2 := (Lib.cell_of_heap hx6 2).trans (rfl : _ = some (Value.bool false))
          have f0 := Lib.frozen_of_heap hx6 0
          have f1 := Lib.frozen_of_heap hx6 1
          have f2 := Lib.frozen_of_heap hx6 2
          go_wp2_with fail
          refine row_ent_tmp rfl rfl rfl rfl (rowAt_of_heap (heap_put (heap_put (heap_put hx6 _) _) _)) rfl ⟨?_, ?_, near_put (near_put (near_put N6 (Nat.le_refl _) hBw _) (Nat.le_refl _) hBw _) (Nat.le_refl _) hBw _⟩
          · rw [HR3.out]; rfl
          · rw [HR3.out]; exact ((k6.put hne4 _).put hne4 _).put hne4 _
        · have h1d : decide ((la : Int) < n) = false := decide_eq_false h1
          have HR3 := Lib.hid (HR2.out.trans (if_neg h1))
          obtain ⟨m, rfl⟩ : ∃ m : Nat, n = m := ⟨n.toNat, by omega⟩
          have hml : m ≤ la := by omega
          have hml' : (m : Int) ≤ la := by omega
          rw [Int.toNat_natCast] at HR3
          have HEX : Hid ((stx a).extract 0 m ++ t = stx (a.take m ++ t.data.toList)) := Lib.hid (by
            rw [show t = stx t.data.toList from rfl, show (stx a).extract 0 m = stx (a.take m) from by
              apply ByteArray.ext
              rw [ByteArray.data_extract]
              apply Array.toList_inj.1
              simp [List.extract_eq_take_drop]]
            exact stx_append _ _)
          have hts : (t.size : Int) ≤ 65536 := by have := HTS.out; omega
          have hes : (((stx a).extract 0 m).size : Int) ≤ 1000000 := by
            rw [ByteArray.size_extract]
            omega
          have hkl : (a.take m ++ t.data.toList).length ≤ 1100000 := by
            rw [List.length_append, List.length_take]
            have : t.data.toList.length = t.size := rfl
            have := HTS.out
            omega
          have HCM := Lib.hid (fun w => kcommon_any2 a (a.take m ++ t.data.toList) w (by rw [hla]; omega) (by omega))
          have hcl := (commonB_le a (a.take m ++ t.data.toList)).1
          obtain ⟨K, hK⟩ : ∃ K, a.take m ++ t.data.toList = K := ⟨_, rfl⟩
          rw [hK] at HR3 HEX HCM hcl
          obtain ⟨C, hC⟩ : ∃ C, commonB a K = C := ⟨_, rfl⟩
          rw [hC] at HR3 HCM hcl
          have hC1 : (C : Int) ≤ 1000000 := by omega
          have hy7 := heap_put (j := 0) hy6 (.string (stx K))
          have hx7 : (w6.setCell ⟨w3.heap.size, 0, none⟩ (.string (stx K))).heap[w.heap.size]? = _ := (Below.heap_setCell _ _ _ _ hnxy).trans hx6
          have k7 := k6.put (p := ⟨w3.heap.size, 0, none⟩) hney (.string (stx K))
          have N7 := near_put N6 (p := ⟨w3.heap.size, 0, none⟩) hwy hBw (.string (stx K))
          have hB7 : B ≤ (w6.setCell ⟨w3.heap.size, 0, none⟩ (.string (stx K))).heap.size := by simpa [World.setCell] using hB6
          have d0 := (Lib.cell_of_heap hy7 0).trans (rfl : _ = some (Value.string (stx K)))
          have y0 := (Lib.cell_of_heap hy6 0).trans (rfl : _ = some (Value.string ⟨#[]⟩))
          have g0 := Lib.frozen_of_heap hy6 0
          have hca := HEX.out
          clear h1 h1d HR2 hkl hK hC HEX hx6 hy6 k6 N6 hB6 hcl hv1 hv0
          go_wp2_with fail
          generalize w6.setCell ⟨w3.heap.size, 0, none⟩ (.string (stx K)) = W7 at *
          clear y0 g0
          refine (HCM.out _).mono ?_
          rintro e w8 ⟨rfl, b8⟩
          have hx8 := (b8.block _ (heap_lt hx7)).trans hx7
          have hy8 := (b8.block _ (heap_lt hy7)).trans hy7
          have k8 : ReaderAt B b s4 0 w8 := ⟨k7.1, (b8.block b (heap_lt k7.2)).trans k7.2⟩
          have N8 := N7.trans (b8.near hB7)
          clear HCM b8 hx7 hy7 k7 N7 hB7 d0
          by_cases h2 : (m : Int) < C
          · have h2d : decide (m < C) = true := decide_eq_true (by omega)
            have HR3 := Lib.hid (HR3.out.trans (if_pos h2))
            have a0 := (Lib.cell_of_heap hx8 0).trans (rfl : _ = some (Value.string ⟨#[]⟩))
            have a1 := (Lib.cell_of_heap hx8 1).trans (rfl : _ = some (Value.string ⟨#[]⟩))
            have a2 := (Lib.cell_of_heap hx8 2).trans (rfl : _ = some (Value.bool false))
            have f0 := Lib.frozen_of_heap hx8 0
            have f1 := Lib.frozen_of_heap hx8 1
            have f2 := Lib.frozen_of_heap hx8 2
            go_wp2_with fail
            refine row_ent_tmp rfl rfl rfl rfl (rowAt_of_heap (heap_put (heap_put (heap_put hx8 _) _) _)) rfl ⟨?_, ?_, near_put (near_put (near_put N8 (Nat.le_refl _) hBw _) (Nat.le_refl _) hBw _) (Nat.le_refl _) hBw _⟩
            · rw [HR3.out]; rfl
            · rw [HR3.out]; exact ((k8.put hne4 _).put hne4 _).put hne4 _
          · have h2d : decide (m < C) = false := decide_eq_false (by omega)
            have HR3 := Lib.hid (HR3.out.trans (if_neg h2))
            have a0 := (Lib.cell_of_heap hx8 0).trans (rfl : _ = some (Value.string ⟨#[]⟩))
            have a1 := (Lib.cell_of_heap hx8 1).trans (rfl : _ = some (Value.string ⟨#[]⟩))
            have a2 := (Lib.cell_of_heap hx8 2).trans (rfl : _ = some (Value.bool false))
            have f0 := Lib.frozen_of_heap hx8 0
            have f1 := Lib.frozen_of_heap hx8 1
            have f2 := Lib.frozen_of_heap hx8 2
            have d0 := (Lib.cell_of_heap hy8 0).trans (rfl : _ = some (Value.string (stx K)))
            have d1 := (Lib.cell_of_heap hy8 1).trans (rfl : _ = some (Value.string v))
            have d2 := (Lib.cell_of_heap hy8 2).trans (rfl : _ = some (Value.bool false))
            go_wp2_with fail
            refine row_ent_tmp rfl rfl rfl rfl (rowAt_of_heap (heap_put (heap_put (heap_put hx8 _) _) _)) rfl ⟨?_, ?_, near_put (near_put (near_put N8 (Nat.le_refl _) hBw _) (Nat.le_refl _) hBw _) (Nat.le_refl _) hBw _⟩
            · rw [HR3.out]; rfl
            · rw [HR3.out]; exact ((k8.put hne4 _).put hne4 _).put hne4 _
      · rw [if_pos ⟨rfl, hz⟩]
        by_cases h1 : (la : Int) < n
        · have h1d : decide ((la : Int) < n) = true := decide_eq_true h1
          have HR3 := Lib.hid (HR2.out.trans (if_pos h1))
          clear HR2
          have a0 := (Lib.cell_of_heap hx6 0).trans (rfl : _ = some (Value.string ⟨#[]⟩))
          have a1 := (Lib.cell_of_heap hx6 1).trans (rfl : _ = some (Value.string ⟨#[]⟩))
          have a2 := (Lib.cell_of_heap hx6 2).trans (rfl : _ = some (Value.bool false))
          have f0 := Lib.frozen_of_heap hx6 0
          have f1 := Lib.frozen_of_heap hx6 1
          have f2 := Lib.frozen_of_heap hx6 2
          go_wp2_with fail
          refine row_ent_tmp rfl rfl rfl rfl (rowAt_of_heap (heap_put (heap_put (heap_put hx6 _) _) _)) rfl ⟨?_, ?_, near_put (near_put (near_put N6 (Nat.le_refl _) hBw _) (Nat.le_refl _) hBw _) (Nat.le_refl _) hBw _⟩
          · rw [HR3.out]; rfl
          · rw [HR3.out]; exact ((k6.put hne4 _).put hne4 _).put hne4 _
        · have h1d : decide ((la : Int) < n) = false := decide_eq_false h1
          have HR3 := Lib.hid (HR2.out.trans (if_neg h1))
          obtain ⟨m, rfl⟩ : ∃ m : Nat, n = m := ⟨n.toNat, by omega⟩
          have hml : m ≤ la := by omega
          have hml' : (m : Int) ≤ la := by omega
          rw [Int.toNat_natCast] at HR3
          have HEX : Hid ((stx a).extract 0 m ++ t = stx (a.take m ++ t.data.toList)) := Lib.hid (by
            rw [show t = stx t.data.toList from rfl, show (stx a).extract 0 m = stx (a.take m) from by
              apply ByteArray.ext
              rw [ByteArray.data_extract]
              apply Array.toList_inj.1
              simp [List.extract_eq_take_drop]]
            exact stx_append _ _)
          have hts : (t.size : Int) ≤ 65536 := by have := HTS.out; omega
          have hes : (((stx a).extract 0 m).size : Int) ≤ 1000000 := by
            rw [ByteArray.size_extract]
            omega
          have hkl : (a.take m ++ t.data.toList).length ≤ 1100000 := by
            rw [List.length_append, List.length_take]
            have : t.data.toList.length = t.size := rfl
            have := HTS.out
            omega
          have HCM := Lib.hid (fun w => kcommon_any2 a (a.take m ++ t.data.toList) w (by rw [hla]; omega) (by omega))
          have hcl := (commonB_le a (a.take m ++ t.data.toList)).1
          obtain ⟨K, hK⟩ : ∃ K, a.take m ++ t.data.toList = K := ⟨_, rfl⟩
          rw [hK] at HR3 HEX HCM hcl
          obtain ⟨C, hC⟩ : ∃ C, commonB a K = C := ⟨_, rfl⟩
          rw [hC] at HR3 HCM hcl
          have hC1 : (C : Int) ≤ 1000000 := by omega
          have hy7 := heap_put (j := 0) hy6 (.string (stx K))
          have hx7 : (w6.setCell ⟨w3.heap.size, 0, none⟩ (.string (stx K))).heap[w.heap.size]? = _ := (Below.heap_setCell _ _ _ _ hnxy).trans hx6
          have k7 := k6.put (p := ⟨w3.heap.size, 0, none⟩) hney (.string (stx K))
          have N7 := near_put N6 (p := ⟨w3.heap.size, 0, none⟩) hwy hBw (.string (stx K))
          have hB7 : B ≤ (w6.setCell ⟨w3.heap.size, 0, none⟩ (.string (stx K))).heap.size := by simpa [World.setCell] using hB6
          have d0 := (Lib.cell_of_heap hy7 0).trans (rfl : _ = some (Value.string (stx K)))
          have y0 := (Lib.cell_of_heap hy6 0).trans (rfl : _ = some (Value.string ⟨#[]⟩))
          have g0 := Lib.frozen_of_heap hy6 0
          have hca := HEX.out
          clear h1 h1d HR2 hkl hK hC HEX hx6 hy6 k6 N6 hB6 hcl hv1 hv0
          go_wp2_with fail
          generalize w6.setCell ⟨w3.heap.size, 0, none⟩ (.string (stx K)) = W7 at *
          clear y0 g0
          refine (HCM.out _).mono ?_
          rintro e w8 ⟨rfl, b8⟩
          have hx8 := (b8.block _ (heap_lt hx7)).trans hx7
          have hy8 := (b8.block _ (heap_lt hy7)).trans hy7
          have k8 : ReaderAt B b s4 0 w8 := ⟨k7.1, (b8.block b (heap_lt k7.2)).trans k7.2⟩
          have N8 := N7.trans (b8.near hB7)
          clear HCM b8 hx7 hy7 k7 N7 hB7 d0
          by_cases h2 : (m : Int) < C
          · have h2d : decide (m < C) = true := decide_eq_true (by omega)
            have HR3 := Lib.hid (HR3.out.trans (if_pos h2))
            have a0 := (Lib.cell_of_heap hx8 0).trans (rfl : _ = some (Value.string ⟨#[]⟩))
            have a1 := (Lib.cell_of_heap hx8 1).trans (rfl : _ = some (Value.string ⟨#[]⟩))
            have a2 := (Lib.cell_of_heap hx8 2).trans (rfl : _ = some (Value.bool false))
            have f0 := Lib.frozen_of_heap hx8 0
            have f1 := Lib.frozen_of_heap hx8 1
            have f2 := Lib.frozen_of_heap hx8 2
            go_wp2_with fail
            refine row_ent_tmp rfl rfl rfl rfl (rowAt_of_heap (heap_put (heap_put (heap_put hx8 _) _) _)) rfl ⟨?_, ?_, near_put (near_put (near_put N8 (Nat.le_refl _) hBw _) (Nat.le_refl _) hBw _) (Nat.le_refl _) hBw _⟩
            · rw [HR3.out]; rfl
            · rw [HR3.out]; exact ((k8.put hne4 _).put hne4 _).put hne4 _
          · have h2d : decide (m < C) = false := decide_eq_false (by omega)
            have HR3 := Lib.hid (HR3.out.trans (if_neg h2))
            have a0 := (Lib.cell_of_heap hx8 0).trans (rfl : _ = some (Value.string ⟨#[]⟩))
            have a1 := (Lib.cell_of_heap hx8 1).trans (rfl : _ = some (Value.string ⟨#[]⟩))
            have a2 := (Lib.cell_of_heap hx8 2).trans (rfl : _ = some (Value.bool false))
            have f0 := Lib.frozen_of_heap hx8 0
            have f1 := Lib.frozen_of_heap hx8 1
            have f2 := Lib.frozen_of_heap hx8 2
            have d0 := (Lib.cell_of_heap hy8 0).trans (rfl : _ = some (Value.string (stx K)))
            have d1 := (Lib.cell_of_heap hy8 1).trans (rfl : _ = some (Value.string v))
            have d2 := (Lib.cell_of_heap hy8 2).trans (rfl : _ = some (Value.bool false))
            go_wp2_with fail
            refine row_ent_tmp rfl rfl rfl rfl (rowAt_of_heap (heap_put (heap_put (heap_put hx8 _) _) _)) rfl ⟨?_, ?_, near_put (near_put (near_put N8 (Nat.le_refl _) hBw _) (Nat.le_refl _) hBw _) (Nat.le_refl _) hBw _⟩
            · rw [HR3.out]; rfl
            · rw [HR3.out]; exact ((k8.put hne4 _).put hne4 _).put hne4 _
    · rw [if_neg (fun q => hE q.1)]
      by_cases hE3 : e4 = 3
      · subst hE3
        have HR2 := Lib.hid (HR.out.symm.trans (if_neg (by simp)))
        clear HR
        by_cases h1 : (la : Int) < n
        · have h1d : decide ((la : Int) < n) = true := decide_eq_true h1
          have HR3 := Lib.hid (HR2.out.trans (if_pos h1))
          clear HR2
          have a0 := (Lib.cell_of_heap hx6 0).trans (rfl : _ = some (Value.string ⟨#[]⟩))
          have a1 := (Lib.cell_of_heap hx6 1).trans (rfl : _ = some (Value.string ⟨#[]⟩))
          have a2 := (Lib.cell_of_heap hx6 2).trans (rfl : _ = some (Value.bool false))
          have f0 := Lib.frozen_of_heap hx6 0
          have f1 := Lib.frozen_of_heap hx6 1
          have f2 := Lib.frozen_of_heap hx6 2
          go_wp2_with fail
          refine row_ent_tmp rfl rfl rfl rfl (rowAt_of_heap (heap_put (heap_put (heap_put hx6 _) _) _)) rfl ⟨?_, ?_, near_put (near_put (near_put N6 (Nat.le_refl _) hBw _) (Nat.le_refl _) hBw _) (Nat.le_refl _) hBw _⟩
          · rw [HR3.out]; rfl
          · rw [HR3.out]; exact ((k6.put hne4 _).put hne4 _).put hne4 _
        · have h1d : decide ((la : Int) < n) = false := decide_eq_false h1
          have HR3 := Lib.hid (HR2.out.trans (if_neg h1))
          obtain ⟨m, rfl⟩ : ∃ m : Nat, n = m := ⟨n.toNat, by omega⟩
          have hml : m ≤ la := by omega
          have hml' : (m : Int) ≤ la := by omega
          rw [Int.toNat_natCast] at HR3
          have HEX : Hid ((stx a).extract 0 m ++ t = stx (a.take m ++ t.data.toList)) := Lib.hid (by
            rw [show t = stx t.data.toList from rfl, show (stx a).extract 0 m = stx (a.take m) from by
              apply ByteArray.ext
              rw [ByteArray.data_extract]
              apply Array.toList_inj.1
              simp [List.extract_eq_take_drop]]
            exact stx_append _ _)
          have hts : (t.size : Int) ≤ 65536 := by have := HTS.out; omega
          have hes : (((stx a).extract 0 m).size : Int) ≤ 1000000 := by
            rw [ByteArray.size_extract]
            omega
          have hkl : (a.take m ++ t.data.toList).length ≤ 1100000 := by
            rw [List.length_append, List.length_take]
            have : t.data.toList.length = t.size := rfl
            have := HTS.out
            omega
          have HCM := Lib.hid (fun w => kcommon_any2 a (a.take m ++ t.data.toList) w (by rw [hla]; omega) (by omega))
          have hcl := (commonB_le a (a.take m ++ t.data.toList)).1
          obtain ⟨K, hK⟩ : ∃ K, a.take m ++ t.data.toList = K := ⟨_, rfl⟩
          rw [hK] at HR3 HEX HCM hcl
          obtain ⟨C, hC⟩ : ∃ C, commonB a K = C := ⟨_, rfl⟩
          rw [hC] at HR3 HCM hcl
          have hC1 : (C : Int) ≤ 1000000 := by omega
          have hy7 := heap_put (j := 0) hy6 (.string (stx K))
          have hx7 : (w6.setCell ⟨w3.heap.size, 0, none⟩ (.string (stx K))).heap[w.heap.size]? = _ := (Below.heap_setCell _ _ _ _ hnxy).trans hx6
          have k7 := k6.put (p := ⟨w3.heap.size, 0, none⟩) hney (.string (stx K))
          have N7 := near_put N6 (p := ⟨w3.heap.size, 0, none⟩) hwy hBw (.string (stx K))
          have hB7 : B ≤ (w6.setCell ⟨w3.heap.size, 0, none⟩ (.string (stx K))).heap.size := by simpa [World.setCell] using hB6
          have d0 := (Lib.cell_of_heap hy7 0).trans (rfl : _ = some (Value.string (stx K)))
          have y0 := (Lib.cell_of_heap hy6 0).trans (rfl : _ = some (Value.string ⟨#[]⟩))
          have g0 := Lib.frozen_of_heap hy6 0
          have hca := HEX.out
          clear h1 h1d HR2 hkl hK hC HEX hx6 hy6 k6 N6 hB6 hcl hv1 hv0
          go_wp2_with fail
          generalize w6.setCell ⟨w3.heap.size, 0, none⟩ (.string (stx K)) = W7 at *
          clear y0 g0
          refine (HCM.out _).mono ?_
          rintro e w8 ⟨rfl, b8⟩
          have hx8 := (b8.block _ (heap_lt hx7)).trans hx7
          have hy8 := (b8.block _ (heap_lt hy7)).trans hy7
          have k8 : ReaderAt B b s4 3 w8 := ⟨k7.1, (b8.block b (heap_lt k7.2)).trans k7.2⟩
          have N8 := N7.trans (b8.near hB7)
          clear HCM b8 hx7 hy7 k7 N7 hB7 d0
          by_cases h2 : (m : Int) < C
          · have h2d : decide (m < C) = true := decide_eq_true (by omega)
            have HR3 := Lib.hid (HR3.out.trans (if_pos h2))
            have a0 := (Lib.cell_of_heap hx8 0).trans (rfl : _ = some (Value.string ⟨#[]⟩))
            have a1 := (Lib.cell_of_heap hx8 1).trans (rfl : _ = some (Value.string ⟨#[]⟩))
            have a2 := (Lib.cell_of_heap hx8 2).trans (rfl : _ = some (Value.bool false))
            have f0 := Lib.frozen_of_heap hx8 0
            have f1 := Lib.frozen_of_heap hx8 1
            have f2 := Lib.frozen_of_heap hx8 2
            go_wp2_with fail
            refine row_ent_tmp rfl rfl rfl rfl (rowAt_of_heap (heap_put (heap_put (heap_put hx8 _) _) _)) rfl ⟨?_, ?_, near_put (near_put (near_put N8 (Nat.le_refl _) hBw _) (Nat.le_refl _) hBw _) (Nat.le_refl _) hBw _⟩
            · rw [HR3.out]; rfl
            · rw [HR3.out]; exact ((k8.put hne4 _).put hne4 _).put hne4 _
          · have h2d : decide (m < C) = false := decide_eq_false (by omega)
            have HR3 := Lib.hid (HR3.out.trans (if_neg h2))
            have a0 := (Lib.cell_of_heap hx8 0).trans (rfl : _ = some (Value.string ⟨#[]⟩))
            have a1 := (Lib.cell_of_heap hx8 1).trans (rfl : _ = some (Value.string ⟨#[]⟩))
            have a2 := (Lib.cell_of_heap hx8 2).trans (rfl : _ = some (Value.bool false))
            have f0 := Lib.frozen_of_heap hx8 0
            have f1 := Lib.frozen_of_heap hx8 1
            have f2 := Lib.frozen_of_heap hx8 2
            have d0 := (Lib.cell_of_heap hy8 0).trans (rfl : _ = some (Value.string (stx K)))
            have d1 := (Lib.cell_of_heap hy8 1).trans (rfl : _ = some (Value.string v))
            have d2 := (Lib.cell_of_heap hy8 2).trans (rfl : _ = some (Value.bool false))
            go_wp2_with fail
            refine row_ent_tmp rfl rfl rfl rfl (rowAt_of_heap (heap_put (heap_put (heap_put hx8 _) _) _)) rfl ⟨?_, ?_, near_put (near_put (near_put N8 (Nat.le_refl _) hBw _) (Nat.le_refl _) hBw _) (Nat.le_refl _) hBw _⟩
            · rw [HR3.out]; rfl
            · rw [HR3.out]; exact ((k8.put hne4 _).put hne4 _).put hne4 _
      · have HR3 := Lib.hid (HR.out.symm.trans (if_pos ⟨hE, hE3⟩))
        have p1 : (e4 != 0) = true := by rw [bne_iff_ne]; exact hE
        have p2 : (e4 != 3) = true := by rw [bne_iff_ne]; exact hE3
        clear HR
        have a0 := (Lib.cell_of_heap hx6 0).trans (rfl : _ = some (Value.string ⟨#[]⟩))
        have a1 := (Lib.cell_of_heap hx6 1).trans (rfl : _ = some (Value.string ⟨#[]⟩))
        have a2 := (Lib.cell_of_heap hx6 2).trans (rfl : _ = some (Value.bool false))
        have f0 := Lib.frozen_of_heap hx6 0
        have f1 := Lib.frozen_of_heap hx6 1
        have f2 := Lib.frozen_of_heap hx6 2
        go_wp2_with fail
        refine row_ent_tmp rfl rfl rfl rfl (rowAt_of_heap (heap_put (heap_put (heap_put hx6 _) _) _)) rfl ⟨?_, ?_, near_put (near_put (near_put N6 (Nat.le_refl _) hBw _) (Nat.le_refl _) hBw _) (Nat.le_refl _) hBw _⟩
        · rw [HR3.out]; rfl
        · rw [HR3.out]; exact ((k6.put hne4 _).put hne4 _).put hne4 _
end Go.Proofs.YtpdfchaamedeoaaDoor
namespace Go.Proofs.YtpdfchaamedeoaaDoor
open Go Go.RowKit

theorem OwnEnts.near {B b C : Nat} {w w' : World} {v : Value} {es : List Ent} (h : OwnEnts w C v es) (n : Near B b w w') (hb : b < C) : OwnEnts w' C v es :=
  ⟨h.1, h.2.imp id fun ⟨g, cap, cur, h1, h2, h3, h4⟩ => ⟨g, cap, cur, h1, h2, near_cells n h3 ent_ne_u8 (by omega), h4⟩⟩
theorem ReaderAt.grown {B b C : Nat} {s : ByteArray} {err : Int} {w w' : World} {v : Value} {es : List Ent} (h : ReaderAt B b s err w) (ho : OwnEnts w C v es) (hg : w.grownBy w' v.ownBlock) (hb : b < C) : ReaderAt B b s err w' :=
  ⟨h.1, (hg.block b (heap_lt h.2) (fun e => by have := (World.ownsRow.lt ho b e.symm).1; omega)).trans h.2⟩
def readE (l : List UInt8) : Int := if opE l ≠ 0 then opE l else (readB (opS l)).1
def readL (l : List UInt8) : List Ent := if readE l = 0 then (readB (opS l)).2 else []
def readN (l : List UInt8) : Int := if readE l = 0 then opN l else 0
/-- What Read leaves behind. -/
def ReadR (w : World) (l : List UInt8) (e : Ending) (w' : World) : Prop :=
  ∃ v, e = .returned (.tuple #[v, .int .i64 (readN l), .int .i64 (readE l)]) ∧ OwnEnts w' w.heap.size v (readL l) ∧ Below w.heap.size w w'
theorem readR_bad {w w' : World} {l : List UInt8} {x : Int} (h : readE l = x) (hx : x ≠ 0) (hb : Below w.heap.size w w') : ReadR w l (.returned (.tuple #[.slice none 0 0, .int .i64 0, .int .i64 x])) w' := by
  refine ⟨.slice none 0 0, ?_, ?_, hb⟩
  · rw [readN, h, if_neg hx]
  · rw [readL, h, if_neg hx]
    exact ownEnts_nil w' _
theorem opS_len (l : List UInt8) : (opS l).length ≤ 65536 := by
  unfold opS
  split
  · rename_i h
    rw [List.length_take]
    unfold opE at h
    split at h
    · cases h
    · split at h
      · cases h
      · rename_i q
        have : ¬ 65536 < num4 l % 16777216 := fun e => q (.inr e)
        omega
  · exact Nat.zero_le _
set_option maxRecDepth 100000 in
set_option maxHeartbeats 2000000 in
theorem kRead_any (s : ByteArray) (w : World) (hs : s.size ≤ 281474976710656) (ht : Tabs w) : Calls Tryd.prog 20 #[.string s] w (ReadR w s.data.toList) := by
  have HO := Lib.hid (sOpen_any s w hs ht)
  unfold OpenR at HO
  obtain ⟨l, hl⟩ : ∃ l, s.data.toList = l := ⟨_, rfl⟩
  rw [hl] at HO ⊢
  clear hl hs ht
  by_cases hE : opE l = 0
  case neg =>
    have hR : readE l = opE l := by rw [readE, if_pos hE]
    have hN : opN l = 0 := by rw [opN, if_neg hE]
    rw [hN] at HO
    have HR := Lib.hid hR
    generalize opE l = x at *
    have p1 : (x != 0) = true := by rw [bne_iff_ne]; exact hE
    generalize stx (opS l) = so at *
    clear hR hN
    have HX := Lib.hid hE
    clear hE
    go_enter Tryd.func20, Tryd.ntmps20
    go_wp2_with fail
    refine HO.out.mono ?_
    rintro e w1 ⟨rfl, b1⟩
    clear HO
    go_wp2_with fail
    go_ret3
    exact readR_bad HR.out HX.out b1
  case pos =>
    have hR : readE l = (readB (opS l)).1 := by rw [readE, if_neg (by rw [hE]; simp)]
    have hLL : readE l = 0 → readL l = (readB (opS l)).2 := fun e => by rw [readL, if_pos e]
    have hNN : readE l = 0 → readN l = opN l := fun e => by rw [readN, if_pos e]
    have htl := opS_len l
    rw [hE] at HO
    obtain ⟨T, hT⟩ : ∃ T, opS l = T := ⟨_, rfl⟩
    rw [hT] at HO hR hLL htl
    have HR := Lib.hid hR
    have HLL := Lib.hid hLL
    have HNN := Lib.hid hNN
    clear hR hLL hNN hE hT
    have HOP := Lib.hid (fun w => Open_any (stx T) w)
    rw [if_pos (by rw [stx_size]; exact htl)] at HOP
    obtain ⟨hn0, hn1⟩ := belV_range (stx T) 0 257 (by decide)
    have hsz : (numS (stx T) 0).size ≤ 65536 := Nat.le_trans (numS_sz _ _) (by rw [stx_size]; exact htl)
    have HBE := Lib.hid (fun B b w h => RBelow_any B b (stx T) 0 257 w h)
    have HRB : Hid (readB T = (let r := rdsB (belV (stx T) 0 257).toNat (numS (stx T) 0) (belE (stx T) 0 257) []; let d := doneR r.rest r.err; if r.fail ≠ 0 then (r.fail, []) else if d ≠ 0 then (d, []) else if checkB r.list ≠ 0 then ((checkB r.list : Int), []) else (0, r.list))) := Lib.hid rfl
    generalize numS (stx T) 0 = S1 at *
    generalize belE (stx T) 0 257 = E1 at *
    obtain ⟨n, hn⟩ : ∃ n : Nat, belV (stx T) 0 257 = n := ⟨(belV (stx T) 0 257).toNat, by omega⟩
    rw [hn] at HBE HRB hn0 hn1
    rw [Int.toNat_natCast] at HRB
    have hn3 : (n : Int) ≤ 256 := by omega
    clear hn hn0 hn1 htl
    obtain ⟨RR, hRR⟩ : ∃ RR, rdsB n S1 E1 [] = RR := ⟨_, rfl⟩
    have H0 : Hid (RR = behindB [] (rdsB (n - 0) S1 E1 [])) := Lib.hid (by rw [behindB_nil, ← hRR]; rfl)
    rw [hRR] at HRB
    clear hRR
    go_enter Tryd.func20, Tryd.ntmps20
    go_wp2_with fail
    refine HO.out.mono ?_
    rintro e w1 ⟨rfl, b1⟩
    clear HO
    go_wp2_with fail
    refine (HOP.out _).mono ?_
    rintro e w2 ⟨rfl, k2, b2⟩
    have hb2 : w1.heap.size < w2.heap.size := heap_lt k2.2
    have b3 := below_past b1 b2 b1.size
    have hwb := b1.size
    obtain ⟨b, hb⟩ : ∃ b, w1.heap.size = b := ⟨_, rfl⟩
    rw [hb] at k2 hb2 hwb
    have k2' : ReaderAt (b + 1) b (stx T) 0 w2 := ⟨rfl, k2.2⟩
    clear HOP b1 b2 k2
    go_wp2_with fail
    refine (HBE.out (b + 1) b _ k2').mono ?_
    rintro e w3 ⟨rfl, k3, n3⟩
    have b4 : Below w.heap.size w w3 := b3.trans (n3.below (by omega) hwb)
    have hB3 : b + 1 ≤ w3.heap.size := Nat.le_trans hb2 n3.size
    clear HBE k2' b3 n3 hb hb2
    go_wp2_with fail
    go_loopw [9, 10, 28] (fun u y x wr => ∃ (i : Nat) (K : List UInt8) (L : List Ent) (s1 : ByteArray) (e1 : Int), i ≤ n ∧ x = .int .i64 i ∧ y = .string (stx K) ∧ Hid (RR = behindB L (rdsB (n - i) s1 e1 K)) ∧ Hid (K.length + s1.size ≤ 65536 ∧ L.length = i ∧ ∀ z ∈ L, z.key.length ≤ 65536 ∧ z.val.length ≤ 65536) ∧ OwnEnts wr (b + 1) u L ∧ ReaderAt (b + 1) b s1 e1 wr ∧ Below w.heap.size w wr ∧ b + 1 ≤ wr.heap.size) (fun _ _ x _ => (n - intOf x).toNat)
    case atStart => exact ⟨0, [], [], S1, E1, Nat.zero_le _, rfl, rfl, H0, Lib.hid ⟨by simpa using hsz, rfl, by simp⟩, ownEnts_nil _ _, k3, b4, hB3⟩
    case round =>
      obtain ⟨i, K, L, s1, e1, hi, rfl, rfl, HI, HSZ, ow, k4, b5, hBr⟩ := hrel
      clear H0 hsz k3 b4 hB3
      by_cases hlt : i < n
      · have hlt' : (i : Int) < n := by omega
        have HRD := Lib.hid (kread_any (b + 1) b s1 e1 K wr k4 hBr (Nat.lt_succ_self b) (by have := HSZ.out.1; omega))
        have HSY := Lib.hid (rdB_sz s1 e1 K)
        obtain ⟨m, hm⟩ : ∃ m, n - i = m + 1 := ⟨n - i - 1, by omega⟩
        have hm2 : n - (i + 1) = m := by omega
        have HOK : Hid ((rdB s1 e1 K).fail = 0 → RR = behindB (L ++ [(rdB s1 e1 K).ent]) (rdsB (n - (i + 1)) (rdB s1 e1 K).rest (rdB s1 e1 K).err (rdB s1 e1 K).ent.key)) := Lib.hid fun e => by rw [HI.out, hm, hm2]; exact behindB_ok e
        have HBAD : Hid ((rdB s1 e1 K).fail ≠ 0 → RR.fail = (rdB s1 e1 K).fail) := Lib.hid fun e => by rw [HI.out, hm]; exact behindB_bad e
        obtain ⟨Q, hQ⟩ : ∃ Q, rdB s1 e1 K = Q := ⟨_, rfl⟩
        rw [hQ] at HRD HSY HOK HBAD
        obtain ⟨qf, qx, qs, qe⟩ := Q
        simp only at HRD HSY HOK HBAD
        unfold entA at HRD
        have hlen : L.length ≤ 1000000 := by have := HSZ.out.2.1; omega
        clear hQ HI hm hm2 k4
        go_wp2_with fail
        refine HRD.out.mono ?_
        rintro e w5 ⟨rfl, k5, n5⟩
        have ow5 := ow.near n5 (Nat.lt_succ_self b)
        have b6 : Below w.heap.size w w5 := b5.trans (n5.below (by omega) hwb)
        have hB5 := Nat.le_trans hBr n5.size
        have bq : Below w5.heap.size w5 (w5.alloc (.cells #[.string (stx qx.key), .string (stx qx.val), .bool qx.gone] 42)) := (Below.refl _ _).alloc (Nat.le_refl _) _
        have r6 := rowAt_alloc_at w5 #[.string (stx qx.key), .string (stx qx.val), .bool qx.gone] 42 _ rfl
        clear HRD ow b5 n5
        by_cases h0 : qf = 0
        · subst h0
          have ow6 := ow5.below bq
          have k6 : ReaderAt (b + 1) b qs qe (w5.alloc (.cells #[.string (stx qx.key), .string (stx qx.val), .bool qx.gone] 42)) := ⟨rfl, (bq.block b (heap_lt k5.2)).trans k5.2⟩
          have b7 := below_past b6 bq b6.size
          have hB6 := Nat.le_trans hB5 bq.size
          have HOK2 := Lib.hid (HOK.out rfl)
          have HNE : Hid (∀ g, u9.ownBlock = some g → g ≠ w5.heap.size) := Lib.hid fun g hg => Nat.ne_of_lt (World.ownsRow.lt ow5 g hg).2
          have c0 := cell_of_rowAt r6 0
          have c1 := cell_of_rowAt r6 1
          have c2 := cell_of_rowAt r6 2
          clear HOK HBAD ow5 k5 b6 bq hB5
          go_upto_region 12 with fail
          generalize w5.alloc (.cells #[.string (stx qx.key), .string (stx qx.val), .bool qx.gone] 42) = W6 at *
          have bq : Below W6.heap.size W6 (W6.alloc (.cells #[.string (stx qx.key), .string (stx qx.val), .bool qx.gone] 42)) := (Below.refl _ _).alloc (Nat.le_refl _) _
          have hc7 := entAt_new W6 qx _ rfl
          have ow7 := ow6.below bq
          have b8 := below_past b7 bq b7.size
          have hB7 := Nat.le_trans hB6 bq.size
          have k7 : ReaderAt (b + 1) b qs qe (W6.alloc (.cells #[.string (stx qx.key), .string (stx qx.val), .bool qx.gone] 42)) := ⟨rfl, (bq.block b (heap_lt k6.2)).trans k6.2⟩
          have r7 := rowAt_past bq r6
          clear ow6 b7 k6 r6 hB6 bq
          go_wp2_with (at_builtin; refine wpList_put_ent rfl _ _ rfl (b + 1) _ L rfl ow7 qx _ 1 rfl hc7 hB7 hlen ?_)
          intro v8 w8 ow8 hg8 _
          have hl7 : w5.heap.size < (W6.alloc (.cells #[.string (stx qx.key), .string (stx qx.val), .bool qx.gone] 42)).heap.size := by
            obtain ⟨t7, ht7⟩ := heap_of_rowAt r7
            exact heap_lt ht7
          have r8 : rowAt w8 w5.heap.size = some #[.string (stx qx.key), .string (stx qx.val), .bool qx.gone] := by
            rw [← r7]
            unfold rowAt
            rw [hg8.block _ hl7 (fun e => HNE.out _ e.symm rfl)]
          have c8 := cell_of_rowAt r8 0
          have k8 := k7.grown ow7 hg8 (Nat.lt_succ_self b)
          have b9 : Below w.heap.size w w8 := (ow7.low (B' := w.heap.size) (by omega)).grown hg8 b8 b8.size
          have hB8 := Nat.le_trans hB7 hg8.size
          have HSZ2 : Hid (qx.key.length + qs.size ≤ 65536 ∧ (L ++ [qx]).length = i + 1 ∧ ∀ z ∈ L ++ [qx], z.key.length ≤ 65536 ∧ z.val.length ≤ 65536) := Lib.hid (by
            obtain ⟨z1, z2, z3⟩ := HSZ.out
            obtain ⟨y1, y2, y3⟩ := HSY.out
            refine ⟨by omega, by rw [List.length_append, z2]; rfl, fun z hz => ?_⟩
            rcases List.mem_append.1 hz with h | h
            · exact z3 z h
            · obtain rfl := List.mem_singleton.1 h
              omega)
          clear ow7 hg8 k7 r7 r8 hl7 hB7 b8 hc7 HSZ HSY HNE c0 c1 c2
          go_wp2_with fail
          exact ⟨⟨i + 1, qx.key, L ++ [qx], qs, qe, hlt, by go_num, rfl, HOK2, HSZ2, ow8, k8, b9, hB8⟩, by simp [intOf]; omega⟩
        · have p1 : (qf != 0) = true := by rw [bne_iff_ne]; exact h0
          have HX := Lib.hid h0
          have b7 := below_past b6 bq b6.size
          have HF := Lib.hid (HBAD.out h0)
          clear HOK HBAD ow5 k5 b6 bq hB5 h0 r6
          go_wp2_with fail
          go_ret3
          refine readR_bad (x := qf) ?_ HX.out b7
          rw [HR.out, HRB.out, HF.out, if_pos HX.out]
      · obtain rfl : i = n := by omega
        have HRR : Hid (RR = ⟨0, L, s1, e1⟩) := Lib.hid (by rw [HI.out, Nat.sub_self]; unfold behindB rdsB; simp)
        have HD := Lib.hid (RDone_any (b + 1) b s1 e1 wr k4)
        rw [show (if e1 = 0 ∧ s1.size ≠ 0 then (3 : Int) else e1) = doneR s1 e1 from rfl] at HD
        rw [HRR.out] at HRB
        simp only at HRB
        rw [if_neg (by simp)] at HRB
        have HCK := Lib.hid (fun w (h : EntsAt w u9 L) => kCheck_any u9 L w h (fun z hz => by have := HSZ.out.2.2 z hz; omega))
        clear HI k4
        generalize doneR s1 e1 = D at *
        by_cases hD : D = 0
        · subst hD
          rw [if_neg (by simp)] at HRB
          go_wp2_with fail
          refine HD.out.mono ?_
          rintro e w5 ⟨rfl, b6⟩
          have ow5 := ow.below b6
          have b7 := below_past b5 b6 b5.size
          have HC2 := Lib.hid (HCK.out _ ow5.lie)
          clear HD HCK ow b5 b6
          go_wp2_with fail
          refine HC2.out.mono ?_
          rintro e w6 ⟨rfl, b8⟩
          have ow6 := ow5.below b8
          have b9 := below_past b7 b8 b7.size
          clear HC2 ow5 b7 b8
          by_cases hC : checkB L = 0
          · have hR0 : readE l = 0 := by rw [HR.out, HRB.out, if_neg (by rw [hC]; simp)]
            have hRL : readL l = L := by rw [HLL.out hR0, HRB.out, if_neg (by rw [hC]; simp)]
            have hRN := HNN.out hR0
            rw [hC]
            have HRs := Lib.hid (⟨hR0, hRL, hRN⟩ : readE l = 0 ∧ readL l = L ∧ readN l = (opN l : Nat))
            clear hR0 hRL hRN hC
            go_wp2_with fail
            go_ret3
            refine ⟨u9, ?_, ?_, b9⟩
            · rw [HRs.out.1, HRs.out.2.2]; rfl
            · rw [HRs.out.2.1]; exact ow6.low (by omega)
          · have hR1 : readE l = (checkB L : Nat) := by rw [HR.out, HRB.out, if_pos hC]
            have HR1 := Lib.hid hR1
            generalize checkB L = x at *
            have p1 : ((x : Int) != 0) = true := by rw [bne_iff_ne]; omega
            have p2 : (x != 0) = true := by rw [bne_iff_ne]; exact hC
            have HX := Lib.hid hC
            clear hR1 hC
            go_wp2_with fail
            go_ret3
            exact readR_bad HR1.out (by have := HX.out; omega) b9
        · have HR1 : Hid (readE l = D) := Lib.hid (by rw [HR.out, HRB.out, if_pos hD])
          have p1 : (D != 0) = true := by rw [bne_iff_ne]; exact hD
          have HX := Lib.hid hD
          clear hD HRB HCK
          go_wp2_with fail
          refine HD.out.mono ?_
          rintro e w5 ⟨rfl, b6⟩
          have b7 := below_past b5 b6 b5.size
          clear HD b5 b6
          go_wp2_with fail
          go_ret3
          exact readR_bad HR1.out HX.out b7
end Go.Proofs.YtpdfchaamedeoaaDoor
