/- Blocks: an entry is read. Conditions: none. -/
import Derived.Test.YtpdfchaamedeoaaDoorBlock4
namespace Go.Proofs.YtpdfchaamedeoaaDoor
open Go Go.RowKit

theorem near_put {B b : Nat} {a w : World} (h : Near B b a w) {p : Addr} (hp : a.heap.size ≤ p.block) (hB : B ≤ a.heap.size) (u : Value) : Near B b a (w.setCell p u) :=
  ⟨h.os, h.tape, h.output, by simpa [World.setCell] using h.size, fun k hk hn => (Below.heap_setCell _ _ _ _ (by omega)).trans (h.block k hk hn), fun k hk hn hb => (Below.heap_setCell _ _ _ _ (by omega)).trans (h.far k hk hn hb)⟩
theorem near_row {B b : Nat} {a w : World} (h : Near B b a w) {g : Nat} (hp : a.heap.size ≤ g) (hB : B ≤ a.heap.size) (c : Array Value) : Near B b a (w.setRow g c) := h.setRow (Nat.le_trans hB hp) hp c
theorem ReaderAt.put {B b : Nat} {s : ByteArray} {err : Int} {w : World} (h : ReaderAt B b s err w) {p : Addr} (hp : p.block ≠ b) (u : Value) : ReaderAt B b s err (w.setCell p u) :=
  ⟨h.1, (Below.heap_setCell _ _ _ _ (fun e => hp e.symm)).trans h.2⟩
theorem ReaderAt.row {B b : Nat} {s : ByteArray} {err : Int} {w : World} (h : ReaderAt B b s err w) {g : Nat} (hp : g ≠ b) (c : Array Value) : ReaderAt B b s err (w.setRow g c) :=
  ⟨h.1, (setRow_other w g b c (fun e => hp e.symm)).trans h.2⟩
theorem numV_top (s : ByteArray) (err : Int) : numV s err < 9223372036854775808 := by
  unfold numV numOk
  split
  · decide
  · split
    · decide
    · rename_i h
      unfold numBad at h
      simp only [decide_eq_true_eq, not_or] at h
      omega
theorem row_ent_tmp {ops : Func} {p q : Tmp} {a : Act} {w : World} {b : Nat} {c : Array Value} {u : Value} {Q : Ending → World → Prop} (h : ops.results = #[.cell p 42, .tmp q]) (hp : a.tmps.getD p undef = .pointer (some ⟨b, 0, none⟩)) (hq : a.tmps.getD q undef = u) (hd : a.defers = [])
    (hr : rowAt w b = some c) (hc : c.size = 3) (hQ : Q (.returned (.tuple #[.agg c, u])) w) : bodyPost Tryd.prog ops Q .ret a w := by
  subst hq
  exact bodyPost_ret (results_row_tmp h a.tmps w b _ _ hp hr Tryd.underlying42 rfl (by rw [hc]; kernel_rfl)) hd hQ
set_option maxRecDepth 100000 in
set_option maxHeartbeats 2000000 in
theorem kread_any (B b : Nat) (s : ByteArray) (err : Int) (a : List UInt8) (w : World) (h : ReaderAt B b s err w) (hBw : B ≤ w.heap.size) (hb : b < B) (ha : a.length ≤ 1000000) :
    Calls Tryd.prog 45 #[.pointer (some ⟨b, 0, none⟩), .string (stx a)] w fun e w' => e = .returned (.tuple #[entA (rdB s err a).ent, .int .i64 (rdB s err a).fail]) ∧ ReaderAt B b (rdB s err a).rest (rdB s err a).err w' ∧ Near B b w w' := by
  have b0 : Below w.heap.size w (w.alloc (.cells #[.string ⟨#[]⟩, .string ⟨#[]⟩, .bool false] 42)) := (Below.refl _ _).alloc (Nat.le_refl _) _
  have hx4 : (w.alloc (.cells #[.string ⟨#[]⟩, .string ⟨#[]⟩, .bool false] 42)).heap[w.heap.size]? = some (.cells #[.string ⟨#[]⟩, .string ⟨#[]⟩, .bool false] 42) := heap_alloc_new w _
  have hne4 : w.heap.size ≠ b := by omega
  have k0 : ReaderAt B b s err (w.alloc (.cells #[.string ⟨#[]⟩, .string ⟨#[]⟩, .bool false] 42)) := ⟨h.1, (b0.block b (heap_lt h.2)).trans h.2⟩
  have N0 : Near B b w (w.alloc (.cells #[.string ⟨#[]⟩, .string ⟨#[]⟩, .bool false] 42)) := b0.near hBw
  have hB0 := Nat.le_trans hBw b0.size
  have HNU := Lib.hid (RNumber_all B b s err _ k0)
  have HTX := Lib.hid (fun w h hb => RText_any B b (numS s err) (numE s err) w h hb)
  have HFL := Lib.hid (fun w h => RFlag_any B b (textR (numS s err) (numE s err)) (textE (numS s err) (numE s err)) w h)
  have hv0 := numV_nonneg s err
  have hv1 := numV_top s err
  have HTS := Lib.hid (textV_size (numS s err) (numE s err))
  obtain ⟨RD, hRD⟩ : ∃ RD, rdB s err a = RD := ⟨_, rfl⟩
  have HRD := hRD
  unfold rdB at HRD
  simp only at HRD
  rw [hRD]
  clear hRD k0 h
  generalize numV s err = n at *
  generalize textV (numS s err) (numE s err) = t at *
  generalize textR (numS s err) (numE s err) = s2 at *
  generalize textE (numS s err) (numE s err) = e2 at *
  generalize numS s err = s1 at *
  generalize numE s err = e1 at *
  generalize flagV s2 e2 = g at *
  have HTV := Lib.hid (fun w h hb => RText_any B b (takeR s2 e2 1) (octE s2 e2 1) w h hb)
  have HVS := Lib.hid (textV_size (takeR s2 e2 1) (octE s2 e2 1))
  generalize textV (takeR s2 e2 1) (octE s2 e2 1) = v at *
  generalize textR (takeR s2 e2 1) (octE s2 e2 1) = s4 at *
  generalize textE (takeR s2 e2 1) (octE s2 e2 1) = e4 at *
  generalize takeR s2 e2 1 = s3 at *
  generalize octE s2 e2 1 = e3 at *
  have HR := Lib.hid HRD
  clear HRD
  go_enter Tryd.func45, Tryd.ntmps45
  go_wp2_with fail
  generalize (w.alloc (.cells #[.string ⟨#[]⟩, .string ⟨#[]⟩, .bool false] 42)) = W at *
  refine HNU.out.mono ?_
  rintro e w1 ⟨rfl, k1, n1⟩
  have hx1 := near_cells n1 hx4 ent_ne_u8 hne4
  have N1 := N0.trans n1
  have hB1 := Nat.le_trans hB0 n1.size
  have H1 := Lib.hid (HTX.out w1 k1 hB1)
  clear HNU HTX n1 k1 hx4 N0 b0 hB0
  go_wp2_with fail
  refine H1.out.mono ?_
  rintro e w2 ⟨rfl, k2, n2⟩
  have hx2 := near_cells n2 hx1 ent_ne_u8 hne4
  have N2 := N1.trans n2
  have hB2 := Nat.le_trans hB1 n2.size
  have H2 := Lib.hid (HFL.out w2 k2)
  clear H1 HFL n2 k2 hx1 N1 hB1
  go_wp2_with fail
  refine H2.out.mono ?_
  rintro e w3 ⟨rfl, k3, n3⟩
  have hx3 := near_cells n3 hx2 ent_ne_u8 hne4
  have N3 := N2.trans n3
  have hB3 := Nat.le_trans hB2 n3.size
  have bq : Below w3.heap.size w3 (w3.alloc (.cells #[.string ⟨#[]⟩, .string ⟨#[]⟩, .bool g] 42)) := (Below.refl _ _).alloc (Nat.le_refl _) _
  have hy : (w3.alloc (.cells #[.string ⟨#[]⟩, .string ⟨#[]⟩, .bool g] 42)).heap[w3.heap.size]? = some (.cells #[.string ⟨#[]⟩, .string ⟨#[]⟩, .bool g] 42) := heap_alloc_new w3 _
  have hney : w3.heap.size ≠ b := by omega
  have hnxy : w.heap.size ≠ w3.heap.size := Nat.ne_of_lt (heap_lt hx3)
  have hwy : w.heap.size ≤ w3.heap.size := Nat.le_of_lt (heap_lt hx3)
  have hx5 := (bq.block _ (heap_lt hx3)).trans hx3
  have k5 : ReaderAt B b s3 e3 (w3.alloc (.cells #[.string ⟨#[]⟩, .string ⟨#[]⟩, .bool g] 42)) := ⟨k3.1, (bq.block b (heap_lt k3.2)).trans k3.2⟩
  have N5 := N3.trans (bq.near hB3)
  have hB5 := Nat.le_trans hB3 bq.size
  have c2 := (Lib.cell_of_heap hy 2).trans (rfl : _ = some (Value.bool g))
  clear H2 n3 k3 hx2 hx3 N2 N3 hB2 hB3 bq
  obtain ⟨la, hla⟩ : ∃ la, a.length = la := ⟨_, rfl⟩
  have hsz : (stx a).size = la := by rw [stx_size, hla]
  rw [hla] at ha HR
  have hla1 : (la : Int) ≤ 1000000 := by omega
  cases g with
  | true =>
    simp only [if_true] at HR
    have HD := Lib.hid (RDone_any B b s3 e3 _ k5)
    clear HTV HVS
    go_wp2_with fail
    generalize (w3.alloc (.cells #[.string ⟨#[]⟩, .string ⟨#[]⟩, .bool true] 42)) = W3 at *
    clear c2
    refine HD.out.mono ?_
    rintro e w6 ⟨rfl, b6⟩
    have hx6 := (b6.block _ (heap_lt hx5)).trans hx5
    have hy6 := (b6.block _ (heap_lt hy)).trans hy
    have k6 : ReaderAt B b s3 e3 w6 := ⟨k5.1, (b6.block b (heap_lt k5.2)).trans k5.2⟩
    have N6 := N5.trans (b6.near hB5)
    have hB6 := Nat.le_trans hB5 b6.size
    clear HD b6 hx5 hy k5 N5 hB5
    by_cases hE : e3 = 0
    · subst hE
      have HR2 := Lib.hid (HR.out.symm.trans (if_neg (by simp)))
      clear HR
      by_cases hz : s3.size = 0
      · rw [if_neg (by simp [hz])]
        by_cases h1 : (la : Int) < n
        · have h1d : decide ((la : Int) < n) = true := decide_eq_true h1
          have HR3 := Lib.hid (HR2.out.trans (if_pos h1))
          clear HR2
          have a0 := (Lib.cell_of_heap hx6 0).trans (rfl : _ = some (Value.string ⟨#[]⟩))
          have a1 := (Lib.cell_of_heap hx6 1).trans (rfl : _ = some (Value.string ⟨#[]⟩))
          have a2 := (Lib.cell_of_heap hx6 2).trans (rfl : _ = some (Value.bool false))
          have f0 := Lib.frozen_of_heap hx6 0
          have f1 := Lib.frozen_of_heap hx6 1
          have f2 := Lib.frozen_of_heap hx6 2
          go_wp2_with fail
          refine row_ent_tmp rfl rfl rfl rfl (rowAt_of_heap (heap_put (heap_put (heap_put hx6 _) _) _)) rfl ⟨?_, ?_, near_put (near_put (near_put N6 (Nat.le_refl _) hBw _) (Nat.le_refl _) hBw _) (Nat.le_refl _) hBw _⟩
          · rw [HR3.out]; rfl
          · rw [HR3.out]; exact ((k6.put hne4 _).put hne4 _).put hne4 _
        · have h1d : decide ((la : Int) < n) = false := decide_eq_false h1
          have HR3 := Lib.hid (HR2.out.trans (if_neg h1))
          obtain ⟨m, rfl⟩ : ∃ m : Nat, n = m := ⟨n.toNat, by omega⟩
          have hml : m ≤ la := by omega
          have hml' : (m : Int) ≤ la := by omega
          rw [Int.toNat_natCast] at HR3
          have HEX : Hid ((stx a).extract 0 m ++ t = stx (a.take m ++ t.data.toList)) := Lib.hid (by
            rw [show t = stx t.data.toList from rfl, show (stx a).extract 0 m = stx (a.take m) from by
              apply ByteArray.ext
              rw [ByteArray.data_extract]
              apply Array.toList_inj.1
              simp [List.extract_eq_take_drop]]
            exact stx_append _ _)
          have hts : (t.size : Int) ≤ 65536 := by have := HTS.out; omega
          have hes : (((stx a).extract 0 m).size : Int) ≤ 1000000 := by
            rw [ByteArray.size_extract]
            omega
          have hkl : (a.take m ++ t.data.toList).length ≤ 1100000 := by
            rw [List.length_append, List.length_take]
            have : t.data.toList.length = t.size := rfl
            have := HTS.out
            omega
          have HCM := Lib.hid (fun w => kcommon_any2 a (a.take m ++ t.data.toList) w (by rw [hla]; omega) (by omega))
          have hcl := (commonB_le a (a.take m ++ t.data.toList)).1
          obtain ⟨K, hK⟩ : ∃ K, a.take m ++ t.data.toList = K := ⟨_, rfl⟩
          rw [hK] at HR3 HEX HCM hcl
          obtain ⟨C, hC⟩ : ∃ C, commonB a K = C := ⟨_, rfl⟩
          rw [hC] at HR3 HCM hcl
          have hC1 : (C : Int) ≤ 1000000 := by omega
          have hy7 := heap_put (j := 0) hy6 (.string (stx K))
          have hx7 : (w6.setCell ⟨w3.heap.size, 0, none⟩ (.string (stx K))).heap[w.heap.size]? = _ := (Below.heap_setCell _ _ _ _ hnxy).trans hx6
          have k7 := k6.put (p := ⟨w3.heap.size, 0, none⟩) hney (.string (stx K))
          have N7 := near_put N6 (p := ⟨w3.heap.size, 0, none⟩) hwy hBw (.string (stx K))
          have hB7 : B ≤ (w6.setCell ⟨w3.heap.size, 0, none⟩ (.string (stx K))).heap.size := by simpa [World.setCell] using hB6
          have d0 := (Lib.cell_of_heap hy7 0).trans (rfl : _ = some (Value.string (stx K)))
          have y0 := (Lib.cell_of_heap hy6 0).trans (rfl : _ = some (Value.string ⟨#[]⟩))
          have g0 := Lib.frozen_of_heap hy6 0
          have hca := HEX.out
          clear h1 h1d HR2 hkl hK hC HEX hx6 hy6 k6 N6 hB6 hcl hv1 hv0
          go_wp2_with fail
          generalize w6.setCell ⟨w3.heap.size, 0, none⟩ (.string (stx K)) = W7 at *
          clear y0 g0
          refine (HCM.out _).mono ?_
          rintro e w8 ⟨rfl, b8⟩
          have hx8 := (b8.block _ (heap_lt hx7)).trans hx7
          have hy8 := (b8.block _ (heap_lt hy7)).trans hy7
          have k8 : ReaderAt B b s3 0 w8 := ⟨k7.1, (b8.block b (heap_lt k7.2)).trans k7.2⟩
          have N8 := N7.trans (b8.near hB7)
          clear HCM b8 hx7 hy7 k7 N7 hB7 d0
          by_cases h2 : (m : Int) < C
          · have h2d : decide (m < C) = true := decide_eq_true (by omega)
            have HR3 := Lib.hid (HR3.out.trans (if_pos h2))
            have a0 := (Lib.cell_of_heap hx8 0).trans (rfl : _ = some (Value.string ⟨#[]⟩))
            have a1 := (Lib.cell_of_heap hx8 1).trans (rfl : _ = some (Value.string ⟨#[]⟩))
            have a2 := (Lib.cell_of_heap hx8 2).trans (rfl : _ = some (Value.bool false))
            have f0 := Lib.frozen_of_heap hx8 0
            have f1 := Lib.frozen_of_heap hx8 1
            have f2 := Lib.frozen_of_heap hx8 2
            go_wp2_with fail
            refine row_ent_tmp rfl rfl rfl rfl (rowAt_of_heap (heap_put (heap_put (heap_put hx8 _) _) _)) rfl ⟨?_, ?_, near_put (near_put (near_put N8 (Nat.le_refl _) hBw _) (Nat.le_refl _) hBw _) (Nat.le_refl _) hBw _⟩
            · rw [HR3.out]; rfl
            · rw [HR3.out]; exact ((k8.put hne4 _).put hne4 _).put hne4 _
          · have h2d : decide (m < C) = false := decide_eq_false (by omega)
            have HR3 := Lib.hid (HR3.out.trans (if_neg h2))
            have a0 := (Lib.cell_of_heap hx8 0).trans (rfl : _ = some (Value.string ⟨#[]⟩))
            have a1 := (Lib.cell_of_heap hx8 1).trans (rfl : _ = some (Value.string ⟨#[]⟩))
            have a2 := (Lib.cell_of_heap hx8 2).trans (rfl : _ = some (Value.bool false))
            have f0 := Lib.frozen_of_heap hx8 0
            have f1 := Lib.frozen_of_heap hx8 1
            have f2 := Lib.frozen_of_heap hx8 2
            have d0 := (Lib.cell_of_heap hy8 0).trans (rfl : _ = some (Value.string (stx K)))
            have d1 := (Lib.cell_of_heap hy8 1).trans (rfl : _ = some (Value.string ⟨#[]⟩))
            have d2 := (Lib.cell_of_heap hy8 2).trans (rfl : _ = some (Value.bool true))
            go_wp2_with fail
            refine row_ent_tmp rfl rfl rfl rfl (rowAt_of_heap (heap_put (heap_put (heap_put hx8 _) _) _)) rfl ⟨?_, ?_, near_put (near_put (near_put N8 (Nat.le_refl _) hBw _) (Nat.le_refl _) hBw _) (Nat.le_refl _) hBw _⟩
            · rw [HR3.out]; rfl
            · rw [HR3.out]; exact ((k8.put hne4 _).put hne4 _).put hne4 _
      · rw [if_pos ⟨rfl, hz⟩]
        by_cases h1 : (la : Int) < n
        · have h1d : decide ((la : Int) < n) = true := decide_eq_true h1
          have HR3 := Lib.hid (HR2.out.trans (if_pos h1))
          clear HR2
          have a0 := (Lib.cell_of_heap hx6 0).trans (rfl : _ = some (Value.string ⟨#[]⟩))
          have a1 := (Lib.cell_of_heap hx6 1).trans (rfl : _ = some (Value.string ⟨#[]⟩))
          have a2 := (Lib.cell_of_heap hx6 2).trans (rfl : _ = some (Value.bool false))
          have f0 := Lib.frozen_of_heap hx6 0
          have f1 := Lib.frozen_of_heap hx6 1
          have f2 := Lib.frozen_of_heap hx6 2
          go_wp2_with fail
          refine row_ent_tmp rfl rfl rfl rfl (rowAt_of_heap (heap_put (heap_put (heap_put hx6 _) _) _)) rfl ⟨?_, ?_, near_put (near_put (near_put N6 (Nat.le_refl _) hBw _) (Nat.le_refl _) hBw _) (Nat.le_refl _) hBw _⟩
          · rw [HR3.out]; rfl
          · rw [HR3.out]; exact ((k6.put hne4 _).put hne4 _).put hne4 _
        · have h1d : decide ((la : Int) < n) = false := decide_eq_false h1
          have HR3 := Lib.hid (HR2.out.trans (if_neg h1))
          obtain ⟨m, rfl⟩ : ∃ m : Nat, n = m := ⟨n.toNat, by omega⟩
          have hml : m ≤ la := by omega
          have hml' : (m : Int) ≤ la := by omega
          rw [Int.toNat_natCast] at HR3
          have HEX : Hid ((stx a).extract 0 m ++ t = stx (a.take m ++ t.data.toList)) := Lib.hid (by
            rw [show t = stx t.data.toList from rfl, show (stx a).extract 0 m = stx (a.take m) from by
              apply ByteArray.ext
              rw [ByteArray.data_extract]
              apply Array.toList_inj.1
              simp [List.extract_eq_take_drop]]
            exact stx_append _ _)
          have hts : (t.size : Int) ≤ 65536 := by have := HTS.out; omega
          have hes : (((stx a).extract 0 m).size : Int) ≤ 1000000 := by
            rw [ByteArray.size_extract]
            omega
          have hkl : (a.take m ++ t.data.toList).length ≤ 1100000 := by
            rw [List.length_append, List.length_take]
            have : t.data.toList.length = t.size := rfl
            have := HTS.out
            omega
          have HCM := Lib.hid (fun w => kcommon_any2 a (a.take m ++ t.data.toList) w (by rw [hla]; omega) (by omega))
          have hcl := (commonB_le a (a.take m ++ t.data.toList)).1
          obtain ⟨K, hK⟩ : ∃ K, a.take m ++ t.data.toList = K := ⟨_, rfl⟩
          rw [hK] at HR3 HEX HCM hcl
          obtain ⟨C, hC⟩ : ∃ C, commonB a K = C := ⟨_, rfl⟩
          rw [hC] at HR3 HCM hcl
          have hC1 : (C : Int) ≤ 1000000 := by omega
          have hy7 := heap_put (j := 0) hy6 (.string (stx K))
          have hx7 : (w6.setCell ⟨w3.heap.size, 0, none⟩ (.string (stx K))).heap[w.heap.size]? = _ := (Below.heap_setCell _ _ _ _ hnxy).trans hx6
          have k7 := k6.put (p := ⟨w3.heap.size, 0, none⟩) hney (.string (stx K))
          have N7 := near_put N6 (p := ⟨w3.heap.size, 0, none⟩) hwy hBw (.string (stx K))
          have hB7 : B ≤ (w6.setCell ⟨w3.heap.size, 0, none⟩ (.string (stx K))).heap.size := by simpa [World.setCell] using hB6
          have d0 := (Lib.cell_of_heap hy7 0).trans (rfl : _ = some (Value.string (stx K)))
          have y0 := (Lib.cell_of_heap hy6 0).trans (rfl : _ = some (Value.string ⟨#[]⟩))
          have g0 := Lib.frozen_of_heap hy6 0
          have hca := HEX.out
          clear h1 h1d HR2 hkl hK hC HEX hx6 hy6 k6 N6 hB6 hcl hv1 hv0
          go_wp2_with fail
          generalize w6.setCell ⟨w3.heap.size, 0, none⟩ (.string (stx K)) = W7 at *
          clear y0 g0
          refine (HCM.out _).mono ?_
          rintro e w8 ⟨rfl, b8⟩
          have hx8 := (b8.block _ (heap_lt hx7)).trans hx7
          have hy8 := (b8.block _ (heap_lt hy7)).trans hy7
          have k8 : ReaderAt B b s3 0 w8 := ⟨k7.1, (b8.block b (heap_lt k7.2)).trans k7.2⟩
          have N8 := N7.trans (b8.near hB7)
          clear HCM b8 hx7 hy7 k7 N7 hB7 d0
          by_cases h2 : (m : Int) < C
          · have h2d : decide (m < C) = true := decide_eq_true (by omega)
            have HR3 := Lib.hid (HR3.out.trans (if_pos h2))
            have a0 := (Lib.cell_of_heap hx8 0).trans (rfl : _ = some (Value.string ⟨#[]⟩))
            have a1 := (Lib.cell_of_heap hx8 1).trans (rfl : _ = some (Value.string ⟨#[]⟩))
            have a2 := (Lib.cell_of_heap hx8 2).trans (rfl : _ = some (Value.bool false))
            have f0 := Lib.frozen_of_heap hx8 0
            have f1 := Lib.frozen_of_heap hx8 1
            have f2 := Lib.frozen_of_heap hx8 2
            go_wp2_with fail
            refine row_ent_tmp rfl rfl rfl rfl (rowAt_of_heap (heap_put (heap_put (heap_put hx8 _) _) _)) rfl ⟨?_, ?_, near_put (near_put (near_put N8 (Nat.le_refl _) hBw _) (Nat.le_refl _) hBw _) (Nat.le_refl _) hBw _⟩
            · rw [HR3.out]; rfl
            · rw [HR3.out]; exact ((k8.put hne4 _).put hne4 _).put hne4 _
          · have h2d : decide (m < C) = false := decide_eq_false (by omega)
            have HR3 := Lib.hid (HR3.out.trans (if_neg h2))
            have a0 := (Lib.cell_of_heap hx8 0).trans (rfl : _ = some (Value.string ⟨#[]⟩))
            have a1 := (Lib.cell_of_heap hx8 1).trans (rfl : _ = some (Value.string ⟨#[]⟩))
            have a2 := (Lib.cell_of_heap hx8 2).trans (rfl : _ = some (Value.bool false))
            have f0 := Lib.frozen_of_heap hx8 0
            have f1 := Lib.frozen_of_heap hx8 1
            have f2 := Lib.frozen_of_heap hx8 2
            have d0 := (Lib.cell_of_heap hy8 0).trans (rfl : _ = some (Value.string (stx K)))
            have d1 := (Lib.cell_of_heap hy8 1).trans (rfl : _ = some (Value.string ⟨#[]⟩))
            have d2 := (Lib.cell_of_heap hy8 2).trans (rfl : _ = some (Value.bool true))
            go_wp2_with fail
            refine row_ent_tmp rfl rfl rfl rfl (rowAt_of_heap (heap_put (heap_put (heap_put hx8 _) _) _)) rfl ⟨?_, ?_, near_put (near_put (near_put N8 (Nat.le_refl _) hBw _) (Nat.le_refl _) hBw _) (Nat.le_refl _) hBw _⟩
            · rw [HR3.out]; rfl
            · rw [HR3.out]; exact ((k8.put hne4 _).put hne4 _).put hne4 _
    · rw [if_neg (fun q => hE q.1)]
      by_cases hE3 : e3 = 3
      · subst hE3
        have HR2 := Lib.hid (HR.out.symm.trans (if_neg (by simp)))
        clear HR
        by_cases h1 : (la : Int) < n
        · have h1d : decide ((la : Int) < n) = true := decide_eq_true h1
          have HR3 := Lib.hid (HR2.out.trans (if_pos h1))
          clear HR2
          have a0 := (Lib.cell_of_heap hx6 0).trans (rfl : _ = some (Value.string ⟨#[]⟩))
          have a1 := (Lib.cell_of_heap hx6 1).trans (rfl : _ = some (Value.string ⟨#[]⟩))
          have a2 := (Lib.cell_of_heap hx6 2).trans (rfl : _ = some (Value.bool false))
          have f0 := Lib.frozen_of_heap hx6 0
          have f1 := Lib.frozen_of_heap hx6 1
          have f2 := Lib.frozen_of_heap hx6 2
          go_wp2_with fail
          refine row_ent_tmp rfl rfl rfl rfl (rowAt_of_heap (heap_put (heap_put (heap_put hx6 _) _) _)) rfl ⟨?_, ?_, near_put (near_put (near_put N6 (Nat.le_refl _) hBw _) (Nat.le_refl _) hBw _) (Nat.le_refl _) hBw _⟩
          · rw [HR3.out]; rfl
          · rw [HR3.out]; exact ((k6.put hne4 _).put hne4 _).put hne4 _
        · have h1d : decide ((la : Int) < n) = false := decide_eq_false h1
          have HR3 := Lib.hid (HR2.out.trans (if_neg h1))
          obtain ⟨m, rfl⟩ : ∃ m : Nat, n = m := ⟨n.toNat, by omega⟩
          have hml : m ≤ la := by omega
          have hml' : (m : Int) ≤ la := by omega
          rw [Int.toNat_natCast] at HR3
          have HEX : Hid ((stx a).extract 0 m ++ t = stx (a.take m ++ t.data.toList)) := Lib.hid (by
            rw [show t = stx t.data.toList from rfl, show (stx a).extract 0 m = stx (a.take m) from by
              apply ByteArray.ext
              rw [ByteArray.data_extract]
              apply Array.toList_inj.1
              simp [List.extract_eq_take_drop]]
            exact stx_append _ _)
          have hts : (t.size : Int) ≤ 65536 := by have := HTS.out; omega
          have hes : (((stx a).extract 0 m).size : Int) ≤ 1000000 := by
            rw [ByteArray.size_extract]
            omega
          have hkl : (a.take m ++ t.data.toList).length ≤ 1100000 := by
            rw [List.length_append, List.length_take]
            have : t.data.toList.length = t.size := rfl
            have := HTS.out
            omega
          have HCM := Lib.hid (fun w => kcommon_any2 a (a.take m ++ t.data.toList) w (by rw [hla]; omega) (by omega))
          have hcl := (commonB_le a (a.take m ++ t.data.toList)).1
          obtain ⟨K, hK⟩ : ∃ K, a.take m ++ t.data.toList = K := ⟨_, rfl⟩
          rw [hK] at HR3 HEX HCM hcl
          obtain ⟨C, hC⟩ : ∃ C, commonB a K = C := ⟨_, rfl⟩
          rw [hC] at HR3 HCM hcl
          have hC1 : (C : Int) ≤ 1000000 := by omega
          have hy7 := heap_put (j := 0) hy6 (.string (stx K))
          have hx7 : (w6.setCell ⟨w3.heap.size, 0, none⟩ (.string (stx K))).heap[w.heap.size]? = _ := (Below.heap_setCell _ _ _ _ hnxy).trans hx6
          have k7 := k6.put (p := ⟨w3.heap.size, 0, none⟩) hney (.string (stx K))
          have N7 := near_put N6 (p := ⟨w3.heap.size, 0, none⟩) hwy hBw (.string (stx K))
          have hB7 : B ≤ (w6.setCell ⟨w3.heap.size, 0, none⟩ (.string (stx K))).heap.size := by simpa [World.setCell] using hB6
          have d0 := (Lib.cell_of_heap hy7 0).trans (rfl : _ = some (Value.string (stx K)))
          have y0 := (Lib.cell_of_heap hy6 0).trans (rfl : _ = some (Value.string ⟨#[]⟩))
          have g0 := Lib.frozen_of_heap hy6 0
          have hca := HEX.out
          clear h1 h1d HR2 hkl hK hC HEX hx6 hy6 k6 N6 hB6 hcl hv1 hv0
          go_wp2_with fail
          generalize w6.setCell ⟨w3.heap.size, 0, none⟩ (.string (stx K)) = W7 at *
          clear y0 g0
          refine (HCM.out _).mono ?_
          rintro e w8 ⟨rfl, b8⟩
          have hx8 := (b8.block _ (heap_lt hx7)).trans hx7
          have hy8 := (b8.block _ (heap_lt hy7)).trans hy7
          have k8 : ReaderAt B b s3 3 w8 := ⟨k7.1, (b8.block b (heap_lt k7.2)).trans k7.2⟩
          have N8 := N7.trans (b8.near hB7)
          clear HCM b8 hx7 hy7 k7 N7 hB7 d0
          by_cases h2 : (m : Int) < C
          · have h2d : decide (m < C) = true := decide_eq_true (by omega)
            have HR3 := Lib.hid (HR3.out.trans (if_pos h2))
            have a0 := (Lib.cell_of_heap hx8 0).trans (rfl : _ = some (Value.string ⟨#[]⟩))
            have a1 := (Lib.cell_of_heap hx8 1).trans (rfl : _ = some (Value.string ⟨#[]⟩))
            have a2 := (Lib.cell_of_heap hx8 2).trans (rfl : _ = some (Value.bool false))
            have f0 := Lib.frozen_of_heap hx8 0
            have f1 := Lib.frozen_of_heap hx8 1
            have f2 := Lib.frozen_of_heap hx8 2
            go_wp2_with fail
            refine row_ent_tmp rfl rfl rfl rfl (rowAt_of_heap (heap_put (heap_put (heap_put hx8 _) _) _)) rfl ⟨?_, ?_, near_put (near_put (near_put N8 (Nat.le_refl _) hBw _) (Nat.le_refl _) hBw _) (Nat.le_refl _) hBw _⟩
            · rw [HR3.out]; rfl
            · rw [HR3.out]; exact ((k8.put hne4 _).put hne4 _).put hne4 _
          · have h2d : decide (m < C) = false := decide_eq_false (by omega)
            have HR3 := Lib.hid (HR3.out.trans (if_neg h2))
            have a0 := (Lib.cell_of_heap hx8 0).trans (rfl : _ = some (Value.string ⟨#[]⟩))
            have a1 := (Lib.cell_of_heap hx8 1).trans (rfl : _ = some (Value.string ⟨#[]⟩))
            have a2 := (Lib.cell_of_heap hx8 2).trans (rfl : _ = some (Value.bool false))
            have f0 := Lib.frozen_of_heap hx8 0
            have f1 := Lib.frozen_of_heap hx8 1
            have f2 := Lib.frozen_of_heap hx8 2
            have d0 := (Lib.cell_of_heap hy8 0).trans (rfl : _ = some (Value.string (stx K)))
            have d1 := (Lib.cell_of_heap hy8 1).trans (rfl : _ = some (Value.string ⟨#[]⟩))
            have d2 := (Lib.cell_of_heap hy8 2).trans (rfl : _ = some (Value.bool true))
            go_wp2_with fail
            refine row_ent_tmp rfl rfl rfl rfl (rowAt_of_heap (heap_put (heap_put (heap_put hx8 _) _) _)) rfl ⟨?_, ?_, near_put (near_put (near_put N8 (Nat.le_refl _) hBw _) (Nat.le_refl _) hBw _) (Nat.le_refl _) hBw _⟩
            · rw [HR3.out]; rfl
            · rw [HR3.out]; exact ((k8.put hne4 _).put hne4 _).put hne4 _
      · have HR3 := Lib.hid (HR.out.symm.trans (if_pos ⟨hE, hE3⟩))
        have p1 : (e3 != 0) = true := by rw [bne_iff_ne]; exact hE
        have p2 : (e3 != 3) = true := by rw [bne_iff_ne]; exact hE3
        clear HR
        have a0 := (Lib.cell_of_heap hx6 0).trans (rfl : _ = some (Value.string ⟨#[]⟩))
        have a1 := (Lib.cell_of_heap hx6 1).trans (rfl : _ = some (Value.string ⟨#[]⟩))
        have a2 := (Lib.cell_of_heap hx6 2).trans (rfl : _ = some (Value.bool false))
        have f0 := Lib.frozen_of_heap hx6 0
        have f1 := Lib.frozen_of_heap hx6 1
        have f2 := Lib.frozen_of_heap hx6 2
        go_wp2_with fail
        refine row_ent_tmp rfl rfl rfl rfl (rowAt_of_heap (heap_put (heap_put (heap_put hx6 _) _) _)) rfl ⟨?_, ?_, near_put (near_put (near_put N6 (Nat.le_refl _) hBw _) (Nat.le_refl _) hBw _) (Nat.le_refl _) hBw _⟩
        · rw [HR3.out]; rfl
        · rw [HR3.out]; exact ((k6.put hne4 _).put hne4 _).put hne4 _
  | false =>
    simp only [Bool.false_eq_true, if_false] at HR
    have H3 := Lib.hid (HTV.out _ k5 hB5)
    clear HTV k5
    go_wp2_with fail
    generalize (w3.alloc (.cells #[.string ⟨#[]⟩, .string ⟨#[]⟩, .bool false] 42)) = W3 at *
    refine H3.out.mono ?_
    rintro e w5 ⟨rfl, k4, n4⟩
    have hx4 := near_cells n4 hx5 ent_ne_u8 hne4
    have hy4 := near_cells n4 hy ent_ne_u8 hney
    have N4 := N5.trans n4
    have hB4 := Nat.le_trans hB5 n4.size
    have y1 := (Lib.cell_of_heap hy4 1).trans (rfl : _ = some (Value.string ⟨#[]⟩))
    have g1 := Lib.frozen_of_heap hy4 1
    clear H3 c2 hx5 hy N5 hB5 n4
    have hy : (w5.setCell ⟨w3.heap.size, 1, none⟩ (.string v)).heap[w3.heap.size]? = some (.cells #[.string ⟨#[]⟩, .string v, .bool false] 42 (0, 0)) := heap_put (j := 1) hy4 (.string v)
    have hx5 := (Below.heap_setCell w5 ⟨w3.heap.size, 1, none⟩ (.string v) _ hnxy).trans hx4
    have k5 := k4.put (p := ⟨w3.heap.size, 1, none⟩) hney (.string v)
    have N5 := near_put N4 (p := ⟨w3.heap.size, 1, none⟩) hwy hBw (.string v)
    have hB5 : B ≤ (w5.setCell ⟨w3.heap.size, 1, none⟩ (.string v)).heap.size := by simpa [World.setCell] using hB4
    have HD := Lib.hid (RDone_any B b s4 e4 _ k5)
    clear hx4 hy4 k4 N4 hB4
    go_wp2_with fail
    generalize w5.setCell ⟨w3.heap.size, 1, none⟩ (.string v) = W4 at *
    clear y1 g1
    refine HD.out.mono ?_
    rintro e w6 ⟨rfl, b6⟩
    have hx6 := (b6.block _ (heap_lt hx5)).trans hx5
    have hy6 := (b6.block _ (heap_lt hy)).trans hy
    have k6 : ReaderAt B b s4 e4 w6 := ⟨k5.1, (b6.block b (heap_lt k5.2)).trans k5.2⟩
    have N6 := N5.trans (b6.near hB5)
    have hB6 := Nat.le_trans hB5 b6.size
    clear HD b6 hx5 hy k5 N5 hB5
    by_cases hE : e4 = 0
    · subst hE
      have HR2 := Lib.hid (HR.out.symm.trans (if_neg (by simp)))
      clear HR
      by_cases hz : s4.size = 0
      · rw [if_neg (by simp [hz])]
        by_cases h1 : (la : Int) < n
        · have h1d : decide ((la : Int) < n) = true := decide_eq_true h1
          have HR3 := Lib.hid (HR2.out.trans (if_pos h1))
          clear HR2
          have a0 := (Lib.cell_of_heap hx6 0).trans (rfl : _ = some (Value.string ⟨#[]⟩))
          have a1 := (Lib.cell_of_heap hx6 1).trans (rfl : _ = some (Value.string ⟨#[]⟩))
          have a2 := (Lib.cell_of_heap hx6 2).trans (rfl : _ = some (Value.bool false))
          have f0 := Lib.frozen_of_heap hx6 0
          have f1 := Lib.frozen_of_heap hx6 1
          have f2 := Lib.frozen_of_heap hx6 2
          go_wp2_with fail
          refine row_ent_tmp rfl rfl rfl rfl (rowAt_of_heap (heap_put (heap_put (heap_put hx6 _) _) _)) rfl ⟨?_, ?_, near_put (near_put (near_put N6 (Nat.le_refl _) hBw _) (Nat.le_refl _) hBw _) (Nat.le_refl _) hBw _⟩
          · rw [HR3.out]; rfl
          · rw [HR3.out]; exact ((k6.put hne4 _).put hne4 _).put hne4 _
        · have h1d : decide ((la : Int) < n) = false := decide_eq_false h1
          have HR3 := Lib.hid (HR2.out.trans (if_neg h1))
          obtain ⟨m, rfl⟩ : ∃ m : Nat, n = m := ⟨n.toNat, by omega⟩
          have hml : m ≤ la := by omega
          have hml' : (m : Int) ≤ la := by omega
          rw [Int.toNat_natCast] at HR3
          have HEX : Hid ((stx a).extract 0 m ++ t = stx (a.take m ++ t.data.toList)) := Lib.hid (by
            rw [show t = stx t.data.toList from rfl, show (stx a).extract 0 m = stx (a.take m) from by
              apply ByteArray.ext
              rw [ByteArray.data_extract]
              apply Array.toList_inj.1
              simp [List.extract_eq_take_drop]]
            exact stx_append _ _)
          have hts : (t.size : Int) ≤ 65536 := by have := HTS.out; omega
          have hes : (((stx a).extract 0 m).size : Int) ≤ 1000000 := by
            rw [ByteArray.size_extract]
            omega
          have hkl : (a.take m ++ t.data.toList).length ≤ 1100000 := by
            rw [List.length_append, List.length_take]
            have : t.data.toList.length = t.size := rfl
            have := HTS.out
            omega
          have HCM := Lib.hid (fun w => kcommon_any2 a (a.take m ++ t.data.toList) w (by rw [hla]; omega) (by omega))
          have hcl := (commonB_le a (a.take m ++ t.data.toList)).1
          obtain ⟨K, hK⟩ : ∃ K, a.take m ++ t.data.toList = K := ⟨_, rfl⟩
          rw [hK] at HR3 HEX HCM hcl
          obtain ⟨C, hC⟩ : ∃ C, commonB a K = C := ⟨_, rfl⟩
          rw [hC] at HR3 HCM hcl
          have hC1 : (C : Int) ≤ 1000000 := by omega
          have hy7 := heap_put (j := 0) hy6 (.string (stx K))
          have hx7 : (w6.setCell ⟨w3.heap.size, 0, none⟩ (.string (stx K))).heap[w.heap.size]? = _ := (Below.heap_setCell _ _ _ _ hnxy).trans hx6
          have k7 := k6.put (p := ⟨w3.heap.size, 0, none⟩) hney (.string (stx K))
          have N7 := near_put N6 (p := ⟨w3.heap.size, 0, none⟩) hwy hBw (.string (stx K))
          have hB7 : B ≤ (w6.setCell ⟨w3.heap.size, 0, none⟩ (.string (stx K))).heap.size := by simpa [World.setCell] using hB6
          have d0 := (Lib.cell_of_heap hy7 0).trans (rfl : _ = some (Value.string (stx K)))
          have y0 := (Lib.cell_of_heap hy6 0).trans (rfl : _ = some (Value.string ⟨#[]⟩))
          have g0 := Lib.frozen_of_heap hy6 0
          have hca := HEX.out
          clear h1 h1d HR2 hkl hK hC HEX hx6 hy6 k6 N6 hB6 hcl hv1 hv0
          go_wp2_with fail
          generalize w6.setCell ⟨w3.heap.size, 0, none⟩ (.string (stx K)) = W7 at *
          clear y0 g0
          refine (HCM.out _).mono ?_
          rintro e w8 ⟨rfl, b8⟩
          have hx8 := (b8.block _ (heap_lt hx7)).trans hx7
          have hy8 := (b8.block _ (heap_lt hy7)).trans hy7
          have k8 : ReaderAt B b s4 0 w8 := ⟨k7.1, (b8.block b (heap_lt k7.2)).trans k7.2⟩
          have N8 := N7.trans (b8.near hB7)
          clear HCM b8 hx7 hy7 k7 N7 hB7 d0
          by_cases h2 : (m : Int) < C
          · have h2d : decide (m < C) = true := decide_eq_true (by omega)
            have HR3 := Lib.hid (HR3.out.trans (if_pos h2))
            have a0 := (Lib.cell_of_heap hx8 0).trans (rfl : _ = some (Value.string ⟨#[]⟩))
            have a1 := (Lib.cell_of_heap hx8 1).trans (rfl : _ = some (Value.string ⟨#[]⟩))
            have a2 := (Lib.cell_of_heap hx8 2).trans (rfl : _ = some (Value.bool false))
            have f0 := Lib.frozen_of_heap hx8 0
            have f1 := Lib.frozen_of_heap hx8 1
            have f2 := Lib.frozen_of_heap hx8 2
            go_wp2_with fail
            refine row_ent_tmp rfl rfl rfl rfl (rowAt_of_heap (heap_put (heap_put (heap_put hx8 _) _) _)) rfl ⟨?_, ?_, near_put (near_put (near_put N8 (Nat.le_refl _) hBw _) (Nat.le_refl _) hBw _) (Nat.le_refl _) hBw _⟩
            · rw [HR3.out]; rfl
            · rw [HR3.out]; exact ((k8.put hne4 _).put hne4 _).put hne4 _
          · have h2d : decide (m < C) = false := decide_eq_false (by omega)
            have HR3 := Lib.hid (HR3.out.trans (if_neg h2))
            have a0 := (Lib.cell_of_heap hx8 0).trans (rfl : _ = some (Value.string ⟨#[]⟩))
            have a1 := (Lib.cell_of_heap hx8 1).trans (rfl : _ = some (Value.string ⟨#[]⟩))
            have a2 := (Lib.cell_of_heap hx8 2).trans (rfl : _ = some (Value.bool false))
            have f0 := Lib.frozen_of_heap hx8 0
            have f1 := Lib.frozen_of_heap hx8 1
            have f2 := Lib.frozen_of_heap hx8 2
            have d0 := (Lib.cell_of_heap hy8 0).trans (rfl : _ = some (Value.string (stx K)))
            have d1 := (Lib.cell_of_heap hy8 1).trans (rfl : _ = some (Value.string v))
            have d2 := (Lib.cell_of_heap hy8 2).trans (rfl : _ = some (Value.bool false))
            go_wp2_with fail
            refine row_ent_tmp rfl rfl rfl rfl (rowAt_of_heap (heap_put (heap_put (heap_put hx8 _) _) _)) rfl ⟨?_, ?_, near_put (near_put (near_put N8 (Nat.le_refl _) hBw _) (Nat.le_refl _) hBw _) (Nat.le_refl _) hBw _⟩
            · rw [HR3.out]; rfl
            · rw [HR3.out]; exact ((k8.put hne4 _).put hne4 _).put hne4 _
      · rw [if_pos ⟨rfl, hz⟩]
        by_cases h1 : (la : Int) < n
        · have h1d : decide ((la : Int) < n) = true := decide_eq_true h1
          have HR3 := Lib.hid (HR2.out.trans (if_pos h1))
          clear HR2
          have a0 := (Lib.cell_of_heap hx6 0).trans (rfl : _ = some (Value.string ⟨#[]⟩))
          have a1 := (Lib.cell_of_heap hx6 1).trans (rfl : _ = some (Value.string ⟨#[]⟩))
          have a2 := (Lib.cell_of_heap hx6 2).trans (rfl : _ = some (Value.bool false))
          have f0 := Lib.frozen_of_heap hx6 0
          have f1 := Lib.frozen_of_heap hx6 1
          have f2 := Lib.frozen_of_heap hx6 2
          go_wp2_with fail
          refine row_ent_tmp rfl rfl rfl rfl (rowAt_of_heap (heap_put (heap_put (heap_put hx6 _) _) _)) rfl ⟨?_, ?_, near_put (near_put (near_put N6 (Nat.le_refl _) hBw _) (Nat.le_refl _) hBw _) (Nat.le_refl _) hBw _⟩
          · rw [HR3.out]; rfl
          · rw [HR3.out]; exact ((k6.put hne4 _).put hne4 _).put hne4 _
        · have h1d : decide ((la : Int) < n) = false := decide_eq_false h1
          have HR3 := Lib.hid (HR2.out.trans (if_neg h1))
          obtain ⟨m, rfl⟩ : ∃ m : Nat, n = m := ⟨n.toNat, by omega⟩
          have hml : m ≤ la := by omega
          have hml' : (m : Int) ≤ la := by omega
          rw [Int.toNat_natCast] at HR3
          have HEX : Hid ((stx a).extract 0 m ++ t = stx (a.take m ++ t.data.toList)) := Lib.hid (by
            rw [show t = stx t.data.toList from rfl, show (stx a).extract 0 m = stx (a.take m) from by
              apply ByteArray.ext
              rw [ByteArray.data_extract]
              apply Array.toList_inj.1
              simp [List.extract_eq_take_drop]]
            exact stx_append _ _)
          have hts : (t.size : Int) ≤ 65536 := by have := HTS.out; omega
          have hes : (((stx a).extract 0 m).size : Int) ≤ 1000000 := by
            rw [ByteArray.size_extract]
            omega
          have hkl : (a.take m ++ t.data.toList).length ≤ 1100000 := by
            rw [List.length_append, List.length_take]
            have : t.data.toList.length = t.size := rfl
            have := HTS.out
            omega
          have HCM := Lib.hid (fun w => kcommon_any2 a (a.take m ++ t.data.toList) w (by rw [hla]; omega) (by omega))
          have hcl := (commonB_le a (a.take m ++ t.data.toList)).1
          obtain ⟨K, hK⟩ : ∃ K, a.take m ++ t.data.toList = K := ⟨_, rfl⟩
          rw [hK] at HR3 HEX HCM hcl
          obtain ⟨C, hC⟩ : ∃ C, commonB a K = C := ⟨_, rfl⟩
          rw [hC] at HR3 HCM hcl
          have hC1 : (C : Int) ≤ 1000000 := by omega
          have hy7 := heap_put (j := 0) hy6 (.string (stx K))
          have hx7 : (w6.setCell ⟨w3.heap.size, 0, none⟩ (.string (stx K))).heap[w.heap.size]? = _ := (Below.heap_setCell _ _ _ _ hnxy).trans hx6
          have k7 := k6.put (p := ⟨w3.heap.size, 0, none⟩) hney (.string (stx K))
          have N7 := near_put N6 (p := ⟨w3.heap.size, 0, none⟩) hwy hBw (.string (stx K))
          have hB7 : B ≤ (w6.setCell ⟨w3.heap.size, 0, none⟩ (.string (stx K))).heap.size := by simpa [World.setCell] using hB6
          have d0 := (Lib.cell_of_heap hy7 0).trans (rfl : _ = some (Value.string (stx K)))
          have y0 := (Lib.cell_of_heap hy6 0).trans (rfl : _ = some (Value.string ⟨#[]⟩))
          have g0 := Lib.frozen_of_heap hy6 0
          have hca := HEX.out
          clear h1 h1d HR2 hkl hK hC HEX hx6 hy6 k6 N6 hB6 hcl hv1 hv0
          go_wp2_with fail
          generalize w6.setCell ⟨w3.heap.size, 0, none⟩ (.string (stx K)) = W7 at *
          clear y0 g0
          refine (HCM.out _).mono ?_
          rintro e w8 ⟨rfl, b8⟩
          have hx8 := (b8.block _ (heap_lt hx7)).trans hx7
          have hy8 := (b8.block _ (heap_lt hy7)).trans hy7
          have k8 : ReaderAt B b s4 0 w8 := ⟨k7.1, (b8.block b (heap_lt k7.2)).trans k7.2⟩
          have N8 := N7.trans (b8.near hB7)
          clear HCM b8 hx7 hy7 k7 N7 hB7 d0
          by_cases h2 : (m : Int) < C
          · have h2d : decide (m < C) = true := decide_eq_true (by omega)
            have HR3 := Lib.hid (HR3.out.trans (if_pos h2))
            have a0 := (Lib.cell_of_heap hx8 0).trans (rfl : _ = some (Value.string ⟨#[]⟩))
            have a1 := (Lib.cell_of_heap hx8 1).trans (rfl : _ = some (Value.string ⟨#[]⟩))
            have a2 := (Lib.cell_of_heap hx8 2).trans (rfl : _ = some (Value.bool false))
            have f0 := Lib.frozen_of_heap hx8 0
            have f1 := Lib.frozen_of_heap hx8 1
            have f2 := Lib.frozen_of_heap hx8 2
            go_wp2_with fail
            refine row_ent_tmp rfl rfl rfl rfl (rowAt_of_heap (heap_put (heap_put (heap_put hx8 _) _) _)) rfl ⟨?_, ?_, near_put (near_put (near_put N8 (Nat.le_refl _) hBw _) (Nat.le_refl _) hBw _) (Nat.le_refl _) hBw _⟩
            · rw [HR3.out]; rfl
            · rw [HR3.out]; exact ((k8.put hne4 _).put hne4 _).put hne4 _
          · have h2d : decide (m < C) = false := decide_eq_false (by omega)
            have HR3 := Lib.hid (HR3.out.trans (if_neg h2))
            have a0 := (Lib.cell_of_heap hx8 0).trans (rfl : _ = some (Value.string ⟨#[]⟩))
            have a1 := (Lib.cell_of_heap hx8 1).trans (rfl : _ = some (Value.string ⟨#[]⟩))
            have a2 := (Lib.cell_of_heap hx8 2).trans (rfl : _ = some (Value.bool false))
            have f0 := Lib.frozen_of_heap hx8 0
            have f1 := Lib.frozen_of_heap hx8 1
            have f2 := Lib.frozen_of_heap hx8 2
            have d0 := (Lib.cell_of_heap hy8 0).trans (rfl : _ = some (Value.string (stx K)))
            have d1 := (Lib.cell_of_heap hy8 1).trans (rfl : _ = some (Value.string v))
            have d2 := (Lib.cell_of_heap hy8 2).trans (rfl : _ = some (Value.bool false))
            go_wp2_with fail
            refine row_ent_tmp rfl rfl rfl rfl (rowAt_of_heap (heap_put (heap_put (heap_put hx8 _) _) _)) rfl ⟨?_, ?_, near_put (near_put (near_put N8 (Nat.le_refl _) hBw _) (Nat.le_refl _) hBw _) (Nat.le_refl _) hBw _⟩
            · rw [HR3.out]; rfl
            · rw [HR3.out]; exact ((k8.put hne4 _).put hne4 _).put hne4 _
    · rw [if_neg (fun q => hE q.1)]
      by_cases hE3 : e4 = 3
      · subst hE3
        have HR2 := Lib.hid (HR.out.symm.trans (if_neg (by simp)))
        clear HR
        by_cases h1 : (la : Int) < n
        · have h1d : decide ((la : Int) < n) = true := decide_eq_true h1
          have HR3 := Lib.hid (HR2.out.trans (if_pos h1))
          clear HR2
          have a0 := (Lib.cell_of_heap hx6 0).trans (rfl : _ = some (Value.string ⟨#[]⟩))
          have a1 := (Lib.cell_of_heap hx6 1).trans (rfl : _ = some (Value.string ⟨#[]⟩))
          have a2 := (Lib.cell_of_heap hx6 2).trans (rfl : _ = some (Value.bool false))
          have f0 := Lib.frozen_of_heap hx6 0
          have f1 := Lib.frozen_of_heap hx6 1
          have f2 := Lib.frozen_of_heap hx6 2
          go_wp2_with fail
          refine row_ent_tmp rfl rfl rfl rfl (rowAt_of_heap (heap_put (heap_put (heap_put hx6 _) _) _)) rfl ⟨?_, ?_, near_put (near_put (near_put N6 (Nat.le_refl _) hBw _) (Nat.le_refl _) hBw _) (Nat.le_refl _) hBw _⟩
          · rw [HR3.out]; rfl
          · rw [HR3.out]; exact ((k6.put hne4 _).put hne4 _).put hne4 _
        · have h1d : decide ((la : Int) < n) = false := decide_eq_false h1
          have HR3 := Lib.hid (HR2.out.trans (if_neg h1))
          obtain ⟨m, rfl⟩ : ∃ m : Nat, n = m := ⟨n.toNat, by omega⟩
          have hml : m ≤ la := by omega
          have hml' : (m : Int) ≤ la := by omega
          rw [Int.toNat_natCast] at HR3
          have HEX : Hid ((stx a).extract 0 m ++ t = stx (a.take m ++ t.data.toList)) := Lib.hid (by
            rw [show t = stx t.data.toList from rfl, show (stx a).extract 0 m = stx (a.take m) from by
              apply ByteArray.ext
              rw [ByteArray.data_extract]
              apply Array.toList_inj.1
              simp [List.extract_eq_take_drop]]
            exact stx_append _ _)
          have hts : (t.size : Int) ≤ 65536 := by have := HTS.out; omega
          have hes : (((stx a).extract 0 m).size : Int) ≤ 1000000 := by
            rw [ByteArray.size_extract]
            omega
          have hkl : (a.take m ++ t.data.toList).length ≤ 1100000 := by
            rw [List.length_append, List.length_take]
            have : t.data.toList.length = t.size := rfl
            have := HTS.out
            omega
          have HCM := Lib.hid (fun w => kcommon_any2 a (a.take m ++ t.data.toList) w (by rw [hla]; omega) (by omega))
          have hcl := (commonB_le a (a.take m ++ t.data.toList)).1
          obtain ⟨K, hK⟩ : ∃ K, a.take m ++ t.data.toList = K := ⟨_, rfl⟩
          rw [hK] at HR3 HEX HCM hcl
          obtain ⟨C, hC⟩ : ∃ C, commonB a K = C := ⟨_, rfl⟩
          rw [hC] at HR3 HCM hcl
          have hC1 : (C : Int) ≤ 1000000 := by omega
          have hy7 := heap_put (j := 0) hy6 (.string (stx K))
          have hx7 : (w6.setCell ⟨w3.heap.size, 0, none⟩ (.string (stx K))).heap[w.heap.size]? = _ := (Below.heap_setCell _ _ _ _ hnxy).trans hx6
          have k7 := k6.put (p := ⟨w3.heap.size, 0, none⟩) hney (.string (stx K))
          have N7 := near_put N6 (p := ⟨w3.heap.size, 0, none⟩) hwy hBw (.string (stx K))
          have hB7 : B ≤ (w6.setCell ⟨w3.heap.size, 0, none⟩ (.string (stx K))).heap.size := by simpa [World.setCell] using hB6
          have d0 := (Lib.cell_of_heap hy7 0).trans (rfl : _ = some (Value.string (stx K)))
          have y0 := (Lib.cell_of_heap hy6 0).trans (rfl : _ = some (Value.string ⟨#[]⟩))
          have g0 := Lib.frozen_of_heap hy6 0
          have hca := HEX.out
          clear h1 h1d HR2 hkl hK hC HEX hx6 hy6 k6 N6 hB6 hcl hv1 hv0
          go_wp2_with fail
          generalize w6.setCell ⟨w3.heap.size, 0, none⟩ (.string (stx K)) = W7 at *
          clear y0 g0
          refine (HCM.out _).mono ?_
          rintro e w8 ⟨rfl, b8⟩
          have hx8 := (b8.block _ (heap_lt hx7)).trans hx7
          have hy8 := (b8.block _ (heap_lt hy7)).trans hy7
          have k8 : ReaderAt B b s4 3 w8 := ⟨k7.1, (b8.block b (heap_lt k7.2)).trans k7.2⟩
          have N8 := N7.trans (b8.near hB7)
          clear HCM b8 hx7 hy7 k7 N7 hB7 d0
          by_cases h2 : (m : Int) < C
          · have h2d : decide (m < C) = true := decide_eq_true (by omega)
            have HR3 := Lib.hid (HR3.out.trans (if_pos h2))
            have a0 := (Lib.cell_of_heap hx8 0).trans (rfl : _ = some (Value.string ⟨#[]⟩))
            have a1 := (Lib.cell_of_heap hx8 1).trans (rfl : _ = some (Value.string ⟨#[]⟩))
            have a2 := (Lib.cell_of_heap hx8 2).trans (rfl : _ = some (Value.bool false))
            have f0 := Lib.frozen_of_heap hx8 0
            have f1 := Lib.frozen_of_heap hx8 1
            have f2 := Lib.frozen_of_heap hx8 2
            go_wp2_with fail
            refine row_ent_tmp rfl rfl rfl rfl (rowAt_of_heap (heap_put (heap_put (heap_put hx8 _) _) _)) rfl ⟨?_, ?_, near_put (near_put (near_put N8 (Nat.le_refl _) hBw _) (Nat.le_refl _) hBw _) (Nat.le_refl _) hBw _⟩
            · rw [HR3.out]; rfl
            · rw [HR3.out]; exact ((k8.put hne4 _).put hne4 _).put hne4 _
          · have h2d : decide (m < C) = false := decide_eq_false (by omega)
            have HR3 := Lib.hid (HR3.out.trans (if_neg h2))
            have a0 := (Lib.cell_of_heap hx8 0).trans (rfl : _ = some (Value.string ⟨#[]⟩))
            have a1 := (Lib.cell_of_heap hx8 1).trans (rfl : _ = some (Value.string ⟨#[]⟩))
            have a2 := (Lib.cell_of_heap hx8 2).trans (rfl : _ = some (Value.bool false))
            have f0 := Lib.frozen_of_heap hx8 0
            have f1 := Lib.frozen_of_heap hx8 1
            have f2 := Lib.frozen_of_heap hx8 2
            have d0 := (Lib.cell_of_heap hy8 0).trans (rfl : _ = some (Value.string (stx K)))
            have d1 := (Lib.cell_of_heap hy8 1).trans (rfl : _ = some (Value.string v))
            have d2 := (Lib.cell_of_heap hy8 2).trans (rfl : _ = some (Value.bool false))
            go_wp2_with fail
            refine row_ent_tmp rfl rfl rfl rfl (rowAt_of_heap (heap_put (heap_put (heap_put hx8 _) _) _)) rfl ⟨?_, ?_, near_put (near_put (near_put N8 (Nat.le_refl _) hBw _) (Nat.le_refl _) hBw _) (Nat.le_refl _) hBw _⟩
            · rw [HR3.out]; rfl
            · rw [HR3.out]; exact ((k8.put hne4 _).put hne4 _).put hne4 _
      · have HR3 := Lib.hid (HR.out.symm.trans (if_pos ⟨hE, hE3⟩))
        have p1 : (e4 != 0) = true := by rw [bne_iff_ne]; exact hE
        have p2 : (e4 != 3) = true := by rw [bne_iff_ne]; exact hE3
        clear HR
        have a0 := (Lib.cell_of_heap hx6 0).trans (rfl : _ = some (Value.string ⟨#[]⟩))
        have a1 := (Lib.cell_of_heap hx6 1).trans (rfl : _ = some (Value.string ⟨#[]⟩))
        have a2 := (Lib.cell_of_heap hx6 2).trans (rfl : _ = some (Value.bool false))
        have f0 := Lib.frozen_of_heap hx6 0
        have f1 := Lib.frozen_of_heap hx6 1
        have f2 := Lib.frozen_of_heap hx6 2
        go_wp2_with fail
        refine row_ent_tmp rfl rfl rfl rfl (rowAt_of_heap (heap_put (heap_put (heap_put hx6 _) _) _)) rfl ⟨?_, ?_, near_put (near_put (near_put N6 (Nat.le_refl _) hBw _) (Nat.le_refl _) hBw _) (Nat.le_refl _) hBw _⟩
        · rw [HR3.out]; rfl
        · rw [HR3.out]; exact ((k6.put hne4 _).put hne4 _).put hne4 _
end Go.Proofs.YtpdfchaamedeoaaDoor
