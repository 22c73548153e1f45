/- One call on both disks: law05 does. Conditions: none. -/
import Derived.Test.YtlnijckgnchpbaaPlays14
import Derived.Test.YtlnijckgnchpbaaPlays13
import Derived.Test.YtlnijckgnchpbaaPlays11
import Derived.Test.YtlnijckgnchpbaaDiskLaw
namespace Go.Proofs.Ytlnijckgnchpbaa
open Go Go.RowKit Go.Maps
attribute [local go_sem] Oper.semAt_some

theorem stx_of (s : ByteArray) : ∃ l, s = stx l := ⟨s.data.toList, by cases s; rfl⟩
/-- What does hands back. -/
def DoesPost (B b i : Nat) (w : World) (e : Ending) (w' : World) : Prop :=
  ∃ v' d', e = .returned (.tuple #[.agg (diskC d' v'), .bool true]) ∧ DiskAt B b d' w' ∧ RFiles w' v' d'.files ∧ PInv (i + 1) d' ∧ Stir B w w'
set_option maxRecDepth 100000 in
set_option maxHeartbeats 4000000 in
theorem does5_any (B b : Nat) (d : DDisk) (v : Value) (kind : Int) (nm tl sl : List UInt8) (m : Int) (kv : Value) (ks : List Int) (i : Nat) (w : World) (h0 : DiskAt B b d w) (hr : RFiles w v d.files) (hI : PInv i d) (hi : i ≤ 60)
    (hn1 : (stx nm).size ≤ 9223372036854775807) (hn2 : (stx tl).size ≤ 9223372036854775807) (hm : -9223372036854775808 ≤ m ∧ m ≤ 9223372036854775807) (hk : ∀ W, Below B w W → InInts W kv ks) :
    Calls Try.prog 7 #[.pointer (some ⟨b, 0, none⟩), .agg (diskC d v), .agg #[.int .i64 kind, .string (stx nm), .string (stx tl), .string (stx sl), .int .i64 m, kv]] w (DoesPost B b i w) := by
  have hlow := h0.low
  have hBw : B ≤ w.heap.size := by omega
  have hroom := h0.roomR
  have hsure := h0.sure
  obtain ⟨kao, kcap, rfl, hkr⟩ := id (hk w (Below.refl _ _))
  obtain ⟨kn, hkn⟩ : ∃ kn, ks.length = kn := ⟨_, rfl⟩
  obtain ⟨ao, cap, hv⟩ := id hr.1
  obtain ⟨rfl, -⟩ := hv
  obtain ⟨room, fuse, dead, fs⟩ := d
  dsimp only at hr hroom hsure
  obtain ⟨n, hn⟩ : ∃ n, fs.length = n := ⟨_, rfl⟩
  rw [hn] at hr ⊢
  rw [hkn] at hk ⊢
  have hfl : fs.length ≤ 1000000 := by have := hI.len; show _; dsimp only at this; omega
  have hfu : dUsed fs ≤ 1000000 := by have := hI.used_; dsimp only at this; omega
  have hff := hI.fuse
  dsimp only at hff
  have hff2 : -9223372036854775808 ≤ fuse ∧ fuse ≤ 9223372036854775807 := by omega
  have hnl : ∀ f ∈ fs, f.name.length ≤ 281474976710656 := fun f hf => by have := hI.names f hf; omega
  have HC := Lib.hid (l3Cut_any (stx sl) 300 (((w.alloc (.cells #[.int .i64 room, .int .i64 fuse, .bool dead, .slice ao n cap] 27)).alloc (.cells #[.int .i64 kind, .string (stx nm), .string (stx tl), .string (stx sl), .int .i64 m, .slice kao kn kcap] 32)).alloc (.cells #[.int .i64 0, .int .i64 0, .bool false, .slice none 0 0] 27)) (by decide))
  rw [show ((300 : Nat) : Int) = 300 from rfl, show (stx sl).data.toList = sl from rfl] at HC
  have bA : Below w.heap.size w (((w.alloc (.cells #[.int .i64 room, .int .i64 fuse, .bool dead, .slice ao n cap] 27)).alloc (.cells #[.int .i64 kind, .string (stx nm), .string (stx tl), .string (stx sl), .int .i64 m, .slice kao kn kcap] 32)).alloc (.cells #[.int .i64 0, .int .i64 0, .bool false, .slice none 0 0] 27)) := (((Below.refl _ _).alloc (Nat.le_refl _) _).alloc (by simp only [World.size_alloc]; omega) _).alloc (by simp only [World.size_alloc]; omega) _
  have g1 : (((w.alloc (.cells #[.int .i64 room, .int .i64 fuse, .bool dead, .slice ao n cap] 27)).alloc (.cells #[.int .i64 kind, .string (stx nm), .string (stx tl), .string (stx sl), .int .i64 m, .slice kao kn kcap] 32)).alloc (.cells #[.int .i64 0, .int .i64 0, .bool false, .slice none 0 0] 27)).heap[w.heap.size + 2]? = some (.cells #[.int .i64 0, .int .i64 0, .bool false, .slice none 0 0] 27 (0, 0)) := by
    have := heap_alloc_new ((w.alloc (.cells #[.int .i64 room, .int .i64 fuse, .bool dead, .slice ao n cap] 27)).alloc (.cells #[.int .i64 kind, .string (stx nm), .string (stx tl), .string (stx sl), .int .i64 m, .slice kao kn kcap] 32)) (.cells #[.int .i64 0, .int .i64 0, .bool false, .slice none 0 0] 27)
    rwa [World.size_alloc, World.size_alloc] at this
  have gA : (((w.alloc (.cells #[.int .i64 room, .int .i64 fuse, .bool dead, .slice ao n cap] 27)).alloc (.cells #[.int .i64 kind, .string (stx nm), .string (stx tl), .string (stx sl), .int .i64 m, .slice kao kn kcap] 32)).alloc (.cells #[.int .i64 0, .int .i64 0, .bool false, .slice none 0 0] 27)).heap[w.heap.size + 1]? = some (.cells #[.int .i64 kind, .string (stx nm), .string (stx tl), .string (stx sl), .int .i64 m, .slice kao kn kcap] 32 (0, 0)) := by
    refine (Below.heap_alloc _ _ _ (by simp only [World.size_alloc]; omega)).trans ?_
    have := heap_alloc_new (w.alloc (.cells #[.int .i64 room, .int .i64 fuse, .bool dead, .slice ao n cap] 27)) (.cells #[.int .i64 kind, .string (stx nm), .string (stx tl), .string (stx sl), .int .i64 m, .slice kao kn kcap] 32)
    rwa [World.size_alloc] at this
  have g0 : (((w.alloc (.cells #[.int .i64 room, .int .i64 fuse, .bool dead, .slice ao n cap] 27)).alloc (.cells #[.int .i64 kind, .string (stx nm), .string (stx tl), .string (stx sl), .int .i64 m, .slice kao kn kcap] 32)).alloc (.cells #[.int .i64 0, .int .i64 0, .bool false, .slice none 0 0] 27)).heap[w.heap.size]? = some (.cells #[.int .i64 room, .int .i64 fuse, .bool dead, .slice ao n cap] 27 (0, 0)) := by
    refine (Below.heap_alloc _ _ _ (by simp only [World.size_alloc]; omega)).trans ?_
    refine (Below.heap_alloc _ _ _ (by simp only [World.size_alloc]; omega)).trans ?_
    exact heap_alloc_new w (.cells #[.int .i64 room, .int .i64 fuse, .bool dead, .slice ao n cap] 27)
  have HN := Lib.hid hn
  have HKN := Lib.hid hkn
  have HI := Lib.hid hI
  have HSU := Lib.hid hsure
  have HNL := Lib.hid hnl
  have HFL := Lib.hid hfl
  have HFU := Lib.hid hfu
  have HFF := Lib.hid hff2
  have HRO := Lib.hid hroom
  have HM := Lib.hid hm
  have D0 := Lib.hid (h0.kept bA)
  have R0 := Lib.hid (hr.below bA)
  have S0 := Lib.hid (bA.stir hBw)
  have K0 := Lib.hid hk
  have H0 := Lib.hid g0
  have HA := Lib.hid gA
  have H1 := Lib.hid g1
  clear hn hkn hI hsure hnl hfl hfu hff hff2 hroom h0 hr bA hk g0 gA g1 hkr hlow
  unfold diskC
  dsimp only
  go_enter Try.func7, Try.ntmps7
  go_wp2_with fail
  refine HC.out.mono ?_
  rintro e w0 ⟨rfl, rfl⟩
  clear HC
  generalize ((w.alloc (.cells #[.int .i64 room, .int .i64 fuse, .bool dead, .slice ao n cap] 27)).alloc (.cells #[.int .i64 kind, .string (stx nm), .string (stx tl), .string (stx sl), .int .i64 m, .slice kao kn kcap] 32)).alloc (.cells #[.int .i64 0, .int .i64 0, .bool false, .slice none 0 0] 27) = W at *
  have c0 := (Lib.cell_of_heap H0.out 0).trans (rfl : _ = some (Value.int .i64 room))
  have c1 := (Lib.cell_of_heap H0.out 1).trans (rfl : _ = some (Value.int .i64 fuse))
  have c2 := (Lib.cell_of_heap H0.out 2).trans (rfl : _ = some (Value.bool dead))
  have c3 := (Lib.cell_of_heap H0.out 3).trans (rfl : _ = some (Value.slice ao n cap))
  have a0 := (Lib.cell_of_heap HA.out 0).trans (rfl : _ = some (Value.int .i64 kind))
  have a1 := (Lib.cell_of_heap HA.out 1).trans (rfl : _ = some (Value.string (stx nm)))
  have a2 := (Lib.cell_of_heap HA.out 2).trans (rfl : _ = some (Value.string (stx tl)))
  have a4 := (Lib.cell_of_heap HA.out 4).trans (rfl : _ = some (Value.int .i64 m))
  have a5 := (Lib.cell_of_heap HA.out 5).trans (rfl : _ = some (Value.slice kao kn kcap))
  have p0 := (Lib.cell_of_heap H1.out 0).trans (rfl : _ = some (Value.int .i64 0))
  have p1 := (Lib.cell_of_heap H1.out 1).trans (rfl : _ = some (Value.int .i64 0))
  have p2 := (Lib.cell_of_heap H1.out 2).trans (rfl : _ = some (Value.bool false))
  have p3 := (Lib.cell_of_heap H1.out 3).trans (rfl : _ = some (Value.slice none 0 0))
  have e0 := Lib.frozen_of_heap H1.out 0
  have e1 := Lib.frozen_of_heap H1.out 1
  have e2 := Lib.frozen_of_heap H1.out 2
  have e3 := Lib.frozen_of_heap H1.out 3
  obtain ⟨xb, hxb⟩ : ∃ xb : UInt8, m / 256 % 256 = (xb.toNat : Int) := ⟨UInt8.ofNat (m / 256 % 256).toNat, by
    have h1 : 0 ≤ m / 256 % 256 := Int.emod_nonneg _ (by decide)
    have h2 : m / 256 % 256 < 256 := Int.emod_lt_of_pos _ (by decide)
    rw [UInt8.toNat_ofNat']
    omega⟩
  obtain ⟨s3, hs3⟩ : ∃ s3, sl.take 300 = s3 := ⟨_, rfl⟩
  have HS3 : Hid (s3.length ≤ 300) := Lib.hid (by rw [← hs3]; exact List.length_take_le _ _)
  rw [hs3]
  clear hs3
  go_wp2_with fail
  · obtain ⟨d2, hd2⟩ : ∃ d2, aD ⟨room, fuse, dead, fs⟩ nm s3 = d2 := ⟨_, rfl⟩
    obtain ⟨E, hE⟩ : ∃ E, aE ⟨room, fuse, dead, fs⟩ nm s3 = E := ⟨_, rfl⟩
    have HP : Hid (PInv (i + 1) d2) := Lib.hid (by rw [← hd2]; exact p_app HI.out nm s3 HS3.out)
    have HDC : Hid (Calls Try.prog 15 #[.pointer (some ⟨b, 0, none⟩), .string (stx nm), .string (stx s3)] W fun e w' => e = .returned (.int .i64 E) ∧ DiskAt B b d2 w' ∧ Stir B W w') := Lib.hid (by rw [← hd2, ← hE]; exact dAppend_any B b ⟨room, fuse, dead, fs⟩ (stx nm) (stx s3) W D0.out hn1 (by have := HFU.out; have := HS3.out; rw [stx_size]; show dUsed fs + _ ≤ _; omega))
    have HRC : Hid (∀ W', RFiles W' (.slice ao n cap) fs → Calls Try.prog 19 #[.agg #[.int .i64 room, .int .i64 fuse, .bool dead, .slice ao n cap], .string (stx nm), .string (stx s3)] W' (R5Post d2 E W')) := Lib.hid (fun W' h => by rw [← hd2, ← hE]; exact r5Append_any ⟨room, fuse, dead, fs⟩ (.slice ao n cap) nm s3 W' h HFL.out HFF.out HRO.out (Nat.le_trans HFU.out (by decide)) (Nat.le_trans HS3.out (by decide)))
    obtain ⟨room2, fuse2, dead2, fs2⟩ := d2
    clear hd2 hE
    refine HDC.out.mono ?_
    rintro e w1 ⟨rfl, D1, x1⟩
    clear c0 c1 c2 c3 a0 a1 a2 a4 a5 p0 p1 p2 p3 e0 e1 e2 e3
    have h0 := x1.keep H0.out (by decide)
    have hA := x1.keep HA.out (by decide)
    have h1 := x1.keep H1.out (by decide)
    have R1 := R0.out.stir x1
    have c0 := (Lib.cell_of_heap h0 0).trans (rfl : _ = some (Value.int .i64 room))
    have c1 := (Lib.cell_of_heap h0 1).trans (rfl : _ = some (Value.int .i64 fuse))
    have c2 := (Lib.cell_of_heap h0 2).trans (rfl : _ = some (Value.bool dead))
    have c3 := (Lib.cell_of_heap h0 3).trans (rfl : _ = some (Value.slice ao n cap))
    have a0 := (Lib.cell_of_heap hA 0).trans (rfl : _ = some (Value.int .i64 kind))
    have a1 := (Lib.cell_of_heap hA 1).trans (rfl : _ = some (Value.string (stx nm)))
    have a2 := (Lib.cell_of_heap hA 2).trans (rfl : _ = some (Value.string (stx tl)))
    have a4 := (Lib.cell_of_heap hA 4).trans (rfl : _ = some (Value.int .i64 m))
    have a5 := (Lib.cell_of_heap hA 5).trans (rfl : _ = some (Value.slice kao kn kcap))
    have HD1 := Lib.hid D1
    have HX1 := Lib.hid (S0.out.trans x1)
    have HH0 := Lib.hid h0
    have HH1 := Lib.hid h1
    have HR1 := Lib.hid R1
    clear D1 x1 h0 hA h1 R1 S0 D0 R0 H0 HA H1
    clear HDC
    go_wp2_with fail
    refine (HRC.out _ HR1.out).mono ?_
    rintro e w2 ⟨v2, rfl, R2, b2⟩
    clear HRC c0 c1 c2 c3 a0 a1 a2 a4 a5
    obtain ⟨ao2, cap2, hv2⟩ := id R2.1
    obtain ⟨rfl, -⟩ := hv2
    have hCl := dHeap_lt HH0.out
    have k0 := (b2.block _ (dHeap_lt HH0.out)).trans HH0.out
    have k1 := (b2.block _ (dHeap_lt HH1.out)).trans HH1.out
    have r0 := rowAt_of_heap k0
    have r1 := rowAt_of_heap k1
    have HD2 := Lib.hid (HD1.out.kept b2)
    have HX2 := Lib.hid (HX1.out.trans (b2.stir (Nat.le_trans hBw HX1.out.size)))
    have HR2 := Lib.hid R2
    have HK0 := Lib.hid k0
    have HK1 := Lib.hid k1
    have HR0 := Lib.hid r0
    have HRR := Lib.hid r1
    have c0 := (cell_of_rowAt r0 0).trans (rfl : _ = some (Value.int .i64 room))
    have c1 := (cell_of_rowAt r0 1).trans (rfl : _ = some (Value.int .i64 fuse))
    have c2 := (cell_of_rowAt r0 2).trans (rfl : _ = some (Value.bool dead))
    have c3 := (cell_of_rowAt r0 3).trans (rfl : _ = some (Value.slice ao n cap))
    have o0 := frozen_of_rowAt r0 0
    have o1 := frozen_of_rowAt r0 1
    have o2 := frozen_of_rowAt r0 2
    have o3 := frozen_of_rowAt r0 3
    have p0 := (cell_of_rowAt r1 0).trans (rfl : _ = some (Value.int .i64 0))
    have p1 := (cell_of_rowAt r1 1).trans (rfl : _ = some (Value.int .i64 0))
    have p2 := (cell_of_rowAt r1 2).trans (rfl : _ = some (Value.bool false))
    have p3 := (cell_of_rowAt r1 3).trans (rfl : _ = some (Value.slice none 0 0))
    have e0 := frozen_of_rowAt r1 0
    have e1 := frozen_of_rowAt r1 1
    have e2 := frozen_of_rowAt r1 2
    have e3 := frozen_of_rowAt r1 3
    unfold diskC
    dsimp only
    obtain ⟨n2, hn2⟩ : ∃ n2, fs2.length = n2 := ⟨_, rfl⟩
    have HN2 := Lib.hid hn2
    rw [hn2]
    clear r0 r1 k0 k1 b2 R2 HD1 HX1 HR1 HH0 HH1 hn2
    go_wp2_with fail
    have k1 := (heap_other4 (w := w2) (k := w.heap.size) (g := w.heap.size + 2) (by omega) (.int .i64 room2) (.int .i64 fuse2) (.bool dead2) (.slice ao2 n2 cap2)).trans HK1.out
    have q1 := rowAt_of_heap k1
    have rr := rowAt_setCell_same (rowAt_setCell_same (rowAt_setCell_same (rowAt_setCell_same q1 0 (.int .i64 room2)) 1 (.int .i64 fuse2)) 2 (.bool dead2)) 3 (.slice ao2 n2 cap2)
    refine bodyPost_ret (results_row_tmp rfl _ _ _ _ _ rfl rr Try.underlying27 rfl (by kernel_rfl)) rfl ?_
    refine ⟨.slice ao2 n2 cap2, ⟨room2, fuse2, dead2, fs2⟩, rfl, ?_, ?_, HP.out, ?_⟩
    · exact (HD2.out.aside4 HK0.out (by decide) _ _ _ _).aside4 k1 (by decide) _ _ _ _
    · have hR2 := HR2.out
      rw [HN2.out] at hR2
      exact RFiles.set4 (z := room2) (RFiles.set4 (z := room2) hR2 HR0.out (.int .i64 fuse2) (.bool dead2) (.slice ao2 n2 cap2)) q1 (.int .i64 fuse2) (.bool dead2) (.slice ao2 n2 cap2)
    · exact (HX2.out.newer4 (k := w.heap.size) (Nat.le_refl _) hBw _ _ _ _).newer4 (k := w.heap.size + 2) (by omega) (by omega) _ _ _ _
  · obtain ⟨d2, hd2⟩ : ∃ d2, sD ⟨room, fuse, dead, fs⟩ nm = d2 := ⟨_, rfl⟩
    obtain ⟨E, hE⟩ : ∃ E, sE ⟨room, fuse, dead, fs⟩ nm = E := ⟨_, rfl⟩
    have HP : Hid (PInv (i + 1) d2) := Lib.hid (by rw [← hd2]; exact p_sync HI.out nm)
    have HDC : Hid (Calls Try.prog 16 #[.pointer (some ⟨b, 0, none⟩), .string (stx nm)] W fun e w' => e = .returned (.int .i64 E) ∧ DiskAt B b d2 w' ∧ Stir B W w') := Lib.hid (by rw [← hd2, ← hE]; exact dSync_any B b ⟨room, fuse, dead, fs⟩ (stx nm) W D0.out hn1)
    have HRC : Hid (∀ W', RFiles W' (.slice ao n cap) fs → Calls Try.prog 20 #[.agg #[.int .i64 room, .int .i64 fuse, .bool dead, .slice ao n cap], .string (stx nm)] W' (R5Post d2 E W')) := Lib.hid (fun W' h => by rw [← hd2, ← hE]; exact r5Sync_any ⟨room, fuse, dead, fs⟩ (.slice ao n cap) nm W' h HFL.out HFF.out)
    obtain ⟨room2, fuse2, dead2, fs2⟩ := d2
    clear hd2 hE
    refine HDC.out.mono ?_
    rintro e w1 ⟨rfl, D1, x1⟩
    clear c0 c1 c2 c3 a0 a1 a2 a4 a5 p0 p1 p2 p3 e0 e1 e2 e3
    have h0 := x1.keep H0.out (by decide)
    have hA := x1.keep HA.out (by decide)
    have h1 := x1.keep H1.out (by decide)
    have R1 := R0.out.stir x1
    have c0 := (Lib.cell_of_heap h0 0).trans (rfl : _ = some (Value.int .i64 room))
    have c1 := (Lib.cell_of_heap h0 1).trans (rfl : _ = some (Value.int .i64 fuse))
    have c2 := (Lib.cell_of_heap h0 2).trans (rfl : _ = some (Value.bool dead))
    have c3 := (Lib.cell_of_heap h0 3).trans (rfl : _ = some (Value.slice ao n cap))
    have a0 := (Lib.cell_of_heap hA 0).trans (rfl : _ = some (Value.int .i64 kind))
    have a1 := (Lib.cell_of_heap hA 1).trans (rfl : _ = some (Value.string (stx nm)))
    have a2 := (Lib.cell_of_heap hA 2).trans (rfl : _ = some (Value.string (stx tl)))
    have a4 := (Lib.cell_of_heap hA 4).trans (rfl : _ = some (Value.int .i64 m))
    have a5 := (Lib.cell_of_heap hA 5).trans (rfl : _ = some (Value.slice kao kn kcap))
    have HD1 := Lib.hid D1
    have HX1 := Lib.hid (S0.out.trans x1)
    have HH0 := Lib.hid h0
    have HH1 := Lib.hid h1
    have HR1 := Lib.hid R1
    clear D1 x1 h0 hA h1 R1 S0 D0 R0 H0 HA H1
    clear HDC
    go_wp2_with fail
    refine (HRC.out _ HR1.out).mono ?_
    rintro e w2 ⟨v2, rfl, R2, b2⟩
    clear HRC c0 c1 c2 c3 a0 a1 a2 a4 a5
    obtain ⟨ao2, cap2, hv2⟩ := id R2.1
    obtain ⟨rfl, -⟩ := hv2
    have hCl := dHeap_lt HH0.out
    have k0 := (b2.block _ (dHeap_lt HH0.out)).trans HH0.out
    have k1 := (b2.block _ (dHeap_lt HH1.out)).trans HH1.out
    have r0 := rowAt_of_heap k0
    have r1 := rowAt_of_heap k1
    have HD2 := Lib.hid (HD1.out.kept b2)
    have HX2 := Lib.hid (HX1.out.trans (b2.stir (Nat.le_trans hBw HX1.out.size)))
    have HR2 := Lib.hid R2
    have HK0 := Lib.hid k0
    have HK1 := Lib.hid k1
    have HR0 := Lib.hid r0
    have HRR := Lib.hid r1
    have c0 := (cell_of_rowAt r0 0).trans (rfl : _ = some (Value.int .i64 room))
    have c1 := (cell_of_rowAt r0 1).trans (rfl : _ = some (Value.int .i64 fuse))
    have c2 := (cell_of_rowAt r0 2).trans (rfl : _ = some (Value.bool dead))
    have c3 := (cell_of_rowAt r0 3).trans (rfl : _ = some (Value.slice ao n cap))
    have o0 := frozen_of_rowAt r0 0
    have o1 := frozen_of_rowAt r0 1
    have o2 := frozen_of_rowAt r0 2
    have o3 := frozen_of_rowAt r0 3
    have p0 := (cell_of_rowAt r1 0).trans (rfl : _ = some (Value.int .i64 0))
    have p1 := (cell_of_rowAt r1 1).trans (rfl : _ = some (Value.int .i64 0))
    have p2 := (cell_of_rowAt r1 2).trans (rfl : _ = some (Value.bool false))
    have p3 := (cell_of_rowAt r1 3).trans (rfl : _ = some (Value.slice none 0 0))
    have e0 := frozen_of_rowAt r1 0
    have e1 := frozen_of_rowAt r1 1
    have e2 := frozen_of_rowAt r1 2
    have e3 := frozen_of_rowAt r1 3
    unfold diskC
    dsimp only
    obtain ⟨n2, hn2⟩ : ∃ n2, fs2.length = n2 := ⟨_, rfl⟩
    have HN2 := Lib.hid hn2
    rw [hn2]
    clear r0 r1 k0 k1 b2 R2 HD1 HX1 HR1 HH0 HH1 hn2
    go_wp2_with fail
    have k1 := (heap_other4 (w := w2) (k := w.heap.size) (g := w.heap.size + 2) (by omega) (.int .i64 room2) (.int .i64 fuse2) (.bool dead2) (.slice ao2 n2 cap2)).trans HK1.out
    have q1 := rowAt_of_heap k1
    have rr := rowAt_setCell_same (rowAt_setCell_same (rowAt_setCell_same (rowAt_setCell_same q1 0 (.int .i64 room2)) 1 (.int .i64 fuse2)) 2 (.bool dead2)) 3 (.slice ao2 n2 cap2)
    refine bodyPost_ret (results_row_tmp rfl _ _ _ _ _ rfl rr Try.underlying27 rfl (by kernel_rfl)) rfl ?_
    refine ⟨.slice ao2 n2 cap2, ⟨room2, fuse2, dead2, fs2⟩, rfl, ?_, ?_, HP.out, ?_⟩
    · exact (HD2.out.aside4 HK0.out (by decide) _ _ _ _).aside4 k1 (by decide) _ _ _ _
    · have hR2 := HR2.out
      rw [HN2.out] at hR2
      exact RFiles.set4 (z := room2) (RFiles.set4 (z := room2) hR2 HR0.out (.int .i64 fuse2) (.bool dead2) (.slice ao2 n2 cap2)) q1 (.int .i64 fuse2) (.bool dead2) (.slice ao2 n2 cap2)
    · exact (HX2.out.newer4 (k := w.heap.size) (Nat.le_refl _) hBw _ _ _ _).newer4 (k := w.heap.size + 2) (by omega) (by omega) _ _ _ _
  · obtain ⟨d2, hd2⟩ : ∃ d2, reD ⟨room, fuse, dead, fs⟩ nm tl = d2 := ⟨_, rfl⟩
    obtain ⟨E, hE⟩ : ∃ E, reE ⟨room, fuse, dead, fs⟩ nm tl = E := ⟨_, rfl⟩
    have HP : Hid (PInv (i + 1) d2) := Lib.hid (by rw [← hd2]; exact p_ren HI.out nm tl)
    have HDC : Hid (Calls Try.prog 21 #[.pointer (some ⟨b, 0, none⟩), .string (stx nm), .string (stx tl)] W fun e w' => e = .returned (.int .i64 E) ∧ DiskAt B b d2 w' ∧ Stir B W w') := Lib.hid (by rw [← hd2, ← hE]; exact dRename_any B b ⟨room, fuse, dead, fs⟩ (stx nm) (stx tl) W D0.out hn1 hn2 (Nat.le_trans HFU.out (by decide)) (Nat.le_trans HFL.out (by decide)))
    have HRC : Hid (∀ W', RFiles W' (.slice ao n cap) fs → Calls Try.prog 22 #[.agg #[.int .i64 room, .int .i64 fuse, .bool dead, .slice ao n cap], .string (stx nm), .string (stx tl)] W' (R5Post d2 E W')) := Lib.hid (fun W' h => by rw [← hd2, ← hE]; exact r5Rename_any ⟨room, fuse, dead, fs⟩ (.slice ao n cap) nm tl W' h HFL.out HFF.out)
    obtain ⟨room2, fuse2, dead2, fs2⟩ := d2
    clear hd2 hE
    refine HDC.out.mono ?_
    rintro e w1 ⟨rfl, D1, x1⟩
    clear c0 c1 c2 c3 a0 a1 a2 a4 a5 p0 p1 p2 p3 e0 e1 e2 e3
    have h0 := x1.keep H0.out (by decide)
    have hA := x1.keep HA.out (by decide)
    have h1 := x1.keep H1.out (by decide)
    have R1 := R0.out.stir x1
    have c0 := (Lib.cell_of_heap h0 0).trans (rfl : _ = some (Value.int .i64 room))
    have c1 := (Lib.cell_of_heap h0 1).trans (rfl : _ = some (Value.int .i64 fuse))
    have c2 := (Lib.cell_of_heap h0 2).trans (rfl : _ = some (Value.bool dead))
    have c3 := (Lib.cell_of_heap h0 3).trans (rfl : _ = some (Value.slice ao n cap))
    have a0 := (Lib.cell_of_heap hA 0).trans (rfl : _ = some (Value.int .i64 kind))
    have a1 := (Lib.cell_of_heap hA 1).trans (rfl : _ = some (Value.string (stx nm)))
    have a2 := (Lib.cell_of_heap hA 2).trans (rfl : _ = some (Value.string (stx tl)))
    have a4 := (Lib.cell_of_heap hA 4).trans (rfl : _ = some (Value.int .i64 m))
    have a5 := (Lib.cell_of_heap hA 5).trans (rfl : _ = some (Value.slice kao kn kcap))
    have HD1 := Lib.hid D1
    have HX1 := Lib.hid (S0.out.trans x1)
    have HH0 := Lib.hid h0
    have HH1 := Lib.hid h1
    have HR1 := Lib.hid R1
    clear D1 x1 h0 hA h1 R1 S0 D0 R0 H0 HA H1
    clear HDC
    go_wp2_with fail
    refine (HRC.out _ HR1.out).mono ?_
    rintro e w2 ⟨v2, rfl, R2, b2⟩
    clear HRC c0 c1 c2 c3 a0 a1 a2 a4 a5
    obtain ⟨ao2, cap2, hv2⟩ := id R2.1
    obtain ⟨rfl, -⟩ := hv2
    have hCl := dHeap_lt HH0.out
    have k0 := (b2.block _ (dHeap_lt HH0.out)).trans HH0.out
    have k1 := (b2.block _ (dHeap_lt HH1.out)).trans HH1.out
    have r0 := rowAt_of_heap k0
    have r1 := rowAt_of_heap k1
    have HD2 := Lib.hid (HD1.out.kept b2)
    have HX2 := Lib.hid (HX1.out.trans (b2.stir (Nat.le_trans hBw HX1.out.size)))
    have HR2 := Lib.hid R2
    have HK0 := Lib.hid k0
    have HK1 := Lib.hid k1
    have HR0 := Lib.hid r0
    have HRR := Lib.hid r1
    have c0 := (cell_of_rowAt r0 0).trans (rfl : _ = some (Value.int .i64 room))
    have c1 := (cell_of_rowAt r0 1).trans (rfl : _ = some (Value.int .i64 fuse))
    have c2 := (cell_of_rowAt r0 2).trans (rfl : _ = some (Value.bool dead))
    have c3 := (cell_of_rowAt r0 3).trans (rfl : _ = some (Value.slice ao n cap))
    have o0 := frozen_of_rowAt r0 0
    have o1 := frozen_of_rowAt r0 1
    have o2 := frozen_of_rowAt r0 2
    have o3 := frozen_of_rowAt r0 3
    have p0 := (cell_of_rowAt r1 0).trans (rfl : _ = some (Value.int .i64 0))
    have p1 := (cell_of_rowAt r1 1).trans (rfl : _ = some (Value.int .i64 0))
    have p2 := (cell_of_rowAt r1 2).trans (rfl : _ = some (Value.bool false))
    have p3 := (cell_of_rowAt r1 3).trans (rfl : _ = some (Value.slice none 0 0))
    have e0 := frozen_of_rowAt r1 0
    have e1 := frozen_of_rowAt r1 1
    have e2 := frozen_of_rowAt r1 2
    have e3 := frozen_of_rowAt r1 3
    unfold diskC
    dsimp only
    obtain ⟨n2, hn2⟩ : ∃ n2, fs2.length = n2 := ⟨_, rfl⟩
    have HN2 := Lib.hid hn2
    rw [hn2]
    clear r0 r1 k0 k1 b2 R2 HD1 HX1 HR1 HH0 HH1 hn2
    go_wp2_with fail
    have k1 := (heap_other4 (w := w2) (k := w.heap.size) (g := w.heap.size + 2) (by omega) (.int .i64 room2) (.int .i64 fuse2) (.bool dead2) (.slice ao2 n2 cap2)).trans HK1.out
    have q1 := rowAt_of_heap k1
    have rr := rowAt_setCell_same (rowAt_setCell_same (rowAt_setCell_same (rowAt_setCell_same q1 0 (.int .i64 room2)) 1 (.int .i64 fuse2)) 2 (.bool dead2)) 3 (.slice ao2 n2 cap2)
    refine bodyPost_ret (results_row_tmp rfl _ _ _ _ _ rfl rr Try.underlying27 rfl (by kernel_rfl)) rfl ?_
    refine ⟨.slice ao2 n2 cap2, ⟨room2, fuse2, dead2, fs2⟩, rfl, ?_, ?_, HP.out, ?_⟩
    · exact (HD2.out.aside4 HK0.out (by decide) _ _ _ _).aside4 k1 (by decide) _ _ _ _
    · have hR2 := HR2.out
      rw [HN2.out] at hR2
      exact RFiles.set4 (z := room2) (RFiles.set4 (z := room2) hR2 HR0.out (.int .i64 fuse2) (.bool dead2) (.slice ao2 n2 cap2)) q1 (.int .i64 fuse2) (.bool dead2) (.slice ao2 n2 cap2)
    · exact (HX2.out.newer4 (k := w.heap.size) (Nat.le_refl _) hBw _ _ _ _).newer4 (k := w.heap.size + 2) (by omega) (by omega) _ _ _ _
  · obtain ⟨d2, hd2⟩ : ∃ d2, rmD ⟨room, fuse, dead, fs⟩ nm = d2 := ⟨_, rfl⟩
    obtain ⟨E, hE⟩ : ∃ E, sE ⟨room, fuse, dead, fs⟩ nm = E := ⟨_, rfl⟩
    have HP : Hid (PInv (i + 1) d2) := Lib.hid (by rw [← hd2]; exact p_rm HI.out nm)
    have HDC : Hid (Calls Try.prog 23 #[.pointer (some ⟨b, 0, none⟩), .string (stx nm)] W fun e w' => e = .returned (.int .i64 E) ∧ DiskAt B b d2 w' ∧ Stir B W w') := Lib.hid (by rw [← hd2, ← hE]; exact dRemove_any B b ⟨room, fuse, dead, fs⟩ (stx nm) W D0.out hn1 (Nat.le_trans HFU.out (by decide)))
    have HRC : Hid (∀ W', RFiles W' (.slice ao n cap) fs → Calls Try.prog 24 #[.agg #[.int .i64 room, .int .i64 fuse, .bool dead, .slice ao n cap], .string (stx nm)] W' (R5Post d2 E W')) := Lib.hid (fun W' h => by rw [← hd2, ← hE]; exact r5Remove_any ⟨room, fuse, dead, fs⟩ (.slice ao n cap) nm W' h HFL.out HFF.out)
    obtain ⟨room2, fuse2, dead2, fs2⟩ := d2
    clear hd2 hE
    refine HDC.out.mono ?_
    rintro e w1 ⟨rfl, D1, x1⟩
    clear c0 c1 c2 c3 a0 a1 a2 a4 a5 p0 p1 p2 p3 e0 e1 e2 e3
    have h0 := x1.keep H0.out (by decide)
    have hA := x1.keep HA.out (by decide)
    have h1 := x1.keep H1.out (by decide)
    have R1 := R0.out.stir x1
    have c0 := (Lib.cell_of_heap h0 0).trans (rfl : _ = some (Value.int .i64 room))
    have c1 := (Lib.cell_of_heap h0 1).trans (rfl : _ = some (Value.int .i64 fuse))
    have c2 := (Lib.cell_of_heap h0 2).trans (rfl : _ = some (Value.bool dead))
    have c3 := (Lib.cell_of_heap h0 3).trans (rfl : _ = some (Value.slice ao n cap))
    have a0 := (Lib.cell_of_heap hA 0).trans (rfl : _ = some (Value.int .i64 kind))
    have a1 := (Lib.cell_of_heap hA 1).trans (rfl : _ = some (Value.string (stx nm)))
    have a2 := (Lib.cell_of_heap hA 2).trans (rfl : _ = some (Value.string (stx tl)))
    have a4 := (Lib.cell_of_heap hA 4).trans (rfl : _ = some (Value.int .i64 m))
    have a5 := (Lib.cell_of_heap hA 5).trans (rfl : _ = some (Value.slice kao kn kcap))
    have HD1 := Lib.hid D1
    have HX1 := Lib.hid (S0.out.trans x1)
    have HH0 := Lib.hid h0
    have HH1 := Lib.hid h1
    have HR1 := Lib.hid R1
    clear D1 x1 h0 hA h1 R1 S0 D0 R0 H0 HA H1
    clear HDC
    go_wp2_with fail
    refine (HRC.out _ HR1.out).mono ?_
    rintro e w2 ⟨v2, rfl, R2, b2⟩
    clear HRC c0 c1 c2 c3 a0 a1 a2 a4 a5
    obtain ⟨ao2, cap2, hv2⟩ := id R2.1
    obtain ⟨rfl, -⟩ := hv2
    have hCl := dHeap_lt HH0.out
    have k0 := (b2.block _ (dHeap_lt HH0.out)).trans HH0.out
    have k1 := (b2.block _ (dHeap_lt HH1.out)).trans HH1.out
    have r0 := rowAt_of_heap k0
    have r1 := rowAt_of_heap k1
    have HD2 := Lib.hid (HD1.out.kept b2)
    have HX2 := Lib.hid (HX1.out.trans (b2.stir (Nat.le_trans hBw HX1.out.size)))
    have HR2 := Lib.hid R2
    have HK0 := Lib.hid k0
    have HK1 := Lib.hid k1
    have HR0 := Lib.hid r0
    have HRR := Lib.hid r1
    have c0 := (cell_of_rowAt r0 0).trans (rfl : _ = some (Value.int .i64 room))
    have c1 := (cell_of_rowAt r0 1).trans (rfl : _ = some (Value.int .i64 fuse))
    have c2 := (cell_of_rowAt r0 2).trans (rfl : _ = some (Value.bool dead))
    have c3 := (cell_of_rowAt r0 3).trans (rfl : _ = some (Value.slice ao n cap))
    have o0 := frozen_of_rowAt r0 0
    have o1 := frozen_of_rowAt r0 1
    have o2 := frozen_of_rowAt r0 2
    have o3 := frozen_of_rowAt r0 3
    have p0 := (cell_of_rowAt r1 0).trans (rfl : _ = some (Value.int .i64 0))
    have p1 := (cell_of_rowAt r1 1).trans (rfl : _ = some (Value.int .i64 0))
    have p2 := (cell_of_rowAt r1 2).trans (rfl : _ = some (Value.bool false))
    have p3 := (cell_of_rowAt r1 3).trans (rfl : _ = some (Value.slice none 0 0))
    have e0 := frozen_of_rowAt r1 0
    have e1 := frozen_of_rowAt r1 1
    have e2 := frozen_of_rowAt r1 2
    have e3 := frozen_of_rowAt r1 3
    unfold diskC
    dsimp only
    obtain ⟨n2, hn2⟩ : ∃ n2, fs2.length = n2 := ⟨_, rfl⟩
    have HN2 := Lib.hid hn2
    rw [hn2]
    clear r0 r1 k0 k1 b2 R2 HD1 HX1 HR1 HH0 HH1 hn2
    go_wp2_with fail
    have k1 := (heap_other4 (w := w2) (k := w.heap.size) (g := w.heap.size + 2) (by omega) (.int .i64 room2) (.int .i64 fuse2) (.bool dead2) (.slice ao2 n2 cap2)).trans HK1.out
    have q1 := rowAt_of_heap k1
    have rr := rowAt_setCell_same (rowAt_setCell_same (rowAt_setCell_same (rowAt_setCell_same q1 0 (.int .i64 room2)) 1 (.int .i64 fuse2)) 2 (.bool dead2)) 3 (.slice ao2 n2 cap2)
    refine bodyPost_ret (results_row_tmp rfl _ _ _ _ _ rfl rr Try.underlying27 rfl (by kernel_rfl)) rfl ?_
    refine ⟨.slice ao2 n2 cap2, ⟨room2, fuse2, dead2, fs2⟩, rfl, ?_, ?_, HP.out, ?_⟩
    · exact (HD2.out.aside4 HK0.out (by decide) _ _ _ _).aside4 k1 (by decide) _ _ _ _
    · have hR2 := HR2.out
      rw [HN2.out] at hR2
      exact RFiles.set4 (z := room2) (RFiles.set4 (z := room2) hR2 HR0.out (.int .i64 fuse2) (.bool dead2) (.slice ao2 n2 cap2)) q1 (.int .i64 fuse2) (.bool dead2) (.slice ao2 n2 cap2)
    · exact (HX2.out.newer4 (k := w.heap.size) (Nat.le_refl _) hBw _ _ _ _).newer4 (k := w.heap.size + 2) (by omega) (by omega) _ _ _ _
  · obtain ⟨d2, hd2⟩ : ∃ d2, armD ⟨room, fuse, dead, fs⟩ m = d2 := ⟨_, rfl⟩
    have HP : Hid (PInv (i + 1) d2) := Lib.hid (by rw [← hd2]; exact p_arm HI.out m HM.out)
    have HDC : Hid (Calls Try.prog 25 #[.pointer (some ⟨b, 0, none⟩), .int .i64 m] W fun e w' => e = .returned (.tuple #[]) ∧ DiskAt B b d2 w' ∧ Stir B W w') := Lib.hid (by rw [← hd2]; exact dArm_any B b ⟨room, fuse, dead, fs⟩ m W D0.out HM.out)
    have HRC : Hid (∀ W', RFiles W' (.slice ao n cap) fs → Calls Try.prog 26 #[.agg #[.int .i64 room, .int .i64 fuse, .bool dead, .slice ao n cap], .int .i64 m] W' (R5One d2 W')) := Lib.hid (fun W' h => by rw [← hd2]; exact r5Arm_any ⟨room, fuse, dead, fs⟩ (.slice ao n cap) m W' h)
    obtain ⟨room2, fuse2, dead2, fs2⟩ := d2
    clear hd2
    refine HDC.out.mono ?_
    rintro e w1 ⟨rfl, D1, x1⟩
    clear c0 c1 c2 c3 a0 a1 a2 a4 a5 p0 p1 p2 p3 e0 e1 e2 e3
    have h0 := x1.keep H0.out (by decide)
    have hA := x1.keep HA.out (by decide)
    have h1 := x1.keep H1.out (by decide)
    have R1 := R0.out.stir x1
    have c0 := (Lib.cell_of_heap h0 0).trans (rfl : _ = some (Value.int .i64 room))
    have c1 := (Lib.cell_of_heap h0 1).trans (rfl : _ = some (Value.int .i64 fuse))
    have c2 := (Lib.cell_of_heap h0 2).trans (rfl : _ = some (Value.bool dead))
    have c3 := (Lib.cell_of_heap h0 3).trans (rfl : _ = some (Value.slice ao n cap))
    have a0 := (Lib.cell_of_heap hA 0).trans (rfl : _ = some (Value.int .i64 kind))
    have a1 := (Lib.cell_of_heap hA 1).trans (rfl : _ = some (Value.string (stx nm)))
    have a2 := (Lib.cell_of_heap hA 2).trans (rfl : _ = some (Value.string (stx tl)))
    have a4 := (Lib.cell_of_heap hA 4).trans (rfl : _ = some (Value.int .i64 m))
    have a5 := (Lib.cell_of_heap hA 5).trans (rfl : _ = some (Value.slice kao kn kcap))
    have HD1 := Lib.hid D1
    have HX1 := Lib.hid (S0.out.trans x1)
    have HH0 := Lib.hid h0
    have HH1 := Lib.hid h1
    have HR1 := Lib.hid R1
    clear D1 x1 h0 hA h1 R1 S0 D0 R0 H0 HA H1
    clear HDC
    go_wp2_with fail
    refine (HRC.out _ HR1.out).mono ?_
    rintro e w2 ⟨v2, rfl, R2, b2⟩
    clear HRC c0 c1 c2 c3 a0 a1 a2 a4 a5
    obtain ⟨ao2, cap2, hv2⟩ := id R2.1
    obtain ⟨rfl, -⟩ := hv2
    have hCl := dHeap_lt HH0.out
    have k0 := (b2.block _ (dHeap_lt HH0.out)).trans HH0.out
    have k1 := (b2.block _ (dHeap_lt HH1.out)).trans HH1.out
    have r0 := rowAt_of_heap k0
    have r1 := rowAt_of_heap k1
    have HD2 := Lib.hid (HD1.out.kept b2)
    have HX2 := Lib.hid (HX1.out.trans (b2.stir (Nat.le_trans hBw HX1.out.size)))
    have HR2 := Lib.hid R2
    have HK0 := Lib.hid k0
    have HK1 := Lib.hid k1
    have HR0 := Lib.hid r0
    have HRR := Lib.hid r1
    have c0 := (cell_of_rowAt r0 0).trans (rfl : _ = some (Value.int .i64 room))
    have c1 := (cell_of_rowAt r0 1).trans (rfl : _ = some (Value.int .i64 fuse))
    have c2 := (cell_of_rowAt r0 2).trans (rfl : _ = some (Value.bool dead))
    have c3 := (cell_of_rowAt r0 3).trans (rfl : _ = some (Value.slice ao n cap))
    have o0 := frozen_of_rowAt r0 0
    have o1 := frozen_of_rowAt r0 1
    have o2 := frozen_of_rowAt r0 2
    have o3 := frozen_of_rowAt r0 3
    have p0 := (cell_of_rowAt r1 0).trans (rfl : _ = some (Value.int .i64 0))
    have p1 := (cell_of_rowAt r1 1).trans (rfl : _ = some (Value.int .i64 0))
    have p2 := (cell_of_rowAt r1 2).trans (rfl : _ = some (Value.bool false))
    have p3 := (cell_of_rowAt r1 3).trans (rfl : _ = some (Value.slice none 0 0))
    have e0 := frozen_of_rowAt r1 0
    have e1 := frozen_of_rowAt r1 1
    have e2 := frozen_of_rowAt r1 2
    have e3 := frozen_of_rowAt r1 3
    unfold diskC
    dsimp only
    obtain ⟨n2, hn2⟩ : ∃ n2, fs2.length = n2 := ⟨_, rfl⟩
    have HN2 := Lib.hid hn2
    rw [hn2]
    clear r0 r1 k0 k1 b2 R2 HD1 HX1 HR1 HH0 HH1 hn2
    go_wp2_with fail
    have k1 := (heap_other4 (w := w2) (k := w.heap.size) (g := w.heap.size + 2) (by omega) (.int .i64 room2) (.int .i64 fuse2) (.bool dead2) (.slice ao2 n2 cap2)).trans HK1.out
    have q1 := rowAt_of_heap k1
    have rr := rowAt_setCell_same (rowAt_setCell_same (rowAt_setCell_same (rowAt_setCell_same q1 0 (.int .i64 room2)) 1 (.int .i64 fuse2)) 2 (.bool dead2)) 3 (.slice ao2 n2 cap2)
    refine bodyPost_ret (results_row_tmp rfl _ _ _ _ _ rfl rr Try.underlying27 rfl (by kernel_rfl)) rfl ?_
    refine ⟨.slice ao2 n2 cap2, ⟨room2, fuse2, dead2, fs2⟩, rfl, ?_, ?_, HP.out, ?_⟩
    · exact (HD2.out.aside4 HK0.out (by decide) _ _ _ _).aside4 k1 (by decide) _ _ _ _
    · have hR2 := HR2.out
      rw [HN2.out] at hR2
      exact RFiles.set4 (z := room2) (RFiles.set4 (z := room2) hR2 HR0.out (.int .i64 fuse2) (.bool dead2) (.slice ao2 n2 cap2)) q1 (.int .i64 fuse2) (.bool dead2) (.slice ao2 n2 cap2)
    · exact (HX2.out.newer4 (k := w.heap.size) (Nat.le_refl _) hBw _ _ _ _).newer4 (k := w.heap.size + 2) (by omega) (by omega) _ _ _ _
  · have hkr : ∀ k ∈ ks.take 50, -9223372036854775808 ≤ k ∧ k ≤ 9223372036854775807 := fun k hk => by
      obtain ⟨_, _, _, _, _, h, _⟩ := K0.out W S0.out.below
      exact h k (List.mem_of_mem_take hk)
    have HKR := Lib.hid hkr
    have HKL : Hid ((ks.take 50).length ≤ 1000) := Lib.hid (by rw [List.length_take]; omega)
    clear hkr
    refine (few5_any (.slice kao kn kcap) ks 50 W (K0.out W S0.out.below) (by decide)).mono ?_
    rintro e wf ⟨kv1, rfl, ok1, bf⟩
    have D0' := Lib.hid (D0.out.kept bf)
    have R0' := Lib.hid (R0.out.below bf)
    have S0' := Lib.hid (S0.out.trans (bf.stir (Nat.le_trans hBw S0.out.size)))
    have H0' := Lib.hid ((bf.block _ (dHeap_lt H0.out)).trans H0.out)
    have HA' := Lib.hid ((bf.block _ (dHeap_lt HA.out)).trans HA.out)
    have H1' := Lib.hid ((bf.block _ (dHeap_lt H1.out)).trans H1.out)
    have HO := Lib.hid ok1
    clear D0 R0 S0 H0 HA H1 bf ok1
    have D0 := D0'
    have R0 := R0'
    have S0 := S0'
    have H0 := H0'
    have HA := HA'
    have H1 := H1'
    clear D0' R0' S0' H0' HA' H1'
    obtain ⟨l50, hl50⟩ : ∃ l50, ks.take 50 = l50 := ⟨_, rfl⟩
    rw [hl50] at HKR HKL HO
    obtain ⟨d2, hd2⟩ : ∃ d2, crashD ⟨room, fuse, dead, fs⟩ l50 = d2 := ⟨_, rfl⟩
    have HP : Hid (PInv (i + 1) d2) := Lib.hid (by rw [← hd2]; exact p_crash HI.out l50)
    have HDC : Hid (Calls Try.prog 17 #[.pointer (some ⟨b, 0, none⟩), kv1] wf fun e w' => e = .returned (.tuple #[]) ∧ DiskAt B b d2 w' ∧ Stir B wf w') := Lib.hid (by rw [← hd2]; exact dCrash_any B b ⟨room, fuse, dead, fs⟩ kv1 l50 wf D0.out (HO.out.at_ HKR.out) (Nat.le_trans HKL.out (by decide)) (Nat.le_trans HFL.out (by decide)) (Nat.le_trans HFU.out (by decide)) HNL.out)
    have HRC : Hid (∀ W' kv2, RFiles W' (.slice ao n cap) fs → (∃ Bk, OwnInts W' Bk kv2 l50) → Calls Try.prog 28 #[.agg #[.int .i64 room, .int .i64 fuse, .bool dead, .slice ao n cap], kv2] W' (R5One d2 W')) := Lib.hid (fun W' kv2 h ⟨Bk, hk⟩ => by rw [← hd2]; exact r5Crash_any ⟨room, fuse, dead, fs⟩ (.slice ao n cap) kv2 l50 Bk W' h HFL.out (Nat.le_trans HFU.out (by decide)) HSU.out hk HKR.out HKL.out)
    obtain ⟨room2, fuse2, dead2, fs2⟩ := d2
    have HL50 := Lib.hid hl50
    clear hd2 hl50
    go_wp2_with fail
    refine HDC.out.mono ?_
    rintro e w1 ⟨rfl, D1, x1⟩
    clear c0 c1 c2 c3 a0 a1 a2 a4 a5 p0 p1 p2 p3 e0 e1 e2 e3
    have h0 := x1.keep H0.out (by decide)
    have hA := x1.keep HA.out (by decide)
    have h1 := x1.keep H1.out (by decide)
    have R1 := R0.out.stir x1
    have c0 := (Lib.cell_of_heap h0 0).trans (rfl : _ = some (Value.int .i64 room))
    have c1 := (Lib.cell_of_heap h0 1).trans (rfl : _ = some (Value.int .i64 fuse))
    have c2 := (Lib.cell_of_heap h0 2).trans (rfl : _ = some (Value.bool dead))
    have c3 := (Lib.cell_of_heap h0 3).trans (rfl : _ = some (Value.slice ao n cap))
    have a0 := (Lib.cell_of_heap hA 0).trans (rfl : _ = some (Value.int .i64 kind))
    have a1 := (Lib.cell_of_heap hA 1).trans (rfl : _ = some (Value.string (stx nm)))
    have a2 := (Lib.cell_of_heap hA 2).trans (rfl : _ = some (Value.string (stx tl)))
    have a4 := (Lib.cell_of_heap hA 4).trans (rfl : _ = some (Value.int .i64 m))
    have a5 := (Lib.cell_of_heap hA 5).trans (rfl : _ = some (Value.slice kao kn kcap))
    have HD1 := Lib.hid D1
    have HX1 := Lib.hid (S0.out.trans x1)
    have HH0 := Lib.hid h0
    have HH1 := Lib.hid h1
    have HR1 := Lib.hid R1
    clear D1 x1 h0 hA h1 R1 S0 D0 R0 H0 HA H1
    clear HDC
    have bd : Below w1.heap.size w1 w1.drew := (Below.refl _ _).drew
    have HFE := Lib.hid (few5_any (.slice kao kn kcap) ks 50 w1.drew (K0.out _ (HX1.out.below.trans (bd.stir (Nat.le_trans hBw HX1.out.size)).below)) (by decide))
    rw [HL50.out] at HFE
    have c0' : w1.drew.cell? ⟨w.heap.size, 0, none⟩ = _ := c0
    have c1' : w1.drew.cell? ⟨w.heap.size, 1, none⟩ = _ := c1
    have c2' : w1.drew.cell? ⟨w.heap.size, 2, none⟩ = _ := c2
    have c3' : w1.drew.cell? ⟨w.heap.size, 3, none⟩ = _ := c3
    have a5' : w1.drew.cell? ⟨w.heap.size + 1, 5, none⟩ = _ := a5
    have HBD := Lib.hid bd
    clear bd
    go_wp2_with fail
    go_region_with (first
      | (go_at_call 27
         refine HFE.out.mono ?_
         rintro e w5 ⟨kv2, rfl, ok2, b5⟩
         have b5' := below_past HBD.out b5 HBD.out.size
         have D5 := Lib.hid (HD1.out.kept b5')
         have X5 := Lib.hid (HX1.out.trans (b5'.stir (Nat.le_trans hBw HX1.out.size)))
         have R5 := Lib.hid (HR1.out.below b5')
         have h0 := (b5'.block _ (dHeap_lt HH0.out)).trans HH0.out
         have h1 := (b5'.block _ (dHeap_lt HH1.out)).trans HH1.out
         have HO2 := Lib.hid ok2
         clear c0 c1 c2 c3 a0 a1 a2 a4 a5 c0' c1' c2' c3' a5'
         have c0 := (Lib.cell_of_heap h0 0).trans (rfl : _ = some (Value.int .i64 room))
         have c1 := (Lib.cell_of_heap h0 1).trans (rfl : _ = some (Value.int .i64 fuse))
         have c2 := (Lib.cell_of_heap h0 2).trans (rfl : _ = some (Value.bool dead))
         have c3 := (Lib.cell_of_heap h0 3).trans (rfl : _ = some (Value.slice ao n cap))
         have H50 := Lib.hid h0
         have H51 := Lib.hid h1
         clear HD1 HX1 HR1 HH0 HH1 HFE HBD b5 b5' ok2 h0 h1
         have HD1 := D5
         have HX1 := X5
         have HR1 := R5
         have HH0 := H50
         have HH1 := H51
         clear D5 X5 R5 H50 H51)
      | (go_at_call 28
         refine (HRC.out _ _ HR1.out ⟨_, HO2.out⟩).mono ?_
         rintro e w2 ⟨v2, rfl, R2, b2⟩
         clear c0 c1 c2 c3
         obtain ⟨ao2, cap2, hv2⟩ := id R2.1
         obtain ⟨rfl, -⟩ := hv2
         have hCl := dHeap_lt HH0.out
         have k0 := (b2.block _ (dHeap_lt HH0.out)).trans HH0.out
         have k1 := (b2.block _ (dHeap_lt HH1.out)).trans HH1.out
         have r0 := rowAt_of_heap k0
         have r1 := rowAt_of_heap k1
         have HD2 := Lib.hid (HD1.out.kept b2)
         have HX2 := Lib.hid (HX1.out.trans (b2.stir (Nat.le_trans hBw HX1.out.size)))
         have HR2 := Lib.hid R2
         have HK0 := Lib.hid k0
         have HK1 := Lib.hid k1
         have HR0 := Lib.hid r0
         have HRR := Lib.hid r1
         have c0 := (cell_of_rowAt r0 0).trans (rfl : _ = some (Value.int .i64 room))
         have c1 := (cell_of_rowAt r0 1).trans (rfl : _ = some (Value.int .i64 fuse))
         have c2 := (cell_of_rowAt r0 2).trans (rfl : _ = some (Value.bool dead))
         have c3 := (cell_of_rowAt r0 3).trans (rfl : _ = some (Value.slice ao n cap))
         have o0 := frozen_of_rowAt r0 0
         have o1 := frozen_of_rowAt r0 1
         have o2 := frozen_of_rowAt r0 2
         have o3 := frozen_of_rowAt r0 3
         have p0 := (cell_of_rowAt r1 0).trans (rfl : _ = some (Value.int .i64 0))
         have p1 := (cell_of_rowAt r1 1).trans (rfl : _ = some (Value.int .i64 0))
         have p2 := (cell_of_rowAt r1 2).trans (rfl : _ = some (Value.bool false))
         have p3 := (cell_of_rowAt r1 3).trans (rfl : _ = some (Value.slice none 0 0))
         have e0 := frozen_of_rowAt r1 0
         have e1 := frozen_of_rowAt r1 1
         have e2 := frozen_of_rowAt r1 2
         have e3 := frozen_of_rowAt r1 3
         unfold diskC
         dsimp only
         obtain ⟨n2, hn2⟩ : ∃ n2, fs2.length = n2 := ⟨_, rfl⟩
         have HN2 := Lib.hid hn2
         rw [hn2]
         clear r0 r1 k0 k1 b2 R2 HD1 HX1 HR1 HH0 HH1 hn2
         skip))
    all_goals
      go_wp2_with fail
      have k1 := (heap_other4 (w := w2) (k := w.heap.size) (g := w.heap.size + 2) (by omega) (.int .i64 room2) (.int .i64 fuse2) (.bool dead2) (.slice ao2 n2 cap2)).trans HK1.out
      have q1 := rowAt_of_heap k1
      have rr := rowAt_setCell_same (rowAt_setCell_same (rowAt_setCell_same (rowAt_setCell_same q1 0 (.int .i64 room2)) 1 (.int .i64 fuse2)) 2 (.bool dead2)) 3 (.slice ao2 n2 cap2)
      refine bodyPost_ret (results_row_tmp rfl _ _ _ _ _ rfl rr Try.underlying27 rfl (by kernel_rfl)) rfl ?_
      refine ⟨.slice ao2 n2 cap2, ⟨room2, fuse2, dead2, fs2⟩, rfl, ?_, ?_, HP.out, ?_⟩
      · exact (HD2.out.aside4 HK0.out (by decide) _ _ _ _).aside4 k1 (by decide) _ _ _ _
      · have hR2 := HR2.out
        rw [HN2.out] at hR2
        exact RFiles.set4 (z := room2) (RFiles.set4 (z := room2) hR2 HR0.out (.int .i64 fuse2) (.bool dead2) (.slice ao2 n2 cap2)) q1 (.int .i64 fuse2) (.bool dead2) (.slice ao2 n2 cap2)
      · exact (HX2.out.newer4 (k := w.heap.size) (Nat.le_refl _) hBw _ _ _ _).newer4 (k := w.heap.size + 2) (by omega) (by omega) _ _ _ _
  · obtain ⟨d2, hd2⟩ : ∃ d2, spD ⟨room, fuse, dead, fs⟩ nm m xb = d2 := ⟨_, rfl⟩
    obtain ⟨E, hE⟩ : ∃ E, spE ⟨room, fuse, dead, fs⟩ nm m = E := ⟨_, rfl⟩
    have HP : Hid (PInv (i + 1) d2) := Lib.hid (by rw [← hd2]; exact p_spoil HI.out nm m xb)
    have HDC : Hid (Calls Try.prog 29 #[.pointer (some ⟨b, 0, none⟩), .string (stx nm), .int .i64 m, .int .u8 (xb.toNat : Int)] W fun e w' => e = .returned (.int .i64 E) ∧ DiskAt B b d2 w' ∧ Stir B W w') := Lib.hid (by rw [← hd2, ← hE]; exact dSpoil_any B b ⟨room, fuse, dead, fs⟩ (stx nm) m xb W D0.out hn1)
    have HRC : Hid (∀ W', RFiles W' (.slice ao n cap) fs → Calls Try.prog 30 #[.agg #[.int .i64 room, .int .i64 fuse, .bool dead, .slice ao n cap], .string (stx nm), .int .i64 m, .int .u8 (xb.toNat : Int)] W' (R5Post d2 E W')) := Lib.hid (fun W' h => by rw [← hd2, ← hE]; exact r5Spoil_any ⟨room, fuse, dead, fs⟩ (.slice ao n cap) nm m xb W' h HFL.out (Nat.le_trans HFU.out (by decide)))
    obtain ⟨room2, fuse2, dead2, fs2⟩ := d2
    clear hd2 hE
    refine HDC.out.mono ?_
    rintro e w1 ⟨rfl, D1, x1⟩
    clear c0 c1 c2 c3 a0 a1 a2 a4 a5 p0 p1 p2 p3 e0 e1 e2 e3
    have h0 := x1.keep H0.out (by decide)
    have hA := x1.keep HA.out (by decide)
    have h1 := x1.keep H1.out (by decide)
    have R1 := R0.out.stir x1
    have c0 := (Lib.cell_of_heap h0 0).trans (rfl : _ = some (Value.int .i64 room))
    have c1 := (Lib.cell_of_heap h0 1).trans (rfl : _ = some (Value.int .i64 fuse))
    have c2 := (Lib.cell_of_heap h0 2).trans (rfl : _ = some (Value.bool dead))
    have c3 := (Lib.cell_of_heap h0 3).trans (rfl : _ = some (Value.slice ao n cap))
    have a0 := (Lib.cell_of_heap hA 0).trans (rfl : _ = some (Value.int .i64 kind))
    have a1 := (Lib.cell_of_heap hA 1).trans (rfl : _ = some (Value.string (stx nm)))
    have a2 := (Lib.cell_of_heap hA 2).trans (rfl : _ = some (Value.string (stx tl)))
    have a4 := (Lib.cell_of_heap hA 4).trans (rfl : _ = some (Value.int .i64 m))
    have a5 := (Lib.cell_of_heap hA 5).trans (rfl : _ = some (Value.slice kao kn kcap))
    have HD1 := Lib.hid D1
    have HX1 := Lib.hid (S0.out.trans x1)
    have HH0 := Lib.hid h0
    have HH1 := Lib.hid h1
    have HR1 := Lib.hid R1
    clear D1 x1 h0 hA h1 R1 S0 D0 R0 H0 HA H1
    clear HDC
    go_wp2_with fail
    refine (HRC.out _ HR1.out).mono ?_
    rintro e w2 ⟨v2, rfl, R2, b2⟩
    clear HRC c0 c1 c2 c3 a0 a1 a2 a4 a5
    obtain ⟨ao2, cap2, hv2⟩ := id R2.1
    obtain ⟨rfl, -⟩ := hv2
    have hCl := dHeap_lt HH0.out
    have k0 := (b2.block _ (dHeap_lt HH0.out)).trans HH0.out
    have k1 := (b2.block _ (dHeap_lt HH1.out)).trans HH1.out
    have r0 := rowAt_of_heap k0
    have r1 := rowAt_of_heap k1
    have HD2 := Lib.hid (HD1.out.kept b2)
    have HX2 := Lib.hid (HX1.out.trans (b2.stir (Nat.le_trans hBw HX1.out.size)))
    have HR2 := Lib.hid R2
    have HK0 := Lib.hid k0
    have HK1 := Lib.hid k1
    have HR0 := Lib.hid r0
    have HRR := Lib.hid r1
    have c0 := (cell_of_rowAt r0 0).trans (rfl : _ = some (Value.int .i64 room))
    have c1 := (cell_of_rowAt r0 1).trans (rfl : _ = some (Value.int .i64 fuse))
    have c2 := (cell_of_rowAt r0 2).trans (rfl : _ = some (Value.bool dead))
    have c3 := (cell_of_rowAt r0 3).trans (rfl : _ = some (Value.slice ao n cap))
    have o0 := frozen_of_rowAt r0 0
    have o1 := frozen_of_rowAt r0 1
    have o2 := frozen_of_rowAt r0 2
    have o3 := frozen_of_rowAt r0 3
    have p0 := (cell_of_rowAt r1 0).trans (rfl : _ = some (Value.int .i64 0))
    have p1 := (cell_of_rowAt r1 1).trans (rfl : _ = some (Value.int .i64 0))
    have p2 := (cell_of_rowAt r1 2).trans (rfl : _ = some (Value.bool false))
    have p3 := (cell_of_rowAt r1 3).trans (rfl : _ = some (Value.slice none 0 0))
    have e0 := frozen_of_rowAt r1 0
    have e1 := frozen_of_rowAt r1 1
    have e2 := frozen_of_rowAt r1 2
    have e3 := frozen_of_rowAt r1 3
    unfold diskC
    dsimp only
    obtain ⟨n2, hn2⟩ : ∃ n2, fs2.length = n2 := ⟨_, rfl⟩
    have HN2 := Lib.hid hn2
    rw [hn2]
    clear r0 r1 k0 k1 b2 R2 HD1 HX1 HR1 HH0 HH1 hn2
    go_wp2_with fail
    have k1 := (heap_other4 (w := w2) (k := w.heap.size) (g := w.heap.size + 2) (by omega) (.int .i64 room2) (.int .i64 fuse2) (.bool dead2) (.slice ao2 n2 cap2)).trans HK1.out
    have q1 := rowAt_of_heap k1
    have rr := rowAt_setCell_same (rowAt_setCell_same (rowAt_setCell_same (rowAt_setCell_same q1 0 (.int .i64 room2)) 1 (.int .i64 fuse2)) 2 (.bool dead2)) 3 (.slice ao2 n2 cap2)
    refine bodyPost_ret (results_row_tmp rfl _ _ _ _ _ rfl rr Try.underlying27 rfl (by kernel_rfl)) rfl ?_
    refine ⟨.slice ao2 n2 cap2, ⟨room2, fuse2, dead2, fs2⟩, rfl, ?_, ?_, HP.out, ?_⟩
    · exact (HD2.out.aside4 HK0.out (by decide) _ _ _ _).aside4 k1 (by decide) _ _ _ _
    · have hR2 := HR2.out
      rw [HN2.out] at hR2
      exact RFiles.set4 (z := room2) (RFiles.set4 (z := room2) hR2 HR0.out (.int .i64 fuse2) (.bool dead2) (.slice ao2 n2 cap2)) q1 (.int .i64 fuse2) (.bool dead2) (.slice ao2 n2 cap2)
    · exact (HX2.out.newer4 (k := w.heap.size) (Nat.le_refl _) hBw _ _ _ _).newer4 (k := w.heap.size + 2) (by omega) (by omega) _ _ _ _
  · have q1 := rowAt_of_heap H1.out
    have rr := rowAt_setCell_same (rowAt_setCell_same (rowAt_setCell_same (rowAt_setCell_same q1 0 (.int .i64 room)) 1 (.int .i64 fuse)) 2 (.bool dead)) 3 (.slice ao n cap)
    refine bodyPost_ret (results_row_tmp rfl _ _ _ _ _ rfl rr Try.underlying27 rfl (by kernel_rfl)) rfl ?_
    refine ⟨.slice ao n cap, ⟨room, fuse, dead, fs⟩, rfl, ?_, ?_, HI.out.mono, ?_⟩
    · exact D0.out.aside4 H1.out (by decide) _ _ _ _
    · exact RFiles.set4 (z := room) R0.out q1 (.int .i64 fuse) (.bool dead) (.slice ao n cap)
    · exact S0.out.newer4 (k := w.heap.size + 2) (by omega) (by omega) _ _ _ _
end Go.Proofs.Ytlnijckgnchpbaa
