/- A filter of keys is made. Conditions: none. -/
import Derived.Test.YtdedlekelkaabaaBloom3
import Derived.Test.YtdedlekelkaabaaLists
import Derived.RangeFuncWrites
namespace Go.Proofs.Ytdedlekelkaabaa
open Go Go.RowKit Go.Shelf
attribute [local go_sem] Oper.semAt_some

/-- Bit k is set. -/
def setK (bs : List UInt8) (k : Nat) : List UInt8 := bs.set (k / 8) (UInt8.ofNat ((bs.getD (k / 8) 0).toNat ||| 2 ^ (k % 8)))
theorem setK_length (bs : List UInt8) (k : Nat) : (setK bs k).length = bs.length := by simp [setK]
def sizeK (m each : Nat) : Nat := (m * each + 7) / 8 + 1
def probesK (each : Nat) : Nat := max 1 (each * 7 / 10)
/-- A key's bits are set. -/
def putKey (p : Nat) (bs : List UInt8) (key : List UInt8) : List UInt8 := (List.range p).foldl (fun b i => setK b (plQ (hashL key) (8 * bs.length) i).toNat) bs
def makeK (p n : Nat) (keys : List (List UInt8)) : List UInt8 := keys.foldl (putKey p) (List.replicate n 0)

def cellsB8 (bs : List UInt8) : Array Value := (bs.map Extern.Stop.cell).toArray
theorem made_zero (n : Nat) : madeCells (Value.int .u8 0).cells (n * 1) = cellsB8 (List.replicate n 0) := by
  apply Array.ext
  · simp [madeCells, cellsB8]
  · intro i h1 h2
    simp [madeCells, cellsB8, Value.cells, Extern.Stop.cell, Nat.mod_one]
theorem make_bytes (n : Nat) (hn : n ≤ 100000) (w : World) : (Instr.makeSlice 24 (.int .i64 n) (.int .i64 n)).run Try.prog w = .ok (.slice (some ⟨w.heap.size, 0, none⟩) n n) (w.alloc (.cells (cellsB8 (List.replicate n 0)) 5)) := by
  have h : (Try.prog.info? 5).map (fun i => (i.zero, i.size, i.bytes)) = some (some (.int .u8 0), 1, 1) := by kernel_rfl
  obtain ⟨i0, hi, hz0, hz1, hz2⟩ := info_parts h
  have := run_make (P := Try.prog) w 24 5 i0 (.int .u8 0) Try.underlying24 hi hz0 .i64 .i64 n n (by omega) (Int.le_refl _) (by rw [hz2]; omega) (by omega)
  rw [hz1, Int.toNat_natCast, made_zero] at this
  exact this

/-- The marks of ranges that are over are taken off. -/
theorem leaves_marks {F : Fence} {n : Nat} {P : Program} {fn : Func} {tmps : Array Value} {R : Ending → World → Prop} : ∀ (Ds : List Nat) (u : FrameMode) (w : World), u ≠ .run → Ds.Nodup → (∀ D ∈ Ds, w.heap[D]? = some (.deferred (some []))) →
    (∀ W' : World, W'.os = w.os → W'.tape = w.tape → W'.output = w.output → W'.heap.size = w.heap.size → (∀ k, k ∉ Ds → W'.heap[k]? = w.heap[k]?) → LeavesIn F n P fn tmps R [] u W') → LeavesInM F n P fn tmps R (Ds.map fun D => { target := .collected D, args := #[] }) u w
  | [], _, w, _, _, _, h => h w rfl rfl rfl rfl fun _ _ => rfl
  | D :: Ds, u, w, hu, hnd, hD, h => by
    have h0 := hD D (by simp)
    refine ⟨hu, .inl ⟨D, _, rfl, run_takeDeferred h0, ?_⟩⟩
    have hnd' := List.nodup_cons.1 hnd
    refine leaves_marks Ds u _ hu hnd'.2 (fun E hE => ?_) (fun W' h1 h2 h3 h4 h5 => ?_)
    · have hne : E ≠ D := fun e => hnd'.1 (e ▸ hE)
      exact (World.putObj_heap_other hne).trans (hD E (by simp [hE]))
    · refine h W' h1 h2 h3 (h4.trans (by simp [World.putObj])) (fun k hk => ?_)
      have hne : k ≠ D := fun e => hk (by simp [e])
      exact (h5 k (fun e => hk (by simp [e]))).trans (World.putObj_heap_other hne)
def bsK (P N : Nat) (S : Nat → ByteArray) (j : Nat) : List UInt8 := ((List.range j).map fun i => (S i).data.toList).foldl (putKey P) (List.replicate N 0)
theorem putKey_length (p : Nat) (bs : List UInt8) (key : List UInt8) : (putKey p bs key).length = bs.length := by
  have : ∀ (m : Nat) (l : List Nat) (b : List UInt8), (l.foldl (fun b i => setK b (plQ (hashL key) (8 * m) i).toNat) b).length = b.length := by
    intro m l
    induction l with
    | nil => intro b; rfl
    | cons i l ih => intro b; rw [List.foldl_cons, ih, setK_length]
  exact this _ _ bs
theorem bsK_length (P N : Nat) (S : Nat → ByteArray) (j : Nat) : (bsK P N S j).length = N := by
  unfold bsK
  have : ∀ (l : List (List UInt8)) (b : List UInt8), (l.foldl (putKey P) b).length = b.length := by
    intro l
    induction l with
    | nil => intro b; rfl
    | cons i l ih => intro b; rw [List.foldl_cons, ih, putKey_length]
  rw [this, List.length_replicate]
theorem bsK_succ (P N : Nat) (S : Nat → ByteArray) (j : Nat) : bsK P N S (j + 1) = putKey P (bsK P N S j) (S j).data.toList := by
  unfold bsK
  rw [List.range_succ, List.map_append, List.foldl_append]
  rfl

theorem cellsB8_get (bs : List UInt8) (i : Nat) (h : i < bs.length) : (cellsB8 bs)[i]? = some (.int .u8 ((bs.getD i 0).toNat : Int)) := by
  simp [cellsB8, Extern.Stop.cell, h]
theorem or_bits : ∀ (c : Fin 256) (j : Fin 8), bits .or .u8 (c.val : Int) ((2 : Int) ^ j.val % 256) = ((c.val ||| 2 ^ j.val : Nat) : Int) ∧ (c.val ||| 2 ^ j.val) < 256 := by decide +kernel
theorem or_byte8 (c : UInt8) (k : Nat) : bits .or .u8 (c.toNat : Int) ((2 : Int) ^ (k % 8) % 256) = ((UInt8.ofNat (c.toNat ||| 2 ^ (k % 8))).toNat : Int) := by
  have h := or_bits ⟨c.toNat, c.toNat_lt⟩ ⟨k % 8, Nat.mod_lt _ (by decide)⟩
  rw [UInt8.toNat_ofNat', Nat.mod_eq_of_lt h.2]
  exact h.1
theorem cellsB8_set (bs : List UInt8) (i : Nat) (c : UInt8) : (cellsB8 bs).setIfInBounds i (.int .u8 (c.toNat : Int)) = cellsB8 (bs.set i c) := by
  simp [cellsB8, Extern.Stop.cell, List.map_set]
/-- Marks that lie below B abide what is laid or turned from B on. -/
theorem own_marks {β : Type} (B : Nat) (Ds : List Nat) (hB : ∀ D ∈ Ds, D < B) : OwnFrom B (fun (_ : β) (W : World) => ∀ D ∈ Ds, W.heap[D]? = some (.deferred (some []))) := by
  intro s W W' row hs hg hr D hD
  have h0 := hs D hD
  refine (hg.block D (Array.getElem?_eq_some_iff.1 h0).1 fun e => ?_).trans h0
  have := (hr D e.symm).1
  have := hB D hD
  omega

set_option maxRecDepth 100000 in
set_option maxHeartbeats 4000000 in
theorem make_any (v : Value) (len : Nat) (S : Nat → ByteArray) (each : Nat) (w : World) (h1 : InStrs w v len S) (hs : ∀ i, i < len → (S i).size ≤ 1000000) (he : 1 ≤ each ∧ each ≤ 32) (hl : len ≤ 2048) :
    Calls Try.prog 6 #[v, .int .i64 each] w fun e w' => ∃ g cap, e = .returned (.tuple #[.agg #[.int .i64 (probesK each), .slice (some ⟨g, 0, none⟩) (sizeK len each) cap], .int .i64 0]) ∧ rowAt w' g = some ((makeK (probesK each) (sizeK len each) ((List.range len).map fun i => (S i).data.toList)).map Extern.Stop.cell).toArray ∧ w.heap.size ≤ g ∧ Below w.heap.size w w' := by
  obtain ⟨ao1, cap1, rfl, hS1⟩ := h1
  have HS1 := Lib.hid hS1
  have HSZ := Lib.hid hs
  obtain ⟨P, hP⟩ : ∃ P, probesK each = P := ⟨_, rfl⟩
  obtain ⟨N, hN⟩ : ∃ N, sizeK len each = N := ⟨_, rfl⟩
  have hee1 : (1 : Int) ≤ each := by omega
  have hee2 : (each : Int) ≤ 32 := by omega
  have hll : (len : Int) ≤ 2048 := by omega
  have hle : len * each ≤ 65536 := Nat.le_trans (Nat.mul_le_mul hl he.2) (by decide)
  have q1 : decide ((each : Int) < 1) = false := decide_eq_false (by omega)
  have q2 : decide ((32 : Int) < each) = false := decide_eq_false (by omega)
  have q3 : decide ((2048 : Int) < len) = false := decide_eq_false (by omega)
  have hP2 : P ≤ 22 := by rw [← hP, probesK]; omega
  have hN1 : 0 < N := by rw [← hN, sizeK]; omega
  have hN2 : N ≤ 8193 := by rw [← hN, sizeK]; omega
  obtain ⟨M, hM⟩ : ∃ M, len * each = M := ⟨_, rfl⟩
  have hmul : (len : Int) * (each : Int) = (M : Int) := by rw [← hM]; exact (Int.natCast_mul _ _).symm
  have hM2 : (M : Int) ≤ 65536 := by omega
  have hM0 : (0 : Int) ≤ M := by omega
  have hNM : ((M : Int) + 7) / 8 + 1 = N := by rw [← hN, sizeK, hM]; omega
  have hPM : max 1 ((each : Int) * 7 / 10) = P := by rw [← hP, probesK]; omega
  rw [hP, hN]
  have h3 : Fence.wide.fn 6 := trivial
  refine (callsIn_wide (n := 6)).1 ?_
  refine callsIn_of_wp_marks Try.func6 rfl h3 ?_ rfl
  simp only [Try.ntmps6, List.size_toArray, List.length_cons, List.length_nil, Nat.reduceAdd, Nat.reduceSub, Array.replicate_succ, Array.replicate_zero, List.push_toArray, List.append_toArray, List.nil_append, List.cons_append]
  have hNi : (N : Int) ≤ 8193 := by omega
  have hN0 : (0 : Int) < N := by omega
  have hmk := fun w => make_bytes N (by omega) w
  clear h3 hs hS1 hle hM hP hN hl he
  gi_wp2
  have x0 : (((w.alloc (.cells #[.int .i64 0, .slice none 0 0] 26)).alloc (.cells (cellsB8 (List.replicate N 0)) 5)).alloc (.cells #[.int .i64 P, .slice (some ⟨w.heap.size + 1, 0, none⟩) N N] 26)).heap[w.heap.size]? = some (.cells #[.int .i64 0, .slice none 0 0] 26 (0, 0)) :=
    (Below.heap_alloc _ _ _ (by simp; omega)).trans ((Below.heap_alloc _ _ _ (by simp)).trans (World.alloc_heap_new w _))
  have x1 : (((w.alloc (.cells #[.int .i64 0, .slice none 0 0] 26)).alloc (.cells (cellsB8 (List.replicate N 0)) 5)).alloc (.cells #[.int .i64 P, .slice (some ⟨w.heap.size + 1, 0, none⟩) N N] 26)).heap[w.heap.size + 1]? = some (.cells (cellsB8 (List.replicate N 0)) 5 (0, 0)) := by
    refine (Below.heap_alloc _ _ _ (by simp)).trans ?_
    have := World.alloc_heap_new (w.alloc (.cells #[.int .i64 0, .slice none 0 0] 26)) (.cells (cellsB8 (List.replicate N 0)) 5)
    rwa [World.size_alloc] at this
  have x2 : (((w.alloc (.cells #[.int .i64 0, .slice none 0 0] 26)).alloc (.cells (cellsB8 (List.replicate N 0)) 5)).alloc (.cells #[.int .i64 P, .slice (some ⟨w.heap.size + 1, 0, none⟩) N N] 26)).heap[w.heap.size + 1 + 1]? = some (.cells #[.int .i64 P, .slice (some ⟨w.heap.size + 1, 0, none⟩) N N] 26 (0, 0)) := by
    have := World.alloc_heap_new ((w.alloc (.cells #[.int .i64 0, .slice none 0 0] 26)).alloc (.cells (cellsB8 (List.replicate N 0)) 5)) (.cells #[.int .i64 P, .slice (some ⟨w.heap.size + 1, 0, none⟩) N N] 26)
    rwa [World.size_alloc, World.size_alloc] at this
  have a0 : Below w.heap.size w (((w.alloc (.cells #[.int .i64 0, .slice none 0 0] 26)).alloc (.cells (cellsB8 (List.replicate N 0)) 5)).alloc (.cells #[.int .i64 P, .slice (some ⟨w.heap.size + 1, 0, none⟩) N N] 26)) := (((Below.refl _ _).alloc (Nat.le_refl _) _).alloc (by simp only [World.size_alloc]; omega) _).alloc (by simp only [World.size_alloc]; omega) _
  generalize (((w.alloc (.cells #[.int .i64 0, .slice none 0 0] 26)).alloc (.cells (cellsB8 (List.replicate N 0)) 5)).alloc (.cells #[.int .i64 P, .slice (some ⟨w.heap.size + 1, 0, none⟩) N N] 26)) = W0 at *
  refine wpIn_loop (fun a wr => ∃ (j : Nat) (Ds : List Nat) (u8 u37 u38 u39 u40 u41 u42 u55 : Value), j ≤ len ∧ a = { tmps := #[.slice ao1 len cap1, .int .i64 each, undef, undef, .pointer (some ⟨w.heap.size, 0, none⟩), .int .i64 0, .pointer (some ⟨w.heap.size + 1 + 1, 0, none⟩), undef, u8, undef, .int .i64 each, .bool false, .bool false, .int .i64 each, .bool false, .bool false, undef, .slice ao1 len cap1, .int .i64 len, .bool false, undef, .int .i64 each, .int .i64 ((each : Int) * 7), .int .i64 ((each : Int) * 7 / 10), .int .i64 P, .slice ao1 len cap1, .int .i64 len, .int .i64 each, .int .i64 M, .int .i64 ((M : Int) + 7), .int .i64 (((M : Int) + 7) / 8), .int .i64 N, .slice (some ⟨w.heap.size + 1, 0, none⟩) N N, .agg #[.int .i64 P, .slice (some ⟨w.heap.size + 1, 0, none⟩) N N], .slice ao1 len cap1, .int .i64 len, .int .i64 (j : Int), u37, u38, u39, u40, u41, u42, undef, undef, undef, undef, undef, undef, undef, undef, undef, undef, undef, undef, u55, undef], defers := Ds.map fun D => { target := .collected D, args := #[] } } ∧
      Ds.Nodup ∧ (∀ D ∈ Ds, w.heap.size + 1 + 1 < D ∧ wr.heap[D]? = some (.deferred (some []))) ∧
      wr.heap[w.heap.size]? = some (.cells #[.int .i64 0, .slice none 0 0] 26 (0, 0)) ∧ wr.heap[w.heap.size + 1]? = some (.cells (cellsB8 (bsK P N S j)) 5 (0, 0)) ∧ wr.heap[w.heap.size + 1 + 1]? = some (.cells #[.int .i64 P, .slice (some ⟨w.heap.size + 1, 0, none⟩) N N] 26 (0, 0)) ∧ Below w.heap.size w wr)
    (fun a _ => (len - intOf (a.tmps.getD 36 undef)).toNat) ?start ?round
  case start => exact ⟨0, [], undef, undef, undef, undef, undef, undef, undef, undef, Nat.zero_le _, rfl, List.nodup_nil, (fun D h => by cases h), x0, x1, x2, a0⟩
  case round =>
    rintro _ wr ⟨j, Ds, u8, u37, u38, u39, u40, u41, u42, u55, hj, rfl, hnd, hds, y0, y1, y2, a1⟩
    clear x0 x1 x2 a0
    by_cases hlt : j < len
    · have hlt' : (j : Int) < len := by omega
      have c0 : wr.cell? ⟨w.heap.size + 1 + 1, 0, none⟩ = some (.int .i64 P) := (Lib.cell_of_heap y2 0).trans rfl
      have c1 : wr.cell? ⟨w.heap.size + 1 + 1, 1, none⟩ = some (.slice (some ⟨w.heap.size + 1, 0, none⟩) N N) := (Lib.cell_of_heap y2 1).trans rfl
      obtain ⟨ad, hao, hc⟩ := HS1.out j hlt
      subst hao
      have c2 := (a1.cell (p := ad.add j) (cellLt hc)).trans hc
      clear hc
      gi_wp2
      refine ⟨trivial, ?_⟩
      refine (callsIn_wide.2 (places_any P _ (S j) wr (Nat.le_trans (HSZ.out j hlt) (by decide)))).mono ?_
      rintro e w2 ⟨rfl, rfl⟩
      obtain ⟨H, hH⟩ : ∃ H, hashL (S j).data.toList = H := ⟨_, rfl⟩
      have HH := Lib.hid hH
      rw [hH]
      clear hH
      have a3 : Below wr.heap.size wr (((wr.alloc (.cells #[.int .i64 P, .slice (some ⟨w.heap.size + 1, 0, none⟩) N N] 26)).alloc (.cells #[.int .u64 (qv H)] 60)).alloc (.cells #[.int .u64 (qv (strideQ H))] 60)) := (((Below.refl _ _).alloc (Nat.le_refl _) _).alloc (by simp only [World.size_alloc]; omega) _).alloc (by simp only [World.size_alloc]; omega) _
      have t1 : TakenQ (((wr.alloc (.cells #[.int .i64 P, .slice (some ⟨w.heap.size + 1, 0, none⟩) N N] 26)).alloc (.cells #[.int .u64 (qv H)] 60)).alloc (.cells #[.int .u64 (qv (strideQ H))] 60)) wr.heap.size P (.slice (some ⟨w.heap.size + 1, 0, none⟩) N N) H := by
        refine ⟨(Below.heap_alloc _ _ _ (by simp; omega)).trans ((Below.heap_alloc _ _ _ (by simp)).trans (World.alloc_heap_new wr _)), (Below.heap_alloc _ _ _ (by simp)).trans ?_, ?_⟩
        · have := World.alloc_heap_new (wr.alloc (.cells #[.int .i64 P, .slice (some ⟨w.heap.size + 1, 0, none⟩) N N] 26)) (.cells #[.int .u64 (qv H)] 60)
          rwa [World.size_alloc] at this
        · have := World.alloc_heap_new ((wr.alloc (.cells #[.int .i64 P, .slice (some ⟨w.heap.size + 1, 0, none⟩) N N] 26)).alloc (.cells #[.int .u64 (qv H)] 60)) (.cells #[.int .u64 (qv (strideQ H))] 60)
          rwa [World.size_alloc, World.size_alloc] at this
      have hz2 : (((wr.alloc (.cells #[.int .i64 P, .slice (some ⟨w.heap.size + 1, 0, none⟩) N N] 26)).alloc (.cells #[.int .u64 (qv H)] 60)).alloc (.cells #[.int .u64 (qv (strideQ H))] 60)).heap.size = wr.heap.size + 3 := by simp
      have hw1 : w.heap.size + 1 + 1 < wr.heap.size := (Array.getElem?_eq_some_iff.1 y2).1
      gi_wp2
      generalize (((wr.alloc (.cells #[.int .i64 P, .slice (some ⟨w.heap.size + 1, 0, none⟩) N N] 26)).alloc (.cells #[.int .u64 (qv H)] 60)).alloc (.cells #[.int .u64 (qv (strideQ H))] 60)) = W2 at *
      have z0 := (a3.block _ (by omega)).trans y0
      have z1 := (a3.block _ (by omega)).trans y1
      have z2 := (a3.block _ hw1).trans y2
      have a4 := below_past a1 a3 a1.size
      have hds2 : ∀ D ∈ Ds, W2.heap[D]? = some (.deferred (some [])) := fun D hD => (a3.block _ (Array.getElem?_eq_some_iff.1 (hds D hD).2).1).trans (hds D hD).2
      have HD3 := Lib.hid (fun D hD => (hds D hD).1 : ∀ D ∈ Ds, w.heap.size + 1 + 1 < D)
      have HD2 : Hid (∀ D ∈ Ds, D < W2.heap.size) := Lib.hid fun D hD => (Array.getElem?_eq_some_iff.1 (hds2 D hD)).1
      clear y0 y1 y2 a1 a3 c0 c1 c2 hds
      have hm : 0 < 8 * N ∧ 8 * N < 2 ^ 64 := ⟨by omega, by omega⟩
      refine wpIn_rangeFunc_ownF (F := Fence.wide) (n := 6) rfl (by decide) (gf := 36) (lb := #[.pointer (some ⟨wr.heap.size, 0, none⟩), .pointer (some ⟨wr.heap.size + 1, 0, none⟩), .pointer (some ⟨wr.heap.size + 1 + 1, 0, none⟩)]) rfl trivial (enters_of Try.func36 (by kernel_rfl) rfl)
        (iter_stops Fence.wide 5 trivial rfl (by decide) wr.heap.size P N N (some ⟨w.heap.size + 1, 0, none⟩) H (by omega) hN1 (by omega) hm W2 t1) keepQ_t (keepQ_b (by omega)) (Below.refl _ _) (fun _ => rfl)
        (fun pre W => (((W.heap[w.heap.size]? = some (.cells #[.int .i64 0, .slice none 0 0] 26 (0, 0)) ∧ W.heap[w.heap.size + 1]? = some (.cells (cellsB8 (pre.foldl (fun b x => setK b x.1.toNat) (bsK P N S j))) 5 (0, 0))) ∧ W.heap[w.heap.size + 1 + 1]? = some (.cells #[.int .i64 P, .slice (some ⟨w.heap.size + 1, 0, none⟩) N N] 26 (0, 0))) ∧ Below w.heap.size w W) ∧ ∀ D ∈ Ds, W.heap[D]? = some (.deferred (some [])))
        (fun c pre W => False)
        (fun s A B row hs hg hr => ⟨⟨⟨⟨own_heap _ _ _ _ s A B row hs.1.1.1.1 hg (fun r e => (hr r e).2), own_heap _ _ _ _ s A B row hs.1.1.1.2 hg (fun r e => (hr r e).2)⟩, own_heap _ _ _ _ s A B row hs.1.1.2 hg (fun r e => (hr r e).2)⟩, ownFrom_below (B := W2.heap.size) (Nat.le_refl _) (by omega) s A B row hs.1.2 hg hr⟩, own_marks W2.heap.size Ds HD2.out s A B row hs.2 hg hr⟩)
        (fun c s A B row hs hg hr => hs)
        ⟨⟨⟨⟨z0, z1⟩, z2⟩, a4⟩, hds2⟩
        (fun x => { tmps := #[.slice (some ad) len cap1, .int .i64 each, undef, undef, .pointer (some ⟨w.heap.size, 0, none⟩), .int .i64 0, .pointer (some ⟨w.heap.size + 1 + 1, 0, none⟩), undef, .string (S j), .int .u64 (qv x.1), .int .i64 each, .bool false, .bool false, .int .i64 each, .bool false, .bool false, undef, .slice (some ad) len cap1, .int .i64 len, .bool false, undef, .int .i64 each, .int .i64 ((each : Int) * 7), .int .i64 ((each : Int) * 7 / 10), .int .i64 P, .slice (some ad) len cap1, .int .i64 len, .int .i64 each, .int .i64 M, .int .i64 ((M : Int) + 7), .int .i64 (((M : Int) + 7) / 8), .int .i64 N, .slice (some ⟨w.heap.size + 1, 0, none⟩) N N, .agg #[.int .i64 P, .slice (some ⟨w.heap.size + 1, 0, none⟩) N N], .slice (some ad) len cap1, .int .i64 len, .int .i64 (j : Int), .bool true, .pointer (some (ad.add j)), .string (S j), .agg #[.int .i64 P, .slice (some ⟨w.heap.size + 1, 0, none⟩) N N], .string (S j), .func (.func 36) #[] #[.pointer (some ⟨wr.heap.size, 0, none⟩), .pointer (some ⟨wr.heap.size + 1, 0, none⟩), .pointer (some ⟨wr.heap.size + 1 + 1, 0, none⟩)], .int .u64 (qv x.1), undef, undef, undef, undef, undef, undef, undef, undef, undef, undef, undef, u55, undef], defers := [] }) ?assign ?body ?done ?stop
      case stop => exact fun D c pre W _ _ h _ => h.elim
      case assign =>
        intro l x W K hK
        gi_wp2
        exact hK
      case body =>
        rintro l pre ⟨x, hx⟩ W ⟨⟨⟨⟨i0, i1⟩, i2⟩, i3⟩, i4⟩ _
        have hlb : (pre.foldl (fun b x => setK b x.1.toNat) (bsK P N S j)).length = N := by
          have : ∀ (l : List (PlT (8 * N))) (b : List UInt8), (l.foldl (fun b x => setK b x.1.toNat) b).length = b.length := by
            intro l
            induction l with
            | nil => intro b; rfl
            | cons i l ih => intro b; rw [List.foldl_cons, ih, setK_length]
          rw [this, bsK_length]
        obtain ⟨k, hk⟩ : ∃ k, x.toNat = k := ⟨_, rfl⟩
        have hstep : (pre ++ [(⟨x, hx⟩ : PlT (8 * N))]).foldl (fun b (x : PlT (8 * N)) => setK b x.1.toNat) (bsK P N S j) = setK (pre.foldl (fun b x => setK b x.1.toNat) (bsK P N S j)) k := by
          rw [List.foldl_append, ← hk]
          rfl
        have HSTEP := Lib.hid hstep
        have HI4 := Lib.hid i4
        clear hstep i4
        generalize pre.foldl (fun b x => setK b x.1.toNat) (bsK P N S j) = bs at *
        have hkv : qv x = (k : Int) := by rw [← hk]; rfl
        have hk8 : k / 8 < bs.length := by rw [hlb]; omega
        have c1 : W.cell? ⟨w.heap.size + 1 + 1, 1, none⟩ = some (.slice (some ⟨w.heap.size + 1, 0, none⟩) N N) := (Lib.cell_of_heap i2 1).trans rfl
        have c2 : W.cell? ⟨w.heap.size + 1, k / 8, none⟩ = some (.int .u8 ((bs.getD (k / 8) 0).toNat : Int)) := (Lib.cell_of_heap i1 (k / 8)).trans (cellsB8_get bs (k / 8) hk8)
        have f2 := Lib.frozen_of_heap i1 (k / 8)
        obtain ⟨c, hc⟩ : ∃ c, bs.getD (k / 8) 0 = c := ⟨_, rfl⟩
        rw [hc] at c2
        have hk1 : (k : Int) / 8 < N := by omega
        have hk2 : (0 : Int) ≤ k := by omega
        have hcb : (c.toNat : Int) < 256 := by have := c.toNat_lt; omega
        dsimp only
        rw [hkv]
        gi_wp2
        refine ⟨KeepsOthers.setCell _ _ _, fun q hq1 hq2 => Below.heap_setCell _ _ _ _ (by dsimp only; omega), ⟨⟨⟨?_, ?_⟩, ?_⟩, i3.setCell (p := ⟨w.heap.size + 1, k / 8, none⟩) (Nat.le_succ _) _⟩, fun D hD => ?_⟩
        · exact (Below.heap_setCell _ _ _ _ (by dsimp only; omega)).trans i0
        · refine (heap_put (j := k / 8) i1 _).trans ?_
          rw [HSTEP.out]
          have e : ∀ (v : Value) (T : TypeId) (fr : Nat × Nat), v = .int .u8 ((UInt8.ofNat (c.toNat ||| 2 ^ (k % 8))).toNat : Int) → some (Obj.cells ((cellsB8 bs).setIfInBounds (k / 8) v) T fr) = some (Obj.cells (cellsB8 (setK bs k)) T fr) := by
            intro v T fr hv
            rw [hv, cellsB8_set, setK, hc]
          refine e _ _ _ ?_
          exact congrArg (Value.int .u8) (or_byte8 c k)
        · exact (Below.heap_setCell _ _ _ _ (by dsimp only; omega)).trans i2
        · exact (Below.heap_setCell _ _ _ _ (by have := HD3.out D hD; dsimp only; omega)).trans (HI4.out D hD)
      case done =>
        rintro D ys W hD rfl ⟨⟨⟨⟨i0, i1⟩, i2⟩, i3⟩, i4⟩ hK
        have HI4 := Lib.hid i4
        clear i4 z0 z1 z2 a4 hds2
        have hput : (plsT H (8 * N) hm P).foldl (fun b x => setK b x.1.toNat) (bsK P N S j) = bsK P N S (j + 1) := by
          rw [bsK_succ, putKey, bsK_length, HH.out, plsT, List.foldl_map]
          rfl
        rw [hput] at i1
        have HHH := Lib.hid hput
        clear hput
        gi_wp2
        refine ⟨⟨j + 1, D :: Ds, _, _, _, _, _, _, _, _, hlt, rfl, List.nodup_cons.2 ⟨fun h => ?_, hnd⟩, fun E hE => ?_, i0, i1, i2, i3⟩, ?_⟩
        · have := HD2.out D h
          omega
        · rcases List.mem_cons.1 hE with rfl | h
          · exact ⟨by omega, hK⟩
          · exact ⟨HD3.out E h, HI4.out E h⟩
        · simp [intOf]
          omega
    · have hlt' : ¬ (j : Int) < len := by omega
      have c0 : wr.cell? ⟨w.heap.size + 1 + 1, 0, none⟩ = some (.int .i64 P) := (Lib.cell_of_heap y2 0).trans rfl
      have c1 : wr.cell? ⟨w.heap.size + 1 + 1, 1, none⟩ = some (.slice (some ⟨w.heap.size + 1, 0, none⟩) N N) := (Lib.cell_of_heap y2 1).trans rfl
      have c2 : wr.cell? ⟨w.heap.size, 0, none⟩ = some (.int .i64 0) := (Lib.cell_of_heap y0 0).trans rfl
      have c3 : wr.cell? ⟨w.heap.size, 1, none⟩ = some (.slice none 0 0) := (Lib.cell_of_heap y0 1).trans rfl
      have f0 := Lib.frozen_of_heap y0 0
      have f1 := Lib.frozen_of_heap y0 1
      have HDS := Lib.hid hds
      clear hds
      have hx1 := heap_put (j := 0) y0 (.int .i64 P)
      have hx2 := heap_put (j := 1) hx1 (.slice (some ⟨w.heap.size + 1, 0, none⟩) N N)
      have b2 := (a1.setCell (p := ⟨w.heap.size, 0, none⟩) (Nat.le_refl _) (.int .i64 P)).setCell (p := ⟨w.heap.size, 1, none⟩) (Nat.le_refl _) (.slice (some ⟨w.heap.size + 1, 0, none⟩) N N)
      have hlj : j = len := by omega
      gi_wp2
      refine leaves_marks Ds _ _ (by simp) hnd (fun D hD => ?_) (fun W' g1 g2 g3 g4 hk => ?_)
      · have hd := HDS.out D hD
        exact (Below.heap_setCell _ _ _ _ (by dsimp only; omega)).trans ((Below.heap_setCell _ _ _ _ (by dsimp only; omega)).trans hd.2)
      · have k0 := (hk w.heap.size (fun h => by have := (HDS.out _ h).1; omega)).trans hx2
        have k1 := (hk (w.heap.size + 1) (fun h => by have := (HDS.out _ h).1; omega)).trans ((Below.heap_setCell _ _ _ _ (by dsimp only; omega)).trans ((Below.heap_setCell _ _ _ _ (by dsimp only; omega)).trans y1))
        have e0 : W'.cell? ⟨w.heap.size, 0, none⟩ = some (.int .i64 P) := (Lib.cell_of_heap k0 0).trans rfl
        have e1 : W'.cell? ⟨w.heap.size, 1, none⟩ = some (.slice (some ⟨w.heap.size + 1, 0, none⟩) N N) := (Lib.cell_of_heap k0 1).trans rfl
        refine ⟨.tuple #[.agg #[.int .i64 P, .slice (some ⟨w.heap.size + 1, 0, none⟩) N N], .int .i64 0], ?_, w.heap.size + 1, ⟨N, rfl⟩, ?_, by omega, b2.trans ⟨g1, g2, g3, by omega, fun k hk' => hk k (fun h => by have := (HDS.out _ h).1; omega)⟩⟩
        · simp [results, Try.f6, go_sem, e0, e1]
        · rw [show makeK P N ((List.range len).map fun i => (S i).data.toList) = bsK P N S j by rw [hlj]; rfl]
          exact rowAt_of_heap k1
end Go.Proofs.Ytdedlekelkaabaa
