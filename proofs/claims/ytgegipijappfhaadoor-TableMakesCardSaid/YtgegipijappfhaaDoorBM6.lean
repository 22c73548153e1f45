/- Texts that the next ones stand on: Bloom4, BloomMath, Bloom5, Bloom6, Puts, Bloom7, Bloom8, HasKit, TabMath, Grps, Tab1. -/
import Derived.Test.YtgegipijappfhaaDoorBM5
import Derived.RangeFuncWrites
import Derived.Lib.ConvBytes
namespace Go.Proofs.YtgegipijappfhaaDoor
open Go Go.RowKit Go.Shelf
attribute [local go_sem] Oper.semAt_some

/-- Bit k is set. -/
def setK (bs : List UInt8) (k : Nat) : List UInt8 := bs.set (k / 8) (UInt8.ofNat ((bs.getD (k / 8) 0).toNat ||| 2 ^ (k % 8)))
theorem setK_length (bs : List UInt8) (k : Nat) : (setK bs k).length = bs.length := by simp [setK]
def sizeK (m each : Nat) : Nat := (m * each + 7) / 8 + 1
def probesK (each : Nat) : Nat := max 1 (each * 7 / 10)
/-- A key's bits are set. -/
def putKey (p : Nat) (bs : List UInt8) (key : List UInt8) : List UInt8 := (List.range p).foldl (fun b i => setK b (plQ (hashL key) (8 * bs.length) i).toNat) bs
def makeK (p n : Nat) (keys : List (List UInt8)) : List UInt8 := keys.foldl (putKey p) (List.replicate n 0)

def cellsB8 (bs : List UInt8) : Array Value := (bs.map Extern.Stop.cell).toArray
theorem made_zero (n : Nat) : madeCells (Value.int .u8 0).cells (n * 1) = cellsB8 (List.replicate n 0) := by
  apply Array.ext
  · simp [madeCells, cellsB8]
  · intro i h1 h2
    simp [madeCells, cellsB8, Value.cells, Extern.Stop.cell, Nat.mod_one]
theorem make_bytes (n : Nat) (hn : n ≤ 100000) (w : World) : (Instr.makeSlice 54 (.int .i64 n) (.int .i64 n)).run Tryd.prog w = .ok (.slice (some ⟨w.heap.size, 0, none⟩) n n) (w.alloc (.cells (cellsB8 (List.replicate n 0)) 5)) := by
  have h : (Tryd.prog.info? 5).map (fun i => (i.zero, i.size, i.bytes)) = some (some (.int .u8 0), 1, 1) := by kernel_rfl
  obtain ⟨i0, hi, hz0, hz1, hz2⟩ := info_parts h
  have := run_make (P := Tryd.prog) w 54 5 i0 (.int .u8 0) Tryd.underlying54 hi hz0 .i64 .i64 n n (by omega) (Int.le_refl _) (by rw [hz2]; omega) (by omega)
  rw [hz1, Int.toNat_natCast, made_zero] at this
  exact this

/-- The marks of ranges that are over are taken off. -/
theorem leaves_marks {F : Fence} {n : Nat} {P : Program} {fn : Func} {tmps : Array Value} {R : Ending → World → Prop} : ∀ (Ds : List Nat) (u : FrameMode) (w : World), u ≠ .run → Ds.Nodup → (∀ D ∈ Ds, w.heap[D]? = some (.deferred (some []))) →
    (∀ W' : World, W'.os = w.os → W'.tape = w.tape → W'.output = w.output → W'.heap.size = w.heap.size → (∀ k, k ∉ Ds → W'.heap[k]? = w.heap[k]?) → LeavesIn F n P fn tmps R [] u W') → LeavesInM F n P fn tmps R (Ds.map fun D => { target := .collected D, args := #[] }) u w
  | [], _, w, _, _, _, h => h w rfl rfl rfl rfl fun _ _ => rfl
  | D :: Ds, u, w, hu, hnd, hD, h => by
    have h0 := hD D (by simp)
    refine ⟨hu, .inl ⟨D, _, rfl, run_takeDeferred h0, ?_⟩⟩
    have hnd' := List.nodup_cons.1 hnd
    refine leaves_marks Ds u _ hu hnd'.2 (fun E hE => ?_) (fun W' h1 h2 h3 h4 h5 => ?_)
    · have hne : E ≠ D := fun e => hnd'.1 (e ▸ hE)
      exact (World.putObj_heap_other hne).trans (hD E (by simp [hE]))
    · refine h W' h1 h2 h3 (h4.trans (by simp [World.putObj])) (fun k hk => ?_)
      have hne : k ≠ D := fun e => hk (by simp [e])
      exact (h5 k (fun e => hk (by simp [e]))).trans (World.putObj_heap_other hne)
def bsK (P N : Nat) (S : Nat → ByteArray) (j : Nat) : List UInt8 := ((List.range j).map fun i => (S i).data.toList).foldl (putKey P) (List.replicate N 0)
theorem putKey_length (p : Nat) (bs : List UInt8) (key : List UInt8) : (putKey p bs key).length = bs.length := by
  have : ∀ (m : Nat) (l : List Nat) (b : List UInt8), (l.foldl (fun b i => setK b (plQ (hashL key) (8 * m) i).toNat) b).length = b.length := by
    intro m l
    induction l with
    | nil => intro b; rfl
    | cons i l ih => intro b; rw [List.foldl_cons, ih, setK_length]
  exact this _ _ bs
theorem bsK_length (P N : Nat) (S : Nat → ByteArray) (j : Nat) : (bsK P N S j).length = N := by
  unfold bsK
  have : ∀ (l : List (List UInt8)) (b : List UInt8), (l.foldl (putKey P) b).length = b.length := by
    intro l
    induction l with
    | nil => intro b; rfl
    | cons i l ih => intro b; rw [List.foldl_cons, ih, putKey_length]
  rw [this, List.length_replicate]
theorem bsK_succ (P N : Nat) (S : Nat → ByteArray) (j : Nat) : bsK P N S (j + 1) = putKey P (bsK P N S j) (S j).data.toList := by
  unfold bsK
  rw [List.range_succ, List.map_append, List.foldl_append]
  rfl

theorem cellsB8_get (bs : List UInt8) (i : Nat) (h : i < bs.length) : (cellsB8 bs)[i]? = some (.int .u8 ((bs.getD i 0).toNat : Int)) := by
  simp [cellsB8, Extern.Stop.cell, h]
theorem or_bits : ∀ (c : Fin 256) (j : Fin 8), bits .or .u8 (c.val : Int) ((2 : Int) ^ j.val % 256) = ((c.val ||| 2 ^ j.val : Nat) : Int) ∧ (c.val ||| 2 ^ j.val) < 256 := by decide +kernel
theorem or_byte8 (c : UInt8) (k : Nat) : bits .or .u8 (c.toNat : Int) ((2 : Int) ^ (k % 8) % 256) = ((UInt8.ofNat (c.toNat ||| 2 ^ (k % 8))).toNat : Int) := by
  have h := or_bits ⟨c.toNat, c.toNat_lt⟩ ⟨k % 8, Nat.mod_lt _ (by decide)⟩
  rw [UInt8.toNat_ofNat', Nat.mod_eq_of_lt h.2]
  exact h.1
theorem cellsB8_set (bs : List UInt8) (i : Nat) (c : UInt8) : (cellsB8 bs).setIfInBounds i (.int .u8 (c.toNat : Int)) = cellsB8 (bs.set i c) := by
  simp [cellsB8, Extern.Stop.cell, List.map_set]
/-- Marks that lie below B abide what is laid or turned from B on. -/
theorem own_marks {β : Type} (B : Nat) (Ds : List Nat) (hB : ∀ D ∈ Ds, D < B) : OwnFrom B (fun (_ : β) (W : World) => ∀ D ∈ Ds, W.heap[D]? = some (.deferred (some []))) := by
  intro s W W' row hs hg hr D hD
  have h0 := hs D hD
  refine (hg.block D (Array.getElem?_eq_some_iff.1 h0).1 fun e => ?_).trans h0
  have := (hr D e.symm).1
  have := hB D hD
  omega

set_option maxRecDepth 100000 in
set_option maxHeartbeats 4000000 in
theorem make_any (v : Value) (len : Nat) (S : Nat → ByteArray) (each : Nat) (w : World) (h1 : InStrs w v len S) (hs : ∀ i, i < len → (S i).size ≤ 1000000) (he : 1 ≤ each ∧ each ≤ 32) (hl : len ≤ 2048) :
    Calls Tryd.prog 57 #[v, .int .i64 each] w fun e w' => ∃ g cap, e = .returned (.tuple #[.agg #[.int .i64 (probesK each), .slice (some ⟨g, 0, none⟩) (sizeK len each) cap], .int .i64 0]) ∧ rowAt w' g = some ((makeK (probesK each) (sizeK len each) ((List.range len).map fun i => (S i).data.toList)).map Extern.Stop.cell).toArray ∧ w.heap.size ≤ g ∧ Below w.heap.size w w' := by
  obtain ⟨ao1, cap1, rfl, hS1⟩ := h1
  have HS1 := Lib.hid hS1
  have HSZ := Lib.hid hs
  obtain ⟨P, hP⟩ : ∃ P, probesK each = P := ⟨_, rfl⟩
  obtain ⟨N, hN⟩ : ∃ N, sizeK len each = N := ⟨_, rfl⟩
  have hee1 : (1 : Int) ≤ each := by omega
  have hee2 : (each : Int) ≤ 32 := by omega
  have hll : (len : Int) ≤ 2048 := by omega
  have hle : len * each ≤ 65536 := Nat.le_trans (Nat.mul_le_mul hl he.2) (by decide)
  have q1 : decide ((each : Int) < 1) = false := decide_eq_false (by omega)
  have q2 : decide ((32 : Int) < each) = false := decide_eq_false (by omega)
  have q3 : decide ((2048 : Int) < len) = false := decide_eq_false (by omega)
  have hP2 : P ≤ 22 := by rw [← hP, probesK]; omega
  have hN1 : 0 < N := by rw [← hN, sizeK]; omega
  have hN2 : N ≤ 8193 := by rw [← hN, sizeK]; omega
  obtain ⟨M, hM⟩ : ∃ M, len * each = M := ⟨_, rfl⟩
  have hmul : (len : Int) * (each : Int) = (M : Int) := by rw [← hM]; exact (Int.natCast_mul _ _).symm
  have hM2 : (M : Int) ≤ 65536 := by omega
  have hM0 : (0 : Int) ≤ M := by omega
  have hNM : ((M : Int) + 7) / 8 + 1 = N := by rw [← hN, sizeK, hM]; omega
  have hPM : max 1 ((each : Int) * 7 / 10) = P := by rw [← hP, probesK]; omega
  rw [hP, hN]
  have h3 : Fence.wide.fn 57 := trivial
  refine (callsIn_wide (n := 6)).1 ?_
  refine callsIn_of_wp_marks Tryd.func57 rfl h3 ?_ rfl
  simp only [Tryd.ntmps57, List.size_toArray, List.length_cons, List.length_nil, Nat.reduceAdd, Nat.reduceSub, Array.replicate_succ, Array.replicate_zero, List.push_toArray, List.append_toArray, List.nil_append, List.cons_append]
  have hNi : (N : Int) ≤ 8193 := by omega
  have hN0 : (0 : Int) < N := by omega
  have hmk := fun w => make_bytes N (by omega) w
  clear h3 hs hS1 hle hM hP hN hl he
  gi_wp2
  have x0 : (((w.alloc (.cells #[.int .i64 0, .slice none 0 0] 56)).alloc (.cells (cellsB8 (List.replicate N 0)) 5)).alloc (.cells #[.int .i64 P, .slice (some ⟨w.heap.size + 1, 0, none⟩) N N] 56)).heap[w.heap.size]? = some (.cells #[.int .i64 0, .slice none 0 0] 56 (0, 0)) :=
    (Below.heap_alloc _ _ _ (by simp; omega)).trans ((Below.heap_alloc _ _ _ (by simp)).trans (World.alloc_heap_new w _))
  have x1 : (((w.alloc (.cells #[.int .i64 0, .slice none 0 0] 56)).alloc (.cells (cellsB8 (List.replicate N 0)) 5)).alloc (.cells #[.int .i64 P, .slice (some ⟨w.heap.size + 1, 0, none⟩) N N] 56)).heap[w.heap.size + 1]? = some (.cells (cellsB8 (List.replicate N 0)) 5 (0, 0)) := by
    refine (Below.heap_alloc _ _ _ (by simp)).trans ?_
    have := World.alloc_heap_new (w.alloc (.cells #[.int .i64 0, .slice none 0 0] 56)) (.cells (cellsB8 (List.replicate N 0)) 5)
    rwa [World.size_alloc] at this
  have x2 : (((w.alloc (.cells #[.int .i64 0, .slice none 0 0] 56)).alloc (.cells (cellsB8 (List.replicate N 0)) 5)).alloc (.cells #[.int .i64 P, .slice (some ⟨w.heap.size + 1, 0, none⟩) N N] 56)).heap[w.heap.size + 1 + 1]? = some (.cells #[.int .i64 P, .slice (some ⟨w.heap.size + 1, 0, none⟩) N N] 56 (0, 0)) := by
    have := World.alloc_heap_new ((w.alloc (.cells #[.int .i64 0, .slice none 0 0] 56)).alloc (.cells (cellsB8 (List.replicate N 0)) 5)) (.cells #[.int .i64 P, .slice (some ⟨w.heap.size + 1, 0, none⟩) N N] 56)
    rwa [World.size_alloc, World.size_alloc] at this
  have a0 : Below w.heap.size w (((w.alloc (.cells #[.int .i64 0, .slice none 0 0] 56)).alloc (.cells (cellsB8 (List.replicate N 0)) 5)).alloc (.cells #[.int .i64 P, .slice (some ⟨w.heap.size + 1, 0, none⟩) N N] 56)) := (((Below.refl _ _).alloc (Nat.le_refl _) _).alloc (by simp only [World.size_alloc]; omega) _).alloc (by simp only [World.size_alloc]; omega) _
  generalize (((w.alloc (.cells #[.int .i64 0, .slice none 0 0] 56)).alloc (.cells (cellsB8 (List.replicate N 0)) 5)).alloc (.cells #[.int .i64 P, .slice (some ⟨w.heap.size + 1, 0, none⟩) N N] 56)) = W0 at *
  refine wpIn_loop (fun a wr => ∃ (j : Nat) (Ds : List Nat) (u8 u37 u38 u39 u40 u41 u42 u55 : Value), j ≤ len ∧ a = { tmps := #[.slice ao1 len cap1, .int .i64 each, undef, undef, .pointer (some ⟨w.heap.size, 0, none⟩), .int .i64 0, .pointer (some ⟨w.heap.size + 1 + 1, 0, none⟩), undef, u8, undef, .int .i64 each, .bool false, .bool false, .int .i64 each, .bool false, .bool false, undef, .slice ao1 len cap1, .int .i64 len, .bool false, undef, .int .i64 each, .int .i64 ((each : Int) * 7), .int .i64 ((each : Int) * 7 / 10), .int .i64 P, .slice ao1 len cap1, .int .i64 len, .int .i64 each, .int .i64 M, .int .i64 ((M : Int) + 7), .int .i64 (((M : Int) + 7) / 8), .int .i64 N, .slice (some ⟨w.heap.size + 1, 0, none⟩) N N, .agg #[.int .i64 P, .slice (some ⟨w.heap.size + 1, 0, none⟩) N N], .slice ao1 len cap1, .int .i64 len, .int .i64 (j : Int), u37, u38, u39, u40, u41, u42, undef, undef, undef, undef, undef, undef, undef, undef, undef, undef, undef, undef, u55, undef], defers := Ds.map fun D => { target := .collected D, args := #[] } } ∧
      Ds.Nodup ∧ (∀ D ∈ Ds, w.heap.size + 1 + 1 < D ∧ wr.heap[D]? = some (.deferred (some []))) ∧
      wr.heap[w.heap.size]? = some (.cells #[.int .i64 0, .slice none 0 0] 56 (0, 0)) ∧ wr.heap[w.heap.size + 1]? = some (.cells (cellsB8 (bsK P N S j)) 5 (0, 0)) ∧ wr.heap[w.heap.size + 1 + 1]? = some (.cells #[.int .i64 P, .slice (some ⟨w.heap.size + 1, 0, none⟩) N N] 56 (0, 0)) ∧ Below w.heap.size w wr)
    (fun a _ => (len - intOf (a.tmps.getD 36 undef)).toNat) ?start ?round
  case start => exact ⟨0, [], undef, undef, undef, undef, undef, undef, undef, undef, Nat.zero_le _, rfl, List.nodup_nil, (fun D h => by cases h), x0, x1, x2, a0⟩
  case round =>
    rintro _ wr ⟨j, Ds, u8, u37, u38, u39, u40, u41, u42, u55, hj, rfl, hnd, hds, y0, y1, y2, a1⟩
    clear x0 x1 x2 a0
    by_cases hlt : j < len
    · have hlt' : (j : Int) < len := by omega
      have c0 : wr.cell? ⟨w.heap.size + 1 + 1, 0, none⟩ = some (.int .i64 P) := (Lib.cell_of_heap y2 0).trans rfl
      have c1 : wr.cell? ⟨w.heap.size + 1 + 1, 1, none⟩ = some (.slice (some ⟨w.heap.size + 1, 0, none⟩) N N) := (Lib.cell_of_heap y2 1).trans rfl
      obtain ⟨ad, hao, hc⟩ := HS1.out j hlt
      subst hao
      have c2 := (a1.cell (p := ad.add j) (cellLt hc)).trans hc
      clear hc
      gi_wp2
      refine ⟨trivial, ?_⟩
      refine (callsIn_wide.2 (places_any P _ (S j) wr (Nat.le_trans (HSZ.out j hlt) (by decide)))).mono ?_
      rintro e w2 ⟨rfl, rfl⟩
      obtain ⟨H, hH⟩ : ∃ H, hashL (S j).data.toList = H := ⟨_, rfl⟩
      have HH := Lib.hid hH
      rw [hH]
      clear hH
      have a3 : Below wr.heap.size wr (((wr.alloc (.cells #[.int .i64 P, .slice (some ⟨w.heap.size + 1, 0, none⟩) N N] 56)).alloc (.cells #[.int .u64 (qv H)] 126)).alloc (.cells #[.int .u64 (qv (strideQ H))] 126)) := (((Below.refl _ _).alloc (Nat.le_refl _) _).alloc (by simp only [World.size_alloc]; omega) _).alloc (by simp only [World.size_alloc]; omega) _
      have t1 : TakenQ (((wr.alloc (.cells #[.int .i64 P, .slice (some ⟨w.heap.size + 1, 0, none⟩) N N] 56)).alloc (.cells #[.int .u64 (qv H)] 126)).alloc (.cells #[.int .u64 (qv (strideQ H))] 126)) wr.heap.size P (.slice (some ⟨w.heap.size + 1, 0, none⟩) N N) H := by
        refine ⟨(Below.heap_alloc _ _ _ (by simp; omega)).trans ((Below.heap_alloc _ _ _ (by simp)).trans (World.alloc_heap_new wr _)), (Below.heap_alloc _ _ _ (by simp)).trans ?_, ?_⟩
        · have := World.alloc_heap_new (wr.alloc (.cells #[.int .i64 P, .slice (some ⟨w.heap.size + 1, 0, none⟩) N N] 56)) (.cells #[.int .u64 (qv H)] 126)
          rwa [World.size_alloc] at this
        · have := World.alloc_heap_new ((wr.alloc (.cells #[.int .i64 P, .slice (some ⟨w.heap.size + 1, 0, none⟩) N N] 56)).alloc (.cells #[.int .u64 (qv H)] 126)) (.cells #[.int .u64 (qv (strideQ H))] 126)
          rwa [World.size_alloc, World.size_alloc] at this
      have hz2 : (((wr.alloc (.cells #[.int .i64 P, .slice (some ⟨w.heap.size + 1, 0, none⟩) N N] 56)).alloc (.cells #[.int .u64 (qv H)] 126)).alloc (.cells #[.int .u64 (qv (strideQ H))] 126)).heap.size = wr.heap.size + 3 := by simp
      have hw1 : w.heap.size + 1 + 1 < wr.heap.size := (Array.getElem?_eq_some_iff.1 y2).1
      gi_wp2
      generalize (((wr.alloc (.cells #[.int .i64 P, .slice (some ⟨w.heap.size + 1, 0, none⟩) N N] 56)).alloc (.cells #[.int .u64 (qv H)] 126)).alloc (.cells #[.int .u64 (qv (strideQ H))] 126)) = W2 at *
      have z0 := (a3.block _ (by omega)).trans y0
      have z1 := (a3.block _ (by omega)).trans y1
      have z2 := (a3.block _ hw1).trans y2
      have a4 := below_past a1 a3 a1.size
      have hds2 : ∀ D ∈ Ds, W2.heap[D]? = some (.deferred (some [])) := fun D hD => (a3.block _ (Array.getElem?_eq_some_iff.1 (hds D hD).2).1).trans (hds D hD).2
      have HD3 := Lib.hid (fun D hD => (hds D hD).1 : ∀ D ∈ Ds, w.heap.size + 1 + 1 < D)
      have HD2 : Hid (∀ D ∈ Ds, D < W2.heap.size) := Lib.hid fun D hD => (Array.getElem?_eq_some_iff.1 (hds2 D hD)).1
      clear y0 y1 y2 a1 a3 c0 c1 c2 hds
      have hm : 0 < 8 * N ∧ 8 * N < 2 ^ 64 := ⟨by omega, by omega⟩
      refine wpIn_rangeFunc_ownF (F := Fence.wide) (n := 6) rfl (by decide) (gf := 91) (lb := #[.pointer (some ⟨wr.heap.size, 0, none⟩), .pointer (some ⟨wr.heap.size + 1, 0, none⟩), .pointer (some ⟨wr.heap.size + 1 + 1, 0, none⟩)]) rfl trivial (enters_of Tryd.func91 (by kernel_rfl) rfl)
        (iter_stops Fence.wide 5 trivial rfl (by decide) wr.heap.size P N N (some ⟨w.heap.size + 1, 0, none⟩) H (by omega) hN1 (by omega) hm W2 t1) keepQ_t (keepQ_b (by omega)) (Below.refl _ _) (fun _ => rfl)
        (fun pre W => (((W.heap[w.heap.size]? = some (.cells #[.int .i64 0, .slice none 0 0] 56 (0, 0)) ∧ W.heap[w.heap.size + 1]? = some (.cells (cellsB8 (pre.foldl (fun b x => setK b x.1.toNat) (bsK P N S j))) 5 (0, 0))) ∧ W.heap[w.heap.size + 1 + 1]? = some (.cells #[.int .i64 P, .slice (some ⟨w.heap.size + 1, 0, none⟩) N N] 56 (0, 0))) ∧ Below w.heap.size w W) ∧ ∀ D ∈ Ds, W.heap[D]? = some (.deferred (some [])))
        (fun c pre W => False)
        (fun s A B row hs hg hr => ⟨⟨⟨⟨own_heap _ _ _ _ s A B row hs.1.1.1.1 hg (fun r e => (hr r e).2), own_heap _ _ _ _ s A B row hs.1.1.1.2 hg (fun r e => (hr r e).2)⟩, own_heap _ _ _ _ s A B row hs.1.1.2 hg (fun r e => (hr r e).2)⟩, ownFrom_below (B := W2.heap.size) (Nat.le_refl _) (by omega) s A B row hs.1.2 hg hr⟩, own_marks W2.heap.size Ds HD2.out s A B row hs.2 hg hr⟩)
        (fun c s A B row hs hg hr => hs)
        ⟨⟨⟨⟨z0, z1⟩, z2⟩, a4⟩, hds2⟩
        (fun x => { tmps := #[.slice (some ad) len cap1, .int .i64 each, undef, undef, .pointer (some ⟨w.heap.size, 0, none⟩), .int .i64 0, .pointer (some ⟨w.heap.size + 1 + 1, 0, none⟩), undef, .string (S j), .int .u64 (qv x.1), .int .i64 each, .bool false, .bool false, .int .i64 each, .bool false, .bool false, undef, .slice (some ad) len cap1, .int .i64 len, .bool false, undef, .int .i64 each, .int .i64 ((each : Int) * 7), .int .i64 ((each : Int) * 7 / 10), .int .i64 P, .slice (some ad) len cap1, .int .i64 len, .int .i64 each, .int .i64 M, .int .i64 ((M : Int) + 7), .int .i64 (((M : Int) + 7) / 8), .int .i64 N, .slice (some ⟨w.heap.size + 1, 0, none⟩) N N, .agg #[.int .i64 P, .slice (some ⟨w.heap.size + 1, 0, none⟩) N N], .slice (some ad) len cap1, .int .i64 len, .int .i64 (j : Int), .bool true, .pointer (some (ad.add j)), .string (S j), .agg #[.int .i64 P, .slice (some ⟨w.heap.size + 1, 0, none⟩) N N], .string (S j), .func (.func 91) #[] #[.pointer (some ⟨wr.heap.size, 0, none⟩), .pointer (some ⟨wr.heap.size + 1, 0, none⟩), .pointer (some ⟨wr.heap.size + 1 + 1, 0, none⟩)], .int .u64 (qv x.1), undef, undef, undef, undef, undef, undef, undef, undef, undef, undef, undef, u55, undef], defers := [] }) ?assign ?body ?done ?stop
      case stop => exact fun D c pre W _ _ h _ => h.elim
      case assign =>
        intro l x W K hK
        gi_wp2
        exact hK
      case body =>
        rintro l pre ⟨x, hx⟩ W ⟨⟨⟨⟨i0, i1⟩, i2⟩, i3⟩, i4⟩ _
        have hlb : (pre.foldl (fun b x => setK b x.1.toNat) (bsK P N S j)).length = N := by
          have : ∀ (l : List (PlT (8 * N))) (b : List UInt8), (l.foldl (fun b x => setK b x.1.toNat) b).length = b.length := by
            intro l
            induction l with
            | nil => intro b; rfl
            | cons i l ih => intro b; rw [List.foldl_cons, ih, setK_length]
          rw [this, bsK_length]
        obtain ⟨k, hk⟩ : ∃ k, x.toNat = k := ⟨_, rfl⟩
        have hstep : (pre ++ [(⟨x, hx⟩ : PlT (8 * N))]).foldl (fun b (x : PlT (8 * N)) => setK b x.1.toNat) (bsK P N S j) = setK (pre.foldl (fun b x => setK b x.1.toNat) (bsK P N S j)) k := by
          rw [List.foldl_append, ← hk]
          rfl
        have HSTEP := Lib.hid hstep
        have HI4 := Lib.hid i4
        clear hstep i4
        generalize pre.foldl (fun b x => setK b x.1.toNat) (bsK P N S j) = bs at *
        have hkv : qv x = (k : Int) := by rw [← hk]; rfl
        have hk8 : k / 8 < bs.length := by rw [hlb]; omega
        have c1 : W.cell? ⟨w.heap.size + 1 + 1, 1, none⟩ = some (.slice (some ⟨w.heap.size + 1, 0, none⟩) N N) := (Lib.cell_of_heap i2 1).trans rfl
        have c2 : W.cell? ⟨w.heap.size + 1, k / 8, none⟩ = some (.int .u8 ((bs.getD (k / 8) 0).toNat : Int)) := (Lib.cell_of_heap i1 (k / 8)).trans (cellsB8_get bs (k / 8) hk8)
        have f2 := Lib.frozen_of_heap i1 (k / 8)
        obtain ⟨c, hc⟩ : ∃ c, bs.getD (k / 8) 0 = c := ⟨_, rfl⟩
        rw [hc] at c2
        have hk1 : (k : Int) / 8 < N := by omega
        have hk2 : (0 : Int) ≤ k := by omega
        have hcb : (c.toNat : Int) < 256 := by have := c.toNat_lt; omega
        dsimp only
        rw [hkv]
        gi_wp2
        refine ⟨KeepsOthers.setCell _ _ _, fun q hq1 hq2 => Below.heap_setCell _ _ _ _ (by dsimp only; omega), ⟨⟨⟨?_, ?_⟩, ?_⟩, i3.setCell (p := ⟨w.heap.size + 1, k / 8, none⟩) (Nat.le_succ _) _⟩, fun D hD => ?_⟩
        · exact (Below.heap_setCell _ _ _ _ (by dsimp only; omega)).trans i0
        · refine (heap_put (j := k / 8) i1 _).trans ?_
          rw [HSTEP.out]
          have e : ∀ (v : Value) (T : TypeId) (fr : Nat × Nat), v = .int .u8 ((UInt8.ofNat (c.toNat ||| 2 ^ (k % 8))).toNat : Int) → some (Obj.cells ((cellsB8 bs).setIfInBounds (k / 8) v) T fr) = some (Obj.cells (cellsB8 (setK bs k)) T fr) := by
            intro v T fr hv
            rw [hv, cellsB8_set, setK, hc]
          refine e _ _ _ ?_
          exact congrArg (Value.int .u8) (or_byte8 c k)
        · exact (Below.heap_setCell _ _ _ _ (by dsimp only; omega)).trans i2
        · exact (Below.heap_setCell _ _ _ _ (by have := HD3.out D hD; dsimp only; omega)).trans (HI4.out D hD)
      case done =>
        rintro D ys W hD rfl ⟨⟨⟨⟨i0, i1⟩, i2⟩, i3⟩, i4⟩ hK
        have HI4 := Lib.hid i4
        clear i4 z0 z1 z2 a4 hds2
        have hput : (plsT H (8 * N) hm P).foldl (fun b x => setK b x.1.toNat) (bsK P N S j) = bsK P N S (j + 1) := by
          rw [bsK_succ, putKey, bsK_length, HH.out, plsT, List.foldl_map]
          rfl
        rw [hput] at i1
        have HHH := Lib.hid hput
        clear hput
        gi_wp2
        refine ⟨⟨j + 1, D :: Ds, _, _, _, _, _, _, _, _, hlt, rfl, List.nodup_cons.2 ⟨fun h => ?_, hnd⟩, fun E hE => ?_, i0, i1, i2, i3⟩, ?_⟩
        · have := HD2.out D h
          omega
        · rcases List.mem_cons.1 hE with rfl | h
          · exact ⟨by omega, hK⟩
          · exact ⟨HD3.out E h, HI4.out E h⟩
        · simp [intOf]
          omega
    · have hlt' : ¬ (j : Int) < len := by omega
      have c0 : wr.cell? ⟨w.heap.size + 1 + 1, 0, none⟩ = some (.int .i64 P) := (Lib.cell_of_heap y2 0).trans rfl
      have c1 : wr.cell? ⟨w.heap.size + 1 + 1, 1, none⟩ = some (.slice (some ⟨w.heap.size + 1, 0, none⟩) N N) := (Lib.cell_of_heap y2 1).trans rfl
      have c2 : wr.cell? ⟨w.heap.size, 0, none⟩ = some (.int .i64 0) := (Lib.cell_of_heap y0 0).trans rfl
      have c3 : wr.cell? ⟨w.heap.size, 1, none⟩ = some (.slice none 0 0) := (Lib.cell_of_heap y0 1).trans rfl
      have f0 := Lib.frozen_of_heap y0 0
      have f1 := Lib.frozen_of_heap y0 1
      have HDS := Lib.hid hds
      clear hds
      have hx1 := heap_put (j := 0) y0 (.int .i64 P)
      have hx2 := heap_put (j := 1) hx1 (.slice (some ⟨w.heap.size + 1, 0, none⟩) N N)
      have b2 := (a1.setCell (p := ⟨w.heap.size, 0, none⟩) (Nat.le_refl _) (.int .i64 P)).setCell (p := ⟨w.heap.size, 1, none⟩) (Nat.le_refl _) (.slice (some ⟨w.heap.size + 1, 0, none⟩) N N)
      have hlj : j = len := by omega
      gi_wp2
      refine leaves_marks Ds _ _ (by simp) hnd (fun D hD => ?_) (fun W' g1 g2 g3 g4 hk => ?_)
      · have hd := HDS.out D hD
        exact (Below.heap_setCell _ _ _ _ (by dsimp only; omega)).trans ((Below.heap_setCell _ _ _ _ (by dsimp only; omega)).trans hd.2)
      · have k0 := (hk w.heap.size (fun h => by have := (HDS.out _ h).1; omega)).trans hx2
        have k1 := (hk (w.heap.size + 1) (fun h => by have := (HDS.out _ h).1; omega)).trans ((Below.heap_setCell _ _ _ _ (by dsimp only; omega)).trans ((Below.heap_setCell _ _ _ _ (by dsimp only; omega)).trans y1))
        have e0 : W'.cell? ⟨w.heap.size, 0, none⟩ = some (.int .i64 P) := (Lib.cell_of_heap k0 0).trans rfl
        have e1 : W'.cell? ⟨w.heap.size, 1, none⟩ = some (.slice (some ⟨w.heap.size + 1, 0, none⟩) N N) := (Lib.cell_of_heap k0 1).trans rfl
        refine ⟨.tuple #[.agg #[.int .i64 P, .slice (some ⟨w.heap.size + 1, 0, none⟩) N N], .int .i64 0], ?_, w.heap.size + 1, ⟨N, rfl⟩, ?_, by omega, b2.trans ⟨g1, g2, g3, by omega, fun k hk' => hk k (fun h => by have := (HDS.out _ h).1; omega)⟩⟩
        · simp [results, Tryd.f57, go_sem, e0, e1]
        · rw [show makeK P N ((List.range len).map fun i => (S i).data.toList) = bsK P N S j by rw [hlj]; rfl]
          exact rowAt_of_heap k1
end Go.Proofs.YtgegipijappfhaaDoor
namespace Go.Proofs.YtgegipijappfhaaDoor
open Go Go.RowKit Go.Shelf

theorem bits_or_get : ∀ (c : Fin 256) (a b : Fin 8), ((c.val ||| 2 ^ a.val) / 2 ^ b.val % 2 == 1) = (decide (b.val = a.val) || (c.val / 2 ^ b.val % 2 == 1)) ∧ (c.val ||| 2 ^ a.val) < 256 := by decide +kernel
theorem bitK_setK (bs : List UInt8) (k j : Nat) (hk : k < 8 * bs.length) : bitK (setK bs k) j = (decide (j = k) || bitK bs j) := by
  unfold bitK setK
  have hk8 : k / 8 < bs.length := by omega
  have h := bits_or_get ⟨(bs.getD (k / 8) 0).toNat, UInt8.toNat_lt _⟩ ⟨k % 8, Nat.mod_lt _ (by decide)⟩ ⟨j % 8, Nat.mod_lt _ (by decide)⟩
  by_cases e : k / 8 = j / 8
  · have hg : (bs.set (k / 8) (UInt8.ofNat ((bs.getD (k / 8) 0).toNat ||| 2 ^ (k % 8)))).getD (j / 8) 0 = UInt8.ofNat ((bs.getD (k / 8) 0).toNat ||| 2 ^ (k % 8)) := by
      rw [← e]
      simp [List.getD_eq_getElem?_getD, hk8]
    rw [hg, UInt8.toNat_ofNat', Nat.mod_eq_of_lt h.2, ← e]
    refine h.1.trans ?_
    congr 1
    by_cases q : j = k
    · subst q; simp
    · have : j % 8 ≠ k % 8 := by omega
      simp [q, this]
  · have hg : (bs.set (k / 8) (UInt8.ofNat ((bs.getD (k / 8) 0).toNat ||| 2 ^ (k % 8)))).getD (j / 8) 0 = bs.getD (j / 8) 0 := by
      simp [List.getD_eq_getElem?_getD, e]
    rw [hg]
    have : j ≠ k := fun q => e (by rw [q])
    simp [this]
theorem plQ_lt8 (H : UInt64) (n i : Nat) (hn : 0 < n) (hn2 : n ≤ 100000) : (plQ H (8 * n) i).toNat < 8 * n := plQ_lt H (8 * n) i ⟨by omega, by omega⟩
/-- A bit is set if it was, or a key's place is there. -/
theorem bitK_putKey (p : Nat) (bs : List UInt8) (key : List UInt8) (j : Nat) (hn : 0 < bs.length) (hn2 : bs.length ≤ 100000) :
    bitK (putKey p bs key) j = (((List.range p).any fun i => (plQ (hashL key) (8 * bs.length) i).toNat == j) || bitK bs j) := by
  have H : ∀ (l : List Nat) (b : List UInt8), b.length = bs.length → bitK (l.foldl (fun b i => setK b (plQ (hashL key) (8 * bs.length) i).toNat) b) j = ((l.any fun i => (plQ (hashL key) (8 * bs.length) i).toNat == j) || bitK b j) := by
    intro l
    induction l with
    | nil => intro b hb; simp
    | cons i l ih =>
      intro b hb
      rw [List.foldl_cons, ih _ (by rw [setK_length, hb]), bitK_setK _ _ _ (by rw [hb]; exact plQ_lt8 _ _ _ hn hn2), List.any_cons]
      have e : decide (j = (plQ (hashL key) (8 * bs.length) i).toNat) = ((plQ (hashL key) (8 * bs.length) i).toNat == j) := by
        rw [Bool.eq_iff_iff, decide_eq_true_iff, beq_iff_eq]; exact eq_comm
      rw [e]
      cases ((plQ (hashL key) (8 * bs.length) i).toNat == j) <;> cases (l.any fun i => (plQ (hashL key) (8 * bs.length) i).toNat == j) <;> rfl
  exact H _ bs rfl
theorem bitK_zero (n j : Nat) : bitK (List.replicate n 0) j = false := by
  unfold bitK
  have : (List.replicate n (0 : UInt8)).getD (j / 8) 0 = 0 := by
    rw [List.getD_eq_getElem?_getD, List.getElem?_replicate]
    split <;> rfl
  rw [this]
  simp
theorem makeK_length (p n : Nat) (keys : List (List UInt8)) : (makeK p n keys).length = n := by
  unfold makeK
  have : ∀ (l : List (List UInt8)) (b : List UInt8), (l.foldl (putKey p) b).length = b.length := by
    intro l
    induction l with
    | nil => intro b; rfl
    | cons i l ih => intro b; rw [List.foldl_cons, ih, putKey_length]
  rw [this, List.length_replicate]
/-- The bits of a filter of keys. -/
theorem bitK_makeK (p n : Nat) (keys : List (List UInt8)) (j : Nat) (hn : 0 < n) (hn2 : n ≤ 100000) :
    bitK (makeK p n keys) j = keys.any fun key => (List.range p).any fun i => (plQ (hashL key) (8 * n) i).toNat == j := by
  unfold makeK
  have H : ∀ (l : List (List UInt8)) (b : List UInt8), b.length = n → bitK (l.foldl (putKey p) b) j = ((l.any fun key => (List.range p).any fun i => (plQ (hashL key) (8 * n) i).toNat == j) || bitK b j) := by
    intro l
    induction l with
    | nil => intro b hb; simp
    | cons key l ih =>
      intro b hb
      rw [List.foldl_cons, ih _ (by rw [putKey_length, hb]), bitK_putKey _ _ _ _ (by rw [hb]; exact hn) (by rw [hb]; exact hn2), List.any_cons, hb]
      cases (List.range p).any (fun i => (plQ (hashL key) (8 * n) i).toNat == j) <;> cases (l.any fun key => (List.range p).any fun i => (plQ (hashL key) (8 * n) i).toNat == j) <;> rfl
  rw [H _ _ (by simp), bitK_zero]
  simp
/-- No key that is there is missed. -/
theorem may_has (p n : Nat) (keys : List (List UInt8)) (key : List UInt8) (hk : key ∈ keys) (hn : 0 < n) (hn2 : n ≤ 100000) : mayB (makeK p n keys) (hashL key) p = true := by
  unfold mayB
  rw [List.all_eq_true]
  intro i hi
  rw [makeK_length, bitK_makeK p n keys _ hn hn2, List.any_eq_true]
  exact ⟨key, hk, List.any_eq_true.2 ⟨i, hi, by simp⟩⟩
/-- Of more keys no fewer may be there. -/
theorem may_more (p n : Nat) (a b : List (List UInt8)) (H : UInt64) (hab : ∀ k ∈ a, k ∈ b) (hn : 0 < n) (hn2 : n ≤ 100000) (h : mayB (makeK p n a) H p = true) : mayB (makeK p n b) H p = true := by
  unfold mayB at *
  rw [List.all_eq_true] at *
  intro i hi
  have h2 := h i hi
  rw [makeK_length, bitK_makeK p n _ _ hn hn2, List.any_eq_true] at *
  obtain ⟨k, hk, h3⟩ := h2
  exact ⟨k, hab k hk, h3⟩
theorem mayF_has (p n : Nat) (keys : List (List UInt8)) (key : List UInt8) (hk : key ∈ keys) (hn : 0 < n) (hn2 : n ≤ 100000) : mayF p (makeK p n keys) (hashL key) = true := by
  unfold mayF
  rw [Int.toNat_natCast, may_has p n keys key hk hn hn2, Bool.or_true]
theorem mayF_more (p n : Nat) (a b : List (List UInt8)) (H : UInt64) (hab : ∀ k ∈ a, k ∈ b) (hn : 0 < n) (hn2 : n ≤ 100000) (h : mayF p (makeK p n a) H = true) : mayF p (makeK p n b) H = true := by
  unfold mayF at *
  rw [Int.toNat_natCast, makeK_length] at *
  cases hg : goodB p n with
  | false => rfl
  | true =>
    rw [hg] at h
    simp only [Bool.not_true, Bool.false_or] at *
    exact may_more p n a b H hab hn hn2 h
theorem sizeK_pos (m each : Nat) : 0 < sizeK m each := by unfold sizeK; omega
theorem sizeK_le (m each : Nat) (hm : m ≤ 2048) (he : each ≤ 32) : sizeK m each ≤ 8193 := by
  have := Nat.mul_le_mul hm he
  unfold sizeK
  omega
end Go.Proofs.YtgegipijappfhaaDoor
namespace Go.Proofs.YtgegipijappfhaaDoor
open Go Go.RowKit Go.Shelf
attribute [local go_sem] Oper.semAt_some

def encBl (p : Nat) (bs : List UInt8) : List UInt8 := numBytes p ++ (numBytes bs.length ++ bs)
theorem conv_in (w : World) (ao : Option Addr) (cap : Nat) (bs : List UInt8) (h0 : 0 < bs.length) (h : BytesIn w ao bs) : (convert 54 9 (.slice ao bs.length cap)).run Tryd.prog w = .ok (.string (txt bs)) w := by
  obtain ⟨g, o, rfl, _⟩ := h 0 h0
  refine run_convert_bytes_back w _ _ _ ⟨g, o, none⟩ _ bs Tryd.underlying54 Tryd.underlying5 Tryd.underlying9 fun j hj => ?_
  obtain ⟨g', o', h1, h2⟩ := h j hj
  obtain ⟨rfl, rfl⟩ : g = g' ∧ o = o' := by simpa using h1
  have hp : (⟨g, o, none⟩ : Addr).add j = ⟨g, o + j, none⟩ := by unfold Addr.add; split <;> simp_all
  rw [hp, h2]
  simp [List.getD_eq_getElem?_getD, hj]
theorem BytesIn.below {w W : World} {ao : Option Addr} {bs : List UInt8} (h : BytesIn w ao bs) (hb : Below w.heap.size w W) : BytesIn W ao bs := fun i hi => by
  obtain ⟨g, o, h1, h2⟩ := h i hi
  exact ⟨g, o, h1, (hb.cell (p := ⟨g, o + i, none⟩) (cellLt h2)).trans h2⟩
theorem enc_len (p : Nat) (bs : List UInt8) (hp : p ≤ 16) (hb : bs.length ≤ 8192) : (encBl p bs).length ≤ 8300 := by
  have h1 := numLen_le p (by omega)
  have h2 := numLen_le bs.length (by omega)
  simp [encBl, numBytes]
  omega

set_option maxRecDepth 100000 in
set_option maxHeartbeats 4000000 in
theorem bytes_good (p : Nat) (ao : Option Addr) (cap : Nat) (bs : List UInt8) (w : World) (hB : BytesIn w ao bs) (hg : goodB p bs.length = true) :
    Calls Tryd.prog 56 #[.agg #[.int .i64 p, .slice ao bs.length cap]] w fun e w' => e = .returned (.tuple #[.string (txt (encBl p bs)), .int .i64 0]) ∧ Below w.heap.size w w' := by
  have hgd := of_decide_eq_true hg
  have hL := enc_len p bs (by omega) (by omega)
  have HG : ∀ w, Hid (Calls Tryd.prog 71 #[.agg #[.int .i64 p, .slice ao bs.length cap]] w fun e w' => e = .returned (.bool true) ∧ Below w.heap.size w w') := fun w => Lib.hid (by
    have := good_any p ao bs.length cap w
    rwa [hg] at this)
  have HC : Hid (∀ W, Below w.heap.size w W → (convert 54 9 (.slice ao bs.length cap)).run Tryd.prog W = .ok (.string (txt bs)) W) := Lib.hid fun W hW => conv_in W ao cap bs (by omega) (hB.below hW)
  have hs0 : (txt bs).size = bs.length := by simp [ByteArray.size]
  have l1 := numLen_le p (by omega)
  have l2 := numLen_le bs.length (by omega)
  have l3 : (numBytes p).length ≤ 9 := by simp [numBytes]; omega
  have l4 : (numBytes bs.length).length ≤ 9 := by simp [numBytes]; omega
  have e1 : numW [] 0 (p : Int) = numBytes p := by simp [numW, added]; omega
  have e2 : numWE 0 (p : Int) = 0 := by simp [numWE]
  have e3 : textW (numBytes p) 0 (txt bs) = encBl p bs := by
    rw [textW, if_neg (by rw [hs0]; omega), hs0]
    have i1 : added (numBytes p) 0 (numBytes bs.length) = numBytes p ++ numBytes bs.length := if_pos ⟨rfl, by omega⟩
    rw [i1, added, if_pos ⟨rfl, by rw [List.length_append]; omega⟩, List.append_assoc]
    rfl
  have e4 : textWE 0 (txt bs) = 0 := by rw [textWE, if_neg (by rw [hs0]; omega)]
  have e5 : doneS (encBl p bs) 0 = encBl p bs := by rw [doneS, if_neg (by omega)]
  have e6 : doneE (encBl p bs) 0 = 0 := by rw [doneE, if_neg (by omega), if_neg (by omega)]
  have HN : ∀ (B b : Nat) (w : World), WriterAt B b [] 0 w → B ≤ w.heap.size → Hid (Calls Tryd.prog 41 #[.pointer (some ⟨b, 0, none⟩), .int .i64 p] w fun r w' => r = .returned (.tuple #[]) ∧ WriterAt B b (numBytes p) 0 w' ∧ Near B b w w') := fun B b w h hb => Lib.hid (by
    have := WNumber_all B b [] 0 p w h (by omega) hb
    rwa [e1, e2] at this)
  have HT : ∀ (B b : Nat) (w : World), WriterAt B b (numBytes p) 0 w → B ≤ w.heap.size → Hid (Calls Tryd.prog 54 #[.pointer (some ⟨b, 0, none⟩), .string (txt bs)] w fun r w' => r = .returned (.tuple #[]) ∧ WriterAt B b (encBl p bs) 0 w' ∧ Near B b w w') := fun B b w h hb => Lib.hid (by
    have := WText_all B b (numBytes p) 0 (txt bs) w h hb
    rwa [e3, e4] at this)
  have HD : ∀ (B b : Nat) (w : World), WriterAt B b (encBl p bs) 0 w → Hid (Calls Tryd.prog 43 #[.pointer (some ⟨b, 0, none⟩)] w fun r w' => r = .returned (.tuple #[.string (txt (encBl p bs)), .int .i64 0]) ∧ Below w.heap.size w w') := fun B b w h => Lib.hid (by
    have := WDone_all B b (encBl p bs) 0 w h
    rwa [e5, e6] at this)
  generalize encBl p bs = E at *
  obtain ⟨n, hn⟩ : ∃ n, bs.length = n := ⟨_, rfl⟩
  rw [hn] at hgd HG HC ⊢
  have hn1 : 0 < n := by omega
  have hn2 : n ≤ 8192 := hgd.2.2.2
  generalize txt bs = TB at *
  clear hB hg hgd hn hL hs0 e1 e2 e3 e4 e5 e6 l1 l2 l3 l4
  have a1 : Below w.heap.size w (w.alloc (.cells #[.int .i64 p, .slice ao n cap] 56)) := ((Below.refl _ _).alloc (Nat.le_refl _) _)
  have x0 := World.alloc_heap_new w (.cells #[.int .i64 p, .slice ao n cap] 56)
  go_enter Tryd.func56, Tryd.ntmps56
  go_wp2_with fail
  generalize w.alloc (.cells #[.int .i64 p, .slice ao n cap] 56) = W0 at *
  refine (HG _).out.mono ?_
  rintro e w1 ⟨rfl, b1⟩
  have x1 := (b1.block _ (heap_lt x0)).trans x0
  have a2 := below_past a1 b1 a1.size
  have c0 : w1.cell? ⟨w.heap.size, 0, none⟩ = some (.int .i64 p) := (Lib.cell_of_heap x1 0).trans rfl
  have c1 : w1.cell? ⟨w.heap.size, 1, none⟩ = some (.slice ao n cap) := (Lib.cell_of_heap x1 1).trans rfl
  clear HG x0 a1 b1
  have hw1 := heap_lt x1
  have a3 := a2.alloc a2.size (.cells #[.slice none 0 0, .int .i64 0] 84)
  have x2 := (Below.heap_alloc w1 (.cells #[.slice none 0 0, .int .i64 0] 84) _ hw1).trans x1
  have y2 := World.alloc_heap_new w1 (.cells #[.slice none 0 0, .int .i64 0] 84)
  have s2 : (w1.alloc (.cells #[.slice none 0 0, .int .i64 0] 84)).heap.size = w1.heap.size + 1 := by simp
  have d0 : (w1.alloc (.cells #[.slice none 0 0, .int .i64 0] 84)).cell? ⟨w.heap.size, 0, none⟩ = some (.int .i64 p) := (Lib.cell_of_heap x2 0).trans rfl
  clear c0 c1 x1 a2
  go_wp2_with fail
  generalize w1.alloc (.cells #[.slice none 0 0, .int .i64 0] 84) = W1 at *
  have k1 : WriterAt (w1.heap.size + 1) w1.heap.size [] 0 W1 := ⟨none, 0, y2, World.ownsRow_nil _ _ _ _, by simp [Value.ownBlock]⟩
  generalize w1.heap.size = b at *
  refine (HN _ b _ k1 (by omega)).out.mono ?_
  rintro e w2 ⟨rfl, k2, n2⟩
  have x3 := (n2.block _ (by omega) (by omega)).trans x2
  have a4 := a3.trans (n2.below (C := w.heap.size) (by omega) (by omega))
  have d1 : w2.cell? ⟨w.heap.size, 1, none⟩ = some (.slice ao n cap) := (Lib.cell_of_heap x3 1).trans rfl
  have hcv := HC.out w2 a4
  have s3 := n2.size
  clear HN x2 y2 d0 k1 n2 a3
  go_wp2_with fail
  refine (HT _ b _ k2 (by omega)).out.mono ?_
  rintro e w3 ⟨rfl, k3, n3⟩
  have a5 := a4.trans (n3.below (C := w.heap.size) (by omega) (by omega))
  clear HT x3 a4 d1 hcv k2 n3
  go_wp2_with fail
  refine (HD _ b _ k3).out.mono ?_
  rintro e w4 ⟨rfl, n4⟩
  have a6 := below_past a5 n4 a5.size
  clear HD a5 k3 n4
  go_wp2_with fail
  go_ret2
  exact ⟨rfl, a6⟩
set_option maxRecDepth 100000 in
theorem bytes_bad (p : Int) (ao : Option Addr) (n cap : Nat) (w : World) (hg : goodB p n = false) :
    Calls Tryd.prog 56 #[.agg #[.int .i64 p, .slice ao n cap]] w fun e w' => e = .returned (.tuple #[.string ⟨#[]⟩, .int .i64 3]) ∧ Below w.heap.size w w' := by
  have HG : ∀ w, Hid (Calls Tryd.prog 71 #[.agg #[.int .i64 p, .slice ao n cap]] w fun e w' => e = .returned (.bool false) ∧ Below w.heap.size w w') := fun w => Lib.hid (by
    have := good_any p ao n cap w
    rwa [hg] at this)
  have a1 : Below w.heap.size w (w.alloc (.cells #[.int .i64 p, .slice ao n cap] 56)) := ((Below.refl _ _).alloc (Nat.le_refl _) _)
  clear hg
  go_enter Tryd.func56, Tryd.ntmps56
  go_wp2_with fail
  generalize w.alloc (.cells #[.int .i64 p, .slice ao n cap] 56) = W0 at *
  refine (HG _).out.mono ?_
  rintro e w1 ⟨rfl, b1⟩
  have a2 := below_past a1 b1 a1.size
  clear HG a1 b1
  go_wp2_with fail
  go_ret2
  exact ⟨rfl, a2⟩
def encF (p : Int) (bs : List UInt8) : List UInt8 := if goodB p bs.length then encBl p.toNat bs else []
def errBl (p : Int) (bs : List UInt8) : Int := if goodB p bs.length then 0 else 3
theorem bytes_any (p : Int) (ao : Option Addr) (cap : Nat) (bs : List UInt8) (w : World) (hB : BytesIn w ao bs) :
    Calls Tryd.prog 56 #[.agg #[.int .i64 p, .slice ao bs.length cap]] w fun e w' => e = .returned (.tuple #[.string (txt (encF p bs)), .int .i64 (errBl p bs)]) ∧ Below w.heap.size w w' := by
  unfold encF errBl
  cases hg : goodB p bs.length with
  | false => exact bytes_bad p ao bs.length cap w hg
  | true =>
    have h1 := (of_decide_eq_true hg).1
    obtain ⟨q, rfl⟩ : ∃ q : Nat, p = q := ⟨p.toNat, by omega⟩
    exact bytes_good q ao cap bs w hB hg
end Go.Proofs.YtgegipijappfhaaDoor
namespace Go.Proofs.YtgegipijappfhaaDoor
open Go Go.RowKit Go.Shelf
attribute [local go_sem] Oper.semAt_some

def rE0 (s : ByteArray) : Int := if s.size ≤ 65536 then 0 else 2
def readPF (s : ByteArray) : Int := numV s (rE0 s)
def readTF (s : ByteArray) : ByteArray := textV (numS s (rE0 s)) (numE s (rE0 s))
def readDF (s : ByteArray) : Int := if textE (numS s (rE0 s)) (numE s (rE0 s)) = 0 ∧ (textR (numS s (rE0 s)) (numE s (rE0 s))).size ≠ 0 then 3 else textE (numS s (rE0 s)) (numE s (rE0 s))
/-- What is read: an error, or none. -/
def readEF (s : ByteArray) : Int := if readDF s = 0 then (if goodB (readPF s) (readTF s).size then 0 else 3) else readDF s
theorem conv_world (w : World) (T : ByteArray) : Below w.heap.size w (Lib.bytesWorld w 5 T) :=
  ⟨rfl, rfl, rfl, by rw [Lib.bytesWorld_size]; omega, fun k hk => Lib.bytesWorld_at_old w _ T k hk⟩

set_option maxRecDepth 100000 in
set_option maxHeartbeats 4000000 in
theorem read_any (s : ByteArray) (w : World) :
    Calls Tryd.prog 66 #[.string s] w fun e w' => Below w.heap.size w w' ∧
      ((readEF s ≠ 0 ∧ e = .returned (.tuple #[.agg #[.int .i64 0, .slice none 0 0], .int .i64 (readEF s)])) ∨
       (readEF s = 0 ∧ ∃ g cap, e = .returned (.tuple #[.agg #[.int .i64 (readPF s), .slice (some ⟨g, 0, none⟩) (readTF s).size cap], .int .i64 0]) ∧ BytesIn w' (some ⟨g, 0, none⟩) (readTF s).data.toList ∧ w.heap.size ≤ g)) := by
  have HO : ∀ w, Hid (Calls Tryd.prog 46 #[.string s] w fun r w' => r = .returned (.pointer (some ⟨w.heap.size, 0, none⟩)) ∧ ReaderAt w.heap.size w.heap.size s (rE0 s) w' ∧ Below w.heap.size w w') := fun w => Lib.hid (Open_any s w)
  have HN : ∀ (B b : Nat) (w : World), ReaderAt B b s (rE0 s) w → Hid (Calls Tryd.prog 64 #[.pointer (some ⟨b, 0, none⟩)] w fun r w' => r = .returned (.int .i64 (readPF s)) ∧ ReaderAt B b (numS s (rE0 s)) (numE s (rE0 s)) w' ∧ Near B b w w') := fun B b w h => Lib.hid (RNumber_all B b s _ w h)
  have HT : ∀ (B b : Nat) (w : World), ReaderAt B b (numS s (rE0 s)) (numE s (rE0 s)) w → B ≤ w.heap.size → Hid (Calls Tryd.prog 65 #[.pointer (some ⟨b, 0, none⟩)] w fun r w' => r = .returned (.string (readTF s)) ∧ ReaderAt B b (textR (numS s (rE0 s)) (numE s (rE0 s))) (textE (numS s (rE0 s)) (numE s (rE0 s))) w' ∧ Near B b w w') := fun B b w h hb => Lib.hid (RText_any B b _ _ w h hb)
  have HD : ∀ (B b : Nat) (w : World), ReaderAt B b (textR (numS s (rE0 s)) (numE s (rE0 s))) (textE (numS s (rE0 s)) (numE s (rE0 s))) w → Hid (Calls Tryd.prog 49 #[.pointer (some ⟨b, 0, none⟩)] w fun r w' => r = .returned (.int .i64 (readDF s)) ∧ Below w.heap.size w w') := fun B b w h => Lib.hid (RDone_any B b _ _ w h)
  have HG : ∀ p ao n cap w, Hid (Calls Tryd.prog 71 #[.agg #[.int .i64 p, .slice ao n cap]] w fun e w' => e = .returned (.bool (goodB p n)) ∧ Below w.heap.size w w') := fun p ao n cap w => Lib.hid (good_any p ao n cap w)
  have HE : Hid (readEF s = if readDF s = 0 then (if goodB (readPF s) (readTF s).size then 0 else 3) else readDF s) := Lib.hid rfl
  have hz : (readTF s).size ≤ 65536 := textV_size _ _
  generalize readEF s = E at *
  generalize readDF s = D at *
  generalize readPF s = p at *
  generalize readTF s = T at *
  generalize rE0 s = e0 at *
  generalize textR (numS s e0) (numE s e0) = s2 at *
  generalize textE (numS s e0) (numE s e0) = f2 at *
  generalize numS s e0 = s1 at *
  generalize numE s e0 = f1 at *
  have x0 := World.alloc_heap_new w (.cells #[.int .i64 0, .slice none 0 0] 56)
  have a0 := (Below.refl w.heap.size w).alloc (Nat.le_refl _) (.cells #[.int .i64 0, .slice none 0 0] 56)
  go_enter Tryd.func66, Tryd.ntmps66
  go_wp2_with fail
  generalize w.alloc (.cells #[.int .i64 0, .slice none 0 0] 56) = W0 at *
  have hw0 := heap_lt x0
  refine (HO _).out.mono ?_
  rintro e w1 ⟨rfl, k1, b1⟩
  have x1 := (b1.block _ hw0).trans x0
  have a1 := below_past a0 b1 a0.size
  have s1' := b1.size
  have hb1 := heap_lt k1.2
  clear HO x0 a0 b1
  generalize W0.heap.size = b at *
  go_wp2_with fail
  refine (HN _ _ _ k1).out.mono ?_
  rintro e w2 ⟨rfl, k2, n2⟩
  have x2 := (n2.block _ hw0 (by omega)).trans x1
  have a2 := a1.trans (n2.below (C := w.heap.size) (by omega) (by omega))
  have s2' := n2.size
  clear HN x1 a1 k1 n2
  go_wp2_with fail
  refine (HT _ _ _ k2 (by omega)).out.mono ?_
  rintro e w3 ⟨rfl, k3, n3⟩
  have x3 := (n3.block _ hw0 (by omega)).trans x2
  have a3 := a2.trans (n3.below (C := w.heap.size) (by omega) (by omega))
  have s3' := n3.size
  clear HT x2 a2 k2 n3
  have hcv := Lib.run_convert_string_bytes (P := Tryd.prog) w3 9 54 5 T (u := .string) Tryd.underlying9 Tryd.underlying54 Tryd.underlying5
  go_wp2_with fail
  have HB : BytesIn (Lib.bytesWorld w3 5 T) (some ⟨w3.heap.size, 0, none⟩) T.data.toList := fun i hi => ⟨w3.heap.size, 0, rfl, by
    rw [Nat.zero_add]
    exact Lib.bytesWorld_cell w3 5 T i (by rwa [← Lib.size_eq] at hi)⟩
  have b4 := conv_world w3 T
  have z4 := Lib.bytesWorld_size w3 5 T
  clear hcv
  generalize Lib.bytesWorld w3 5 T = W3 at *
  generalize grownCap w3 T.size 0 5 = cap at *
  have b5 := b4.alloc b4.size (.cells #[.int .i64 p, .slice (some ⟨w3.heap.size, 0, none⟩) T.size cap] 56)
  have hB5 := HB.below ((Below.refl _ W3).alloc (Nat.le_refl _) (.cells #[.int .i64 p, .slice (some ⟨w3.heap.size, 0, none⟩) T.size cap] 56))
  have y5 := World.alloc_heap_new W3 (.cells #[.int .i64 p, .slice (some ⟨w3.heap.size, 0, none⟩) T.size cap] 56)
  have z5 : (W3.alloc (.cells #[.int .i64 p, .slice (some ⟨w3.heap.size, 0, none⟩) T.size cap] 56)).heap.size = W3.heap.size + 1 := by simp
  generalize W3.alloc (.cells #[.int .i64 p, .slice (some ⟨w3.heap.size, 0, none⟩) T.size cap] 56) = W4 at *
  rw [z4] at y5 z5
  have k5 := k3.below b5
  have x5 := (b5.block _ (heap_lt x3)).trans x3
  have a5 := below_past a3 b5 a3.size
  have hg := a3.size
  clear HB b4 k3 x3 a3 b5
  refine (HD _ _ _ k5).out.mono ?_
  rintro e w6 ⟨rfl, b6⟩
  have x6 := (b6.block _ (heap_lt x5)).trans x5
  have y6 := (b6.block _ (heap_lt y5)).trans y5
  have a6 := below_past a5 b6 a5.size
  have hB6 := hB5.below b6
  clear HD k5 x5 y5 a5 hB5 b6
  have c0 : w6.cell? ⟨w.heap.size, 0, none⟩ = some (.int .i64 0) := (Lib.cell_of_heap x6 0).trans rfl
  have c1 : w6.cell? ⟨w.heap.size, 1, none⟩ = some (.slice none 0 0) := (Lib.cell_of_heap x6 1).trans rfl
  have f0 := Lib.frozen_of_heap x6 0
  have g0 := Lib.frozen_of_heap x6 1
  by_cases hD : D = 0
  · subst hD
    rw [if_pos rfl] at HE
    have d0 : w6.cell? ⟨w3.heap.size + 1, 0, none⟩ = some (.int .i64 p) := (Lib.cell_of_heap y6 0).trans rfl
    have d1 : w6.cell? ⟨w3.heap.size + 1, 1, none⟩ = some (.slice (some ⟨w3.heap.size, 0, none⟩) T.size cap) := (Lib.cell_of_heap y6 1).trans rfl
    go_wp2_with fail
    refine (HG _ _ _ _ _).out.mono ?_
    rintro e w7 ⟨rfl, b7⟩
    have x7 := (b7.block _ (heap_lt x6)).trans x6
    have y7 := (b7.block _ (heap_lt y6)).trans y6
    have a7 := below_past a6 b7 a6.size
    have HB7 := Lib.hid (hB6.below b7)
    clear HG c0 c1 f0 g0 d0 d1 x6 y6 a6 hB6 b7
    have c0 : w7.cell? ⟨w.heap.size, 0, none⟩ = some (.int .i64 0) := (Lib.cell_of_heap x7 0).trans rfl
    have c1 : w7.cell? ⟨w.heap.size, 1, none⟩ = some (.slice none 0 0) := (Lib.cell_of_heap x7 1).trans rfl
    have f0 := Lib.frozen_of_heap x7 0
    have g0 := Lib.frozen_of_heap x7 1
    have d0 : w7.cell? ⟨w3.heap.size + 1, 0, none⟩ = some (.int .i64 p) := (Lib.cell_of_heap y7 0).trans rfl
    have d1 : w7.cell? ⟨w3.heap.size + 1, 1, none⟩ = some (.slice (some ⟨w3.heap.size, 0, none⟩) T.size cap) := (Lib.cell_of_heap y7 1).trans rfl
    cases hgd : goodB p T.size with
    | false =>
      rw [hgd] at HE
      go_wp2_with fail
      have HEz : E = 3 := HE.out
      refine bodyPost_ret (v := .tuple #[.agg #[.int .i64 0, .slice none 0 0], .int .i64 3]) (by simp [results, Tryd.f66, go_sem, c0, c1]) rfl ⟨(a7.setCell (p := ⟨w.heap.size, 0, none⟩) (Nat.le_refl _) _).setCell (p := ⟨w.heap.size, 1, none⟩) (Nat.le_refl _) _, .inl ⟨by rw [HEz]; decide, by rw [HEz]⟩⟩
    | true =>
      rw [hgd] at HE
      go_wp2_with fail
      have HEz : E = 0 := HE.out
      have HB8 : BytesIn ((w7.setCell ⟨w.heap.size, 0, none⟩ (.int .i64 p)).setCell ⟨w.heap.size, 1, none⟩ (.slice (some ⟨w3.heap.size, 0, none⟩) T.size cap)) (some ⟨w3.heap.size, 0, none⟩) T.data.toList := fun i hi => by
        obtain ⟨g, o, h1, h2⟩ := HB7.out i hi
        obtain ⟨rfl, rfl⟩ : w3.heap.size = g ∧ 0 = o := by simpa using h1
        exact ⟨_, _, rfl, (World.cell?_of_block (Below.heap_setCell _ _ _ _ (by dsimp only; omega))).trans ((World.cell?_of_block (Below.heap_setCell _ _ _ _ (by dsimp only; omega))).trans h2)⟩
      refine bodyPost_ret (v := .tuple #[.agg #[.int .i64 p, .slice (some ⟨w3.heap.size, 0, none⟩) T.size cap], .int .i64 0]) (by simp [results, Tryd.f66, go_sem, c0, c1]) rfl ⟨(a7.setCell (p := ⟨w.heap.size, 0, none⟩) (Nat.le_refl _) _).setCell (p := ⟨w.heap.size, 1, none⟩) (Nat.le_refl _) _, .inr ⟨HEz, _, _, rfl, HB8, by omega⟩⟩
  · have hD' : (D != 0) = true := by simpa using hD
    rw [if_neg hD] at HE
    have HD' := Lib.hid hD
    clear hD
    go_wp2_with fail
    have HEz : E = D := HE.out
    refine bodyPost_ret (v := .tuple #[.agg #[.int .i64 0, .slice none 0 0], .int .i64 D]) (by simp [results, Tryd.f66, go_sem, c0, c1]) rfl ⟨(a6.setCell (p := ⟨w.heap.size, 0, none⟩) (Nat.le_refl _) _).setCell (p := ⟨w.heap.size, 1, none⟩) (Nat.le_refl _) _, .inl ⟨by rw [HEz]; exact HD'.out, by rw [HEz]⟩⟩
end Go.Proofs.YtgegipijappfhaaDoor
namespace Go.Proofs.YtgegipijappfhaaDoor
open Go Go.RowKit

/-- Texts are put behind a list of the call's own. -/
theorem wpList_put_texts {ops : Array Oper} {rest : List Oper} {o : Oper} {a : Act} {w : World} {Q : Exit → Act → World → Prop} (hgd : o.guard = none) (s x : Operand)
    (ho : o.op = .call { callee := .builtin .append, args := #[s, x], argTypes := #[107, 107] }) (B : Nat) (v : Value) (ts us : List (List UInt8)) (hs : a.eval s = v) (hown : OwnStrs w B v ts)
    (ad : Addr) (m c : Nat) (hx : a.eval x = .slice (some ad) m c) (hm : us.length = m) (hcell : ∀ j u, (strCells us)[j]? = some u → w.cell? (ad.add j) = some u) (hB : B ≤ w.heap.size) (hl : ts.length ≤ 1000000) (hl2 : us.length ≤ 1000000)
    (h : ∀ v' w', OwnStrs w' B v' (ts ++ us) → w.grownBy w' v.ownBlock → (v'.ownBlock = v.ownBlock ∨ v'.ownBlock = some w.heap.size) → wpList Tryd.prog ops Q rest (a.put o.dst v') w') : wpList Tryd.prog ops Q (o :: rest) a w := by
  subst hm
  obtain ⟨i0, hi, hz0, hz1, hz2⟩ := info_str
  refine wpList_append_own_at (P := Tryd.prog) w hgd s x 107 ho B 9 i0 (.string ⟨#[]⟩) 1 16 Tryd.underlying107 hi hz0 hz1 hz2 rfl (by decide) v ts.length (strCells ts) hs hown ad us.length c (strCells us) hx (by rw [strCells_length, Nat.mul_one]) hcell ?_ (by unfold maxLen; omega) (by omega) hB ?_
  · intro u hu
    obtain ⟨t, _, rfl⟩ := List.mem_map.1 hu
    rfl
  · intro v' w' h1 h2 _ h4
    refine h v' w' ?_ h2 h4
    show w'.ownsRow B 9 1 v' (ts ++ us).length (strCells (ts ++ us))
    rw [List.length_append, show strCells (ts ++ us) = strCells ts ++ strCells us by simp [strCells]]
    exact h1
end Go.Proofs.YtgegipijappfhaaDoor
namespace Go.Proofs.YtgegipijappfhaaDoor
open Go Go.RowKit Go.Shelf
attribute [local go_sem] Oper.semAt_some

theorem own_some {w : World} {B : Nat} {v : Value} {ts : List (List UInt8)} (h : OwnStrs w B v ts) (h0 : 0 < ts.length) : ∃ g c, v = .slice (some ⟨g, 0, none⟩) ts.length c := by
  obtain ⟨ao, c, hv, h2⟩ := h.lie
  obtain ⟨g, rfl, _⟩ := h2 0 h0
  exact ⟨g, c, hv⟩
end Go.Proofs.YtgegipijappfhaaDoor
namespace Go.Proofs.YtgegipijappfhaaDoor
open Go Go.RowKit Go.Shelf
attribute [local go_sem] Oper.semAt_some

set_option maxRecDepth 100000 in
theorem make_err (v : Value) (each : Int) (w : World) (he : each < 1 ∨ 32 < each) :
    Calls Tryd.prog 57 #[v, .int .i64 each] w fun e w' => e = .returned (.tuple #[.agg #[.int .i64 0, .slice none 0 0], .int .i64 1]) ∧ Below w.heap.size w w' := by
  by_cases h : each < 1
  · have q1 : decide (each < 1) = true := decide_eq_true h
    clear he h
    go_enter Tryd.func57, Tryd.ntmps57
    go_wp2_with fail
    refine bodyPost_ret (v := .tuple #[.agg #[.int .i64 0, .slice none 0 0], .int .i64 1]) (by simp [results, Tryd.f57, go_sem]) rfl ⟨rfl, ?_⟩
    exact (Below.refl _ _).alloc (Nat.le_refl _) _
  · have q1 : decide (each < 1) = false := decide_eq_false h
    have q2 : decide (32 < each) = true := decide_eq_true (by omega)
    clear he h
    go_enter Tryd.func57, Tryd.ntmps57
    go_wp2_with fail
    refine bodyPost_ret (v := .tuple #[.agg #[.int .i64 0, .slice none 0 0], .int .i64 1]) (by simp [results, Tryd.f57, go_sem]) rfl ⟨rfl, ?_⟩
    exact (Below.refl _ _).alloc (Nat.le_refl _) _
/-- A filter in a block of its own. -/
def keysL (S : Nat → ByteArray) (len : Nat) : List (List UInt8) := (List.range len).map fun i => (S i).data.toList
theorem make_full (v : Value) (len : Nat) (S : Nat → ByteArray) (each : Nat) (w : World) (h1 : InStrs w v len S) (hs : ∀ i, i < len → (S i).size ≤ 1000000) (he : 1 ≤ each ∧ each ≤ 32) (hl : len ≤ 2048) (K : List (List UInt8)) (hK : keysL S len = K) (p n : Nat) (hp : probesK each = p) (hn : sizeK len each = n) :
    Calls Tryd.prog 57 #[v, .int .i64 each] w fun e w' => ∃ g cap, e = .returned (.tuple #[.agg #[.int .i64 p, .slice (some ⟨g, 0, none⟩) n cap], .int .i64 0]) ∧ BytesIn w' (some ⟨g, 0, none⟩) (makeK p n K) ∧ w.heap.size ≤ g ∧ Below w.heap.size w w' := by
  subst hp hn hK
  refine (make_any v len S each w h1 hs he hl).mono ?_
  rintro e w' ⟨g, cap, rfl, h2, h3, h4⟩
  refine ⟨g, cap, rfl, fun i hi => ⟨g, 0, rfl, ?_⟩, h3, h4⟩
  rw [Nat.zero_add]
  refine (cell_of_rowAt h2 i).trans ?_
  exact cellsB8_get _ i hi
def abS (i : Nat) : ByteArray := if i = 0 then ⟨#[97]⟩ else ⟨#[98]⟩
end Go.Proofs.YtgegipijappfhaaDoor
namespace Go.Proofs.YtgegipijappfhaaDoor
open Go Go.RowKit Go.Proofs.YtgegipijappfhaaDoor

theorem strs_in {w : World} {v : Value} {K : List (List UInt8)} (h : StrsAt w v K) : InStrs w v K.length (fun i => stx (K.getD i [])) := by
  obtain ⟨ao, cap, rfl, h2⟩ := h
  refine ⟨ao, cap, rfl, fun i hi => ?_⟩
  obtain ⟨g, rfl, h3⟩ := h2 i hi
  refine ⟨_, rfl, ?_⟩
  rw [show (⟨g, 0, none⟩ : Addr).add i = ⟨g, i, none⟩ by simp [Addr.add]; exact fun e => e.symm]
  exact h3
theorem keys_of (K : List (List UInt8)) : keysL (fun i => stx (K.getD i [])) K.length = K := by
  unfold keysL
  apply List.ext_getElem
  · simp
  · intro i h1 h2
    simp [h2]
theorem txt_stx (l : List UInt8) : txt l = stx l := rfl
/-- What is written is read. -/
theorem read_back (p : Nat) (bs : List UInt8) (hg : goodB p bs.length = true) : readEF (txt (encBl p bs)) = 0 ∧ readPF (txt (encBl p bs)) = p ∧ readTF (txt (encBl p bs)) = txt bs := by
  have hgd := of_decide_eq_true hg
  have hL := enc_len p bs (by omega) (by omega)
  have e0 : rE0 (txt (encBl p bs)) = 0 := by
    unfold rE0
    rw [if_pos (by simp [ByteArray.size]; omega)]
  obtain ⟨n1, n2, n3⟩ := num_read p (numBytes bs.length ++ bs) (by omega)
  obtain ⟨t1, t2, t3⟩ := text_read bs [] (by omega)
  rw [List.append_nil] at t1 t2 t3
  have m1 : numV (txt (encBl p bs)) 0 = p := n1
  have m2 : numS (txt (encBl p bs)) 0 = txt (numBytes bs.length ++ bs) := n2
  have m3 : numE (txt (encBl p bs)) 0 = 0 := n3
  have hp : readPF (txt (encBl p bs)) = p := by rw [readPF, e0, m1]
  have ht : readTF (txt (encBl p bs)) = txt bs := by rw [readTF, e0, m2, m3, t1]
  have hd : readDF (txt (encBl p bs)) = 0 := by
    rw [readDF, e0, m2, m3, t2, t3]
    rfl
  refine ⟨?_, hp, ht⟩
  rw [readEF, if_pos hd, hp, ht, show (txt bs).size = bs.length by simp [ByteArray.size], hg]
  rfl
end Go.Proofs.YtgegipijappfhaaDoor
namespace Go.Proofs.YtgegipijappfhaaDoor
open Go Go.RowKit

structure Grp where
  place : Nat
  last : List UInt8
theorem Grp.ext2 {a b : Grp} (h1 : a.place = b.place) (h2 : a.last = b.last) : a = b := by
  cases a
  cases b
  simp_all
def e0 : Ent := ⟨[], [], false⟩
def costT (x : Ent) : Nat := x.key.length + x.val.length + 8
/-- How many of the first entries are a group. -/
def cutF (size : Nat) : List Ent → Nat → Nat → Nat
  | [], _, i => i
  | x :: l, s, i => if size ≤ s + costT x ∨ i + 1 = 256 then i + 1 else cutF size l (s + costT x) (i + 1)
def cutT (size : Nat) (l : List Ent) : Nat := cutF size l 0 0
theorem cutF_range (size : Nat) : ∀ (l : List Ent) (s i : Nat), i ≤ cutF size l s i ∧ cutF size l s i ≤ i + l.length ∧ (l ≠ [] → i < cutF size l s i) ∧ (i < 256 → cutF size l s i ≤ 256)
  | [], s, i => ⟨Nat.le_refl _, Nat.le_refl _, fun h => absurd rfl h, fun h => Nat.le_of_lt h⟩
  | x :: l, s, i => by
    unfold cutF
    split
    · exact ⟨by omega, by simp, fun _ => by omega, fun h => by omega⟩
    · rename_i h
      obtain ⟨h1, h2, _, h4⟩ := cutF_range size l (s + costT x) (i + 1)
      refine ⟨by omega, by rw [List.length_cons]; omega, fun _ => by omega, fun h5 => h4 (by omega)⟩
theorem cutT_range (size : Nat) (l : List Ent) : cutT size l ≤ l.length ∧ (l ≠ [] → 0 < cutT size l) ∧ cutT size l ≤ 256 := by
  obtain ⟨_, h2, h3, h4⟩ := cutF_range size l 0 0
  exact ⟨by unfold cutT; omega, h3, h4 (by decide)⟩
def headK (l : List Ent) : List UInt8 := (l.getD 0 e0).key
def lastK (l : List Ent) : List UInt8 := (l.getD (l.length - 1) e0).key
def lastG (G : List Grp) : List UInt8 := (G.getD (G.length - 1) ⟨0, []⟩).last
structure Laid where
  fail : Nat
  text : List UInt8
  grps : List Grp
/-- Entries are laid in blocks, one behind the other. -/
def layF (size : Nat) : Nat → List Ent → List UInt8 → List Grp → Laid
  | 0, _, T, G => ⟨0, T, G⟩
  | f + 1, l, T, G =>
    if l = [] then ⟨0, T, G⟩
    else if (makeB (l.take (cutT size l))).2 ≠ 0 then ⟨(makeB (l.take (cutT size l))).2, [], []⟩
    else if G ≠ [] ∧ ¬ lastG G < headK l then ⟨3, [], []⟩
    else layF size f (l.drop (cutT size l)) (T ++ (makeB (l.take (cutT size l))).1) (G ++ [⟨T.length, lastK (l.take (cutT size l))⟩])
def indexT (G : List Grp) : List UInt8 := numBytes G.length ++ G.flatMap fun g => numBytes g.place ++ (numBytes g.last.length ++ g.last)
def keysOf (l : List Ent) : List (List UInt8) := l.map Ent.key
def bloomT (l : List Ent) : List UInt8 := makeK 7 (sizeK l.length 10) (keysOf l)
def footT (n : Nat) (k : List UInt8) (m : Nat) (first : List UInt8) : List UInt8 := numBytes n ++ (numBytes k.length ++ k) ++ numBytes m ++ (numBytes first.length ++ first)
def len3 (n : Nat) : List UInt8 := [UInt8.ofNat (n / 65536), UInt8.ofNat (n / 256), UInt8.ofNat n]
def tailT (T : List UInt8) (G : List Grp) (k : List UInt8) (m : Nat) (first : List UInt8) : List UInt8 :=
  frame (indexT G) ++ frame (footT T.length k m first) ++ len3 (frame (footT T.length k m first)).length
/-- A table of entries. -/
def makeT (l : List Ent) (size : Int) : List UInt8 × Nat :=
  if size < 1 ∨ 16384 < size then ([], 1)
  else if l = [] then ([], 3)
  else if 2048 < l.length then ([], 2)
  else
    let L := layF size.toNat l.length l [] []
    if L.fail ≠ 0 then ([], L.fail)
    else if 65536 < (indexT L.grps).length then ([], 2)
    else if 65536 < (footT L.text.length (encBl 7 (bloomT l)) l.length (headK l)).length then ([], 2)
    else (L.text ++ tailT L.text L.grps (encBl 7 (bloomT l)) l.length (headK l), 0)

/-- The blocks of chunks, and their groups. -/
def textOf (cs : List (List Ent)) : List UInt8 := cs.flatMap fun c => frame (textB c)
def grpsOf : Nat → List (List Ent) → List Grp
  | _, [] => []
  | p, c :: cs => ⟨p, lastK c⟩ :: grpsOf (p + (frame (textB c)).length) cs
/-- Chunks that are blocks, of rising keys, all above one. -/
def goodC : List UInt8 → List (List Ent) → Prop
  | _, [] => True
  | a, c :: cs => c ≠ [] ∧ checkB c = 0 ∧ (textB c).length ≤ 65536 ∧ a < headK c ∧ goodC (lastK c) cs
theorem makeB_zero {l : List Ent} (h : (makeB l).2 = 0) : checkB l = 0 ∧ (textB l).length ≤ 65536 ∧ (makeB l).1 = frame (textB l) := by
  unfold makeB at h ⊢
  split at h
  · rename_i q
    exact absurd h q
  · rename_i q
    split at h
    · rename_i q2
      rw [if_neg q, if_pos q2]
      exact ⟨by simpa using q, q2, rfl⟩
    · cases h
theorem headK_take {l : List Ent} {n : Nat} (h : 0 < n) : headK (l.take n) = headK l := by
  unfold headK
  rw [List.getD_eq_getElem?_getD, List.getD_eq_getElem?_getD, List.getElem?_take, if_pos h]
theorem lastG_put (G : List Grp) (g : Grp) : lastG (G ++ [g]) = g.last := by
  unfold lastG
  rw [List.getD_eq_getElem?_getD, List.length_append, show G.length + [g].length - 1 = G.length from rfl, List.getElem?_append_right (Nat.le_refl _), Nat.sub_self]
  rfl
theorem checkB_head {l : List Ent} (h : checkB l = 0) (h0 : l ≠ []) : ([] : List UInt8) < headK l := by
  unfold checkB at h
  split at h
  · cases h
  · cases l with
    | nil => exact absurd rfl h0
    | cons x l => exact ((goB_zero h).2 x (by simp)).2.2.2.2
theorem lay_ok (size : Nat) : ∀ (f : Nat) (l : List Ent) (T : List UInt8) (G : List Grp), l.length ≤ f → (layF size f l T G).fail = 0 →
    ∃ cs, l = cs.flatten ∧ (layF size f l T G).text = T ++ textOf cs ∧ (layF size f l T G).grps = G ++ grpsOf T.length cs ∧ goodC (if G = [] then [] else lastG G) cs
  | 0, l, T, G, hl, _ => by
    obtain rfl : l = [] := List.eq_nil_of_length_eq_zero (by omega)
    exact ⟨[], rfl, by simp [layF, textOf], by simp [layF, grpsOf], trivial⟩
  | f + 1, l, T, G, hl, h => by
    unfold layF at h ⊢
    by_cases h0 : l = []
    · rw [if_pos h0]
      exact ⟨[], h0, by simp [textOf], by simp [grpsOf], trivial⟩
    · rw [if_neg h0] at h ⊢
      obtain ⟨c1, c2, c3⟩ := cutT_range size l
      have c2 := c2 h0
      by_cases h1 : (makeB (l.take (cutT size l))).2 = 0
      · rw [if_neg (by rw [h1]; simp)] at h ⊢
        obtain ⟨m1, m2, m3⟩ := makeB_zero h1
        by_cases h2 : G ≠ [] ∧ ¬ lastG G < headK l
        · rw [if_pos h2] at h
          cases h
        · rw [if_neg h2] at h ⊢
          obtain ⟨cs, e1, e2, e3, e4⟩ := lay_ok size f _ _ _ (by rw [List.length_drop]; omega) h
          have hne : l.take (cutT size l) ≠ [] := by
            intro e
            have := congrArg List.length e
            rw [List.length_take, List.length_nil] at this
            have : l.length ≠ 0 := fun q => h0 (List.eq_nil_of_length_eq_zero q)
            omega
          refine ⟨l.take (cutT size l) :: cs, ?_, ?_, ?_, hne, m1, m2, ?_, ?_⟩
          · rw [List.flatten_cons, ← e1, List.take_append_drop]
          · rw [e2, m3, List.append_assoc]
            rfl
          · rw [e3, m3, List.append_assoc, List.length_append]
            rfl
          · rw [headK_take c2]
            split
            · rw [← headK_take c2 (l := l)]
              exact checkB_head m1 hne
            · rename_i q
              exact Decidable.not_not.1 fun q2 => h2 ⟨q, q2⟩
          · rw [if_neg (by simp), lastG_put] at e4
            exact e4
      · rw [if_pos h1] at h
        exact absurd h h1
theorem rising_of_check {l : List Ent} (h : checkB l = 0) : rising l := by
  unfold checkB at h
  split at h
  · cases h
  · exact (goB_zero h).1
theorem rising_last {l : List Ent} (h : rising l) {x : Ent} (hx : x ∈ l) : x.key = lastK l ∨ x.key < lastK l := by
  obtain ⟨i, hi, rfl⟩ := List.getElem_of_mem hx
  have e : lastK l = (l[l.length - 1]'(by omega)).key := by
    unfold lastK
    rw [List.getD_eq_getElem?_getD, List.getElem?_eq_getElem (by omega)]
    rfl
  rw [e]
  by_cases q : i = l.length - 1
  · left
    simp only [q]
  · right
    exact List.pairwise_iff_getElem.1 h i (l.length - 1) hi (by omega) (by omega)
theorem rising_head {l : List Ent} (h : rising l) {x : Ent} (hx : x ∈ l) : x.key = headK l ∨ headK l < x.key := by
  obtain ⟨i, hi, rfl⟩ := List.getElem_of_mem hx
  have e : headK l = (l[0]'(by omega)).key := by
    unfold headK
    rw [List.getD_eq_getElem?_getD, List.getElem?_eq_getElem (by omega)]
    rfl
  rw [e]
  by_cases q : i = 0
  · left
    simp only [q]
  · right
    exact List.pairwise_iff_getElem.1 h 0 i (by omega) hi (by omega)
theorem lastK_mem {l : List Ent} (h : l ≠ []) : ∃ x ∈ l, x.key = lastK l := by
  have hl : 0 < l.length := List.length_pos_iff.2 h
  refine ⟨l[l.length - 1]'(by omega), List.getElem_mem _, ?_⟩
  unfold lastK
  rw [List.getD_eq_getElem?_getD, List.getElem?_eq_getElem (by omega)]
  rfl
theorem goodC_above : ∀ {cs : List (List Ent)} {a : List UInt8}, goodC a cs → ∀ x ∈ cs.flatten, a < x.key
  | [], _, _, x, hx => by simp at hx
  | c :: cs, a, ⟨h0, h1, _, h3, h4⟩, x, hx => by
    have hr := rising_of_check h1
    rw [List.flatten_cons, List.mem_append] at hx
    rcases hx with hx | hx
    · rcases rising_head hr hx with e | e
      · rwa [e]
      · exact klt_trans h3 e
    · obtain ⟨y, hy, he⟩ := lastK_mem h0
      have h5 := goodC_above h4 x hx
      rw [← he] at h5
      rcases rising_head hr hy with e | e
      · rw [e] at h5
        exact klt_trans h3 h5
      · exact klt_trans h3 (klt_trans e h5)
theorem goodC_rising : ∀ {cs : List (List Ent)} {a : List UInt8}, goodC a cs → rising cs.flatten
  | [], _, _ => List.Pairwise.nil
  | c :: cs, a, ⟨_, h1, _, _, h4⟩ => by
    have hr := rising_of_check h1
    refine List.pairwise_append.2 ⟨hr, goodC_rising h4, fun x hx y hy => ?_⟩
    have h5 := goodC_above h4 y hy
    rcases rising_last hr hx with e | e
    · rwa [e]
    · exact klt_trans e h5
theorem goodC_drop : ∀ {cs : List (List Ent)} {a : List UInt8} (i : Nat), goodC a cs → ∃ b, goodC b (cs.drop i)
  | [], a, i, _ => ⟨a, by rw [List.drop_nil]; trivial⟩
  | c :: cs, a, 0, h => ⟨a, h⟩
  | c :: cs, a, i + 1, h => goodC_drop i h.2.2.2.2
theorem grpsOf_length : ∀ (cs : List (List Ent)) (p : Nat), (grpsOf p cs).length = cs.length
  | [], _ => rfl
  | c :: cs, p => by rw [grpsOf, List.length_cons, List.length_cons, grpsOf_length cs]
theorem grpsOf_get : ∀ (cs : List (List Ent)) (p i : Nat) (c : List Ent), cs[i]? = some c → (grpsOf p cs)[i]? = some ⟨p + (textOf (cs.take i)).length, lastK c⟩
  | [], _, _, _, h => by simp at h
  | c :: cs, p, 0, d, h => by
    obtain rfl : c = d := by simpa using h
    simp [grpsOf, textOf]
  | c :: cs, p, i + 1, d, h => by
    have := grpsOf_get cs (p + (frame (textB c)).length) i d (by simpa using h)
    rw [grpsOf, List.getElem?_cons_succ, this]
    simp [textOf]
    omega
/-- How many groups' last keys are below a key. -/
def seekG (G : List Grp) (k : List UInt8) : Nat := G.countP fun g => decide (g.last < k)
def seekC (cs : List (List Ent)) (k : List UInt8) : Nat := cs.countP fun c => decide (lastK c < k)
theorem seekG_of : ∀ (cs : List (List Ent)) (p : Nat) (k : List UInt8), seekG (grpsOf p cs) k = seekC cs k
  | [], _, _ => rfl
  | c :: cs, p, k => by
    have := seekG_of cs (p + (frame (textB c)).length) k
    unfold seekG seekC at *
    rw [grpsOf, List.countP_cons, List.countP_cons, this]
theorem seekC_le (cs : List (List Ent)) (k : List UInt8) : seekC cs k ≤ cs.length := List.countP_le_length
theorem goodC_lasts : ∀ {cs : List (List Ent)} {a : List UInt8}, goodC a cs → cs.Pairwise (fun c d => lastK c < lastK d)
  | [], _, _ => List.Pairwise.nil
  | c :: cs, a, ⟨_, h1, _, _, h4⟩ => by
    refine List.pairwise_cons.2 ⟨fun d hd => ?_, goodC_lasts h4⟩
    have hne : d ≠ [] := by
      have : ∀ {cs : List (List Ent)} {a : List UInt8}, goodC a cs → ∀ d ∈ cs, d ≠ [] := by
        intro cs
        induction cs with
        | nil => intro a _ d hd; cases hd
        | cons c cs ih =>
          intro a h d hd
          rcases List.mem_cons.1 hd with rfl | hd
          · exact h.1
          · exact ih h.2.2.2.2 d hd
      exact this h4 d hd
    obtain ⟨y, hy, he⟩ := lastK_mem hne
    rw [← he]
    exact goodC_above h4 y (List.mem_flatten.2 ⟨d, hd, hy⟩)
theorem seekC_split : ∀ {cs : List (List Ent)} {a : List UInt8} (k : List UInt8), goodC a cs → (∀ c ∈ cs.take (seekC cs k), lastK c < k) ∧ (∀ c ∈ cs.drop (seekC cs k), ¬ lastK c < k)
  | [], _, k, _ => ⟨fun c h => by simp at h, fun c h => by simp at h⟩
  | c :: cs, a, k, h => by
    have hl := goodC_lasts h
    obtain ⟨hl1, _⟩ := List.pairwise_cons.1 hl
    obtain ⟨i1, i2⟩ := seekC_split k h.2.2.2.2
    by_cases hc : lastK c < k
    · have e : seekC (c :: cs) k = seekC cs k + 1 := by
        unfold seekC
        rw [List.countP_cons_of_pos (by simpa using hc)]
      rw [e, List.take_succ_cons, List.drop_succ_cons]
      refine ⟨fun d hd => ?_, i2⟩
      rcases List.mem_cons.1 hd with rfl | hd
      · exact hc
      · exact i1 d hd
    · have e : seekC (c :: cs) k = 0 := by
        unfold seekC
        rw [List.countP_eq_zero]
        intro d hd
        rcases List.mem_cons.1 hd with rfl | hd
        · simpa using hc
        · simp only [decide_eq_true_eq]
          exact fun q => hc (klt_trans (hl1 d hd) q)
      rw [e]
      refine ⟨fun d hd => by simp at hd, fun d hd => ?_⟩
      rw [List.drop_zero] at hd
      rcases List.mem_cons.1 hd with rfl | hd
      · exact hc
      · exact fun q => hc (klt_trans (hl1 d hd) q)
/-- Of a key just the one block is looked at. -/
theorem look_block {cs : List (List Ent)} {a : List UInt8} (h : goodC a cs) (k : List UInt8) : look cs.flatten k = look (cs.getD (seekC cs k) []) k := by
  obtain ⟨h1, h2⟩ := seekC_split k h
  have hr := goodC_rising h
  have hc : ∀ d ∈ cs, rising d := by
    intro d hd
    have : ∀ {cs : List (List Ent)} {a : List UInt8}, goodC a cs → ∀ d ∈ cs, rising d := by
      intro cs
      induction cs with
      | nil => intro a _ d hd; cases hd
      | cons c cs ih =>
        intro a h d hd
        rcases List.mem_cons.1 hd with rfl | hd
        · exact rising_of_check h.2.1
        · exact ih h.2.2.2.2 d hd
    exact this h d hd
  cases hq : cs[seekC cs k]? with
  | none =>
    rw [List.getD_eq_getElem?_getD, hq]
    show look cs.flatten k = none
    refine look_none.2 fun x hx => ?_
    obtain ⟨d, hd, hxd⟩ := List.mem_flatten.1 hx
    have hlen := List.getElem?_eq_none_iff.1 hq
    rw [List.take_of_length_le hlen] at h1
    rcases rising_last (hc d hd) hxd with e | e
    · rw [e]; exact klt_ne (h1 d hd)
    · exact klt_ne (klt_trans e (h1 d hd))
  | some c =>
    rw [List.getD_eq_getElem?_getD, hq]
    show look cs.flatten k = look c k
    obtain ⟨hlt, he⟩ := List.getElem?_eq_some_iff.1 hq
    have hcm : c ∈ cs := by rw [← he]; exact List.getElem_mem _
    cases hk : look c k with
    | some x =>
      obtain ⟨hx, rfl⟩ := look_some hk
      exact look_mem hr (List.mem_flatten.2 ⟨c, hcm, hx⟩)
    | none =>
      refine look_none.2 fun x hx hxk => ?_
      obtain ⟨d, hd, hxd⟩ := List.mem_flatten.1 hx
      rw [← List.take_append_drop (seekC cs k) cs, List.mem_append] at hd
      rcases hd with hd | hd
      · have hl := h1 d hd
        have hdm := List.mem_of_mem_take hd
        rcases rising_last (hc d hdm) hxd with e | e
        · exact klt_ne hl (by rw [← hxk, e])
        · exact klt_ne (klt_trans e hl) hxk
      · have hdr : cs.drop (seekC cs k) = c :: cs.drop (seekC cs k + 1) := by
          rw [← he]
          exact List.drop_eq_getElem_cons hlt
        rw [hdr] at hd
        obtain ⟨b, hb⟩ := goodC_drop (seekC cs k) h
        rw [hdr] at hb
        rcases List.mem_cons.1 hd with rfl | hd
        · exact look_none.1 hk x hxd hxk
        · have hlx := goodC_above hb.2.2.2.2 x (List.mem_flatten.2 ⟨d, hd, hxd⟩)
          rw [hxk] at hlx
          exact h2 c (by rw [hdr]; simp) hlx
/-- Of one block the entries from a key on and below another one. -/
def partC (c : List Ent) (a b : List UInt8) : List Ent := (c.drop (seekE c a)).take (if b = [] then (c.drop (seekE c a)).length else seekE (c.drop (seekE c a)) b)
def rngC (a b : List UInt8) : List (List Ent) → List Ent
  | [] => []
  | c :: cs => partC c a b ++ if (partC c a b).length < (c.drop (seekE c a)).length then [] else rngC a b cs
def within (a b : List UInt8) (x : Ent) : Bool := (!decide (x.key < a)) && (decide (b = []) || decide (x.key < b))
theorem drop_seek {l : List Ent} (h : rising l) (a : List UInt8) : l.drop (seekE l a) = l.filter (fun x => !decide (x.key < a)) := by
  conv => rhs; rw [← List.take_append_drop (seekE l a) l]
  rw [List.filter_append]
  have e1 : (l.take (seekE l a)).filter (fun x => !decide (x.key < a)) = [] := by
    rw [List.filter_eq_nil_iff]
    intro x hx
    obtain ⟨t, ht, he⟩ := List.getElem_of_mem hx
    rw [List.length_take] at ht
    rw [List.getElem_take] at he
    have := (seekE_lt h (k := a) (t := t) (x := x) (by rw [List.getElem?_eq_getElem (by omega), he])).2 (by omega)
    simpa using this
  have e2 : (l.drop (seekE l a)).filter (fun x => !decide (x.key < a)) = l.drop (seekE l a) := by
    rw [List.filter_eq_self]
    intro x hx
    obtain ⟨t, ht, he⟩ := List.getElem_of_mem hx
    rw [List.length_drop] at ht
    rw [List.getElem_drop] at he
    have := (not_congr (seekE_lt h (k := a) (t := seekE l a + t) (x := x) (by rw [List.getElem?_eq_getElem (by omega), he]))).2 (by omega)
    simpa using this
  rw [e1, e2, List.nil_append]
theorem take_seek {l : List Ent} (h : rising l) (b : List UInt8) : l.take (seekE l b) = l.filter (fun x => decide (x.key < b)) := by
  conv => rhs; rw [← List.take_append_drop (seekE l b) l]
  rw [List.filter_append]
  have e1 : (l.take (seekE l b)).filter (fun x => decide (x.key < b)) = l.take (seekE l b) := by
    rw [List.filter_eq_self]
    intro x hx
    obtain ⟨t, ht, he⟩ := List.getElem_of_mem hx
    rw [List.length_take] at ht
    rw [List.getElem_take] at he
    have := (seekE_lt h (k := b) (t := t) (x := x) (by rw [List.getElem?_eq_getElem (by omega), he])).2 (by omega)
    simpa using this
  have e2 : (l.drop (seekE l b)).filter (fun x => decide (x.key < b)) = [] := by
    rw [List.filter_eq_nil_iff]
    intro x hx
    obtain ⟨t, ht, he⟩ := List.getElem_of_mem hx
    rw [List.length_drop] at ht
    rw [List.getElem_drop] at he
    have := (not_congr (seekE_lt h (k := b) (t := seekE l b + t) (x := x) (by rw [List.getElem?_eq_getElem (by omega), he]))).2 (by omega)
    simpa using this
  rw [e1, e2, List.append_nil]
theorem rising_drop {l : List Ent} (h : rising l) (i : Nat) : rising (l.drop i) := h.sublist (List.drop_sublist i l)
theorem partC_eq {c : List Ent} (h : rising c) (a b : List UInt8) : partC c a b = c.filter (within a b) := by
  unfold partC
  split
  · rename_i hb
    rw [List.take_of_length_le (Nat.le_refl _), drop_seek h]
    refine List.filter_congr fun x _ => ?_
    simp [within, hb]
  · rename_i hb
    rw [take_seek (rising_drop h _), drop_seek h, List.filter_filter]
    refine List.filter_congr fun x _ => ?_
    simp only [within, hb, decide_false, Bool.false_or]
    rw [Bool.and_comm]
theorem rngC_eq (a b : List UInt8) : ∀ {cs : List (List Ent)} {q : List UInt8}, goodC q cs → rngC a b cs = cs.flatten.filter (within a b)
  | [], _, _ => rfl
  | c :: cs, q, h => by
    have hr := rising_of_check h.2.1
    rw [rngC, List.flatten_cons, List.filter_append, ← partC_eq hr]
    congr 1
    split
    · rename_i hlt
      symm
      rw [List.filter_eq_nil_iff]
      intro x hx
      have habove := goodC_above h.2.2.2.2 x hx
      have hb : b ≠ [] := by
        rintro rfl
        unfold partC at hlt
        rw [if_pos rfl, List.take_of_length_le (Nat.le_refl _)] at hlt
        omega
      have hlast : ¬ lastK c < b := by
        intro hk
        unfold partC at hlt
        rw [if_neg hb, List.length_take] at hlt
        have he : seekE (c.drop (seekE c a)) b = (c.drop (seekE c a)).length := by
          unfold seekE
          rw [List.countP_eq_length]
          intro y hy
          have hyc := List.mem_of_mem_drop hy
          rcases rising_last hr hyc with e | e
          · simpa [e] using hk
          · simpa using klt_trans e hk
        omega
      simp only [within, hb, decide_false, Bool.false_or, Bool.and_eq_true, Bool.not_eq_true', decide_eq_false_iff_not, decide_eq_true_eq, not_and]
      intro _ hxb
      exact hlast (klt_trans habove hxb)
    · exact rngC_eq a b h.2.2.2.2
/-- A range begins at the block that is sought. -/
theorem range_all {cs : List (List Ent)} {q : List UInt8} (h : goodC q cs) (a b : List UInt8) : rngC a b (cs.drop (seekC cs a)) = cs.flatten.filter (within a b) := by
  obtain ⟨p, hp⟩ := goodC_drop (seekC cs a) h
  rw [rngC_eq a b hp]
  conv => rhs; rw [← List.take_append_drop (seekC cs a) cs]
  rw [List.flatten_append, List.filter_append]
  have e : ((cs.take (seekC cs a)).flatten).filter (within a b) = [] := by
    rw [List.filter_eq_nil_iff]
    intro x hx
    obtain ⟨d, hd, hxd⟩ := List.mem_flatten.1 hx
    have hl := (seekC_split a h).1 d hd
    have hr : rising d := by
      have : ∀ {cs : List (List Ent)} {a : List UInt8}, goodC a cs → ∀ d ∈ cs, rising d := by
        intro cs
        induction cs with
        | nil => intro a _ d hd; cases hd
        | cons c cs ih =>
          intro a h d hd
          rcases List.mem_cons.1 hd with rfl | hd
          · exact rising_of_check h.2.1
          · exact ih h.2.2.2.2 d hd
      exact this h d (List.mem_of_mem_take hd)
    have hxa : x.key < a := by
      rcases rising_last hr hxd with e | e
      · rwa [e]
      · exact klt_trans e hl
    simp [within, hxa]
  rw [e, List.nil_append]
theorem within_none (x : Ent) : within [] [] x = true := by
  simp [within]
theorem range_whole {cs : List (List Ent)} {q : List UInt8} (h : goodC q cs) : rngC [] [] (cs.drop (seekC cs [])) = cs.flatten := by
  rw [range_all h, List.filter_eq_self]
  exact fun x _ => within_none x
/-- Ranges that meet. -/
theorem filter_meet {l : List Ent} (h : rising l) {a m b : List UInt8} (hm : m ≠ []) (h1 : ¬ m < a) (h2 : b = [] ∨ ¬ b < m) : l.filter (within a m) ++ l.filter (within m b) = l.filter (within a b) := by
  induction l with
  | nil => rfl
  | cons x l ih =>
    obtain ⟨k1, k2⟩ := List.pairwise_cons.1 h
    have ih := ih k2
    by_cases hx : x.key < m
    · have e2 : within m b x = false := by simp [within, hx]
      have e1 : within a m x = within a b x := by
        have : (decide (b = []) || decide (x.key < b)) = true := by
          rcases h2 with h2 | h2
          · simp [h2]
          · have : x.key < b := by
              by_cases e : m = b
              · rwa [← e]
              · exact klt_trans hx (klt_of h2 (fun q => e q.symm))
            simp [this]
        unfold within
        rw [this]
        simp [hx, hm]
      rw [List.filter_cons, List.filter_cons (p := within m b), e2, List.filter_cons (p := within a b), e1]
      by_cases hw : within a b x = true
      · rw [if_pos hw, if_pos hw, if_neg (by simp), List.cons_append, ih]
      · rw [if_neg hw, if_neg hw, if_neg (by simp), ih]
    · have z1 : ∀ y ∈ x :: l, within a m y = false := by
        intro y hy
        have : ¬ y.key < m := by
          rcases List.mem_cons.1 hy with rfl | hy
          · exact hx
          · exact fun q => hx (klt_trans (k1 y hy) q)
        simp [within, this, hm]
      have e1 : (x :: l).filter (within a m) = [] := by
        rw [List.filter_eq_nil_iff]
        intro y hy
        rw [z1 y hy]
        simp
      rw [e1, List.nil_append]
      refine List.filter_congr fun y hy => ?_
      have hy2 : ¬ y.key < m := by
        rcases List.mem_cons.1 hy with rfl | hy
        · exact hx
        · exact fun q => hx (klt_trans (k1 y hy) q)
      have hy3 : ¬ y.key < a := by
        by_cases e : m = a
        · rwa [← e]
        · exact fun q => hy2 (klt_trans q (klt_of h1 e))
      simp [within, hy2, hy3]
end Go.Proofs.YtgegipijappfhaaDoor
namespace Go.Proofs.YtgegipijappfhaaDoor
open Go Go.RowKit

def grpC (x : Grp) : List Value := [.int .i64 x.place, .string (stx x.last)]
def grpCells (l : List Grp) : List Value := l.flatMap grpC
theorem grpCells_length (l : List Grp) : (grpCells l).length = l.length * 2 := by
  induction l with
  | nil => rfl
  | cons f r ih => simp [grpCells, grpC] at ih ⊢; omega
theorem grpCells_append (l m : List Grp) : grpCells (l ++ m) = grpCells l ++ grpCells m := by simp [grpCells]
theorem grpCells_one (f : Grp) : grpCells [f] = grpC f := by simp [grpCells]
theorem grpCells_get : ∀ (fs : List Grp) (i : Nat) (f : Grp), fs[i]? = some f → (grpCells fs)[i * 2]? = some (.int .i64 f.place) ∧ (grpCells fs)[i * 2 + 1]? = some (.string (stx f.last))
  | x :: r, 0, f, h => by
    obtain rfl : x = f := by simpa using h
    simp [grpCells, grpC]
  | x :: r, i + 1, f, h => by
    have := grpCells_get r i f (by simpa using h)
    have e : ∀ k, (grpCells (x :: r))[(i + 1) * 2 + k]? = (grpCells r)[i * 2 + k]? := fun k => by
      rw [show grpCells (x :: r) = grpC x ++ grpCells r by simp [grpCells], List.getElem?_append_right (by simp [grpC]; omega)]
      congr 1
      simp [grpC]
      omega
    exact ⟨(e 0).trans this.1, (e 1).trans this.2⟩
theorem oneG (x : Grp) : ∀ u ∈ grpC x, u.oneCell' = true := by
  intro u hu
  simp only [grpC, List.mem_cons, List.mem_nil_iff, or_false] at hu
  rcases hu with rfl | rfl <;> rfl
/-- A group's two cells. -/
def GrpAt (w : World) (g o : Nat) (x : Grp) : Prop :=
  w.cell? ⟨g, o, none⟩ = some (.int .i64 x.place) ∧ w.cell? ⟨g, o + 1, none⟩ = some (.string (stx x.last))
theorem GrpAt.below {w w' : World} {g o : Nat} {x : Grp} (h : GrpAt w g o x) (k : Below w.heap.size w w') : GrpAt w' g o x := by
  obtain ⟨h1, h2⟩ := h
  exact ⟨(k.cell (p := ⟨g, o, none⟩) (cellLt h1)).trans h1, (k.cell (p := ⟨g, o + 1, none⟩) (cellLt h2)).trans h2⟩
theorem GrpAt.lt {w : World} {g o : Nat} {x : Grp} (h : GrpAt w g o x) : g < w.heap.size := cellLt h.1
/-- Groups that lie in memory. -/
def GrpsAt (w : World) (v : Value) (es : List Grp) : Prop :=
  ∃ A cap, v = .slice A es.length cap ∧ es.length ≤ cap ∧ cap ≤ maxLen ∧ ∀ i x, es[i]? = some x → ∃ g o, A = some ⟨g, o, none⟩ ∧ GrpAt w g (o + i * 2) x
theorem GrpsAt.below {w w' : World} {v : Value} {es : List Grp} (h : GrpsAt w v es) (k : Below w.heap.size w w') : GrpsAt w' v es := by
  obtain ⟨A, cap, h1, h2, h3, h4⟩ := h
  refine ⟨A, cap, h1, h2, h3, fun i x hi => ?_⟩
  obtain ⟨g, o, h5, h6⟩ := h4 i x hi
  exact ⟨g, o, h5, h6.below k⟩
/-- Groups of the call's own. -/
def OwnGrps (w : World) (B : Nat) (v : Value) (es : List Grp) : Prop := w.ownsRow B 78 2 v es.length (grpCells es)
theorem OwnGrps.lie {w : World} {B : Nat} {v : Value} {es : List Grp} (h : OwnGrps w B v es) : GrpsAt w v es := by
  rcases h.2 with ⟨rfl, h0⟩ | ⟨g, cap, cur, rfl, hb, hg, h1, h2, h3, h4⟩
  · exact ⟨none, 0, by rw [h0], by omega, Nat.zero_le _, fun i f hi => by rw [List.eq_nil_of_length_eq_zero h0] at hi; simp at hi⟩
  · refine ⟨_, cap, rfl, h1, h2, fun i f hi => ⟨g, 0, rfl, ?_⟩⟩
    obtain ⟨e0, e1⟩ := grpCells_get es i f hi
    have hl : i < es.length := (List.getElem?_eq_some_iff.1 hi).1
    have e : ∀ k, k < 2 → w.cell? ⟨g, i * 2 + k, none⟩ = (grpCells es)[i * 2 + k]? := fun k hk => by
      rw [Lib.cell_of_heap hg (i * 2 + k), ← h4, List.getElem?_take, if_pos (by omega)]
      simp
    have z : 0 + i * 2 = i * 2 := Nat.zero_add _
    unfold GrpAt
    rw [z]
    exact ⟨(e 0 (by decide)).trans e0, (e 1 (by decide)).trans e1⟩
theorem OwnGrps.shape {w : World} {B : Nat} {v : Value} {es : List Grp} (h : OwnGrps w B v es) : ∃ ao cap, v = .slice ao es.length cap := by
  rcases h.2 with ⟨h1, h2⟩ | ⟨g, cap, cur, h1, _⟩
  · exact ⟨none, 0, by rw [h1, h2]⟩
  · exact ⟨_, _, h1⟩
theorem OwnGrps.below {w w' : World} {B : Nat} {v : Value} {es : List Grp} (h : OwnGrps w B v es) (k : Below w.heap.size w w') : OwnGrps w' B v es :=
  World.ownsRow.kept h (row := none) ⟨k.os, k.tape, k.output, k.size, fun j hj _ => k.block j hj⟩ (by cases hv : v.ownBlock <;> simp)
theorem OwnGrps.low {w : World} {B B' : Nat} {v : Value} {es : List Grp} (h : OwnGrps w B v es) (hb : B' ≤ B) : OwnGrps w B' v es :=
  ⟨h.1, h.2.imp id fun ⟨g, cap, cur, h1, h2, h3⟩ => ⟨g, cap, cur, h1, Nat.le_trans hb h2, h3⟩⟩
theorem OwnGrps.grown {w w' : World} {B : Nat} {v : Value} {es : List Grp} {a : World} (h : OwnGrps w B v es) (hg : w.grownBy w' v.ownBlock) (b : Below B a w) (hB : B ≤ w.heap.size) : Below B a w' :=
  b.grown hg hB (fun k hk => (World.ownsRow.lt h k hk).1)
theorem ownGrps_nil (w : World) (B : Nat) : OwnGrps w B (.slice none 0 0) [] := World.ownsRow_nil w B _ 2
theorem info_grp : ∃ i : TypeInfo, Tryd.prog.info? 78 = some i ∧ i.zero = some (.agg #[.int .i64 0, .string ⟨#[]⟩]) ∧ i.size = 2 ∧ i.bytes = 24 := by
  have h : (Tryd.prog.info? 78).map (fun i => (i.zero, i.size, i.bytes)) = some (some (.agg #[.int .i64 0, .string ⟨#[]⟩]), 2, 24) := by kernel_rfl
  cases hq : Tryd.prog.info? 78 with
  | none => rw [hq] at h; cases h
  | some i =>
    rw [hq] at h
    simp only [Option.map_some, Option.some.injEq, Prod.mk.injEq] at h
    exact ⟨i, rfl, h.1, h.2.1, h.2.2⟩
theorem grpAt_new (w : World) (x : Grp) (n : Nat) (hn : n = w.heap.size) : GrpAt (w.alloc (.cells #[.int .i64 x.place, .string (stx x.last)] 78)) n 0 x := by
  subst hn
  have r := rowAt_alloc_at w #[.int .i64 x.place, .string (stx x.last)] 78 _ rfl
  exact ⟨cell_of_rowAt r 0, cell_of_rowAt r 1⟩
/-- One group is put behind a list of the call's own. -/
theorem wpList_put_grp {ops : Array Oper} {rest : List Oper} {o : Oper} {a : Act} {w : World} {Q : Exit → Act → World → Prop} (hgd : o.guard = none) (s x : Operand)
    (ho : o.op = .call { callee := .builtin .append, args := #[s, x], argTypes := #[49, 49] }) (B : Nat) (v : Value) (es : List Grp) (hs : a.eval s = v) (hown : OwnGrps w B v es)
    (t : Grp) (g c : Nat) (hx : a.eval x = .slice (some ⟨g, 0, none⟩) 1 c) (hcell : GrpAt w g 0 t) (hB : B ≤ w.heap.size) (hl : es.length ≤ 1000000)
    (h : ∀ v' w', OwnGrps w' B v' (es ++ [t]) → w.grownBy w' v.ownBlock → (v'.ownBlock = v.ownBlock ∨ v'.ownBlock = some w.heap.size) → wpList Tryd.prog ops Q rest (a.put o.dst v') w') : wpList Tryd.prog ops Q (o :: rest) a w := by
  obtain ⟨i0, hi, hz0, hz1, hz2⟩ := info_grp
  refine wpList_append_own_at (P := Tryd.prog) w hgd s x 49 ho B 78 i0 _ 2 24 Tryd.underlying49 hi hz0 hz1 hz2 rfl (by decide) v es.length (grpCells es) hs hown ⟨g, 0, none⟩ 1 c (grpC t) hx rfl ?_ (oneG t) (by unfold maxLen; omega) (by omega) hB ?_
  · intro j u hu
    rw [add_lit, Nat.zero_add]
    obtain ⟨k0, k1⟩ := hcell
    match j, hu with
    | 0, hu => rw [k0]; exact hu
    | 1, hu => rw [k1]; exact hu
  · intro v' w' h1 h2 _ h4
    refine h v' w' ?_ h2 h4
    unfold OwnGrps
    rw [grpCells_append, grpCells_one, List.length_append]
    exact h1
/-- The same as a step of a region that draws its order. -/
theorem step_put_grp {ops : Array Oper} {o : Oper} {a : Act} {w : World} {K : Act → World → Prop} {Q : Exit → Act → World → Prop} {E : Prop} (hgd : o.guard = none) (s x : Operand)
    (ho : o.op = .call { callee := .builtin .append, args := #[s, x], argTypes := #[49, 49] }) (B : Nat) (v : Value) (es : List Grp) (hs : a.eval s = v) (hown : OwnGrps w B v es)
    (t : Grp) (g c : Nat) (hx : a.eval x = .slice (some ⟨g, 0, none⟩) 1 c) (hcell : GrpAt w g 0 t) (hB : B ≤ w.heap.size) (hl : es.length ≤ 1000000)
    (h : ∀ g' c' w', OwnGrps w' B (.slice (some ⟨g', 0, none⟩) (es.length + 1) c') (es ++ [t]) → w.grownBy w' v.ownBlock → K (a.put o.dst (.slice (some ⟨g', 0, none⟩) (es.length + 1) c')) w') :
    if Region.wanted o (yielded ops a.tmps) = true then Oper.wp Tryd.prog o a w K Q else E := by
  obtain ⟨i0, hi, hz0, hz1, hz2⟩ := info_grp
  refine step_append_lies (P := Tryd.prog) w hgd s x 49 ho B 78 i0 _ 2 24 Tryd.underlying49 hi hz0 hz1 hz2 rfl (by decide) v es.length (grpCells es) hs hown ⟨g, 0, none⟩ 1 c (grpC t) hx rfl ?_ (oneG t) (by decide) (by unfold maxLen; omega) (by omega) hB w.heap.size rfl ?_
  · intro j u hu
    rw [add_lit, Nat.zero_add]
    obtain ⟨k0, k1⟩ := hcell
    match j, hu with
    | 0, hu => rw [k0]; exact hu
    | 1, hu => rw [k1]; exact hu
  · intro g' c' w' h1 h2 _ _
    refine h g' c' w' ?_ h2
    unfold OwnGrps
    rw [grpCells_append, grpCells_one, List.length_append]
    exact h1
end Go.Proofs.YtgegipijappfhaaDoor
namespace Go.Proofs.YtgegipijappfhaaDoor
open Go Go.RowKit

theorem copyCheck_k (B b : Nat) (bs : List Value) (w : World) (h : Lib.IsBuilder 99 5 B b bs w) :
    Calls Tryd.prog 84 #[.pointer (some ⟨b, 0, none⟩)] w fun e w' => e = .returned (.tuple #[]) ∧ Lib.BuilderAt 99 5 B b (.pointer (some ⟨b, 0, none⟩)) bs w' ∧ Below B w w' ∧ Lib.OthersKept 5 (some b) w w' := by
  rcases h with h | h
  · refine (copyCheck_fresh b w h.cell0 h.shape h.frozen0).mono ?_
    rintro e w' ⟨rfl, rfl⟩
    exact ⟨rfl, h.used _, (Below.refl B w).setCell (p := ⟨b, 0, none⟩) h.1 _, (Lib.OthersKept.refl _ _ w).setCell ⟨b, 0, none⟩ rfl _⟩
  · refine (copyCheck_used b w h.cell0).mono ?_
    rintro e w' ⟨rfl, rfl⟩
    exact ⟨rfl, h, Below.refl B _, Lib.OthersKept.refl _ _ _⟩
theorem ownsRow_kind {w : World} {B : Nat} {e : TypeId} {v : Value} {n : Nat} {xs : List Value} (h : w.ownsRow B e 1 v n xs) : ∀ g, v.ownBlock = some g → ∃ c fz, w.heap[g]? = some (.cells c e fz) :=
  Lib.ownsRowF_kind (World.ownsRowF_of h)
theorem byte_cells_len (l : List UInt8) : (Lib.byteCells l).length = l.length := by simp [Lib.byteCells]
set_option maxHeartbeats 1000000 in
set_option maxRecDepth 100000 in
theorem WriteString_any (B b : Nat) (T s : List UInt8) (w : World) (h : Lib.IsBuilder 99 5 B b (Lib.byteCells T) w) (hlen : T.length + s.length ≤ 140737488355328) (hBw : B ≤ w.heap.size) :
    Calls Tryd.prog 52 #[.pointer (some ⟨b, 0, none⟩), .string (stx s)] w fun e w' => e = .returned (.tuple #[.int .i64 s.length, .nilIface]) ∧ Lib.IsBuilder 99 5 B b (Lib.byteCells (T ++ s)) w' ∧ Below B w w' ∧ Lib.OthersKept 5 (some b) w w' := by
  obtain ⟨i0, hi, hz0, hz1, hz2⟩ := info_parts info_byte
  have HCC := Lib.hid (copyCheck_k B b _ w h)
  obtain ⟨n, hn⟩ : ∃ n, T.length = n := ⟨_, rfl⟩
  obtain ⟨m, hm⟩ : ∃ m, s.length = m := ⟨_, rfl⟩
  have hsz : (stx s).size = m := by rw [stx_size, hm]
  have HSTR : Hid (Lib.byteCells T ++ Lib.strCells (stx s) = Lib.byteCells (T ++ s)) := Lib.hid (by
    show Lib.byteCells T ++ Lib.byteCells s = _
    simp [Lib.byteCells])
  have HB2 : Hid ((Lib.byteCells (T ++ s)).length = n + m) := Lib.hid (by rw [byte_cells_len, List.length_append, hn, hm])
  have hbl : (Lib.byteCells T).length = n := by rw [byte_cells_len, hn]
  rw [hn, hm] at hlen
  rw [hm]
  clear h hn hm
  generalize Lib.byteCells (T ++ s) = F at *
  generalize Lib.byteCells T = D at *
  generalize stx s = S at *
  go_enter Tryd.func52, Tryd.ntmps52
  go_wp2_with fail
  refine HCC.out.mono ?_
  rintro e w1 ⟨rfl, h1, b1, k1⟩
  obtain ⟨hB, v, hrow, hown, hne⟩ := h1
  have hBw1 : B ≤ w1.heap.size := Nat.le_trans hBw b1.size
  have c1 := (Lib.cell_of_heap hrow 1).trans (rfl : _ = some v)
  rw [hbl] at hown
  have HOW := Lib.hid hown
  have HROW := Lib.hid hrow
  clear HCC hown hrow
  go_wp2_with (at_builtin; refine Lib.wpList_append_own_string _ rfl _ _ 54 9 rfl B 5 i0 Tryd.underlying54 Tryd.underlying9 hi hz0 hz1 hz2 _ _ _ rfl HOW.out S rfl ?len ?bytes ?base ?_)
  case len => unfold maxLen; omega
  case bytes => omega
  case base => exact hBw1
  intro v2 w2 hown2 hgrow _
  rw [HSTR.out] at hown2
  have hlt := heap_lt HROW.out
  have hb2 : w2.heap[b]? = some (.cells #[.pointer (some ⟨b, 0, none⟩), v] 99 (0, 0)) := by
    rw [hgrow.block b hlt (fun e => hne e.symm)]
    exact HROW.out
  have d1 := (Lib.cell_of_heap hb2 1).trans (rfl : _ = some v)
  have f1 := Lib.frozen_of_heap hb2 1
  obtain ⟨g, cap', hv2⟩ : ∃ g cap', v2 = .slice g (n + m) cap' := by
    rcases hown2.2 with ⟨hv, h0⟩ | ⟨g, cap', cur, hv, _⟩
    · exact ⟨none, 0, by rw [hv, h0]⟩
    · exact ⟨_, _, hv⟩
  subst hv2
  have hput := Lib.BuilderAt.put hB hb2 (bs' := F) (v' := .slice g (n + m) cap') (by rw [HB2.out]; exact hown2) (by decide)
  have hbel : Below B w (w2.setCell ⟨b, 1, none⟩ (.slice g (n + m) cap')) := (b1.grown hgrow hBw1 (fun k hk => (HOW.out.lt k hk).1)).setCell (p := ⟨b, 1, none⟩) hB _
  have hoth : Lib.OthersKept 5 (some b) w (w2.setCell ⟨b, 1, none⟩ (.slice g (n + m) cap')) := (k1.grown hgrow (ownsRow_kind HOW.out)).setCell ⟨b, 1, none⟩ rfl _
  have HP := Lib.hid hput
  have HB := Lib.hid hbel
  have HO := Lib.hid hoth
  clear hown2 hgrow hne b1 k1 c1 hput hbel hoth HOW HROW hb2
  go_wp2_with fail
  go_ret2
  exact ⟨rfl, .inr HP.out, HB.out, HO.out⟩
/-- What holds no bytes, and isn't the builder, stays. -/
theorem others_cells {b k : Nat} {w w' : World} {cs : Array Value} {T : TypeId} {fr : Nat × Nat} (n : Lib.OthersKept 5 (some b) w w') (h : w.heap[k]? = some (.cells cs T fr)) (hT : T ≠ 5) (hk : k ≠ b) : w'.heap[k]? = some (.cells cs T fr) :=
  n k _ h (fun e => hk (Option.some.inj e)) (fun c fz e => hT (by
    simp only [Obj.cells.injEq] at e
    exact e.2.1))
theorem OwnGrps.others {b B : Nat} {w w' : World} {v : Value} {es : List Grp} (h : OwnGrps w B v es) (n : Lib.OthersKept 5 (some b) w w') (hb : b < B) : OwnGrps w' B v es :=
  ⟨h.1, h.2.imp id fun ⟨g, cap, cur, h1, h2, h3, h4⟩ => ⟨g, cap, cur, h1, h2, others_cells n h3 (by decide) (by omega), h4⟩⟩
set_option maxHeartbeats 1000000 in
set_option maxRecDepth 100000 in
theorem tcut_any (v : Value) (l : List Ent) (size : Nat) (w : World) (h : EntsAt w v l) (hs : smallB l) (hl : l.length ≤ 100000) (hz : size ≤ 16384) :
    Calls Tryd.prog 50 #[v, .int .i64 size] w fun e w' => e = .returned (.int .i64 (cutT size l)) ∧ Below w.heap.size w w' := by
  obtain ⟨ao, cap, rfl, hc1, hc2, h3⟩ := h
  have H3 := Lib.hid h3
  have HS := Lib.hid hs
  obtain ⟨n, hn⟩ : ∃ n, l.length = n := ⟨_, rfl⟩
  have HN := Lib.hid hn
  obtain ⟨R, hR⟩ : ∃ R, cutT size l = R := ⟨_, rfl⟩
  have H0 : Hid (R = cutF size (l.drop 0) 0 0) := Lib.hid (by rw [← hR]; rfl)
  rw [hn] at hl ⊢
  rw [hR]
  have hni : (n : Int) ≤ 100000 := by omega
  have hzi : (size : Int) ≤ 16384 := by omega
  clear h3 hs hn hR hc1 hc2
  go_enter Tryd.func50, Tryd.ntmps50
  go_wp2_with fail
  go_loopw [5, 10] (fun u x wr => ∃ (i s : Nat), i ≤ n ∧ x = .int .i64 i ∧ u = .int .i64 s ∧ Hid (R = cutF size (l.drop i) s i) ∧ s ≤ i * 3000000 ∧ Below w.heap.size w wr) (fun _ x _ => (n - intOf x).toNat)
  case atStart => exact ⟨0, 0, Nat.zero_le _, rfl, rfl, H0, Nat.zero_le _, Below.refl _ _⟩
  case round =>
    obtain ⟨i, s, hi, rfl, rfl, HI, hs, b1⟩ := hrel
    clear H0
    by_cases hlt : i < n
    · have hlt' : (i : Int) < n := by omega
      obtain ⟨x, hx⟩ : ∃ x, l[i]? = some x := ⟨_, List.getElem?_eq_getElem (by rw [HN.out]; exact hlt)⟩
      obtain ⟨g, o, rfl, hat⟩ := H3.out i x hx
      obtain ⟨c0, c1, c2⟩ := hat.below b1
      have hsx := HS.out x (List.mem_of_getElem? hx)
      have HR : Hid (R = if size ≤ s + costT x ∨ i + 1 = 256 then i + 1 else cutF size (l.drop (i + 1)) (s + costT x) (i + 1)) := Lib.hid (by
        obtain ⟨hil, he⟩ := List.getElem?_eq_some_iff.1 hx
        rw [HI.out, List.drop_eq_getElem_cons hil, he]
        rfl)
      have b2 : Below w.heap.size w (wr.alloc (.cells #[.string (stx x.key), .string (stx x.val), .bool x.gone] 36)) := b1.alloc b1.size _
      have r2 := rowAt_alloc_at wr #[.string (stx x.key), .string (stx x.val), .bool x.gone] 36 _ rfl
      have d0 := cell_of_rowAt r2 0
      have d1 := cell_of_rowAt r2 1
      obtain ⟨ka, hka⟩ : ∃ ka, x.key.length = ka := ⟨_, rfl⟩
      obtain ⟨va, hva⟩ : ∃ va, x.val.length = va := ⟨_, rfl⟩
      have hks : (stx x.key).size = ka := by rw [stx_size, hka]
      have hvs : (stx x.val).size = va := by rw [stx_size, hva]
      unfold costT at HR
      rw [hka, hva] at HR hsx
      obtain ⟨hk1, hv1⟩ := hsx
      have hs9 : s ≤ 300000000000 := Nat.le_trans hs (by omega)
      have hk9 : (ka : Int) ≤ 1000000 := by omega
      have hv9 : (va : Int) ≤ 1000000 := by omega
      have hs10 : (s : Int) ≤ 300000000000 := by omega
      obtain ⟨q, hq⟩ : ∃ q : Nat, s + (ka + va + 8) = q := ⟨_, rfl⟩
      have hqi : (s : Int) + ((ka : Int) + va + 8) = q := by omega
      have hqs : q ≤ (i + 1) * 3000000 := by omega
      rw [hq] at HR
      have hq9 : (q : Int) ≤ 300002000008 := by omega
      clear HI hat hx b1 hka hva hk1 hv1 hq hs
      by_cases hsz : size ≤ q
      · have q1 : decide ((size : Int) ≤ q) = true := decide_eq_true (by omega)
        have q2 : (size : Int) ≤ q := by omega
        have HR2 := Lib.hid (HR.out.trans (if_pos (.inl hsz)))
        clear HR
        go_wp2_with fail
        go_ret
        exact ⟨by rw [HR2.out]; go_num, b2⟩
      · have q1 : decide ((size : Int) ≤ q) = false := decide_eq_false (by omega)
        have q2 : ¬ (size : Int) ≤ q := by omega
        by_cases h256 : i + 1 = 256
        · obtain rfl : i = 255 := by omega
          have HR2 := Lib.hid (HR.out.trans (if_pos (.inr rfl)))
          clear HR
          go_wp2_with fail
          go_ret
          exact ⟨by rw [HR2.out]; rfl, b2⟩
        · have HR2 := Lib.hid (HR.out.trans (if_neg (by omega)))
          have q3 : ((i : Int) + 1 == 256) = false := by rw [beq_eq_false_iff_ne]; omega
          have q4 : (i == 255) = false := by rw [beq_eq_false_iff_ne]; omega
          clear HR
          go_wp2_with fail
          exact ⟨⟨i + 1, q, hlt, by go_num, rfl, HR2, hqs, b2⟩, by simp [intOf]; omega⟩
    · have hlt' : ¬ (i : Int) < n := by omega
      obtain rfl : i = n := by omega
      have HR2 : Hid (R = i) := Lib.hid (by
        rw [HI.out, List.drop_of_length_le (by rw [HN.out]; exact Nat.le_refl _)]
        rfl)
      clear HI
      go_wp2_with fail
      go_ret
      exact ⟨by rw [HR2.out]; rfl, b1⟩
end Go.Proofs.YtgegipijappfhaaDoor
