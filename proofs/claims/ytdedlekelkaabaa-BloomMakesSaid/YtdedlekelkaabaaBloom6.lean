/- A filter is read. Conditions: none. -/
import Derived.Test.YtdedlekelkaabaaBloom5
import Derived.Test.YtdedlekelkaabaaCode6
import Derived.Lib.ConvBytes
namespace Go.Proofs.Ytdedlekelkaabaa
open Go Go.RowKit Go.Shelf
attribute [local go_sem] Oper.semAt_some

def rE0 (s : ByteArray) : Int := if s.size ≤ 65536 then 0 else 2
def readP (s : ByteArray) : Int := numV s (rE0 s)
def readT (s : ByteArray) : ByteArray := textV (numS s (rE0 s)) (numE s (rE0 s))
def readD (s : ByteArray) : Int := if textE (numS s (rE0 s)) (numE s (rE0 s)) = 0 ∧ (textR (numS s (rE0 s)) (numE s (rE0 s))).size ≠ 0 then 3 else textE (numS s (rE0 s)) (numE s (rE0 s))
/-- What is read: an error, or none. -/
def readE (s : ByteArray) : Int := if readD s = 0 then (if goodB (readP s) (readT s).size then 0 else 3) else readD s
theorem conv_world (w : World) (T : ByteArray) : Below w.heap.size w (Lib.bytesWorld w 5 T) :=
  ⟨rfl, rfl, rfl, by rw [Lib.bytesWorld_size]; omega, fun k hk => Lib.bytesWorld_at_old w _ T k hk⟩

set_option maxRecDepth 100000 in
set_option maxHeartbeats 4000000 in
theorem read_any (s : ByteArray) (w : World) :
    Calls Try.prog 16 #[.string s] w fun e w' => Below w.heap.size w w' ∧
      ((readE s ≠ 0 ∧ e = .returned (.tuple #[.agg #[.int .i64 0, .slice none 0 0], .int .i64 (readE s)])) ∨
       (readE s = 0 ∧ ∃ g cap, e = .returned (.tuple #[.agg #[.int .i64 (readP s), .slice (some ⟨g, 0, none⟩) (readT s).size cap], .int .i64 0]) ∧ BytesIn w' (some ⟨g, 0, none⟩) (readT s).data.toList ∧ w.heap.size ≤ g)) := by
  have HO : ∀ w, Hid (Calls Try.prog 26 #[.string s] w fun r w' => r = .returned (.pointer (some ⟨w.heap.size, 0, none⟩)) ∧ ReaderAt w.heap.size w.heap.size s (rE0 s) w' ∧ Below w.heap.size w w') := fun w => Lib.hid (Open_any s w)
  have HN : ∀ (B b : Nat) (w : World), ReaderAt B b s (rE0 s) w → Hid (Calls Try.prog 27 #[.pointer (some ⟨b, 0, none⟩)] w fun r w' => r = .returned (.int .i64 (readP s)) ∧ ReaderAt B b (numS s (rE0 s)) (numE s (rE0 s)) w' ∧ Near B b w w') := fun B b w h => Lib.hid (RNumber_all B b s _ w h)
  have HT : ∀ (B b : Nat) (w : World), ReaderAt B b (numS s (rE0 s)) (numE s (rE0 s)) w → B ≤ w.heap.size → Hid (Calls Try.prog 28 #[.pointer (some ⟨b, 0, none⟩)] w fun r w' => r = .returned (.string (readT s)) ∧ ReaderAt B b (textR (numS s (rE0 s)) (numE s (rE0 s))) (textE (numS s (rE0 s)) (numE s (rE0 s))) w' ∧ Near B b w w') := fun B b w h hb => Lib.hid (RText_any B b _ _ w h hb)
  have HD : ∀ (B b : Nat) (w : World), ReaderAt B b (textR (numS s (rE0 s)) (numE s (rE0 s))) (textE (numS s (rE0 s)) (numE s (rE0 s))) w → Hid (Calls Try.prog 29 #[.pointer (some ⟨b, 0, none⟩)] w fun r w' => r = .returned (.int .i64 (readD s)) ∧ Below w.heap.size w w') := fun B b w h => Lib.hid (RDone_any B b _ _ w h)
  have HG : ∀ p ao n cap w, Hid (Calls Try.prog 14 #[.agg #[.int .i64 p, .slice ao n cap]] w fun e w' => e = .returned (.bool (goodB p n)) ∧ Below w.heap.size w w') := fun p ao n cap w => Lib.hid (good_any p ao n cap w)
  have HE : Hid (readE s = if readD s = 0 then (if goodB (readP s) (readT s).size then 0 else 3) else readD s) := Lib.hid rfl
  have hz : (readT s).size ≤ 65536 := textV_size _ _
  generalize readE s = E at *
  generalize readD s = D at *
  generalize readP s = p at *
  generalize readT s = T at *
  generalize rE0 s = e0 at *
  generalize textR (numS s e0) (numE s e0) = s2 at *
  generalize textE (numS s e0) (numE s e0) = f2 at *
  generalize numS s e0 = s1 at *
  generalize numE s e0 = f1 at *
  have x0 := World.alloc_heap_new w (.cells #[.int .i64 0, .slice none 0 0] 26)
  have a0 := (Below.refl w.heap.size w).alloc (Nat.le_refl _) (.cells #[.int .i64 0, .slice none 0 0] 26)
  go_enter Try.func16, Try.ntmps16
  go_wp2_with fail
  generalize w.alloc (.cells #[.int .i64 0, .slice none 0 0] 26) = W0 at *
  have hw0 := heap_lt x0
  refine (HO _).out.mono ?_
  rintro e w1 ⟨rfl, k1, b1⟩
  have x1 := (b1.block _ hw0).trans x0
  have a1 := below_past a0 b1 a0.size
  have s1' := b1.size
  have hb1 := heap_lt k1.2
  clear HO x0 a0 b1
  generalize W0.heap.size = b at *
  go_wp2_with fail
  refine (HN _ _ _ k1).out.mono ?_
  rintro e w2 ⟨rfl, k2, n2⟩
  have x2 := (n2.block _ hw0 (by omega)).trans x1
  have a2 := a1.trans (n2.below (C := w.heap.size) (by omega) (by omega))
  have s2' := n2.size
  clear HN x1 a1 k1 n2
  go_wp2_with fail
  refine (HT _ _ _ k2 (by omega)).out.mono ?_
  rintro e w3 ⟨rfl, k3, n3⟩
  have x3 := (n3.block _ hw0 (by omega)).trans x2
  have a3 := a2.trans (n3.below (C := w.heap.size) (by omega) (by omega))
  have s3' := n3.size
  clear HT x2 a2 k2 n3
  have hcv := Lib.run_convert_string_bytes (P := Try.prog) w3 9 24 5 T (u := .string) Try.underlying9 Try.underlying24 Try.underlying5
  go_wp2_with fail
  have HB : BytesIn (Lib.bytesWorld w3 5 T) (some ⟨w3.heap.size, 0, none⟩) T.data.toList := fun i hi => ⟨w3.heap.size, 0, rfl, by
    rw [Nat.zero_add]
    exact Lib.bytesWorld_cell w3 5 T i (by rwa [← Lib.size_eq] at hi)⟩
  have b4 := conv_world w3 T
  have z4 := Lib.bytesWorld_size w3 5 T
  clear hcv
  generalize Lib.bytesWorld w3 5 T = W3 at *
  generalize grownCap w3 T.size 0 5 = cap at *
  have b5 := b4.alloc b4.size (.cells #[.int .i64 p, .slice (some ⟨w3.heap.size, 0, none⟩) T.size cap] 26)
  have hB5 := HB.below ((Below.refl _ W3).alloc (Nat.le_refl _) (.cells #[.int .i64 p, .slice (some ⟨w3.heap.size, 0, none⟩) T.size cap] 26))
  have y5 := World.alloc_heap_new W3 (.cells #[.int .i64 p, .slice (some ⟨w3.heap.size, 0, none⟩) T.size cap] 26)
  have z5 : (W3.alloc (.cells #[.int .i64 p, .slice (some ⟨w3.heap.size, 0, none⟩) T.size cap] 26)).heap.size = W3.heap.size + 1 := by simp
  generalize W3.alloc (.cells #[.int .i64 p, .slice (some ⟨w3.heap.size, 0, none⟩) T.size cap] 26) = W4 at *
  rw [z4] at y5 z5
  have k5 := k3.below b5
  have x5 := (b5.block _ (heap_lt x3)).trans x3
  have a5 := below_past a3 b5 a3.size
  have hg := a3.size
  clear HB b4 k3 x3 a3 b5
  refine (HD _ _ _ k5).out.mono ?_
  rintro e w6 ⟨rfl, b6⟩
  have x6 := (b6.block _ (heap_lt x5)).trans x5
  have y6 := (b6.block _ (heap_lt y5)).trans y5
  have a6 := below_past a5 b6 a5.size
  have hB6 := hB5.below b6
  clear HD k5 x5 y5 a5 hB5 b6
  have c0 : w6.cell? ⟨w.heap.size, 0, none⟩ = some (.int .i64 0) := (Lib.cell_of_heap x6 0).trans rfl
  have c1 : w6.cell? ⟨w.heap.size, 1, none⟩ = some (.slice none 0 0) := (Lib.cell_of_heap x6 1).trans rfl
  have f0 := Lib.frozen_of_heap x6 0
  have g0 := Lib.frozen_of_heap x6 1
  by_cases hD : D = 0
  · subst hD
    rw [if_pos rfl] at HE
    have d0 : w6.cell? ⟨w3.heap.size + 1, 0, none⟩ = some (.int .i64 p) := (Lib.cell_of_heap y6 0).trans rfl
    have d1 : w6.cell? ⟨w3.heap.size + 1, 1, none⟩ = some (.slice (some ⟨w3.heap.size, 0, none⟩) T.size cap) := (Lib.cell_of_heap y6 1).trans rfl
    go_wp2_with fail
    refine (HG _ _ _ _ _).out.mono ?_
    rintro e w7 ⟨rfl, b7⟩
    have x7 := (b7.block _ (heap_lt x6)).trans x6
    have y7 := (b7.block _ (heap_lt y6)).trans y6
    have a7 := below_past a6 b7 a6.size
    have HB7 := Lib.hid (hB6.below b7)
    clear HG c0 c1 f0 g0 d0 d1 x6 y6 a6 hB6 b7
    have c0 : w7.cell? ⟨w.heap.size, 0, none⟩ = some (.int .i64 0) := (Lib.cell_of_heap x7 0).trans rfl
    have c1 : w7.cell? ⟨w.heap.size, 1, none⟩ = some (.slice none 0 0) := (Lib.cell_of_heap x7 1).trans rfl
    have f0 := Lib.frozen_of_heap x7 0
    have g0 := Lib.frozen_of_heap x7 1
    have d0 : w7.cell? ⟨w3.heap.size + 1, 0, none⟩ = some (.int .i64 p) := (Lib.cell_of_heap y7 0).trans rfl
    have d1 : w7.cell? ⟨w3.heap.size + 1, 1, none⟩ = some (.slice (some ⟨w3.heap.size, 0, none⟩) T.size cap) := (Lib.cell_of_heap y7 1).trans rfl
    cases hgd : goodB p T.size with
    | false =>
      rw [hgd] at HE
      go_wp2_with fail
      have HEz : E = 3 := HE.out
      refine bodyPost_ret (v := .tuple #[.agg #[.int .i64 0, .slice none 0 0], .int .i64 3]) (by simp [results, Try.f16, go_sem, c0, c1]) rfl ⟨(a7.setCell (p := ⟨w.heap.size, 0, none⟩) (Nat.le_refl _) _).setCell (p := ⟨w.heap.size, 1, none⟩) (Nat.le_refl _) _, .inl ⟨by rw [HEz]; decide, by rw [HEz]⟩⟩
    | true =>
      rw [hgd] at HE
      go_wp2_with fail
      have HEz : E = 0 := HE.out
      have HB8 : BytesIn ((w7.setCell ⟨w.heap.size, 0, none⟩ (.int .i64 p)).setCell ⟨w.heap.size, 1, none⟩ (.slice (some ⟨w3.heap.size, 0, none⟩) T.size cap)) (some ⟨w3.heap.size, 0, none⟩) T.data.toList := fun i hi => by
        obtain ⟨g, o, h1, h2⟩ := HB7.out i hi
        obtain ⟨rfl, rfl⟩ : w3.heap.size = g ∧ 0 = o := by simpa using h1
        exact ⟨_, _, rfl, (World.cell?_of_block (Below.heap_setCell _ _ _ _ (by dsimp only; omega))).trans ((World.cell?_of_block (Below.heap_setCell _ _ _ _ (by dsimp only; omega))).trans h2)⟩
      refine bodyPost_ret (v := .tuple #[.agg #[.int .i64 p, .slice (some ⟨w3.heap.size, 0, none⟩) T.size cap], .int .i64 0]) (by simp [results, Try.f16, go_sem, c0, c1]) rfl ⟨(a7.setCell (p := ⟨w.heap.size, 0, none⟩) (Nat.le_refl _) _).setCell (p := ⟨w.heap.size, 1, none⟩) (Nat.le_refl _) _, .inr ⟨HEz, _, _, rfl, HB8, by omega⟩⟩
  · have hD' : (D != 0) = true := by simpa using hD
    rw [if_neg hD] at HE
    have HD' := Lib.hid hD
    clear hD
    go_wp2_with fail
    have HEz : E = D := HE.out
    refine bodyPost_ret (v := .tuple #[.agg #[.int .i64 0, .slice none 0 0], .int .i64 D]) (by simp [results, Try.f16, go_sem, c0, c1]) rfl ⟨(a6.setCell (p := ⟨w.heap.size, 0, none⟩) (Nat.le_refl _) _).setCell (p := ⟨w.heap.size, 1, none⟩) (Nat.le_refl _) _, .inl ⟨by rw [HEz]; exact HD'.out, by rw [HEz]⟩⟩
end Go.Proofs.Ytdedlekelkaabaa
