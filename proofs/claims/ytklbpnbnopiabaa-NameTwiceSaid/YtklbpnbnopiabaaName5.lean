/- A text with small letters. Conditions: a text of at most a million bytes. -/
import Derived.Test.YtklbpnbnopiabaaName4
import Derived.Test.YtklbpnbnopiabaaCopy
namespace Go.Proofs.Ytklbpnbnopiabaa
open Go Go.RowKit

theorem copyCheck_k (B b : Nat) (bs : List Value) (w : World) (h : Lib.IsBuilder 101 5 B b bs w) :
    Calls Try.prog 75 #[.pointer (some ⟨b, 0, none⟩)] w fun e w' => e = .returned (.tuple #[]) ∧ Lib.BuilderAt 101 5 B b (.pointer (some ⟨b, 0, none⟩)) bs w' ∧ Below B w w' ∧ Lib.OthersKept 5 (some b) w w' := by
  rcases h with h | h
  · refine (copyCheck_fresh b w h.cell0 h.shape h.frozen0).mono ?_
    rintro e w' ⟨rfl, rfl⟩
    exact ⟨rfl, h.used _, (Below.refl B w).setCell (p := ⟨b, 0, none⟩) h.1 _, (Lib.OthersKept.refl _ _ w).setCell ⟨b, 0, none⟩ rfl _⟩
  · refine (copyCheck_used b w h.cell0).mono ?_
    rintro e w' ⟨rfl, rfl⟩
    exact ⟨rfl, h, Below.refl B _, Lib.OthersKept.refl _ _ _⟩
theorem ownsRow_kind {w : World} {B : Nat} {e : TypeId} {v : Value} {n : Nat} {xs : List Value} (h : w.ownsRow B e 1 v n xs) : ∀ g, v.ownBlock = some g → ∃ c fz, w.heap[g]? = some (.cells c e fz) :=
  Lib.ownsRowF_kind (World.ownsRowF_of h)
set_option maxHeartbeats 1000000 in
set_option maxRecDepth 100000 in
theorem WriteRune_any (B b : Nat) (bs : List Value) (r : Int) (w : World) (hr0 : 0 ≤ r) (hr1 : r ≤ 2000000) (h : Lib.IsBuilder 101 5 B b bs w) (hlen : bs.length < 10000000) (hBw : B ≤ w.heap.size) :
    Calls Try.prog 64 #[.pointer (some ⟨b, 0, none⟩), .int .i32 r] w fun e w' => (∃ u, e = .returned u) ∧ Lib.BuilderAt 101 5 B b (.pointer (some ⟨b, 0, none⟩)) (bs ++ Lib.runeCells r) w' ∧ Below B w w' ∧ Lib.OthersKept 5 (some b) w w' := by
  have hk4 := Lib.runeCells_le r
  have HCC := Lib.hid (copyCheck_k B b bs w h)
  have HAR := Lib.hid (Try.utf8_AppendRune_plain B)
  have H0 := Lib.hid (show -2147483648 ≤ r by omega)
  have H1 := Lib.hid (show r ≤ 2147483647 by omega)
  have HLEN := Lib.hid (show bs.length + 4 ≤ 140737488355328 by omega)
  clear h hr0 hr1
  go_enter Try.func64, Try.ntmps64
  go_wp2_with fail
  refine HCC.out.mono ?_
  rintro e w1 ⟨rfl, h1, b1, k1⟩
  obtain ⟨hB, v, hrow, hown, hne⟩ := h1
  obtain ⟨ao, cap, rfl⟩ : ∃ ao cap, v = .slice ao bs.length cap := by
    rcases hown.2 with ⟨hv, h0⟩ | ⟨g, cap, cur, hv, _⟩
    · exact ⟨none, 0, by rw [hv, h0]⟩
    · exact ⟨_, _, hv⟩
  have c1 : w1.cell? ⟨b, 1, none⟩ = some (.slice ao bs.length cap) := by rw [Lib.cell_of_heap hrow]; rfl
  have HX := Lib.hid (HAR.out (.slice ao bs.length cap) bs.length bs r H0.out H1.out w1 hown HLEN.out (by have := b1.size; omega))
  clear HCC HAR
  go_wp2_with fail
  refine HX.out.mono ?_
  rintro e w2 ⟨v', rfl, hown', o, hgrow⟩
  have hlt : b < w1.heap.size := (Array.getElem?_eq_some_iff.1 hrow).1
  have hb2 : w2.heap[b]? = some (.cells #[.pointer (some ⟨b, 0, none⟩), .slice ao bs.length cap] 101 (0, 0)) := by
    rw [hgrow.block b (by simp; omega) (fun e => hne e.symm), Lib.alloc_old w1 _ b hlt]
    exact hrow
  have d1 : w2.cell? ⟨b, 1, none⟩ = some (.slice ao bs.length cap) := by rw [Lib.cell_of_heap hb2]; rfl
  have f1 : w2.frozen? ⟨b, 1, none⟩ = false := Lib.frozen_of_heap hb2 1
  obtain ⟨g, cap', rfl⟩ : ∃ g cap', v' = .slice (some ⟨g, 0, none⟩) (bs.length + (Lib.runeCells r).length) cap' := by
    rcases hown'.2 with ⟨_, h0⟩ | ⟨g, cap', cur, hv, _⟩
    · omega
    · exact ⟨g, cap', hv⟩
  have hput := Lib.BuilderAt.put hB hb2 (bs' := bs ++ Lib.runeCells r) (v' := .slice (some ⟨g, 0, none⟩) (bs.length + (Lib.runeCells r).length) cap') (by simpa using hown') (by decide)
  have hbel : Below B w (w2.setCell ⟨b, 1, none⟩ (.slice (some ⟨g, 0, none⟩) (bs.length + (Lib.runeCells r).length) cap')) := ((b1.alloc (by have := b1.size; omega) _).grown hgrow (by have := b1.size; simp; omega) (fun k hk => (hown.lt k hk).1)).setCell (p := ⟨b, 1, none⟩) hB _
  have hoth : Lib.OthersKept 5 (some b) w (w2.setCell ⟨b, 1, none⟩ (.slice (some ⟨g, 0, none⟩) (bs.length + (Lib.runeCells r).length) cap')) := ((k1.alloc _).grown hgrow (ownsRow_kind (hown.alloc _))).setCell ⟨b, 1, none⟩ rfl _
  have HP := Lib.hid hput
  have HB := Lib.hid hbel
  have HO := Lib.hid hoth
  clear HX hown hown' hgrow hrow hne b1 k1 c1 hput hbel hoth
  go_wp2_with fail
  go_ret2
  exact ⟨⟨_, rfl⟩, HP.out, HB.out, HO.out⟩

/-- A builder stays one where what holds cells stays. -/
theorem builder_kept {T e : TypeId} {B b : Nat} {bs : List Value} {w w' : World} (h : Lib.IsBuilder T e B b bs w) (k : ∀ (i : Nat) c t fz, w.heap[i]? = some (Obj.cells c t fz) → w'.heap[i]? = some (Obj.cells c t fz)) : Lib.IsBuilder T e B b bs w' := by
  have key : ∀ p, Lib.BuilderAt T e B b p bs w → Lib.BuilderAt T e B b p bs w' := by
    rintro p ⟨hB, v, hb, hown, hne⟩
    refine ⟨hB, v, k _ _ _ _ hb, ⟨hown.1, ?_⟩, hne⟩
    rcases hown.2 with hn | ⟨g, cap, cur, hv, hbg, hg, rest⟩
    · exact .inl hn
    · exact .inr ⟨g, cap, cur, hv, hbg, k _ _ _ _ hg, rest⟩
  exact h.elim (fun x => .inl (key _ x)) (fun x => .inr (key _ x))
theorem builder_alloc {T e : TypeId} {B b : Nat} {bs : List Value} {w : World} (h : Lib.IsBuilder T e B b bs w) (o : Obj) : Lib.IsBuilder T e B b bs (w.alloc o) :=
  builder_kept h fun i _ _ _ hi => (Lib.alloc_old w o i (Array.getElem?_eq_some_iff.1 hi).1).trans hi
theorem builder_past {T e : TypeId} {B b : Nat} {bs : List Value} {w w' : World} (h : Lib.IsBuilder T e B b bs w) (k : Below w.heap.size w w') : Lib.IsBuilder T e B b bs w' :=
  builder_kept h fun i _ _ _ hi => (k.block i (Array.getElem?_eq_some_iff.1 hi).1).trans hi
theorem builder_iter {T e : TypeId} {B b : Nat} {bs : List Value} {w : World} (h : Lib.IsBuilder T e B b bs w) {k : Nat} {s : ByteArray} {p : Nat} (hk : w.heap[k]? = some (.stringIter s p)) (q : Nat) : Lib.IsBuilder T e B b bs (w.iterAt k s q) :=
  builder_kept h fun i _ _ _ hi => (Lib.iterAt_other w k i s q (fun e => by rw [e, hk] at hi; cases hi)).trans hi

theorem foldL_at (s : ByteArray) (p : Nat) (h : p < s.size) : foldL (s.data.toList.drop p) = encL (foldC (Utf8.decode s p).1) ++ foldL (s.data.toList.drop (p + (Utf8.decode s p).2)) := by
  unfold foldL codes
  rw [runes_at s p h]
  rfl
theorem foldL_over (s : ByteArray) (p : Nat) (h : s.size ≤ p) : foldL (s.data.toList.drop p) = [] := by
  rw [List.drop_eq_nil_of_le h]
  rfl
theorem byteCells_enc (c : Nat) : Lib.byteCells (encL c) = Lib.runeCells (c : Int) := Lib.byteCells_encodeRune c
theorem encL_le (c : Nat) : 1 ≤ (encL c).length ∧ (encL c).length ≤ 4 := by
  have := Lib.encodeRuneZ_length (c : Int)
  rwa [encL, Lib.encodeRune, List.length_map]
theorem foldC_le (c : Nat) (h : c ≤ 1114111) : foldC c ≤ 1114143 := by
  unfold foldC
  split <;> omega
theorem dec_small (s : ByteArray) (p : Nat) : (Utf8.decode s p).1 ≤ 1114111 := by
  have := dec_valid (s.data.toList.drop p)
  rw [decode_list]
  omega

set_option maxRecDepth 100000 in
set_option maxHeartbeats 1000000 in
theorem Fold_any (s : ByteArray) (w : World) (hs : s.size ≤ 1000000) : Calls Try.prog 40 #[.string s] w fun e w' => e = .returned (.string (stx (foldL s.data.toList))) ∧ Below w.heap.size w w' := by
  have r0 : Lib.IsBuilder 101 5 w.heap.size w.heap.size [] (w.alloc (.cells #[.pointer none, .slice none 0 0] 101)) := Lib.fresh_isBuilder _ _ w
  have i0 : Lib.IsBuilder 101 5 w.heap.size w.heap.size [] ((w.alloc (.cells #[.pointer none, .slice none 0 0] 101)).iter s 0) := builder_alloc r0 _
  have b0 : Below w.heap.size w ((w.alloc (.cells #[.pointer none, .slice none 0 0] 101)).iter s 0) := ((Below.refl _ _).alloc (Nat.le_refl _) _).alloc (by simp) _
  have it0 : ((w.alloc (.cells #[.pointer none, .slice none 0 0] 101)).iter s 0).heap[w.heap.size + 1]? = some (.stringIter s 0) := by
    have := iter_new (w.alloc (.cells #[.pointer none, .slice none 0 0] 101)) s
    simpa using this
  obtain ⟨R, hR⟩ : ∃ R, foldL s.data.toList = R := ⟨_, rfl⟩
  have HR := Lib.hid hR
  have HS := Lib.hid hs
  rw [hR]
  clear hR hs r0
  go_enter Try.func40, Try.ntmps40
  go_wp2_with fail
  generalize (w.alloc (.cells #[.pointer none, .slice none 0 0] 101)).iter s 0 = W at *
  go_loopw [] (fun wr => ∃ (p : Nat) (acc : List UInt8), Lib.IsBuilder 101 5 w.heap.size w.heap.size (Lib.byteCells acc) wr ∧ wr.heap[w.heap.size + 1]? = some (.stringIter s p) ∧ Below w.heap.size w wr ∧ Hid (acc ++ foldL (s.data.toList.drop p) = R) ∧ p ≤ s.size ∧ acc.length ≤ 4 * p) (fun wr => s.size - wr.iterPos (w.heap.size + 1))
  case atStart => exact ⟨0, [], i0, it0, b0, Lib.hid (by rw [List.drop_zero, HR.out]; rfl), Nat.zero_le _, Nat.le_refl _⟩
  case round =>
    obtain ⟨p, acc, ib, it1, b1, HA, hle, hal⟩ := hrel
    clear i0 b0 it0 HR
    by_cases hp : p < s.size
    · have hnx : ∀ ty, (Instr.next (.pointer (some ⟨w.heap.size + 1, 0, none⟩)) true ty).run Try.prog wr = _ := fun ty => Lib.run_next_any_at wr (w.heap.size + 1) s p ty it1 hp
      have HF := decode_fits s p hp
      have hsm := dec_small s p
      have HA2 := HA.out
      rw [foldL_at s p hp] at HA2
      have it2 := Lib.iterAt_heap wr (w.heap.size + 1) s p (p + (Utf8.decode s p).2) it1
      have b2 := Lib.below_iterAt b1 (k := w.heap.size + 1) (Nat.le_succ _) s (p + (Utf8.decode s p).2)
      have ib2 : Lib.IsBuilder 101 5 w.heap.size w.heap.size (Lib.byteCells acc) (wr.iterAt (w.heap.size + 1) s (p + (Utf8.decode s p).2)) := builder_iter ib it1 _
      have hpos := Lib.hid (iter_pos it1)
      obtain ⟨c, hc⟩ : ∃ c, (Utf8.decode s p).1 = c := ⟨_, rfl⟩
      obtain ⟨d, hd⟩ : ∃ d, (Utf8.decode s p).2 = d := ⟨_, rfl⟩
      rw [hc, hd] at hnx HA2
      rw [hd] at it2 b2 HF ib2
      rw [hc] at hsm
      have HG := Lib.hid (great_any (c : Int))
      have HA3 := Lib.hid HA2
      have HFF := Lib.hid HF
      clear hc hd it1 b1 HA HA2 ib HF
      have hsm' : (c : Int) ≤ 1114111 := by omega
      have hf1 := foldC_le c hsm
      have HFC := Lib.hid (show foldC c = if great c = true then c + 32 else c from rfl)
      have hk4 := encL_le (foldC c)
      generalize wr.iterAt (w.heap.size + 1) s (p + d) = V at *
      go_wp2_with fail
      refine (HG.out _).mono ?_
      rintro e w1 ⟨rfl, b3⟩
      have it3 := iter_past b3 it2
      have ib3 := builder_past ib2 b3
      have b4 := below_past b2 b3 b2.size
      have hpd : p + d ≤ s.size := HFF.out.2
      have hcl : (Lib.byteCells acc).length = acc.length := by simp [Lib.byteCells]
      have HSS := HS.out
      have hlen1 : (Lib.byteCells acc).length < 10000000 := by rw [hcl]; omega
      have HWR : ∀ x : Nat, x ≤ 2000000 → Hid (Calls Try.prog 64 #[.pointer (some ⟨w.heap.size, 0, none⟩), .int .i32 x] w1 fun e w' => (∃ u, e = .returned u) ∧ Lib.BuilderAt 101 5 w.heap.size w.heap.size (.pointer (some ⟨w.heap.size, 0, none⟩)) (Lib.byteCells acc ++ Lib.runeCells x) w' ∧ Below w.heap.size w1 w' ∧ Lib.OthersKept 5 (some w.heap.size) w1 w') := fun x hx =>
        Lib.hid (WriteRune_any w.heap.size w.heap.size (Lib.byteCells acc) x w1 (by omega) (by omega) ib3 hlen1 b4.size)
      have hfin : ∀ W, Lib.OthersKept 5 (some w.heap.size) w1 W → W.heap[w.heap.size + 1]? = some (.stringIter s (p + d)) := fun W k => k.iter it3 (by omega)
      have HFIN := Lib.hid hfin
      clear HG it2 ib2 b2 b3 hlen1 hcl it3 ib3 hfin
      cases hg : great (c : Int) with
      | true =>
        rw [hg, if_pos rfl] at HFC
        rw [HFC.out] at HA3 hk4
        have HX := HWR (c + 32) (by omega)
        clear hg HWR
        go_wp2_with fail
        refine HX.out.mono ?_
        rintro e w2 ⟨⟨u, rfl⟩, h1, b5, k1⟩
        have it5 := HFIN.out _ k1
        have b6 := b4.trans b5
        have hpos5 := Lib.hid (iter_pos it5)
        have hend : Lib.IsBuilder 101 5 w.heap.size w.heap.size (Lib.byteCells (acc ++ encL (c + 32))) w2 := by
          rw [Lib.byteCells_append, byteCells_enc]
          exact .inr h1
        clear h1 b5 k1 b4 HX
        go_wp2_with fail
        exact ⟨⟨p + d, acc ++ encL (c + 32), hend, it5, b6, Lib.hid (by rw [List.append_assoc]; exact HA3.out), hpd, by rw [List.length_append]; have := HFF.out.1; omega⟩, by rw [hpos.out, hpos5.out]; have := HFF.out.1; omega⟩
      | false =>
        rw [hg, if_neg (by decide)] at HFC
        rw [HFC.out] at HA3 hk4
        have HX := HWR c (by omega)
        clear hg HWR
        go_wp2_with fail
        refine HX.out.mono ?_
        rintro e w2 ⟨⟨u, rfl⟩, h1, b5, k1⟩
        have it5 := HFIN.out _ k1
        have b6 := b4.trans b5
        have hpos5 := Lib.hid (iter_pos it5)
        have hend : Lib.IsBuilder 101 5 w.heap.size w.heap.size (Lib.byteCells (acc ++ encL c)) w2 := by
          rw [Lib.byteCells_append, byteCells_enc]
          exact .inr h1
        clear h1 b5 k1 b4 HX
        go_wp2_with fail
        exact ⟨⟨p + d, acc ++ encL c, hend, it5, b6, Lib.hid (by rw [List.append_assoc]; exact HA3.out), hpd, by rw [List.length_append]; have := HFF.out.1; omega⟩, by rw [hpos.out, hpos5.out]; have := HFF.out.1; omega⟩
    · have hnx : ∀ ty, (Instr.next (.pointer (some ⟨w.heap.size + 1, 0, none⟩)) true ty).run Try.prog wr = _ := fun ty => Lib.run_next_end_at wr (w.heap.size + 1) s p ty it1 hp
      have HE : Hid (acc = R) := Lib.hid (by
        have := HA.out
        rwa [foldL_over s p (by omega), List.append_nil] at this)
      have HX := Lib.hid (Try.Builder_String_any w.heap.size w.heap.size acc wr ib b1.size)
      clear it1 HA ib
      go_wp2_with fail
      refine HX.out.mono ?_
      rintro e w2 ⟨rfl, b5⟩
      have b6 := b1.trans b5
      clear HX b1 b5
      go_wp2_with fail
      go_ret
      exact ⟨by rw [← HE.out]; rfl, b6⟩
end Go.Proofs.Ytklbpnbnopiabaa
