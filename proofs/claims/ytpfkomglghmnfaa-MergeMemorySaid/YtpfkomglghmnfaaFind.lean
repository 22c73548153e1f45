/- Entries: one is found. Conditions: entries of rising keys. -/
import Derived.Test.YtpfkomglghmnfaaSeek
import Derived.Test.YtpfkomglghmnfaaWildO
namespace Go.Proofs.Ytpfkomglghmnfaa
open Go Go.RowKit

theorem heap_putF {w : World} {b j : Nat} {cs : Array Value} {T : TypeId} {fr : Nat × Nat} (h : w.heap[b]? = some (.cells cs T fr)) (x : Value) : (w.setCell ⟨b, j, none⟩ x).heap[b]? = some (.cells (cs.setIfInBounds j x) T fr) := by
  simp [World.setCell, Array.getElem?_modify, h]
theorem heap_ltF {w : World} {b : Nat} {o : Obj} (h : w.heap[b]? = some o) : b < w.heap.size := (Array.getElem?_eq_some_iff.1 h).1

theorem look_at {l : List Ent} (h : rising l) (k : List UInt8) : look l k = if seekE l k < l.length ∧ (l.getD (seekE l k) ⟨[], [], false⟩).key = k then some (l.getD (seekE l k) ⟨[], [], false⟩) else none := by
  by_cases hc : seekE l k < l.length
  · have hx : l[seekE l k]? = some (l.getD (seekE l k) ⟨[], [], false⟩) := by
      rw [List.getD_eq_getElem?_getD, List.getElem?_eq_getElem hc]
      rfl
    by_cases hk : (l.getD (seekE l k) ⟨[], [], false⟩).key = k
    · rw [if_pos ⟨hc, hk⟩]
      have := look_mem h (List.mem_of_getElem? hx)
      rw [hk] at this
      exact this
    · rw [if_neg (fun e => hk e.2), look_none]
      intro y hy e
      obtain ⟨t, ht⟩ := List.getElem?_of_mem hy
      have h1 : ¬ t < seekE l k := fun q => by
        have := (seekE_lt h ht).2 q
        rw [e] at this
        exact klt_irrefl _ this
      have h2 : t ≠ seekE l k := fun q => by
        subst q
        rw [hx] at ht
        cases ht
        exact hk e
      have h3 := rising_at h (show seekE l k < t by omega) hx ht
      have h4 : ¬ (l.getD (seekE l k) ⟨[], [], false⟩).key < k := fun q => Nat.lt_irrefl _ ((seekE_lt h (k := k) hx).1 q)
      rw [e] at h3
      exact h4 h3
  · rw [if_neg (fun e => hc e.1), look_none]
    intro y hy e
    obtain ⟨t, ht⟩ := List.getElem?_of_mem hy
    have h1 := (List.getElem?_eq_some_iff.1 ht).1
    have := (seekE_lt h (k := k) ht).2 (by omega)
    rw [e] at this
    exact klt_irrefl _ this
/-- What Find answers. -/
def FindR (o : Option Ent) : Value := match o with
  | some x => .tuple #[entA x, .bool true]
  | none => .tuple #[.agg #[.string ⟨#[]⟩, .string ⟨#[]⟩, .bool false], .bool false]
set_option maxRecDepth 100000 in
set_option maxHeartbeats 2000000 in
theorem kFind_any (v : Value) (l : List Ent) (k : List UInt8) (w : World) (h : EntsAt w v l) (hr : rising l) (hl : l.length ≤ 1000000) (hs : smallB l) : Calls Try.prog 25 #[v, .string (stx k)] w fun e w' => e = .returned (FindR (look l k)) ∧ Below w.heap.size w w' := by
  have b0 : Below w.heap.size w (w.alloc (.cells #[.string ⟨#[]⟩, .string ⟨#[]⟩, .bool false] 28)) := (Below.refl _ _).alloc (Nat.le_refl _) _
  have hx0 : (w.alloc (.cells #[.string ⟨#[]⟩, .string ⟨#[]⟩, .bool false] 28)).heap[w.heap.size]? = some (.cells #[.string ⟨#[]⟩, .string ⟨#[]⟩, .bool false] 28) := heap_alloc_new w _
  have H0 := Lib.hid (h.below b0)
  have HS := Lib.hid (kSeek_any v l k _ H0.out hr hl)
  have HLK := Lib.hid (look_at hr k)
  obtain ⟨c, hc⟩ : ∃ c, seekE l k = c := ⟨_, rfl⟩
  have hcl := seekE_le l k
  obtain ⟨R, hR⟩ : ∃ R, look l k = R := ⟨_, rfl⟩
  rw [hc] at HS HLK hcl
  rw [hR] at HLK ⊢
  obtain ⟨ao, cap, rfl, h1, h2, h3⟩ := h
  have H3 := Lib.hid h3
  have HSM := Lib.hid hs
  obtain ⟨n, hn⟩ : ∃ n, l.length = n := ⟨_, rfl⟩
  have HN := Lib.hid hn
  rw [hn] at HS HLK hcl H0 hl ⊢
  have hn1 : (n : Int) ≤ 1000000 := by omega
  have hcn : (c : Int) ≤ n := by omega
  clear hr hs hR hc h1 h2 h3 hn
  by_cases hlt : c < n
  · obtain ⟨x, hx⟩ : ∃ x, l[c]? = some x := ⟨_, List.getElem?_eq_getElem (by rw [HN.out]; exact hlt)⟩
    have hgd : l.getD c ⟨[], [], false⟩ = x := by rw [List.getD_eq_getElem?_getD, hx]; rfl
    rw [hgd] at HLK
    obtain ⟨g, o, rfl, hat⟩ := H3.out c x hx
    have hsx := HSM.out x (List.mem_of_getElem? hx)
    have p1 : (c == n) = false := by rw [beq_eq_false_iff_ne]; omega
    have p2 : ((c : Int) == (n : Int)) = false := by rw [beq_eq_false_iff_ne]; omega
    have p3 : decide (c = n) = false := decide_eq_false (by omega)
    have i1 : (c : Int) < n := by omega
    have HAT := Lib.hid hat
    by_cases hk : x.key = k
    · have HR := Lib.hid (HLK.out.trans (if_pos ⟨hlt, hk⟩))
      subst hk
      have q1 : (x.key == x.key) = true := beq_self_eq_true _
      have q2 : ((stx x.key).toList == (stx x.key).toList) = true := beq_self_eq_true _
      have HC1 := Lib.hid (fun w => sClone_any (stx x.key) w (by rw [stx_size]; omega))
      have HC2 := Lib.hid (fun w => sClone_any (stx x.val) w (by rw [stx_size]; omega))
      clear hx hgd hat hsx HLK hlt
      go_enter Try.func25, Try.ntmps25
      go_wp2_with fail
      generalize (w.alloc (.cells #[.string ⟨#[]⟩, .string ⟨#[]⟩, .bool false] 28)) = W at *
      refine HS.out.mono ?_
      rintro e w1 ⟨rfl, b1⟩
      have b2 := below_past b0 b1 b0.size
      obtain ⟨c0, c1, c2⟩ := (HAT.out.below b0).below b1
      have hx1 := (b1.block _ (heap_ltF hx0)).trans hx0
      clear HS b0 b1 hx0 H0 HAT
      have bq : Below w1.heap.size w1 (w1.alloc (.cells #[.string (stx x.key), .string (stx x.val), .bool x.gone] 28)) := (Below.refl _ _).alloc (Nat.le_refl _) _
      have r2 := rowAt_alloc_at w1 #[.string (stx x.key), .string (stx x.val), .bool x.gone] 28 _ rfl
      have hx2 := (bq.block _ (heap_ltF hx1)).trans hx1
      have b3 := below_past b2 bq b2.size
      go_upto_region 5 with fail
      generalize w1.alloc (.cells #[.string (stx x.key), .string (stx x.val), .bool x.gone] 28) = W2 at *
      have y0 := fun y : Past W2 => cell_of_rowAt (rowAt_past y.h r2) 0
      have y1 := fun y : Past W2 => cell_of_rowAt (rowAt_past y.h r2) 1
      have y2 := fun y : Past W2 => cell_of_rowAt (rowAt_past y.h r2) 2
      clear c0 c1 c2 hx1 b2 bq r2
      refine wp_region_wildL [] 9 (by kernel_rfl) (by kernel_rfl) ?_
      simp only [List.take_succ_cons, List.take_zero]
      iterate 2 (refine wildL_val (by decide) (by kernel_rfl) rfl ?_; intro K hK; go_big_quiet_op; go_big_quiet_on)
      refine wildL_call (by decide) (by kernel_rfl) (by kernel_rfl) ?_
      apply Exists.intro
      refine And.intro ?_ ?_
      focus
        intro x K hK
        go_big_quiet_op
        go_big_quiet_call (exact call_back (HC1.out _))
        rfl
      iterate 2 (refine wildL_val (by decide) (by kernel_rfl) rfl ?_; intro K hK; go_big_quiet_op; go_big_quiet_on)
      refine wildL_call (by decide) (by kernel_rfl) (by kernel_rfl) ?_
      apply Exists.intro
      refine And.intro ?_ ?_
      focus
        intro x K hK
        go_big_quiet_op
        go_big_quiet_call (exact call_back (HC2.out _))
        rfl
      iterate 3 (refine wildL_val (by decide) (by kernel_rfl) rfl ?_; intro K hK; go_big_quiet_op; go_big_quiet_on)
      refine wildL_nil ?_
      simp only [List.drop_succ_cons, List.drop_zero]
      rintro ⟨z, hz⟩
      dsimp only
      have hx3 := (hz.block _ (heap_ltF hx2)).trans hx2
      have b4 := below_past b3 hz b3.size
      have a0 := (Lib.cell_of_heap hx3 0).trans (rfl : _ = some (Value.string ⟨#[]⟩))
      have a1 := (Lib.cell_of_heap hx3 1).trans (rfl : _ = some (Value.string ⟨#[]⟩))
      have a2 := (Lib.cell_of_heap hx3 2).trans (rfl : _ = some (Value.bool false))
      have f0 := Lib.frozen_of_heap hx3 0
      have f1 := Lib.frozen_of_heap hx3 1
      have f2 := Lib.frozen_of_heap hx3 2
      clear y0 y1 y2 hx2 b3 hz
      go_wp2_with fail
      refine row_ent_tmp rfl rfl rfl rfl (rowAt_of_heap (heap_putF (heap_putF (heap_putF hx3 _) _) _)) rfl ⟨?_, ((b4.setCell (p := ⟨w.heap.size, 0, none⟩) (Nat.le_refl w.heap.size) _).setCell (p := ⟨w.heap.size, 1, none⟩) (Nat.le_refl w.heap.size) _).setCell (p := ⟨w.heap.size, 2, none⟩) (Nat.le_refl w.heap.size) _⟩
      rw [HR.out]
      rfl
    · have HR := Lib.hid (HLK.out.trans (if_neg (fun e => hk e.2)))
      have q1 : (x.key == k) = false := by rw [beq_eq_false_iff_ne]; exact hk
      have q2 := str_ne (fun e => hk (stx_inj e))
      clear hx hgd hat hsx HLK hlt hk
      go_enter Try.func25, Try.ntmps25
      go_wp2_with fail
      generalize (w.alloc (.cells #[.string ⟨#[]⟩, .string ⟨#[]⟩, .bool false] 28)) = W at *
      refine HS.out.mono ?_
      rintro e w1 ⟨rfl, b1⟩
      have b2 := below_past b0 b1 b0.size
      obtain ⟨c0, c1, c2⟩ := (HAT.out.below b0).below b1
      have hx1 := (b1.block _ (heap_ltF hx0)).trans hx0
      clear HS b0 b1 hx0 H0 HAT
      have a0 := (Lib.cell_of_heap hx1 0).trans (rfl : _ = some (Value.string ⟨#[]⟩))
      have a1 := (Lib.cell_of_heap hx1 1).trans (rfl : _ = some (Value.string ⟨#[]⟩))
      have a2 := (Lib.cell_of_heap hx1 2).trans (rfl : _ = some (Value.bool false))
      have f0 := Lib.frozen_of_heap hx1 0
      have f1 := Lib.frozen_of_heap hx1 1
      have f2 := Lib.frozen_of_heap hx1 2
      go_wp2_with fail
      refine row_ent_tmp rfl rfl rfl rfl (rowAt_of_heap (heap_putF (heap_putF (heap_putF hx1 _) _) _)) rfl ⟨?_, ((b2.setCell (p := ⟨w.heap.size, 0, none⟩) (Nat.le_refl w.heap.size) _).setCell (p := ⟨w.heap.size, 1, none⟩) (Nat.le_refl w.heap.size) _).setCell (p := ⟨w.heap.size, 2, none⟩) (Nat.le_refl w.heap.size) _⟩
      rw [HR.out]
      rfl
  · have HR := Lib.hid (HLK.out.trans (if_neg (fun e => hlt e.1)))
    obtain rfl : c = n := by omega
    clear HLK hlt
    go_enter Try.func25, Try.ntmps25
    go_wp2_with fail
    generalize (w.alloc (.cells #[.string ⟨#[]⟩, .string ⟨#[]⟩, .bool false] 28)) = W at *
    refine HS.out.mono ?_
    rintro e w1 ⟨rfl, b1⟩
    have b2 := below_past b0 b1 b0.size
    have hx1 := (b1.block _ (heap_ltF hx0)).trans hx0
    clear HS b0 b1 hx0 H0
    have a0 := (Lib.cell_of_heap hx1 0).trans (rfl : _ = some (Value.string ⟨#[]⟩))
    have a1 := (Lib.cell_of_heap hx1 1).trans (rfl : _ = some (Value.string ⟨#[]⟩))
    have a2 := (Lib.cell_of_heap hx1 2).trans (rfl : _ = some (Value.bool false))
    have f0 := Lib.frozen_of_heap hx1 0
    have f1 := Lib.frozen_of_heap hx1 1
    have f2 := Lib.frozen_of_heap hx1 2
    go_wp2_with fail
    refine row_ent_tmp rfl rfl rfl rfl (rowAt_of_heap (heap_putF (heap_putF (heap_putF hx1 _) _) _)) rfl ⟨?_, ((b2.setCell (p := ⟨w.heap.size, 0, none⟩) (Nat.le_refl w.heap.size) _).setCell (p := ⟨w.heap.size, 1, none⟩) (Nat.le_refl w.heap.size) _).setCell (p := ⟨w.heap.size, 2, none⟩) (Nat.le_refl w.heap.size) _⟩
    rw [HR.out]
    rfl
end Go.Proofs.Ytpfkomglghmnfaa
