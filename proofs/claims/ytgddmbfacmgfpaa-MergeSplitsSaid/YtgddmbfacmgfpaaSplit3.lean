/- A list of entries split in lists, by the program. Conditions: none. -/
import Derived.Test.YtgddmbfacmgfpaaSplit2
namespace Go.Proofs.Ytgddmbfacmgfpaa
open Go Go.RowKit
attribute [local go_sem] Oper.semAt_some

theorem cutV_drop {w : World} {g o n cap k : Nat} {es : List Ent} (h : EntsAt w (.slice (some ⟨g, o, none⟩) n cap) es) (hk : k ≤ es.length) : EntsAt w (.slice (if cap = k then some ⟨g, o, none⟩ else some ⟨g, o + k * 3, none⟩) (n - k) (cap - k)) (es.drop k) := by
  have := h.drop hk
  unfold cutV at this
  rw [Option.map_some, add_lit] at this
  exact this
theorem cost_small {x : Ent} (h1 : x.key.length ≤ 110) (h2 : x.val.length ≤ 4010) : costE x ≤ 100000000 := by
  unfold costE
  omega
set_option maxRecDepth 100000 in
set_option maxHeartbeats 4000000 in
theorem mSplit_any (v : Value) (l : List Ent) (size most : Int) (w : World) (h : EntsAt w v l) (hl : l.length ≤ 1000) (hc : ∀ x ∈ l, costE x ≤ 100000000) (hss : ∀ x ∈ l, smallE x) (hm : 1 ≤ most) (hmx : most ≤ 9223372036854775807) (hs0 : 1 ≤ size) (hsx : size ≤ 9223372036854775807) :
    Calls Try.prog 44 #[v, .int .i64 size, .int .i64 most] w fun e w' => ∃ v', e = .returned v' ∧ OwnLists w' w.heap.size v' (splitE size most [] l) ∧ Below w.heap.size w w' := by
  have q0 : decide (size < 1) = false := decide_eq_false (by omega)
  have q1 : decide (most < 1) = false := decide_eq_false (by omega)
  have HH := Lib.hid h
  have HL := Lib.hid hl
  have HC := Lib.hid hc
  have HSS := Lib.hid hss
  obtain ⟨T, hT⟩ : ∃ T, splitE size most [] l = T := ⟨_, rfl⟩
  have HT : Hid ([] ++ splitE size most [] l = T) := Lib.hid hT
  rw [hT]
  have b0 : Below w.heap.size w w := Below.refl _ _
  have o0 := ownLists_nil w w.heap.size
  obtain ⟨A, cap, rfl, _⟩ := h
  clear hl hc hss hT
  go_enter Try.func44, Try.ntmps44
  go_wp2_with fail
  generalize hB : w.heap.size = B at *
  have HB := Lib.hid hB
  clear hB
  go_loopw [0, 7] (fun lx al wr => ∃ (l' : List Ent) (Ls : List (List Ent)), EntsAt w lx l' ∧ Hid (∃ k, l' = l.drop k) ∧ Ls.length + l'.length ≤ 1000 ∧ OwnLists wr B al Ls ∧ Hid (Ls ++ splitE size most [] l' = T) ∧ Below B w wr) (fun lx _ _ => lenV lx)
  case atStart => exact ⟨l, [], HH.out, Lib.hid ⟨0, rfl⟩, by have := HL.out; simpa using this, o0, HT, b0⟩
  case round =>
    obtain ⟨l', Ls, he, HD, hll, ow, HLT, b1⟩ := hrel
    clear o0 b0 HT HH HL
    have hBr : B ≤ wr.heap.size := by have := b1.size; rw [HB.out] at this; exact this
    obtain ⟨A1, c1, rfl, hc1, hc2, h3⟩ := id he
    by_cases hne : l' = []
    · subst hne
      have HF : Hid (Ls = T) := Lib.hid (by rw [← HLT.out]; simp [splitE])
      clear h3 he HLT HD hll hc1
      simp only [List.length_nil]
      go_wp2_with fail
      go_ret
      exact ⟨_, rfl, by rw [← HF.out, HB.out]; exact ow, by rw [HB.out]; exact b1⟩
    · obtain ⟨g, o, rfl⟩ : ∃ g o, A1 = some ⟨g, o, none⟩ := by
        cases l' with
        | nil => exact absurd rfl hne
        | cons x l' =>
          obtain ⟨g, o, e, _⟩ := h3 0 x rfl
          exact ⟨g, o, e⟩
      have hpos : 0 < l'.length := by
        cases l' with
        | nil => exact absurd rfl hne
        | cons x l' => simp
      have hall : ∀ x ∈ l', x ∈ l := fun x hx => by
        obtain ⟨k, rfl⟩ := HD.out
        exact List.mem_of_mem_drop hx
      have hcu := mCut_any _ l' size most wr (he.below (by rw [HB.out]; exact b1)) (by omega) (fun x hx => HC.out x (hall x hx)) hm hmx (by omega) hsx
      have hb1 := cutAt_pos size most l' l'.length 0 hpos
      have hb2 := (cutAt_bounds size most l' l'.length 0).2
      have hstep := split_step size most l' hne
      rw [hstep] at HLT
      have hcn : cutN size most l' = cutAt size most l' l'.length 0 := rfl
      rw [← hcn] at hb1 hb2
      have et := he.take (k := cutN size most l') (by omega)
      have ed := cutV_drop (k := cutN size most l') he (by omega)
      have htl : (l'.take (cutN size most l')).length = cutN size most l' := by rw [List.length_take]; omega
      have hdl : (l'.drop (cutN size most l')).length = l'.length - cutN size most l' := by rw [List.length_drop]
      have HSM : Hid (∀ m ∈ [l'.take (cutN size most l')], ∀ x ∈ m, smallE x) := Lib.hid fun m hm x hx => by
        rw [List.mem_singleton.1 hm] at hx
        exact HSS.out x (hall x (List.mem_of_mem_take hx))
      have HD2 : Hid (∃ k, l'.drop (cutN size most l') = l.drop k) := Lib.hid (by
        obtain ⟨k, rfl⟩ := HD.out
        exact ⟨_, List.drop_drop⟩)
      generalize cutN size most l' = c at *
      generalize l'.take c = lt at *
      generalize l'.drop c = ld at *
      obtain ⟨n, hn⟩ : ∃ n, l'.length = n := ⟨_, rfl⟩
      rw [hn] at hc1 hll hpos hb2 ed hdl hcu
      have HCU := Lib.hid hcu
      rw [hn]
      obtain ⟨A3, hA3⟩ : ∃ A3, (if c1 = c then some (⟨g, o, none⟩ : Addr) else some ⟨g, o + c * 3, none⟩) = A3 := ⟨_, rfl⟩
      rw [hA3] at ed
      have hn0 : decide (0 < n) = true := decide_eq_true hpos
      have hn1 : decide ((0 : Int) < n) = true := decide_eq_true (by omega)
      have hc0 : (0 : Int) ≤ c := by omega
      have hcn2 : (c : Int) ≤ n := by omega
      have hcc : (c : Int) ≤ c1 := by omega
      have HLT2 : Hid ((Ls ++ [lt]) ++ splitE size most [] ld = T) := Lib.hid (by rw [← HLT.out, List.append_assoc]; rfl)
      have HED := Lib.hid ed
      have HET := Lib.hid et
      have HTL := Lib.hid htl
      have hlen : (Ls ++ [lt]).length + ld.length ≤ 1000 := by rw [hdl, List.length_append, List.length_singleton]; omega
      have hLs : Ls.length ≤ 1000000 := by omega
      have HLEN := Lib.hid hlen
      have HDL := Lib.hid hdl
      clear hcu h3 he hstep hcn HD HLT ed et htl hall hne hlen hdl hn
      go_wp2_with fail
      refine HCU.out.mono ?_
      rintro e w2 ⟨rfl, b2⟩
      have ow2 := ow.below b2
      have b3 := below_past b1 b2 hBr
      have hz2 : B ≤ w2.heap.size := Nat.le_trans hBr b2.size
      clear ow b1 b2 HCU hBr
      have b4 := b3.alloc hz2 (.cells #[.slice (some ⟨g, o, none⟩) c c1] 63)
      have ow4 : OwnLists (w2.alloc (.cells #[.slice (some ⟨g, o, none⟩) c c1] 63)) B _ Ls := ow2.below ((Below.refl _ _).alloc (Nat.le_refl _) _)
      have hz4 : B ≤ (w2.alloc (.cells #[.slice (some ⟨g, o, none⟩) c c1] 63)).heap.size := Nat.le_trans hz2 (by simp)
      have r4 := rowAt_alloc_at w2 #[.slice (some ⟨g, o, none⟩) c c1] 63 _ rfl
      have es4 : EntssAt (w2.alloc (.cells #[.slice (some ⟨g, o, none⟩) c c1] 63)) (.slice (some ⟨w2.heap.size, 0, none⟩) 1 1) [lt] := by
        refine ⟨_, 1, rfl, Nat.le_refl _, (by decide), fun i m hm => ?_⟩
        match i, hm with
        | 0, hm =>
          obtain rfl : lt = m := by simpa using hm
          exact ⟨_, 0, _, rfl, cell_of_rowAt r4 0, HET.out.below (by rw [HB.out]; exact b4)⟩
      have HO := Lib.hid (mOwned_any _ [lt] _ es4 (show 1 ≤ 1000000 by decide) (by show ([lt].map List.length).sum ≤ 1000000; simp only [List.map_cons, List.map_nil, List.sum_cons, List.sum_nil]; rw [HTL.out]; omega) HSM.out)
      rw [show [lt].flatten = lt from by simp] at HO
      clear r4 es4 ow2 b3
      go_wp2_with fail
      refine HO.out.mono ?_
      rintro e w5 ⟨v5, rfl, o5, b5⟩
      obtain ⟨A5, c5, rfl⟩ := o5.shape
      have ow5 := ow4.below b5
      have b6 := below_past b4 b5 hz4
      have hz5 : B ≤ w5.heap.size := Nat.le_trans hz4 b5.size
      have o6 := o5.low hz4
      rw [HTL.out] at o6
      rw [HTL.out]
      have bq : Below w5.heap.size w5 (w5.alloc (.cells #[.slice A5 c c5] 63)) := (Below.refl _ _).alloc (Nat.le_refl _) _
      have ow7 := ow5.below bq
      have o7 := o6.below bq
      have b7 := below_past b6 bq hz5
      have hcell := cell_of_rowAt (rowAt_alloc_at w5 #[.slice A5 c c5] 63 _ rfl) 0
      have hz7 : B ≤ (w5.alloc (.cells #[.slice A5 c c5] 63)).heap.size := Nat.le_trans hz5 bq.size
      clear ow4 b4 b5 o5 o6 ow5 b6 bq HO HET
      go_wp2_with (at_builtin; refine wpList_put_list rfl _ _ rfl B _ Ls rfl ow7 _ lt o7 w5.heap.size 1 rfl hcell hz7 hLs ?_)
      intro v8 w8 hown hgrow
      have b8 := ow7.grown hgrow b7 hz7
      have hlv : lenV (.slice A3 (n - c) (c1 - c)) < lenV (.slice (some ⟨g, o, none⟩) n c1) := by show n - c < n; omega
      have HLV := Lib.hid hlv
      clear ow7 o7 hgrow b7 hcell hlv
      go_wp2_with fail
      exact ⟨⟨ld, Ls ++ [lt], HED.out, HD2, HLEN.out, hown, HLT2, b8⟩, HLV.out⟩
end Go.Proofs.Ytgddmbfacmgfpaa
