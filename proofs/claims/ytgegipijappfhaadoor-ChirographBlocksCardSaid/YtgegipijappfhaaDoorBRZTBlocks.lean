/- For any entries and any number the law ChirographBlocks returns true. Conditions: the listed tables are as the program lays them. -/
import Derived.Test.YtgegipijappfhaaDoorBR8
import Derived.Test.YtgegipijappfhaaDoorTie
import Derived.Test.YtgegipijappfhaaDoorCards
import Derived.SevenTiedAt
namespace Go.Proofs.YtgegipijappfhaaDoor.tblocks
open Go Go.ChangeShapes Go.WideShapes Go.ChangeAt Go.ChangeMaps Go.RowKit Go.Proofs.YtgegipijappfhaaDoor

theorem few_small (n : Nat) (es : List Ent) : smallB (fewE n es) := fun x hx => by have := fewE_small n es x hx; omega
def a05 : Ent := ⟨[97], [], false⟩
theorem a05_check : checkB [a05] = 0 := by decide +kernel
theorem a05_len : (textB [a05]).length = 8 := by decide +kernel
set_option maxRecDepth 100000 in
set_option maxHeartbeats 4000000 in
theorem walk (v : Value) (es : List Ent) (size : Int) (w : World) (h : InEnts w v es) (ht : Tabs w) : Calls Tryd.prog 6 #[v, .int .i64 size] w fun e w' => e = .returned (.bool true) ∧ Below w.heap.size w w' := by
  have HF := Lib.hid (fun w h => few9_any v es 200 w h (by decide))
  have hsm := few_small 200 es
  have hks : ∀ x ∈ fewE 200 es, x.key.length ≤ 65536 := fun x hx => by have := fewE_small 200 es x hx; omega
  have hll : (fewE 200 es).length ≤ 200 := by rw [fewE_length]; omega
  obtain ⟨l, hl⟩ : ∃ l, fewE 200 es = l := ⟨_, rfl⟩
  rw [hl] at HF hsm hks hll
  have b0 : Below w.heap.size w (w.alloc (.cells #[.string ⟨#[97]⟩, .string ⟨#[]⟩, .bool false] 36)) := (Below.refl _ _).alloc (Nat.le_refl _) _
  have he : EntsAt (w.alloc (.cells #[.string ⟨#[97]⟩, .string ⟨#[]⟩, .bool false] 36)) (.slice (some ⟨w.heap.size, 0, none⟩) 1 1) [a05] := by
    refine ⟨_, _, rfl, Nat.le_refl _, by decide, fun i x hx => ⟨_, _, rfl, ?_⟩⟩
    match i, hx with
    | 0, hx =>
      obtain rfl : a05 = x := by simpa using hx
      exact entAt_new w a05 _ rfl
  have HA := Lib.hid (kMake_any _ [a05] _ he (ht.below b0) (fun x hx => by obtain rfl := List.mem_singleton.1 hx; decide))
  rw [makeB_ok a05_check (by rw [a05_len]; decide)] at HA
  have ha9 : (stx (frame (textB [a05]))).size = 16 := by rw [stx_size, frame_length, a05_len]
  have HT := Lib.hid ht
  have hin := Lib.hid h
  have HM := Lib.hid (fun v w (h : EntsAt w v l) (ht : Tabs w) => tMake_any v l size w h ht hsm hks (by omega))
  unfold MakeTR at HM
  generalize stx (frame (textB [a05])) = SA at *
  by_cases hm : (makeT l size).2 = 0
  · obtain ⟨cs, hcs⟩ := made_chunks hm (by omega)
    have HO := Lib.hid (fun w ht => mOpen_any l _ cs w hcs ht (by omega))
    have HCS := Lib.hid hcs
    rw [hm] at HM
    have HRG := Lib.hid (fun b w h ht => mRange_any b l [] [] w h ht)
    rw [show l.filter (within [] []) = l from List.filter_eq_self.2 fun x _ => within_none x, show stx [] = ⟨#[]⟩ from rfl] at HRG
    have HSM := Lib.hid (fun v u w h1 h2 => r9Same_any v u l l w h1 h2 (by omega))
    rw [decide_eq_true (rfl : l = l)] at HSM
    obtain ⟨S, hS⟩ : ∃ S, (makeT l size).1 = S := ⟨_, rfl⟩
    rw [hS] at HM HO HCS
    obtain ⟨n, hn⟩ : ∃ n, l.length = n := ⟨_, rfl⟩
    have HN := Lib.hid hn
    rw [hn] at hll
    have hni : (n : Int) ≤ 200 := by omega
    clear ht h hm hl hsm hks hcs hS hn he
    go_enter Tryd.func6, Tryd.ntmps6
    go_wp2_with fail
    refine HA.out.mono ?_
    rintro e w1 ⟨rfl, b1⟩
    have b2 := below_past b0 b1 b0.size
    have HF2 := Lib.hid (HF.out w1 (hin.out.below b2))
    have T2 := Lib.hid (HT.out.below b2)
    clear HA b0 b1 HF HT hin
    go_wp2_with fail
    refine HF2.out.mono ?_
    rintro e w3 ⟨v1, rfl, o1, b1⟩
    have b3 := below_past b2 b1 b2.size
    have T3 := Lib.hid (T2.out.below b1)
    have L3 := Lib.hid o1.lie
    have HM3 := Lib.hid (HM.out _ _ L3.out T3.out)
    clear HF2 b2 b1 T2 o1 HM
    go_wp2_with fail
    refine HM3.out.mono ?_
    rintro e w4 ⟨rfl, b1⟩
    have b4 := below_past b3 b1 b3.size
    have T4 := Lib.hid (T3.out.below b1)
    have L4 := Lib.hid (L3.out.below b1)
    clear HM3 b3 b1 T3 L3
    obtain ⟨ao, cap, rfl, _⟩ := id L4.out
    rw [HN.out] at L4 ⊢
    have bq : Below w4.heap.size w4 (w4.alloc (.cells #[] 36)) := (Below.refl _ _).alloc (Nat.le_refl _) _
    have o5 := ownEnts_new w4 w4.heap.size w4.heap.size rfl (Nat.le_refl _)
    go_wp2_with fail
    generalize hC : w4.heap.size = C at *
    generalize (w4.alloc (.cells #[] 36)) = W5 at *
    obtain ⟨N, hN⟩ : ∃ N, S.length = N := ⟨_, rfl⟩
    have hsz : (stx S).size = N := by rw [stx_size, hN]
    have hN9 : N ≤ 150000000 := by rw [← hN]; exact HCS.out.size
    have hNi : (N : Int) ≤ 150000000 := by omega
    have hcn : cs.length ≤ n := by have := HCS.out.few; rw [HN.out] at this; exact this
    have HSL := Lib.hid hN
    have HBQ := Lib.hid bq
    have HC := Lib.hid hC
    clear hN bq hC
    go_loopw [9, 10, 11] (fun u a x wr => ∃ (j t m : Nat), j ≤ cs.length ∧ x = .int .i64 j ∧ a = .int .i64 t ∧ Hid ((textOf (cs.take j)).length = t) ∧ t ≤ N ∧ Hid ((cs.take j).flatten.length = m) ∧ OwnEnts wr C u (cs.take j).flatten ∧ Below C w4 wr) (fun _ _ x _ => (cs.length - intOf x).toNat)
    case atStart => exact ⟨0, 0, 0, Nat.zero_le _, rfl, rfl, Lib.hid rfl, Nat.zero_le _, Lib.hid rfl, o5, HBQ.out⟩
    case round =>
      obtain ⟨j, t, m, hj, rfl, rfl, HTX, htN, HM5, ow, b5⟩ := hrel
      clear o5
      have hBr : C ≤ wr.heap.size := by have := b5.size; rw [HC.out] at this; exact this
      obtain ⟨Ao, co, rfl⟩ := ow.shape
      have hfl : (cs.take j).flatten.length ≤ n := by
        have h1 : (cs.take j).flatten.length + (cs.drop j).flatten.length = n := by
          rw [← List.length_append, ← List.flatten_append, List.take_append_drop, ← HCS.out.all, HN.out]
        omega
      have HFL := Lib.hid hfl
      rw [HM5.out] at hfl ow ⊢
      by_cases hlt : j < cs.length
      · obtain ⟨c, hcj⟩ : ∃ c, cs[j]? = some c := ⟨_, List.getElem?_eq_getElem hlt⟩
        obtain ⟨m1, m2, m3⟩ := goodC_mem HCS.out.good c (List.mem_of_getElem? hcj)
        have hsp := textOf_split cs j c hcj
        obtain ⟨R, hR⟩ : ∃ R, tailT (textOf cs) (grpsOf 0 cs) (encBl 7 (bloomT l)) l.length (headK l) = R := ⟨_, rfl⟩
        have hST : S = textOf cs ++ R := by rw [← hR]; exact HCS.out.text
        obtain ⟨e1, e2, e3⟩ := read_made m2 m3 (textOf (cs.drop (j + 1)) ++ R)
        have HTK : Hid ((cs.take j).flatten ++ c = (cs.take (j + 1)).flatten) := Lib.hid (by rw [List.take_add_one, hcj]; simp)
        have HTT : Hid ((textOf (cs.take (j + 1))).length = t + (frame (textB c)).length) := Lib.hid (by rw [List.take_add_one, hcj, ← HTX.out]; simp [textOf])
        have hml : m + c.length ≤ n := by
          have h1 : (cs.take (j + 1)).flatten.length + (cs.drop (j + 1)).flatten.length = n := by
            rw [← List.length_append, ← List.flatten_append, List.take_append_drop, ← HCS.out.all, HN.out]
          rw [← HTK.out, List.length_append, HM5.out] at h1
          omega
        have hcp := List.length_pos_iff.2 m1
        have HEX : Hid ((stx S).extract t N = stx (frame (textB c) ++ (textOf (cs.drop (j + 1)) ++ R))) := Lib.hid (by
          apply ByteArray.ext
          rw [ByteArray.data_extract]
          apply Array.toList_inj.1
          rw [Array.toList_extract]
          show S.extract t N = frame (textB c) ++ (textOf (cs.drop (j + 1)) ++ R)
          rw [List.extract_eq_take_drop, List.take_of_length_le (by rw [List.length_drop, HSL.out]; exact Nat.le_refl _), hST, hsp, List.append_assoc, ← HTX.out, List.drop_left, List.append_assoc])
        have hslen : N = t + ((frame (textB c)).length + (textOf (cs.drop (j + 1)) ++ R).length) := by
          rw [← HSL.out, hST, hsp, ← HTX.out]
          simp
        have HKR := Lib.hid (fun w ht => kRead_any (stx (frame (textB c) ++ (textOf (cs.drop (j + 1)) ++ R))) w (by rw [stx_size, List.length_append]; omega) ht)
        unfold ReadR at HKR
        rw [show (stx (frame (textB c) ++ (textOf (cs.drop (j + 1)) ++ R))).data.toList = frame (textB c) ++ (textOf (cs.drop (j + 1)) ++ R) from rfl, e1, e2, e3] at HKR
        obtain ⟨nf, hnf⟩ : ∃ nf, (frame (textB c)).length = nf := ⟨_, rfl⟩
        have hnf0 : 8 ≤ nf := by rw [← hnf, frame_length]; omega
        rw [hnf] at HKR HTT hslen
        have hMN : (m : Int) < n := by omega
        have hji : (j : Int) < 300 := by omega
        have hti : (t : Int) ≤ N := by omega
        have hnfi : (nf : Int) ≤ N := by omega
        have hnfp : (1 : Int) ≤ nf := by omega
        have q1 : decide ((nf : Int) < 1) = false := decide_eq_false (by omega)
        obtain ⟨cl, hcl⟩ : ∃ cl, c.length = cl := ⟨_, rfl⟩
        have HCL := Lib.hid hcl
        have q2 : decide ((cl : Int) < 1) = false := decide_eq_false (by omega)
        have htnN : t + nf ≤ N := by omega
        have hcl2 : cl ≤ 200 := by omega
        have HT5 := Lib.hid (T4.out.below (by rw [HC.out]; exact b5))
        have HM6 : Hid ((cs.take (j + 1)).flatten.length = m + cl) := Lib.hid (by rw [← HTK.out, List.length_append, HM5.out, hcl])
        have HTI : Hid ((t : Int) + nf = ((t + nf : Nat) : Int)) := Lib.hid (by omega)
        clear hcj m1 m2 m3 hsp hR hST e1 e2 e3 hnf hslen hml hcp hcl
        go_wp2_with fail
        rw [HEX.out]
        refine (HKR.out _ HT5.out).mono ?_
        rintro e w6 ⟨vm, rfl, om, b6⟩
        have ow6 := ow.below b6
        have b7 := below_past b5 b6 hBr
        have hB6 := Nat.le_trans hBr b6.size
        obtain ⟨Am, cm, rfl⟩ := om.shape
        have LM := Lib.hid om.lie
        rw [HCL.out] at LM ⊢
        have hmm : (cs.take j).flatten.length ≤ 1000000 := by rw [HM5.out]; omega
        have hcc : c.length ≤ 1000000 := by rw [HCL.out]; omega
        clear ow b5 b6 hBr om HKR HEX HT5
        go_wp2_with (at_builtin; refine wpList_put_ents rfl _ _ rfl C _ _ rfl ow6 _ c rfl LM.out hB6 hmm hcc ?_)
        intro v7 w7 ow7 hg7 _
        have b8 := ow6.grown hg7 b7 hB6
        rw [HTK.out] at ow7
        clear ow6 hg7 b7 hB6 LM
        go_wp2_with fail
        exact ⟨⟨j + 1, t + nf, m + cl, hlt, by go_num, by rw [HTI.out], HTT, htnN, HM6, ow7, b8⟩, by simp [intOf]; omega⟩
      · obtain rfl : j = cs.length := by omega
        have hall : (cs.take cs.length).flatten = l := by rw [List.take_of_length_le (Nat.le_refl _), ← HCS.out.all]
        have hm5 := HM5.out
        rw [hall] at ow hm5
        rw [HN.out] at hm5
        subst hm5
        have q1 : decide ((n : Int) < n) = false := decide_eq_false (by omega)
        have HO5 := Lib.hid (HO.out wr (T4.out.below (by rw [HC.out]; exact b5)))
        clear HM5 hall hfl HFL HO
        go_wp2_with fail
        refine HO5.out.mono ?_
        rintro e w6 ⟨b, rfl, o6, b6⟩
        have b7 := below_past b5 b6 hBr
        have hB6 := Nat.le_trans hBr b6.size
        have hr := HRG.out b w6 o6 (T4.out.below (by rw [HC.out]; exact b7))
        have HR := Lib.hid hr
        have LA := Lib.hid (ow.lie.below b6)
        clear HO5 b5 b6 o6 hr ow hBr HRG
        go_wp2_with fail
        refine HR.out.mono ?_
        rintro e w7 ⟨vr, rfl, og, b8⟩
        have b9 := below_past b7 b8 hB6
        have hB7 := Nat.le_trans hB6 b8.size
        have LA7 := Lib.hid (LA.out.below b8)
        have LR := Lib.hid og.lie
        have L7 := Lib.hid (L4.out.below (by rw [HC.out]; exact b9))
        have HS7 := Lib.hid (HSM.out _ _ w7 LA7.out L7.out)
        clear HR b7 b8 hB6 LA og
        go_wp2_with fail
        refine HS7.out.mono ?_
        rintro e w8 ⟨rfl, b10⟩
        have b11 := below_past b9 b10 hB7
        have hB8 := Nat.le_trans hB7 b10.size
        have HS8 := Lib.hid (HSM.out _ _ w8 (LR.out.below b10) (L7.out.below b10))
        clear HS7 b9 b10 hB7 LA7 LR L7 HSM
        go_wp2_with fail
        refine HS8.out.mono ?_
        rintro e w9 ⟨rfl, b12⟩
        have b13 := below_past b11 b12 hB8
        clear HS8 b11 b12
        go_wp2_with fail
        go_ret
        exact ⟨rfl, below_past b4 (by rw [HC.out]; exact b13) b4.size⟩
  · have h1 := tabs_any l size hm
    rw [h1, show stx [] = ⟨#[]⟩ from rfl] at HM
    obtain ⟨me, hme⟩ : ∃ me, (makeT l size).2 = me := ⟨_, rfl⟩
    rw [hme] at HM hm
    have p1 : ((me : Int) != 0) = true := by rw [bne_iff_ne]; omega
    have p2 : (me != 0) = true := by rw [bne_iff_ne]; exact hm
    clear ht h hm hl hsm hks hll hme h1 he
    go_enter Tryd.func6, Tryd.ntmps6
    go_wp2_with fail
    refine HA.out.mono ?_
    rintro e w1 ⟨rfl, b1⟩
    have b2 := below_past b0 b1 b0.size
    have HF2 := Lib.hid (HF.out w1 (hin.out.below b2))
    have T2 := Lib.hid (HT.out.below b2)
    clear HA b0 b1 HF HT hin
    go_wp2_with fail
    refine HF2.out.mono ?_
    rintro e w3 ⟨v1, rfl, o1, b1⟩
    have b3 := below_past b2 b1 b2.size
    have T3 := Lib.hid (T2.out.below b1)
    have L3 := Lib.hid o1.lie
    have HM3 := Lib.hid (HM.out _ _ L3.out T3.out)
    clear HF2 b2 b1 T2 o1 HM
    go_wp2_with fail
    refine HM3.out.mono ?_
    rintro e w4 ⟨rfl, b1⟩
    have b4 := below_past b3 b1 b3.size
    have T4 := Lib.hid (T3.out.below b1)
    have L4 := Lib.hid (L3.out.below b1)
    clear HM3 b3 b1 T3 L3
    clear T4 L4
    go_wp2_with fail
    go_ret
    exact ⟨rfl, b4⟩
set_option maxRecDepth 100000 in
theorem lifted (os : Os) (started : os.Started) (H : Type) (enc : TypeId × Value → H) :
    ReturnsInHanded {} Tryd.checked os 6 .any (fun w args => (Rows.chirographBlocksSpec.pre enc Tryd.prog Tryd.f6 [] false w args ∧ laidMetH Tryd.prog laidSeal w) ∧ sizedMet enc Tryd.prog Tryd.f6 (OpenSpec.ofChange Rows.chirographBlocksSpec) false w args) (Rows.chirographBlocksSpec.post enc Tryd.prog Tryd.f6 false true false false) := by
  refine returnsInHanded_of_change_and (C := Tryd.checked) (X := fun w _ => laidMetH Tryd.prog laidSeal w) (fun _ _ _ hh h => h.of_heap hh) own started (by kernel_rfl) Tryd.func6
    (ChangeSpec.witness_shaped (enc := enc) (C := Tryd.checked) (os := os) (X := fun w _ => laidMetH Tryd.prog laidSeal w) false (World.doorLaid Tryd.prog 2000 os) #[.slice none 0 0, .int .i64 0] 8 rfl (World.shaped_of_RefB (by kernel_rfl) (by kernel_rfl)) (by kernel_rfl) (by kernel_rfl) (by kernel_rfl) (door_seal os _)) ?_
  intro W base args ds gs before hval0 hW _ _ hL _
  have hval : ∀ (j : Nat) t v, Tryd.f6.params[j]? = some t → args[j]? = some v → Value.okWide Tryd.prog W .any base t v := hval0
  clear hval0
  have hW' := hW
  obtain ⟨p, q, hA0, hV, rfl, hfz, hnd⟩ := hW
  have hA : DataW.TrodAll enc Tryd.prog W 0 (fun _ => true) true Tryd.f6.params.toList args.toList ds p := hA0
  rw [Tryd.params6] at hA hval
  clear hA0 hfz hnd hV
  have hr : Readable Tryd.f6.params.toList := by
    rw [Tryd.params6]
    exact readable_of_all (by kernel_rfl)
  have fin : ∀ W', Below W.heap.size W W' → Rows.chirographBlocksSpec.post enc Tryd.prog Tryd.f6 false true false false W args (.bool true) W' := fun W' hb =>
    law_post rfl hW' hr (fun l hl => by
      rw [Tryd.params6] at hl
      match l, hl with
      | [d1, d2], _ => rfl) (by kernel_rfl) hb
  clear hW' hr
  have HT := tabs_of_laid hL
  obtain ⟨v0, v1, d0, d1, p0, p1, rfl, rfl, rfl, h0, h1⟩ := trodAll_two hA; obtain ⟨l1, hs1, hs1b⟩ := in_ents_of Tryd.underlying22 Tryd.underlying36 (by kernel_rfl) rfl rfl rfl rfl rfl rfl Tryd.underlying9 (by kernel_rfl) Tryd.underlying4 (by kernel_rfl) (hval 0 22 v0 rfl rfl) h0; obtain ⟨n, rfl, _, _, w1⟩ := open_int Tryd.underlying3 (hval 1 3 v1 rfl rfl) h1
  exact (walk v0 l1 n W hs1 HT).mono fun e W' ⟨he, hb⟩ => ⟨_, he, fin W' hb⟩
theorem row_holds : Rows.ChirographBlocksSaid :=
  OpenClaim.holds_of_wide 6 Tryd.f6 rfl rfl rfl rfl rfl rfl rfl ⟨rfl, rfl, rfl, rfl, rfl⟩ rfl rfl rfl rfl rfl (by kernel_rfl) Tryd.func6 (by kernel_rfl)
    (of_decide_eq_true (by kernel_rfl)) (by unfold Func.isWrapper; first | (rw [if_pos (by decide +kernel)]; kernel_rfl) | (rw [if_neg (by decide +kernel)]; exact ⟨rfl, rfl⟩))
    (fun os started H enc _ => lifted os started H enc)
theorem proved : Rows.ChirographBlocksCardSaid :=
  Claim7.holds_tied_plain_at .later [] [.data, .data] true _ false
    row_holds (fun _ h => by cases h) (by kernel_rfl) (fun _ h => by cases h) chirographBlocks_row_tie rfl ⟨rfl, rfl⟩ (by kernel_rfl) rfl
    (fun f fn hf hfn => by
      obtain rfl : f = 6 := Option.some.inj ((show Tryd.prog.funcNamed "chirograph/chirographtop.ChirographBlocks" = some 6 by kernel_rfl).symm.trans hf) |>.symm
      obtain rfl : fn = Tryd.f6 := (Option.some.inj (Tryd.func6.symm.trans hfn)).symm
      exact ⟨by kernel_rfl, fun j t ht => by
        rw [Tryd.params6] at ht
        have hm : t ∈ [22, 3] := by simpa using Array.mem_of_getElem? ht
        have hall : ([22, 3].all fun u => !Tryd.prog.wantsStandIn u) = true := by kernel_rfl
        exact (show Tryd.prog.wantsStandIn t = false by simpa using List.all_eq_true.1 hall t hm)⟩)
    (by kernel_rfl)
end Go.Proofs.YtgegipijappfhaaDoor.tblocks
