/- Texts that the next ones stand on: TabR3, EntsIn, Tabs. -/
import Derived.Test.YtgegipijappfhaaDoorBM9
import Derived.Deep.Slices
import Derived.LaidMore
import Derived.Stop.Joined
import Derived.ChangeMaps5
namespace Go.Proofs.YtgegipijappfhaaDoor
open Go Go.RowKit
attribute [local go_sem] Oper.semAt_some

theorem numBytes_len (n : Nat) (h : n < 9223372036854775808) : (numBytes n).length ≤ 9 := by
  have := numLen_le n h
  rw [numBytes_eq, List.length_cons, numTail_length]
  omega
theorem splitT_cons {size f : Nat} {D c : List Ent} {cs : List (List Ent)} (h : splitT size f D = c :: cs) : ∃ f', f = f' + 1 ∧ D ≠ [] ∧ c = D.take (cutT size D) ∧ cs = splitT size f' (D.drop (cutT size D)) := by
  cases f with
  | zero => cases h
  | succ f =>
    unfold splitT at h
    split at h
    · cases h
    · rename_i h0
      obtain ⟨rfl, rfl⟩ := List.cons.inj h
      exact ⟨f, rfl, h0, rfl, rfl⟩
theorem splitT_end {size f : Nat} {D : List Ent} {T : List UInt8} {G : List Grp} (h : splitT size f D = []) : layF size f D T G = ⟨0, T, G⟩ := by
  cases f with
  | zero => rfl
  | succ f =>
    unfold splitT at h
    split at h
    · rename_i h0
      rw [layF, if_pos h0]
    · cases h
theorem splitT_mem {size : Nat} {P : Ent → Prop} : ∀ (f : Nat) (D : List Ent), (∀ x ∈ D, P x) → ∀ c ∈ splitT size f D, ∀ x ∈ c, P x
  | 0, D, _, c, hc => by cases hc
  | f + 1, D, h, c, hc => by
    unfold splitT at hc
    split at hc
    · cases hc
    · rcases List.mem_cons.1 hc with rfl | hc
      · exact fun x hx => h x (List.mem_of_mem_take hx)
      · exact splitT_mem f _ (fun x hx => h x (List.mem_of_mem_drop hx)) c hc
theorem splitT_length {size : Nat} : ∀ (f : Nat) (D : List Ent), (splitT size f D).length ≤ f
  | 0, D => Nat.zero_le _
  | f + 1, D => by
    unfold splitT
    split
    · exact Nat.zero_le _
    · rw [List.length_cons]
      have := splitT_length (size := size) f (D.drop (cutT size D))
      omega
theorem conv3g (w : World) (g N : Nat) (h : N ≤ 1000000) (r : rowAt w g = some #[.int .u8 ((N : Int) / 65536), .int .u8 ((N : Int) / 256 % 256), .int .u8 ((N : Int) % 256)]) : (convert 54 9 (.slice (some ⟨g, 0, none⟩) 3 3)).run Tryd.prog w = .ok (.string (stx (len3 N))) w := by
  refine run_convert_bytes_back _ _ _ _ ⟨g, 0, none⟩ _ (len3 N) Tryd.underlying54 Tryd.underlying5 Tryd.underlying9 fun j hj => ?_
  have ea : ((UInt8.ofNat (N / 65536)).toNat : Int) = (N : Int) / 65536 := by rw [UInt8.toNat_ofNat', Nat.mod_eq_of_lt (by omega)]; rfl
  have eb : ((UInt8.ofNat (N / 256)).toNat : Int) = (N : Int) / 256 % 256 := by rw [UInt8.toNat_ofNat']; rfl
  have ec : ((UInt8.ofNat N).toNat : Int) = (N : Int) % 256 := by rw [UInt8.toNat_ofNat']; rfl
  have hj3 : j < 3 := hj
  rw [add_lit, Nat.zero_add]
  match j, hj3 with
  | 0, _ => exact (cell_of_rowAt r 0).trans (congrArg (fun y : Int => some (Value.int .u8 y)) ea.symm)
  | 1, _ => exact (cell_of_rowAt r 1).trans (congrArg (fun y : Int => some (Value.int .u8 y)) eb.symm)
  | 2, _ => exact (cell_of_rowAt r 2).trans (congrArg (fun y : Int => some (Value.int .u8 y)) ec.symm)
def lastD' (G : List Grp) : List UInt8 := if G = [] then [] else lastG G
set_option maxRecDepth 100000 in
set_option maxHeartbeats 4000000 in
theorem r10Make_in (v : Value) (l : List Ent) (size : Nat) (w : World) (h : EntsAt w v l) (hs : smallB l) (hks : ∀ x ∈ l, x.key.length ≤ 1000) (hl : l.length ≤ 2048) (hz : 1 ≤ size ∧ size ≤ 16384) : Calls Tryd.prog 9 #[v, .int .i64 size] w fun e w' => e = .returned (MakeTR l size) ∧ Below w.heap.size w w' := by
  obtain ⟨z1, z2⟩ := hz
  have q1 : decide ((size : Int) < 1) = false := decide_eq_false (by omega)
  have q2 : decide ((16384 : Int) < size) = false := decide_eq_false (by omega)
  by_cases h0 : l = []
  · subst h0
    have HR : Hid (MakeTR [] size = .tuple #[.string ⟨#[]⟩, .int .i64 3]) := Lib.hid (by unfold MakeTR makeT; rw [if_neg (by omega), if_pos rfl]; rfl)
    obtain ⟨ao, cap, rfl, _⟩ := h
    clear hs hl z1 z2
    simp only [List.length_nil]
    go_enter Tryd.func9, Tryd.ntmps9
    go_wp2_with fail
    go_ret2
    exact ⟨by rw [HR.out]; rfl, Below.refl _ _⟩
  · have hpos := List.length_pos_iff.2 h0
    have HGR := Lib.hid (r10Groups_any v l size w h hs hl z2)
    have HR : Hid (MakeTR l size = if (layF size l.length l [] []).fail ≠ 0 then .tuple #[.string ⟨#[]⟩, .int .i64 (layF size l.length l [] []).fail] else if 65536 < (indexT (layF size l.length l [] []).grps).length then .tuple #[.string ⟨#[]⟩, .int .i64 2] else if 65536 < (footT (layF size l.length l [] []).text.length (encBl 7 (bloomT l)) l.length (headK l)).length then .tuple #[.string ⟨#[]⟩, .int .i64 2] else .tuple #[.string (stx ((layF size l.length l [] []).text ++ tailT (layF size l.length l [] []).text (layF size l.length l [] []).grps (encBl 7 (bloomT l)) l.length (headK l))), .int .i64 0]) := Lib.hid (by
      unfold MakeTR makeT
      rw [if_neg (by omega), if_neg h0, if_neg (by omega), Int.toNat_natCast]
      simp only
      split
      · rfl
      · split
        · rfl
        · split <;> rfl)
    obtain ⟨RR, hRR⟩ : ∃ RR, layF size l.length l [] [] = RR := ⟨_, rfl⟩
    have H0 : Hid (RR = layF size l.length l [] []) := Lib.hid hRR.symm
    rw [hRR] at HR
    have HCS := Lib.hid (splitT_mem (size := size) (P := fun x => x.key.length ≤ 1000) l.length l hks)
    have HSM := Lib.hid (splitT_mem (size := size) (P := fun x => x.key.length ≤ 1000000 ∧ x.val.length ≤ 1000000) l.length l hs)
    have hcl := splitT_length (size := size) l.length l
    obtain ⟨cs, hcs⟩ : ∃ cs, splitT size l.length l = cs := ⟨_, rfl⟩
    have HC0 := Lib.hid hcs
    rw [hcs] at HGR HCS HSM hcl
    have HFI := Lib.hid (fun w h => r10Filter_any v l w h hs hl)
    have HE := Lib.hid h
    obtain ⟨MR, hMR⟩ : ∃ MR, MakeTR l size = MR := ⟨_, rfl⟩
    rw [hMR] at HR ⊢
    obtain ⟨ao, cap, rfl, hc1, hc2, h3⟩ := id h
    obtain ⟨x0, hx0⟩ : ∃ x0, l[0]? = some x0 := ⟨_, List.getElem?_eq_getElem hpos⟩
    have hk0 : headK l = x0.key := by unfold headK; rw [List.getD_eq_getElem?_getD, hx0]; rfl
    obtain ⟨g, o, rfl, hat⟩ := h3 0 x0 hx0
    rw [Nat.zero_mul, Nat.add_zero] at hat
    rw [hk0] at HR
    have HA := Lib.hid hat
    have HX0 := Lib.hid (hks x0 (List.mem_of_getElem? hx0))
    have HGD := Lib.hid (bloomT_good l hl)
    obtain ⟨n, hn⟩ : ∃ n, l.length = n := ⟨_, rfl⟩
    have HN := Lib.hid hn
    rw [hn] at hpos hl hc1 HR HGR HFI HE hcl ⊢
    obtain ⟨m, hm⟩ : ∃ m, cs.length = m := ⟨_, rfl⟩
    have HM := Lib.hid hm
    rw [hm] at hcl
    have hni : (n : Int) ≤ 2048 := by omega
    have hmi : (m : Int) ≤ 2048 := by omega
    have q3 : (n == 0) = false := by rw [beq_eq_false_iff_ne]; omega
    have q4 : ((n : Int) == 0) = false := by rw [beq_eq_false_iff_ne]; omega
    have q5 : decide ((2048 : Int) < n) = false := decide_eq_false (by omega)
    have HNM := Lib.hid (fun w => r2Number_any m w (by omega))
    clear hcs h h3 hx0 hk0 hat hs hks hRR hn hm hMR h0
    go_enter Tryd.func9, Tryd.ntmps9
    go_wp2_with fail
    refine HGR.out.mono ?_
    rintro e w1 ⟨vg, rfl, og, b1⟩
    have LG := Lib.hid og.lie
    obtain ⟨Ag, cg, rfl⟩ := og.shape
    rw [HM.out] at LG ⊢
    clear HGR og
    go_wp2_with fail
    refine (HNM.out _).mono ?_
    rintro e w2 ⟨rfl, b2⟩
    have b3 := below_past b1 b2 b1.size
    have LG2 := Lib.hid (LG.out.below b2)
    clear HNM b1 b2 LG
    go_wp2_with fail
    have hnb : (numBytes m).length ≤ 9 := numBytes_len m (by omega)
    go_loopw [7, 8, 9, 36] (fun tv xv lv x wr => ∃ (j f : Nat) (D : List Ent) (T X K : List UInt8) (G : List Grp), j ≤ m ∧ x = .int .i64 j ∧ Hid (cs.drop j = splitT size f D) ∧ Hid (RR = layF size f D T G) ∧ Hid (G.length = j) ∧ tv = .string (stx T) ∧ xv = .string (stx X) ∧ lv = .string (stx K) ∧ Hid (X = numBytes m ++ G.flatMap lineT) ∧ Hid (K = lastD' G) ∧ T.length ≤ j * 65544 ∧ X.length ≤ 9 + j * 1100 ∧ K.length ≤ 1000 ∧ Below w2.heap.size w2 wr) (fun _ _ _ x _ => (m - intOf x).toNat)
    case atStart => exact ⟨0, n, l, [], numBytes m, [], [], Nat.zero_le _, rfl, Lib.hid (by rw [List.drop_zero, ← HC0.out, HN.out]), by rw [← HN.out]; exact H0, Lib.hid rfl, rfl, rfl, rfl, Lib.hid (by simp), Lib.hid rfl, Nat.zero_le _, by omega, Nat.zero_le _, Below.refl _ _⟩
    case round =>
      obtain ⟨j, f, D, T, X, K, G, hj, rfl, HD, HL, HGL, rfl, rfl, rfl, HX, HK, hT, hX, hK, b4⟩ := hrel
      clear H0 HC0
      by_cases hlt : j < m
      · have hlt' : (j : Int) < m := by omega
        obtain ⟨c, hcj⟩ : ∃ c, cs[j]? = some c := ⟨_, List.getElem?_eq_getElem (by rw [HM.out]; exact hlt)⟩
        have hcm := List.mem_of_getElem? hcj
        have hdj : c :: cs.drop (j + 1) = splitT size f D := by
          obtain ⟨hil, he⟩ := List.getElem?_eq_some_iff.1 hcj
          rw [← HD.out, List.drop_eq_getElem_cons hil, he]
        obtain ⟨f, rfl, hD0, hcD, hcs2⟩ := splitT_cons hdj.symm
        have HL2 := Lib.hid (HL.out.trans (layF_succ size f D T G hD0))
        rw [← hcD] at HL2
        have HD2 := Lib.hid hcs2
        obtain ⟨Ag', cg', e9, _, _, hls⟩ := LG2.out
        have e10 : Ag = Ag' := by
          simp only [Value.slice.injEq] at e9
          exact e9.1
        obtain ⟨ga, oa, u, e0, hcu, hce⟩ := hls j c hcj
        rw [e0] at e10
        clear hls e9
        subst e10
        have c0 := (b4.cell (p := ⟨ga, oa + j, none⟩) (cellLt hcu)).trans hcu
        have hce4 := hce.below b4
        have hc1 : c ≠ [] := by
          rw [hcD]
          intro e
          have := congrArg List.length e
          rw [List.length_take, List.length_nil] at this
          have := (cutT_range size D).2.1 hD0
          have := List.length_pos_iff.2 hD0
          omega
        have hHK : headK D = headK c := by rw [hcD, headK_take ((cutT_range size D).2.1 hD0)]
        rw [hHK] at HL2
        have HRM := Lib.hid (r9Make_any u c wr hce4 (HSM.out c hcm))
        unfold MakeR at HRM
        have hml := makeR_len c
        have HMZ := Lib.hid (fun e => checkB_head (makeB_zero (l := c) e).1 hc1)
        obtain ⟨mk, hmk⟩ : ∃ mk, makeB c = mk := ⟨_, rfl⟩
        obtain ⟨mt, me⟩ := mk
        rw [hmk] at HRM hml HL2 HMZ
        simp only at HRM hml HL2 HMZ
        obtain ⟨q, hq⟩ : ∃ q, c.length = q + 1 := ⟨c.length - 1, by have := List.length_pos_iff.2 hc1; omega⟩
        obtain ⟨xa, hxa⟩ : ∃ xa, c[0]? = some xa := ⟨_, List.getElem?_eq_getElem (by omega)⟩
        obtain ⟨xb, hxb⟩ : ∃ xb, c[q]? = some xb := ⟨_, List.getElem?_eq_getElem (by omega)⟩
        have hka : headK c = xa.key := by unfold headK; rw [List.getD_eq_getElem?_getD, hxa]; rfl
        have hkb : lastK c = xb.key := by unfold lastK; rw [hq, Nat.add_sub_cancel, List.getD_eq_getElem?_getD, hxb]; rfl
        rw [hka] at HL2 HMZ
        rw [hkb] at HL2
        have hkbl := HCS.out c hcm xb (List.mem_of_getElem? hxb)
        obtain ⟨Au, cu, rfl, hu1, hu2, hu3⟩ := hce4
        obtain ⟨gu, ou, rfl, hata⟩ := hu3 0 xa hxa
        obtain ⟨gb, ob, e5, hatb⟩ := hu3 q xb hxb
        obtain ⟨rfl, rfl⟩ : gu = gb ∧ ou = ob := by simpa using e5
        rw [Nat.zero_mul, Nat.add_zero] at hata
        rw [hq] at hu1 c0 HRM
        unfold maxLen at hu2
        have hu4 : (q : Int) + 1 ≤ cu := by omega
        have hu5 : (cu : Int) ≤ 9223372036854775807 := by omega
        have HATA := Lib.hid hata.1
        have HATB := Lib.hid hatb.1
        clear hdj hcD hcs2 HD HL hcu hce hc1 hHK hmk hxa hxb hka hkb hu3 hata hatb hcj hq hcm
        go_wp2_with fail
        refine HRM.out.mono ?_
        rintro e w3 ⟨rfl, b5⟩
        have b6 := below_past b4 b5 b4.size
        have z0 := (b5.cell (p := ⟨gu, ou, none⟩) (cellLt HATA.out)).trans HATA.out
        have z1 := (b5.cell (p := ⟨gu, ou + q * 3, none⟩) (cellLt HATB.out)).trans HATB.out
        clear HRM c0 HATA HATB b5 b4
        by_cases hme : me = 0
        · subst hme
          have hlx := HMZ.out rfl
          have HL3 := Lib.hid (HL2.out.trans (if_neg (fun e => e rfl)))
          have hle := leqE xa.key K
          clear HL2 HMZ
          by_cases hK2 : K < xa.key
          · rw [decide_eq_true hK2] at hle
            rw [Bool.not_true, Bool.or_eq_false_iff] at hle
            obtain ⟨l1, l2⟩ := hle
            have hnf : ¬ (G ≠ [] ∧ ¬ lastG G < xa.key) := fun e => by
              have hk := HK.out
              unfold lastD' at hk
              rw [if_neg e.1] at hk
              rw [← hk] at e
              exact e.2 hK2
            have HL4 := Lib.hid (HL3.out.trans (if_neg hnf))
            have HG2 : Hid ((G ++ [(⟨T.length, xb.key⟩ : Grp)]).length = j + 1) := Lib.hid (by rw [List.length_append, HGL.out]; rfl)
            have HX2 : Hid (X ++ (numBytes T.length ++ (numBytes xb.key.length ++ xb.key)) = numBytes m ++ (G ++ [(⟨T.length, xb.key⟩ : Grp)]).flatMap lineT) := Lib.hid (by
              rw [HX.out, List.flatMap_append]
              simp [lineT])
            have HK2 : Hid (xb.key = lastD' (G ++ [(⟨T.length, xb.key⟩ : Grp)])) := Lib.hid (by
              unfold lastD'
              rw [if_neg (by simp), lastG_put])
            obtain ⟨tn, htn⟩ : ∃ tn, T.length = tn := ⟨_, rfl⟩
            have hts : (stx T).size = tn := by rw [stx_size, htn]
            have hms : (stx mt).size ≤ 65544 := by rw [stx_size]; exact hml
            have hnb1 := numBytes_len tn (by omega)
            have hnb2 := numBytes_len xb.key.length (by omega)
            have HT2 : Hid ((T ++ mt).length ≤ (j + 1) * 65544) := Lib.hid (by rw [List.length_append]; omega)
            rw [htn] at HX2 HK2 HL4 HG2
            have HXL : Hid ((X ++ (numBytes tn ++ (numBytes xb.key.length ++ xb.key))).length ≤ 9 + (j + 1) * 1100) := Lib.hid (by
              rw [List.length_append, List.length_append, List.length_append]; omega)
            have HN1 := Lib.hid (fun w => r2Number_any tn w (by omega))
            have HT1 := Lib.hid (fun w => r2Text_any (stx xb.key) w (by rw [stx_size]; omega))
            have HAD : Hid (stx X ++ (txt (numBytes tn) ++ txt (numBytes (stx xb.key).size ++ (stx xb.key).data.toList)) = stx (X ++ (numBytes tn ++ (numBytes xb.key.length ++ xb.key)))) := Lib.hid (by
              rw [txt_append, stx_size]
              exact stx_append _ _)
            have HAT : Hid (stx T ++ stx mt = stx (T ++ mt)) := Lib.hid (stx_append _ _)
            have hs1 : (txt (numBytes tn)).size ≤ 9 := by rw [txt_size]; exact hnb1
            have hs2 : (txt (numBytes (stx xb.key).size ++ (stx xb.key).data.toList)).size ≤ 1009 := by
              rw [txt_size, stx_size]
              show (numBytes xb.key.length ++ xb.key).length ≤ 1009
              rw [List.length_append]
              omega
            have hsX : (stx X).size ≤ 3000000 := by rw [stx_size]; omega
            have hts9 : tn ≤ 140000000 := by omega
            generalize txt (numBytes (stx xb.key).size ++ (stx xb.key).data.toList) = S2 at *
            generalize txt (numBytes tn) = S1 at *
            obtain ⟨n1, hn1⟩ : ∃ n1, S1.size = n1 := ⟨_, rfl⟩
            obtain ⟨n2, hn2⟩ : ∃ n2, S2.size = n2 := ⟨_, rfl⟩
            obtain ⟨nX, hnX⟩ : ∃ nX, (stx X).size = nX := ⟨_, rfl⟩
            obtain ⟨nm, hnm⟩ : ∃ nm, (stx mt).size = nm := ⟨_, rfl⟩
            have r1 : (n1 : Int) ≤ 9 := by omega
            have r2 : (n2 : Int) ≤ 1009 := by omega
            have r3 : (nX : Int) ≤ 3000000 := by omega
            have r4 : (nm : Int) ≤ 65544 := by omega
            have r5 : (tn : Int) ≤ 140000000 := by omega
            have HKL := Lib.hid hkbl
            clear HL3 hK2 hnf hlx hnb1 hnb2 hs1 hs2 hsX hms htn hml hT hX hK HX HK HGL hkbl
            go_wp2_with fail
            refine (HN1.out _).mono ?_
            rintro e w4 ⟨rfl, b7⟩
            have b8 := below_past b6 b7 b6.size
            clear HN1 b6 b7
            go_wp2_with fail
            refine (HT1.out _).mono ?_
            rintro e w5 ⟨rfl, b7⟩
            have b9 := below_past b8 b7 b8.size
            clear HT1 b8 b7 z0 z1
            go_wp2_with fail
            exact ⟨⟨j + 1, f, _, T ++ mt, X ++ (numBytes tn ++ (numBytes xb.key.length ++ xb.key)), xb.key, G ++ [⟨tn, xb.key⟩], hlt, by go_num, HD2, HL4, HG2, by rw [← HAT.out], by rw [← HAD.out], rfl, HX2, HK2, HT2.out, HXL.out, HKL.out, b9⟩, by simp [intOf]; omega⟩
          · rw [decide_eq_false hK2] at hle
            have hG : G ≠ [] := fun e => hK2 (by
              have hk := HK.out
              unfold lastD' at hk
              rw [if_pos e] at hk
              rw [hk]
              exact hlx)
            have hk := HK.out
            unfold lastD' at hk
            rw [if_neg hG] at hk
            have hRR := HL3.out.trans (if_pos ⟨hG, by rw [← hk]; exact hK2⟩)
            have HF : Hid (MR = .tuple #[.string ⟨#[]⟩, .int .i64 3]) := Lib.hid (by
              rw [HR.out, hRR]
              rfl)
            clear HL3 hRR hk hG hlx hK2
            have hle2 : Go.Op.bytesLess xa.key K = true ∨ (xa.key == K) = true := by
              rw [Bool.not_false, Bool.or_eq_true] at hle
              exact hle
            clear hle
            rcases hle2 with l1 | l1
            · go_wp2_with fail
              go_ret2
              exact ⟨by rw [HF.out]; rfl, below_past b3 b6 b3.size⟩
            · go_wp2_with fail
              go_ret2
              exact ⟨by rw [HF.out]; rfl, below_past b3 b6 b3.size⟩
        · have hRR := HL2.out.trans (if_pos hme)
          have HF : Hid (MR = .tuple #[.string ⟨#[]⟩, .int .i64 me]) := Lib.hid (by
            rw [HR.out, hRR]
            simp only
            rw [if_pos hme])
          have p1 : ((me : Int) != 0) = true := by rw [bne_iff_ne]; omega
          have p2 : (me != 0) = true := by rw [bne_iff_ne]; exact hme
          clear HL2 hRR HMZ
          go_wp2_with fail
          go_ret2
          exact ⟨by rw [HF.out]; rfl, below_past b3 b6 b3.size⟩
      · obtain rfl : j = m := by omega
        have hnil : cs.drop j = [] := List.drop_of_length_le (by rw [HM.out]; exact Nat.le_refl _)
        have hRR : RR = ⟨0, T, G⟩ := by
          have := HD.out
          rw [hnil] at this
          rw [HL.out, splitT_end this.symm]
        subst hRR
        have hix : X = indexT G := by rw [HX.out, ← HGL.out]; rfl
        subst hix
        clear HD HL HGL HX HK hnil LG2
        have b5 := below_past b3 b4 b3.size
        have HR2 : Hid (MR = if 65536 < (indexT G).length then .tuple #[.string ⟨#[]⟩, .int .i64 2] else if 65536 < (footT T.length (encBl 7 (bloomT l)) n x0.key).length then .tuple #[.string ⟨#[]⟩, .int .i64 2] else .tuple #[.string (stx (T ++ tailT T G (encBl 7 (bloomT l)) n x0.key)), .int .i64 0]) := Lib.hid (HR.out.trans (if_neg (fun e => e rfl)))
        have hgd := of_decide_eq_true HGD.out
        have hel := enc_len 7 (bloomT l) (by decide) (by omega)
        obtain ⟨KB, hKB⟩ : ∃ KB, encBl 7 (bloomT l) = KB := ⟨_, rfl⟩
        rw [hKB] at HR2 hel HFI
        obtain ⟨tn, htn⟩ : ∃ tn, T.length = tn := ⟨_, rfl⟩
        have hts : (stx T).size = tn := by rw [stx_size, htn]
        have hkl := HX0.out
        have HF5 := Lib.hid (fun y (hy : Below wr.heap.size wr y) => HFI.out y (HE.out.below (below_past b5 hy b5.size)))
        have HN1 := Lib.hid (fun w => r2Number_any tn w (by omega))
        have HT2 := Lib.hid (fun w => r2Text_any (stx KB) w (by rw [stx_size]; omega))
        have HN3 := Lib.hid (fun w => r2Number_any n w (by omega))
        have HT4 := Lib.hid (fun w => r2Text_any (stx x0.key) w (by rw [stx_size]; omega))
        have hft : footT T.length KB n x0.key = numBytes tn ++ (numBytes KB.length ++ KB) ++ numBytes n ++ (numBytes x0.key.length ++ x0.key) := by rw [htn]; rfl
        have HAD : Hid (txt (numBytes tn) ++ txt (numBytes (stx KB).size ++ (stx KB).data.toList) ++ txt (numBytes n) ++ txt (numBytes (stx x0.key).size ++ (stx x0.key).data.toList) = stx (footT T.length KB n x0.key)) := Lib.hid (by
          rw [hft, stx_size, stx_size, txt_append, txt_append, txt_append])
        have hs1 : (txt (numBytes tn)).size ≤ 9 := by rw [txt_size]; exact numBytes_len tn (by omega)
        have hs3 : (txt (numBytes n)).size ≤ 9 := by rw [txt_size]; exact numBytes_len n (by omega)
        have hs2 : (txt (numBytes (stx KB).size ++ (stx KB).data.toList)).size ≤ 9000 := by
          rw [txt_size, stx_size]
          have := numBytes_len KB.length (by omega)
          show (numBytes KB.length ++ KB).length ≤ 9000
          rw [List.length_append]
          omega
        have hs4 : (txt (numBytes (stx x0.key).size ++ (stx x0.key).data.toList)).size ≤ 1009 := by
          rw [txt_size, stx_size]
          have := numBytes_len x0.key.length (by omega)
          show (numBytes x0.key.length ++ x0.key).length ≤ 1009
          rw [List.length_append]
          omega
        have hfl : (footT T.length KB n x0.key).length ≤ 11000 := by
          have e := congrArg ByteArray.size HAD.out
          have e2 := stx_size (footT T.length KB n x0.key)
          rw [ByteArray.size_append, ByteArray.size_append, ByteArray.size_append] at e
          omega
        obtain ⟨FT, hFT⟩ : ∃ FT, footT T.length KB n x0.key = FT := ⟨_, rfl⟩
        unfold tailT at HR2
        rw [hFT] at HR2 HAD hfl
        generalize txt (numBytes (stx x0.key).size ++ (stx x0.key).data.toList) = S4 at *
        generalize txt (numBytes (stx KB).size ++ (stx KB).data.toList) = S2 at *
        generalize txt (numBytes tn) = S1 at *
        generalize txt (numBytes n) = S3 at *
        obtain ⟨n1, hn1⟩ : ∃ n1, S1.size = n1 := ⟨_, rfl⟩
        obtain ⟨n2, hn2⟩ : ∃ n2, S2.size = n2 := ⟨_, rfl⟩
        obtain ⟨n3, hn3⟩ : ∃ n3, S3.size = n3 := ⟨_, rfl⟩
        obtain ⟨n4, hn4⟩ : ∃ n4, S4.size = n4 := ⟨_, rfl⟩
        have r1 : (n1 : Int) ≤ 9 := by omega
        have r2 : (n2 : Int) ≤ 9000 := by omega
        have r3 : (n3 : Int) ≤ 9 := by omega
        have r4 : (n4 : Int) ≤ 1009 := by omega
        have r5 : (tn : Int) ≤ 140000000 := by omega
        have hp0 : (0 : Int) < n := by omega
        have hat := (HA.out.below b5).1
        have y0 := fun y : Past wr => (y.h.cell (p := ⟨g, o, none⟩) (cellLt hat)).trans hat
        have HIL := Lib.hid hX
        clear hs1 hs2 hs3 hs4 hft hFT hKB hat hgd hel hkl b4 hT hX hK HFI
        go_wp2_with fail
        go_upto_region 21 with fail
        refine wp_region_wildL [] 18 (by kernel_rfl) (by kernel_rfl) ?_
        simp only [List.take_succ_cons, List.take_zero]
        iterate 1 (refine wildL_val (by decide) (by kernel_rfl) rfl ?_; intro K hK; go_big_quiet_op; go_big_quiet_on)
        refine wildL_call (by decide) (by kernel_rfl) (by kernel_rfl) ?_
        apply Exists.intro
        refine And.intro ?_ ?_
        focus
          intro x K hK
          go_big_quiet_op
          go_big_quiet_on
          rfl
        refine wildL_call (by decide) (by kernel_rfl) (by kernel_rfl) ?_
        apply Exists.intro
        refine And.intro ?_ ?_
        focus
          intro x K hK
          go_big_quiet_op
          go_big_quiet_call (exact call_back (HN1.out _))
          rfl
        iterate 1 (refine wildL_val (by decide) (by kernel_rfl) rfl ?_; intro K hK; go_big_quiet_op; go_big_quiet_on)
        refine wildL_call (by decide) (by kernel_rfl) (by kernel_rfl) ?_
        apply Exists.intro
        refine And.intro ?_ ?_
        focus
          intro x K hK
          go_big_quiet_op
          go_big_quiet_call (exact call_back (HF5.out _ (Past.two _)))
          rfl
        refine wildL_call (by decide) (by kernel_rfl) (by kernel_rfl) ?_
        apply Exists.intro
        refine And.intro ?_ ?_
        focus
          intro x K hK
          go_big_quiet_op
          go_big_quiet_call (exact call_back (HT2.out _))
          rfl
        iterate 2 (refine wildL_val (by decide) (by kernel_rfl) rfl ?_; intro K hK; go_big_quiet_op; go_big_quiet_on)
        refine wildL_call (by decide) (by kernel_rfl) (by kernel_rfl) ?_
        apply Exists.intro
        refine And.intro ?_ ?_
        focus
          intro x K hK
          go_big_quiet_op
          go_big_quiet_on
          rfl
        refine wildL_call (by decide) (by kernel_rfl) (by kernel_rfl) ?_
        apply Exists.intro
        refine And.intro ?_ ?_
        focus
          intro x K hK
          go_big_quiet_op
          go_big_quiet_call (exact call_back (HN3.out _))
          rfl
        iterate 5 (refine wildL_val (by decide) (by kernel_rfl) rfl ?_; intro K hK; go_big_quiet_op; go_big_quiet_on)
        refine wildL_call (by decide) (by kernel_rfl) (by kernel_rfl) ?_
        apply Exists.intro
        refine And.intro ?_ ?_
        focus
          intro x K hK
          go_big_quiet_op
          go_big_quiet_call (exact call_back (HT4.out _))
          rfl
        iterate 2 (refine wildL_val (by decide) (by kernel_rfl) rfl ?_; intro K hK; go_big_quiet_op; go_big_quiet_on)
        refine wildL_nil ?_
        simp only [List.drop_succ_cons, List.drop_nil]
        rintro ⟨z, hz⟩
        dsimp only
        rw [HAD.out]
        have b6 := below_past b5 hz b5.size
        clear hz y0 HF5 HN1 HT2 HN3 HT4 b5
        have hfs : (stx FT).size = FT.length := stx_size FT
        obtain ⟨fl, hflv⟩ : ∃ fl, FT.length = fl := ⟨_, rfl⟩
        rw [hflv] at HR2 hfl hfs
        obtain ⟨il, hilv⟩ : ∃ il, (indexT G).length = il := ⟨_, rfl⟩
        have his : (stx (indexT G)).size = il := by rw [stx_size, hilv]
        rw [hilv] at HR2
        have k2 : decide ((65536 : Int) < fl) = false := decide_eq_false (by omega)
        by_cases hi : il ≤ 65536
        · have HR3 := Lib.hid (HR2.out.trans ((if_neg (by omega)).trans (if_neg (by omega))))
          have k1 : decide ((65536 : Int) < il) = false := decide_eq_false (by omega)
          have HW1 := Lib.hid (fun w => r4Wrap_any (stx FT) w (by rw [hfs]; omega))
          have HW2 := Lib.hid (fun w => r4Wrap_any (stx (indexT G)) w (by rw [his]; omega))
          rw [show (stx FT).data.toList = FT from rfl] at HW1
          rw [show (stx (indexT G)).data.toList = indexT G from rfl] at HW2
          have hff : (frame FT).length ≤ 65544 := by rw [frame_length]; omega
          have hfi : (frame (indexT G)).length ≤ 65544 := by rw [frame_length]; omega
          obtain ⟨FF, hFF⟩ : ∃ FF, frame FT = FF := ⟨_, rfl⟩
          obtain ⟨FI, hFI⟩ : ∃ FI, frame (indexT G) = FI := ⟨_, rfl⟩
          rw [hFF] at HW1 HR3 hff
          rw [hFI] at HW2 HR3 hfi
          obtain ⟨N, hN⟩ : ∃ N, FF.length = N := ⟨_, rfl⟩
          obtain ⟨M, hM⟩ : ∃ M, FI.length = M := ⟨_, rfl⟩
          have s3 : (stx FF).size = N := by rw [stx_size, hN]
          have s2 : (stx FI).size = M := by rw [stx_size, hM]
          have hN9 : (N : Int) ≤ 65544 := by omega
          have hM9 : (M : Int) ≤ 65544 := by omega
          have s4 : (stx (len3 N)).size = 3 := by rw [stx_size]; rfl
          rw [hN] at HR3
          have HAD2 : Hid (stx T ++ stx FI ++ stx FF ++ stx (len3 N) = stx (T ++ (FI ++ FF ++ len3 N))) := Lib.hid (by rw [stx_append, stx_append, stx_append]; simp)
          clear HR2 hff hfi hFF hFI hN hM hfl hflv hilv HAD HIL
          go_wp2_with fail
          refine (HW1.out _).mono ?_
          rintro e w5 ⟨rfl, b7⟩
          have b8 := below_past b6 b7 b6.size
          clear HW1 b6 b7
          go_upto_region 25 with fail
          refine wp_region_wildM [17] [0, 1, 2, 3, 4, 5, 6, 7, 8, 9, 10, 11, 12, 13, 14, 15, 16, 21, 17, 18, 19, 20] (by kernel_rfl) (by kernel_rfl) ?_
          simp only [pickO, List.getElem?_cons_zero, List.getElem?_cons_succ]
          iterate 2 (refine wildO_val (by decide) (by kernel_rfl) rfl ?_; intro K hK; go_big_quiet_op; go_big_quiet_on)
          refine wildO_call (by decide) (by kernel_rfl) (by kernel_rfl) ?_
          apply Exists.intro
          refine And.intro ?_ ?_
          focus
            intro x K hK
            go_big_quiet_op
            go_big_quiet_call (exact call_back (HW2.out _))
            rfl
          iterate 4 (refine wildO_val (by decide) (by kernel_rfl) rfl ?_; intro K hK; go_big_quiet_op; go_big_quiet_on)
          refine wildO_call (by decide) (by kernel_rfl) (by kernel_rfl) ?_
          apply Exists.intro
          refine And.intro ?_ ?_
          focus
            intro x K hK
            go_big_quiet_op
            go_big_quiet_on
            rfl
          iterate 3 (refine wildO_val (by decide) (by kernel_rfl) rfl ?_; intro K hK; go_big_quiet_op; go_big_quiet_on)
          refine wildO_call (by decide) (by kernel_rfl) (by kernel_rfl) ?_
          apply Exists.intro
          refine And.intro ?_ ?_
          focus
            intro x K hK
            go_big_quiet_op
            go_big_quiet_on
            rfl
          iterate 3 (refine wildO_val (by decide) (by kernel_rfl) rfl ?_; intro K hK; go_big_quiet_op; go_big_quiet_on)
          refine wildO_call (by decide) (by kernel_rfl) (by kernel_rfl) ?_
          apply Exists.intro
          refine And.intro ?_ ?_
          focus
            intro x K hK
            go_big_quiet_op
            go_big_quiet_on
            rfl
          iterate 2 (refine wildO_val (by decide) (by kernel_rfl) rfl ?_; intro K hK; go_big_quiet_op; go_big_quiet_on)
          refine wildO_wild (by decide) (by kernel_rfl) ?_
          intro x K hK
          unfold wildAt
          go_simp
          have bz : Below x.w.heap.size x.w (x.w.alloc (.cells #[.int .u8 ((N : Int) / 65536), .int .u8 ((N : Int) / 256 % 256), .int .u8 ((N : Int) % 256)] 5)) := (Below.refl _ _).alloc (Nat.le_refl _) _
          have rz := rowAt_alloc_at x.w #[.int .u8 ((N : Int) / 65536), .int .u8 ((N : Int) / 256 % 256), .int .u8 ((N : Int) % 256)] 5 _ rfl
          refine ⟨bz, hK _ _ ?_⟩
          simp only [Act.put, List.setIfInBounds_toArray, List.set_cons_succ, List.set_cons_zero]
          have hbx := Below.step x.h bz
          clear hK
          generalize (x.w.alloc (.cells #[.int .u8 ((N : Int) / 65536), .int .u8 ((N : Int) / 256 % 256), .int .u8 ((N : Int) % 256)] 5)) = W6 at *
          generalize x.w.heap.size = C6 at *
          have HCV : ∀ y : Past W6, (convert 54 9 (.slice (some ⟨C6, 0, none⟩) 3 3)).run Tryd.prog y.w = .ok (.string (stx (len3 N))) y.w := fun y => conv3g y.w C6 N (by omega) (rowAt_past y.h rz)
          iterate 3 (refine wildO_val (by decide) (by kernel_rfl) rfl ?_; intro K hK; go_big_quiet_op; go_big_quiet_on)
          refine wildO_nil ?_
          rintro ⟨z2, hz⟩
          dsimp only
          rw [HAD2.out]
          have b9 := below_past b8 (Below.step hbx hz) b8.size
          clear hz HCV HW2 hbx bz rz
          go_wp2_with fail
          go_ret2
          exact ⟨by rw [HR3.out]; rfl, b9⟩
        · have HR3 := Lib.hid (HR2.out.trans (if_pos (by omega)))
          have k1 : decide ((65536 : Int) < il) = true := decide_eq_true (by omega)
          clear HR2 hfl hflv hilv HAD HIL
          go_wp2_with fail
          go_ret2
          exact ⟨by rw [HR3.out]; rfl, b6⟩
set_option maxRecDepth 100000 in
set_option maxHeartbeats 1000000 in
theorem r10Make_out (v : Value) (l : List Ent) (size : Int) (w : World) (hz : size < 1 ∨ 16384 < size) : Calls Tryd.prog 9 #[v, .int .i64 size] w fun e w' => e = .returned (MakeTR l size) ∧ Below w.heap.size w w' := by
  have HR : Hid (MakeTR l size = .tuple #[.string ⟨#[]⟩, .int .i64 1]) := Lib.hid (by unfold MakeTR makeT; rw [if_pos hz]; rfl)
  by_cases h1 : size < 1
  · have q1 : decide (size < 1) = true := decide_eq_true h1
    clear hz h1
    go_enter Tryd.func9, Tryd.ntmps9
    go_wp2_with fail
    go_ret2
    exact ⟨by rw [HR.out]; rfl, Below.refl _ _⟩
  · have q1 : decide (size < 1) = false := decide_eq_false h1
    have q2 : decide (16384 < size) = true := decide_eq_true (by omega)
    clear hz h1
    go_enter Tryd.func9, Tryd.ntmps9
    go_wp2_with fail
    go_ret2
    exact ⟨by rw [HR.out]; rfl, Below.refl _ _⟩
theorem r10Make_any (v : Value) (l : List Ent) (size : Int) (w : World) (h : EntsAt w v l) (hs : smallB l) (hks : ∀ x ∈ l, x.key.length ≤ 1000) (hl : l.length ≤ 2048) : Calls Tryd.prog 9 #[v, .int .i64 size] w fun e w' => e = .returned (MakeTR l size) ∧ Below w.heap.size w w' := by
  by_cases hz : size < 1 ∨ 16384 < size
  · exact r10Make_out v l size w hz
  · obtain ⟨n, rfl⟩ : ∃ n : Nat, size = n := ⟨size.toNat, by omega⟩
    exact r10Make_in v l n w h hs hks hl (by omega)
end Go.Proofs.YtgegipijappfhaaDoor
namespace Go.Proofs.YtgegipijappfhaaDoor
open Go Go.RowKit Go.ChangeShapes Go.WideShapes Go.Deep

/-- Lists of entries that came in. -/
def InEntss (w : World) (v : Value) (ls : List (List Ent)) : Prop :=
  ∃ ao cap, v = .slice ao ls.length cap ∧ ls.length ≤ cap ∧ cap ≤ maxLen ∧ ∀ i l, ls[i]? = some l → ∃ (a : Addr) (u : Value), ao = some a ∧ w.cell? (a.add i) = some u ∧ InEnts w u l
theorem InEntss.below {w w' : World} {v : Value} {ls : List (List Ent)} (h : InEntss w v ls) (k : Below w.heap.size w w') : InEntss w' v ls := by
  obtain ⟨ao, cap, h1, h2, h3, h4⟩ := h
  refine ⟨ao, cap, h1, h2, h3, fun i x hi => ?_⟩
  obtain ⟨a, u, h5, h6, h7⟩ := h4 i x hi
  exact ⟨a, u, h5, (k.cell (p := a.add i) (cellLt h6)).trans h6, h7.below k⟩
section
variable {P : Program} {H : Type} {enc : TypeId × Value → H} {W : World} {sp : Nat → Bool} {held : Bool} {base : TypeId}
/-- One entry, opened. -/
theorem ent_of {t ts tb : TypeId} {f0 f1 f2 : Field} (hs : P.underlying t = some (.struct #[f0, f1, f2])) (ct : P.cellsOf t = 3)
    (t0 : f0.type = ts) (t1 : f1.type = ts) (t2 : f2.type = tb) (o0 : f0.offset = 0) (o1 : f1.offset = 1) (o2 : f2.offset = 2)
    (hss : P.underlying ts = some .string) (cs1 : P.cellsOf ts = 1) (hb : P.underlying tb = some .bool) (cb : P.cellsOf tb = 1)
    {fuel : Nat} {cs : List Value} {x : DataW H × List MemPlace} (hf : DataW.trod enc P W 0 sp held fuel t cs = some x) :
    ∃ y : Ent, cs = entC y ∧ y.key.length ≤ maxLen ∧ y.val.length ≤ maxLen := by
  obtain ⟨xs, n, _, _, hl, hn, hfs⟩ := DataW.trod_struct hs hf
  rw [ct] at hl
  match cs, hl with
  | [c0, c1, c2], _ =>
    have hx : xs.length = 3 := hn
    have g0 := hfs 0 f0 rfl
    have g1 := hfs 1 f1 rfl
    have g2 := hfs 2 f2 rfl
    rw [List.getElem?_eq_getElem (by omega)] at g0 g1 g2
    rw [t0, o0, cs1] at g0
    rw [t1, o1, cs1] at g1
    rw [t2, o2, cb] at g2
    obtain ⟨s0, e0, _, w0⟩ := DataW.trod_string hss g0
    obtain ⟨s1, e1, _, w1⟩ := DataW.trod_string hss g1
    obtain ⟨b, e2, _⟩ := DataW.trod_bool hb g2
    simp only [List.drop_zero, List.drop_succ_cons, List.take_succ_cons, List.take_zero, List.cons.injEq, and_true] at e0 e1 e2
    subst e0 e1 e2
    exact ⟨⟨s0.data.toList, s1.data.toList, b⟩, rfl, w0, w1⟩
theorem cells_three {a : Addr} {i : Nat} {cs : List Value} {x : Ent} (h : W.cells? 0 (a.add (i * 3)) 3 = some cs) (e : cs = entC x) :
    W.cell? (a.add (i * 3)) = some (.string (stx x.key)) ∧ W.cell? (a.add (i * 3 + 1)) = some (.string (stx x.val)) ∧ W.cell? (a.add (i * 3 + 2)) = some (.bool x.gone) := by
  obtain ⟨_, _, hat⟩ := World.cells?_some h
  subst e
  have h0 := hat 0 (by decide)
  have h1 := hat 1 (by decide)
  have h2 := hat 2 (by decide)
  rw [add_twoE] at h0 h1 h2
  exact ⟨h0, h1, h2⟩
theorem ents_of {tt t ts tb : TypeId} {f0 f1 f2 : Field} (hu : P.underlying tt = some (.slice t)) (hs : P.underlying t = some (.struct #[f0, f1, f2])) (ct : P.cellsOf t = 3)
    (t0 : f0.type = ts) (t1 : f1.type = ts) (t2 : f2.type = tb) (o0 : f0.offset = 0) (o1 : f1.offset = 1) (o2 : f2.offset = 2)
    (hss : P.underlying ts = some .string) (cs1 : P.cellsOf ts = 1) (hb : P.underlying tb = some .bool) (cb : P.cellsOf tb = 1)
    {fuel : Nat} {cs : List Value} {x : DataW H × List MemPlace} (hf : DataW.trod enc P W 0 sp held fuel tt cs = some x) :
    ∃ (v : Value) (es : List Ent), cs = [v] ∧ InEnts W v es ∧ ∀ y ∈ es, y.key.length ≤ maxLen ∧ y.val.length ≤ maxLen := by
  rcases open_slice hu hf with ⟨h, _⟩ | ⟨a, len, cap, m, n, D, Pl, hcs, _, hl, hm, hmm, _, hx⟩
  · exact ⟨_, [], h, ⟨none, 0, rfl, Nat.le_refl _, Nat.zero_le _, fun i y hy => by simp at hy⟩, fun y hy => by cases hy⟩
  · have hlm : len ≤ m := by rw [hmm]; split <;> omega
    rw [ct] at hx
    have key : ∀ i, ∃ y : Ent, i < len → (W.cell? (a.add (i * 3)) = some (.string (stx y.key)) ∧ W.cell? (a.add (i * 3 + 1)) = some (.string (stx y.val)) ∧ W.cell? (a.add (i * 3 + 2)) = some (.bool y.gone)) ∧ y.key.length ≤ maxLen ∧ y.val.length ≤ maxLen := fun i => by
      by_cases hi : i < len
      · obtain ⟨cs', h1, h2⟩ := hx i (by omega)
        obtain ⟨y, e, h3⟩ := ent_of hs ct t0 t1 t2 o0 o1 o2 hss cs1 hb cb h2
        exact ⟨y, fun _ => ⟨cells_three h1 e, h3⟩⟩
      · exact ⟨⟨[], [], false⟩, fun h => absurd h hi⟩
    obtain ⟨E, hE⟩ := Classical.axiomOfChoice key
    refine ⟨_, (List.range len).map E, hcs, ⟨some a, cap, by simp, by simpa using hl, hm, fun i y hy => ?_⟩, fun y hy => ?_⟩
    · rw [List.getElem?_map] at hy
      have hi : i < len := by
        rcases Nat.lt_or_ge i len with h | h
        · exact h
        · rw [List.getElem?_eq_none (by simpa using h)] at hy
          cases hy
      rw [List.getElem?_range hi] at hy
      obtain rfl : E i = y := by simpa using hy
      exact ⟨a, rfl, (hE i hi).1⟩
    · obtain ⟨i, hi, rfl⟩ := List.mem_map.1 hy
      exact (hE i (List.mem_range.1 hi)).2
theorem in_ents_of {tt t ts tb : TypeId} {f0 f1 f2 : Field} {v : Value} {d : DataW H} {p : List MemPlace} (hu : P.underlying tt = some (.slice t)) (hs : P.underlying t = some (.struct #[f0, f1, f2])) (ct : P.cellsOf t = 3)
    (t0 : f0.type = ts) (t1 : f1.type = ts) (t2 : f2.type = tb) (o0 : f0.offset = 0) (o1 : f1.offset = 1) (o2 : f2.offset = 2)
    (hss : P.underlying ts = some .string) (cs1 : P.cellsOf ts = 1) (hb : P.underlying tb = some .bool) (cb : P.cellsOf tb = 1)
    (hval : Value.okWide P W .any base tt v) (hd : DataW.Trod enc P W 0 sp held tt v d p) : ∃ es : List Ent, InEnts W v es ∧ ∀ y ∈ es, y.key.length ≤ maxLen ∧ y.val.length ≤ maxLen := by
  obtain ⟨ao, len, cap, rfl⟩ := okWide_slice hu hval
  obtain ⟨fuel, hf⟩ := hd
  obtain ⟨v', es, e, h⟩ := ents_of hu hs ct t0 t1 t2 o0 o1 o2 hss cs1 hb cb hf
  obtain rfl : Value.slice ao len cap = v' := by simpa [Value.cells] using e
  exact ⟨es, h⟩
theorem in_entss_of {tl tt t ts tb : TypeId} {f0 f1 f2 : Field} {v : Value} {d : DataW H} {p : List MemPlace} (hl0 : P.underlying tl = some (.slice tt)) (ctt : P.cellsOf tt = 1) (hu : P.underlying tt = some (.slice t)) (hs : P.underlying t = some (.struct #[f0, f1, f2])) (ct : P.cellsOf t = 3)
    (t0 : f0.type = ts) (t1 : f1.type = ts) (t2 : f2.type = tb) (o0 : f0.offset = 0) (o1 : f1.offset = 1) (o2 : f2.offset = 2)
    (hss : P.underlying ts = some .string) (cs1 : P.cellsOf ts = 1) (hb : P.underlying tb = some .bool) (cb : P.cellsOf tb = 1)
    (hval : Value.okWide P W .any base tl v) (hd : DataW.Trod enc P W 0 sp held tl v d p) : ∃ ls : List (List Ent), InEntss W v ls := by
  obtain ⟨ao, len, cap, rfl⟩ := okWide_slice hl0 hval
  obtain ⟨fuel, hf⟩ := hd
  rcases open_slice hl0 hf with ⟨h, _⟩ | ⟨a, len', cap', m, n, D, Pl, hcs, _, hl, hm, hmm, _, hx⟩
  · have hc : ao = none ∧ len = 0 ∧ cap = 0 := by simpa [Value.cells] using h
    obtain ⟨rfl, rfl, rfl⟩ := hc
    exact ⟨[], none, 0, rfl, Nat.le_refl _, Nat.zero_le _, fun i y hy => by simp at hy⟩
  · have hc : (ao = some a ∧ len = len' ∧ cap = cap') := by simpa [Value.cells] using hcs
    obtain ⟨rfl, rfl, rfl⟩ := hc
    have hlm : len ≤ m := by rw [hmm]; split <;> omega
    rw [ctt] at hx
    have key : ∀ i, ∃ l : List Ent, i < len → ∃ u, W.cell? (a.add i) = some u ∧ InEnts W u l := fun i => by
      by_cases hi : i < len
      · obtain ⟨cs', h1, h2⟩ := hx i (by omega)
        obtain ⟨u, l, e, h3, _⟩ := ents_of hu hs ct t0 t1 t2 o0 o1 o2 hss cs1 hb cb h2
        subst e
        obtain ⟨_, _, hat⟩ := World.cells?_some h1
        have h4 := hat 0 (by decide)
        rw [add_twoE, Nat.mul_one, Nat.add_zero] at h4
        exact ⟨l, fun _ => ⟨u, h4, h3⟩⟩
      · exact ⟨[], fun h => absurd h hi⟩
    obtain ⟨E, hE⟩ := Classical.axiomOfChoice key
    refine ⟨(List.range len).map E, some a, cap, by simp, by simpa using hl, hm, fun i l hy => ?_⟩
    rw [List.getElem?_map] at hy
    have hi : i < len := by
      rcases Nat.lt_or_ge i len with h | h
      · exact h
      · rw [List.getElem?_eq_none (by simpa using h)] at hy
        cases hy
    rw [List.getElem?_range hi] at hy
    obtain rfl : E i = l := by simpa using hy
    obtain ⟨u, h1, h2⟩ := hE i hi
    exact ⟨a, u, rfl, h1, h2⟩
end
end Go.Proofs.YtgegipijappfhaaDoor
namespace Go.Proofs.YtgegipijappfhaaDoor
open Go Go.ChangeShapes Go.WideShapes Go.ChangeAt Go.ChangeMaps Go.RowKit

theorem table_of {P : Program} {W : World} {enc : TypeId × Value → Unit} {sp : Nat → Bool} {T e n g fuel : Nat} {L : List Nat} {cs : Array Value} {ps : List MemPlace} (hcell : ∀ i, W.cell? ⟨g, i, none⟩ = cs[i]?)
    (hu : P.underlying T = some (.array n e)) (he : P.underlying e = some (.int .u32)) (ce : P.cellsOf e = 1) (hn : L.length = n)
    (hd : DataW.trod enc P W 0 sp false fuel T cs.toList = some (.agg (L.map fun k : Nat => .lit (.int .u32 (k : Int))), ps)) : ∀ i, i < n → W.cell? ⟨g, i, none⟩ = some (.int .u32 (L.getD i 0 : Nat)) := by
  obtain ⟨xs, m, _, hx, _, hl, hel⟩ := DataW.trod_array hu hd
  intro i hi
  have h1 := hel i hi
  rw [ce, List.getElem?_eq_getElem (show i < xs.length by omega)] at h1
  obtain ⟨k, e1, e2, _⟩ := DataW.trod_int he h1
  simp only [Prod.mk.injEq, DataW.agg.injEq] at hx
  have h2 : (L.map fun k : Nat => (DataW.lit (.int .u32 (k : Int)) : DataW Unit))[i]? = (xs.map (·.1))[i]? := by rw [hx.1]
  rw [List.getElem?_map, List.getElem?_map, List.getElem?_eq_getElem (show i < xs.length by omega), List.getElem?_eq_getElem (show i < L.length by omega), e2] at h2
  simp only [Option.map_some, Option.some.injEq, DataW.lit.injEq, Lit.int.injEq, true_and] at h2
  rw [hcell i, List.getD_eq_getElem?_getD, List.getElem?_eq_getElem (show i < L.length by omega)]
  have h3 : (List.take 1 (List.drop (i * 1) cs.toList))[0]? = some (.int .u32 k) := by rw [e1]; rfl
  have h4 : cs[i]? = some (.int .u32 k) := by simpa using h3
  rw [h4, ← h2]
  rfl

theorem gLow : Tryd.prog.globalNamed "chirograph/seal.low" = some 0 := by kernel_rfl
theorem gHigh : Tryd.prog.globalNamed "chirograph/seal.high" = some 1 := by kernel_rfl
theorem tLow : (Tryd.prog.globals[0]?).map (·.type) = some 144 := by kernel_rfl
theorem tHigh : (Tryd.prog.globals[1]?).map (·.type) = some 144 := by kernel_rfl
def laidSeal {H : Type} : List (String × DataW H) := [("chirograph/seal.low", Rows.laid_chirograph_seal_low), ("chirograph/seal.high", Rows.laid_chirograph_seal_high)]
theorem cellsOf_u32 : Tryd.prog.cellsOf 116 = 1 := by kernel_rfl
/-- What the condition gives: the tables lie there. -/
theorem tabs_of_laid {W : World} (h : laidMetH Tryd.prog laidSeal W) : Tabs W := by
  rw [MakeChecks.laidMetH_plain _ _ _ (by kernel_rfl)] at h
  obtain ⟨ps, ⟨g0, t0, cs0, f0, p0, q0, hg0, ht0, hv0, hd0, ⟨g1, t1, cs1, f1, p1, q1, hg1, ht1, hv1, hd1, _, _⟩, _⟩, _, _⟩ := h
  obtain rfl := Option.some.inj (gLow.symm.trans hg0)
  obtain rfl := Option.some.inj (gHigh.symm.trans hg1)
  obtain rfl := Option.some.inj (tLow.symm.trans ht0)
  obtain rfl := Option.some.inj (tHigh.symm.trans ht1)
  exact ⟨table_of (L := lowL) (World.var?_cell gLow hv0) Tryd.underlying144 Tryd.underlying116 cellsOf_u32 rfl hd0, table_of (L := highL) (World.var?_cell gHigh hv1) Tryd.underlying144 Tryd.underlying116 cellsOf_u32 rfl hd1⟩
/-- The door's own heap meets the condition. -/
theorem door_seal (os : Os) (args : Array Value) : laidMetH Tryd.prog laidSeal ((World.doorLaid Tryd.prog 2000 os).forCall (fun _ _ => 0) ⟨#[], args, []⟩).memory :=
  laidMetH_of_parts3 (fuel := 8) (laidMet_of_run' 8 (by kernel_rfl) (by kernel_rfl)) (by kernel_rfl) (by kernel_rfl)
end Go.Proofs.YtgegipijappfhaaDoor
