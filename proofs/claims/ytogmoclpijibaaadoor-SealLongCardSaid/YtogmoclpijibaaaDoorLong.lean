/- Of frames that are cut off just the whole ones are found. Conditions: the listed tables are as the program lays them. -/
import Derived.Test.YtogmoclpijibaaaDoorSealLaw
import Derived.Test.YtogmoclpijibaaaDoorTabs
import Derived.Test.YtogmoclpijibaaaDoorTie
import Derived.Test.YtogmoclpijibaaaDoorCards
import Derived.SevenTiedAt
namespace Go.Proofs.YtogmoclpijibaaaDoor.long
open Go Go.ChangeShapes Go.WideShapes Go.ChangeAt Go.ChangeMaps Go.RowKit Go.Proofs.YtogmoclpijibaaaDoor

theorem open_whole (L : List UInt8) (h : L.length = 65536) : OpenR (frame L) = .tuple #[.string (stx L), .int .i64 65544, .int .i64 0] := by
  obtain ⟨h1, h2, h3⟩ := open_frame L [] (by omega)
  rw [List.append_nil] at h1 h2 h3
  rw [OpenR, h1, h2, h3, h]
  rfl
theorem info_u8 : ∃ i : TypeInfo, Tryd.prog.info? 5 = some i ∧ i.zero = some (.int .u8 0) ∧ i.size = 1 ∧ i.bytes = 1 := by
  have h : (Tryd.prog.info? 5).map (fun i => (i.zero, i.size, i.bytes)) = some (some (.int .u8 0), 1, 1) := by kernel_rfl
  cases hq : Tryd.prog.info? 5 with
  | none => rw [hq] at h; cases h
  | some i =>
    rw [hq] at h
    simp only [Option.map_some, Option.some.injEq, Prod.mk.injEq] at h
    exact ⟨i, rfl, h.1, h.2.1, h.2.2⟩
theorem row_of_own {w : World} {B g n cap : Nat} {xs : List Value} (h : w.ownsRow B 5 1 (.slice (some ⟨g, 0, none⟩) n cap) n xs) : ∃ cur, rowAt w g = some cur ∧ cur.size = cap := by
  rcases h.2 with ⟨h1, _⟩ | ⟨g', cap', cur, h1, _, h3, _, _, h6, _⟩
  · cases h1
  · injection h1 with e1 _ e2
    injection e1 with e1
    injection e1 with e1
    subst e1 e2
    exact ⟨cur, rowAt_of_heap h3, by rw [h6, Nat.mul_one]⟩
theorem conv_row {w : World} {g : Nat} {cur : Array Value} {L : List UInt8} {c : UInt8} (cap : Nat) (r : rowAt w g = some cur) (hL : ∀ j (hj : j < L.length), L[j] = c) (h : ∀ j, j < L.length → cur[j]? = some (.int .u8 c.toNat)) :
    (convert 33 9 (.slice (some ⟨g, 0, none⟩) L.length cap)).run Tryd.prog w = .ok (.string (stx L)) w := by
  refine run_convert_bytes_back _ _ _ _ ⟨g, 0, none⟩ cap L Tryd.underlying33 Tryd.underlying5 Tryd.underlying9 fun j hj => ?_
  rw [show (⟨g, 0, none⟩ : Addr).add j = ⟨g, j, none⟩ by simp [Addr.add]; exact fun e => e.symm, cell_of_rowAt r, h j hj, hL j hj]

set_option maxRecDepth 100000 in
theorem walk_no (c : UInt8) (m : Int) (w : World) (ht : Tabs w) (h : m < 1 ∨ 20 < m) : Calls Tryd.prog 13 #[.int .u8 c.toNat, .int .i64 m] w fun e w' => e = .returned (.bool true) ∧ Below w.heap.size w w' := by
  have HA := Lib.hid (awake4 w ht)
  clear ht
  by_cases h1 : m < 1
  · have h1' : decide (m < 1) = true := decide_eq_true h1
    clear h h1
    go_enter Tryd.func13, Tryd.ntmps13
    go_wp2_with fail
    refine HA.out.mono ?_
    rintro e w1 ⟨rfl, b1⟩
    go_wp2_with fail
    go_ret
    exact ⟨rfl, b1⟩
  · have h1' : decide (m < 1) = false := decide_eq_false h1
    have h2' : decide (20 < m) = true := decide_eq_true (by omega)
    clear h h1
    go_enter Tryd.func13, Tryd.ntmps13
    go_wp2_with fail
    refine HA.out.mono ?_
    rintro e w1 ⟨rfl, b1⟩
    go_wp2_with fail
    go_ret
    exact ⟨rfl, b1⟩

set_option maxRecDepth 100000 in
set_option maxHeartbeats 1000000 in
theorem walk_yes (c : UInt8) (m N : Nat) (w : World) (ht : Tabs w) (h1 : 1 ≤ m) (h2 : m ≤ 20) (hN : 65536 + m = N) : Calls Tryd.prog 13 #[.int .u8 c.toNat, .int .i64 m] w fun e w' => e = .returned (.bool true) ∧ Below w.heap.size w w' := by
  have e1 : decide ((m : Int) < 1) = false := decide_eq_false (by omega)
  have e2 : decide ((20 : Int) < m) = false := decide_eq_false (by omega)
  have e3 : (65536 : Int) + m = N := by omega
  have e4 : (65536 : Int) ≤ N := by omega
  have e5 : (N : Int) ≤ 65556 := by omega
  have e6 : N ≤ 65556 := by omega
  have e7 : 65536 < N := by omega
  obtain ⟨i0, hi, hz0, hz1, hz2⟩ := info_u8
  have HT := Lib.hid ht
  clear h1 h2 hN ht
  go_enter Tryd.func13, Tryd.ntmps13
  go_wp2_with (at_make; refine wpList_make_full _ rfl _ _ 33 rfl w.heap.size 5 i0 (.int .u8 0) 1 Tryd.underlying33 hi hz0 hz1 _ _ _ _ N rfl rfl rfl rfl ?bytes ?most (Nat.le_refl _) ?_)
  case bytes => rw [hz2]; omega
  case most => unfold maxLen; omega
  intro w1 hown hgrow
  obtain ⟨cur0, r0, z0⟩ := row_of_own hown
  have b0 : Below w.heap.size w w1 := (Below.refl _ _).grown hgrow (Nat.le_refl _) (fun k hk => by cases hk)
  have HR0 := Lib.hid r0
  have HZ0 := Lib.hid z0
  clear hown hgrow r0 z0
  generalize hgb : w.heap.size = g at *
  have HG := Lib.hid hgb
  clear hgb
  go_wp2_with fail
  go_loopw [26] (fun x wr => ∃ (i : Nat) (cur : Array Value), i ≤ N ∧ x = .int .i64 i ∧ rowAt wr g = some cur ∧ Hid (cur.size = N) ∧ Hid (∀ j, j < i → cur[j]? = some (.int .u8 c.toNat)) ∧ Below g w wr) (fun x _ => (N - intOf x).toNat)
  case atStart => exact ⟨0, cur0, Nat.zero_le _, rfl, HR0.out, HZ0, Lib.hid (fun j hj => absurd hj (Nat.not_lt_zero j)), b0⟩
  case round =>
    obtain ⟨i, cur, hi, rfl, r, HZ, HC, b1⟩ := hrel
    by_cases hlt : i < N
    · have hlt' : (i : Int) < N := by omega
      have hcz : i < cur.size := by rw [HZ.out]; exact hlt
      have c1 := (cell_of_rowAt r i).trans (Array.getElem?_eq_getElem hcz)
      have f1 := frozen_of_rowAt r i
      have r2 := rowAt_setCell_same r i (.int .u8 c.toNat)
      have b2 : Below g w (wr.setCell ⟨g, i, none⟩ (.int .u8 c.toNat)) := Below.setCell b1 (p := ⟨g, i, none⟩) (Nat.le_refl _) _
      have HZ2 : Hid ((cur.setIfInBounds i (.int .u8 c.toNat)).size = N) := Lib.hid (by rw [Array.size_setIfInBounds]; exact HZ.out)
      have HC2 : Hid (∀ j, j < i + 1 → (cur.setIfInBounds i (.int .u8 c.toNat))[j]? = some (.int .u8 c.toNat)) := Lib.hid fun j hj => by
        rw [Array.getElem?_setIfInBounds]
        by_cases e : i = j
        · subst e
          rw [if_pos rfl, if_pos hcz]
        · rw [if_neg e]
          exact HC.out j (by omega)
      have R2 := Lib.hid r2
      clear r2 HC HZ b1
      go_wp2_with fail
      exact ⟨⟨i + 1, _, hlt, by go_num, R2.out, HZ2, HC2, b2⟩, by simp [intOf]; omega⟩
    · obtain rfl : i = N := by omega
      obtain ⟨L, hL⟩ : ∃ L, List.replicate 65536 c = L := ⟨_, rfl⟩
      obtain ⟨M, hM⟩ : ∃ M, List.replicate i c = M := ⟨_, rfl⟩
      have l1 : L.length = 65536 := by rw [← hL, List.length_replicate]
      have l2 : M.length = i := by rw [← hM, List.length_replicate]
      have g1 : ∀ j (hj : j < L.length), L[j] = c := by subst hL; intro j hj; exact List.getElem_replicate hj
      have g2 : ∀ j (hj : j < M.length), M[j] = c := by subst hM; intro j hj; exact List.getElem_replicate hj
      have K1 : Hid (∀ w, rowAt w g = some cur → (convert 33 9 (.slice (some ⟨g, 0, none⟩) 65536 i)).run Tryd.prog w = .ok (.string (stx L)) w) := Lib.hid fun w r => by
        have := conv_row i r g1 (fun j hj => HC.out j (by omega))
        rwa [l1] at this
      have K2 : Hid (∀ w, rowAt w g = some cur → (convert 33 9 (.slice (some ⟨g, 0, none⟩) i i)).run Tryd.prog w = .ok (.string (stx M)) w) := Lib.hid fun w r => by
        have := conv_row i r g2 (fun j hj => HC.out j (by omega))
        rwa [l2] at this
      have W1 : Hid (∀ w, Tabs w → Calls Tryd.prog 27 #[.string (stx L)] w fun e w' => e = .returned (.tuple #[.string (stx (frame L)), .int .i64 0]) ∧ Below w.heap.size w w') := Lib.hid fun w ht => Wrap_any (stx L) w (by rw [stx_size]; omega) ht
      have W2 : Hid (∀ w, Calls Tryd.prog 27 #[.string (stx M)] w fun e w' => e = .returned (.tuple #[.string ⟨#[]⟩, .int .i64 2]) ∧ Below w.heap.size w w') := Lib.hid fun w => Wrap_big (stx M) w (by rw [stx_size]; omega)
      have W3 : Hid (∀ w, Tabs w → Calls Tryd.prog 32 #[.string (stx (frame L))] w fun e w' => e = .returned (.tuple #[.string (stx L), .int .i64 65544, .int .i64 0]) ∧ Below w.heap.size w w') := Lib.hid fun w ht => by
        have := Open_any (stx (frame L)) w (by rw [stx_size, frame_length]; omega) ht
        rw [show (stx (frame L)).data.toList = frame L from rfl, open_whole L l1] at this
        exact this
      have q1 := K1.out wr r
      have hgl := lt_of_rowAt r
      have T1 : Hid (Tabs wr) := Lib.hid (HT.out.below (by rw [HG.out]; exact b1))
      clear hL hM l1 l2 g1 g2 HC HZ
      go_wp2_with fail
      refine (W1.out _ T1.out).mono ?_
      rintro e w2 ⟨rfl, b2⟩
      have b3 := below_past b1 b2 (Nat.le_of_lt hgl)
      have r2 := rowAt_past b2 r
      have q2 := K2.out w2 r2
      have q3 := Nat.lt_of_lt_of_le hgl b2.size
      clear q1 b1 b2 r hgl T1
      go_wp2_with fail
      refine (W2.out _).mono ?_
      rintro e w3 ⟨rfl, b2⟩
      have b4 := below_past b3 b2 (Nat.le_of_lt q3)
      have r3 := rowAt_past b2 r2
      have T3 : Hid (Tabs w3) := Lib.hid (HT.out.below (by rw [HG.out]; exact b4))
      have q4 := Nat.lt_of_lt_of_le q3 b2.size
      clear q2 b3 b2 r2 q3
      go_wp2_with fail
      refine (W3.out _ T3.out).mono ?_
      rintro e w4 ⟨rfl, b2⟩
      have b5 := below_past b4 b2 (Nat.le_of_lt q4)
      have r4 := rowAt_past b2 r3
      have T4 : Hid (Tabs w4) := Lib.hid (HT.out.below (by rw [HG.out]; exact b5))
      have q5 := Nat.lt_of_lt_of_le q4 b2.size
      clear b4 b2 r3 q4 T3
      go_wp2_with fail
      refine (awake4 _ T4.out).mono ?_
      rintro e w5 ⟨rfl, b2⟩
      have b6 := below_past b5 b2 (Nat.le_of_lt q5)
      have q6 := K1.out w5 (rowAt_past b2 r4)
      clear b5 b2 r4 q5 T4
      go_wp2_with fail
      go_ret
      exact ⟨rfl, by rw [HG.out]; exact b6⟩
theorem walk (c : UInt8) (m : Int) (w : World) (ht : Tabs w) : Calls Tryd.prog 13 #[.int .u8 c.toNat, .int .i64 m] w fun e w' => e = .returned (.bool true) ∧ Below w.heap.size w w' := by
  by_cases h : m < 1 ∨ 20 < m
  · exact walk_no c m w ht h
  · obtain ⟨k, rfl⟩ : ∃ k : Nat, m = k := ⟨m.toNat, by omega⟩
    exact walk_yes c k _ w ht (by omega) (by omega) rfl
theorem open_u8 {P : Program} {H : Type} {enc : TypeId × Value → H} {W : World} {sp : Nat → Bool} {held : Bool} {base : Nat} {t : TypeId} {v : Value} {d : DataW H} {p : List MemPlace} (hu : P.underlying t = some (.int .u8)) (hval : Value.okWide P W .any base t v) (hd : DataW.Trod enc P W 0 sp held t v d p) : ∃ c : UInt8, v = .int .u8 c.toNat := by
  obtain ⟨n, rfl, _, _, w0⟩ := open_int hu hval hd
  obtain ⟨h0, h1⟩ := wf_u8 w0
  exact ⟨UInt8.ofNat n.toNat, by rw [byte_of_int h0 (by omega)]⟩
set_option maxRecDepth 100000 in
theorem lifted (os : Os) (started : os.Started) (H : Type) (enc : TypeId × Value → H) :
    ReturnsInHanded {} Tryd.checked os 13 .any (fun w args => (Rows.sealLongSpec.pre enc Tryd.prog Tryd.f13 [] false w args ∧ laidMetH Tryd.prog laidSeal w) ∧ sizedMet enc Tryd.prog Tryd.f13 (OpenSpec.ofChange Rows.sealLongSpec) false w args) (Rows.sealLongSpec.post enc Tryd.prog Tryd.f13 false true false false) := by
  refine returnsInHanded_of_change_and (C := Tryd.checked) (X := fun w _ => laidMetH Tryd.prog laidSeal w) (fun _ _ _ hh h => h.of_heap hh) own started (by kernel_rfl) Tryd.func13
    (ChangeSpec.witness_shaped (enc := enc) (C := Tryd.checked) (os := os) (X := fun w _ => laidMetH Tryd.prog laidSeal w) false (World.doorLaid Tryd.prog 2000 os) #[.int .u8 0, .int .i64 0] 8 rfl (World.shaped_of_RefB (by kernel_rfl) (by kernel_rfl)) (by kernel_rfl) (by kernel_rfl) (by kernel_rfl) (door_seal os _)) ?_
  intro W base args ds gs before hval0 hW _ _ hL _
  have hval : ∀ (j : Nat) t v, Tryd.f13.params[j]? = some t → args[j]? = some v → Value.okWide Tryd.prog W .any base t v := hval0
  clear hval0
  have hW' := hW
  obtain ⟨p, q, hA0, hV, rfl, hfz, hnd⟩ := hW
  have hA : DataW.TrodAll enc Tryd.prog W 0 (fun _ => true) true Tryd.f13.params.toList args.toList ds p := hA0
  rw [Tryd.params13] at hA hval
  clear hA0 hfz hnd hV
  have hr : Readable Tryd.f13.params.toList := by
    rw [Tryd.params13]
    exact readable_of_all (by kernel_rfl)
  have fin : ∀ W', Below W.heap.size W W' → Rows.sealLongSpec.post enc Tryd.prog Tryd.f13 false true false false W args (.bool true) W' := fun W' hb =>
    law_post rfl hW' hr (fun l hl => by
      rw [Tryd.params13] at hl
      match l, hl with
      | [d1, d2], _ => rfl) (by kernel_rfl) hb
  clear hW' hr
  have HT := tabs_of_laid hL
  obtain ⟨v0, v1, d0, d1, p0, p1, rfl, rfl, rfl, h0, h1⟩ := trodAll_two hA; obtain ⟨c, rfl⟩ := open_u8 Tryd.underlying5 (hval 0 5 v0 rfl rfl) h0; obtain ⟨m, rfl, _, _, w1⟩ := open_int Tryd.underlying3 (hval 1 3 v1 rfl rfl) h1
  exact (walk c m W HT).mono fun e W' ⟨he, hb⟩ => ⟨_, he, fin W' hb⟩
theorem row_holds : Rows.SealLongSaid :=
  OpenClaim.holds_of_wide 13 Tryd.f13 rfl rfl rfl rfl rfl rfl rfl ⟨rfl, rfl, rfl, rfl, rfl⟩ rfl rfl rfl rfl rfl (by kernel_rfl) Tryd.func13 (by kernel_rfl)
    (of_decide_eq_true (by kernel_rfl)) (by unfold Func.isWrapper; first | (rw [if_pos (by decide +kernel)]; kernel_rfl) | (rw [if_neg (by decide +kernel)]; exact ⟨rfl, rfl⟩))
    (fun os started H enc _ => lifted os started H enc)
theorem proved : Rows.SealLongCardSaid :=
  Claim7.holds_tied_plain_at .later [] [.data, .data] true _ false
    row_holds (fun _ h => by cases h) (by kernel_rfl) (fun _ h => by cases h) sealLong_row_tie rfl ⟨rfl, rfl⟩ (by kernel_rfl) rfl
    (fun f fn hf hfn => by
      obtain rfl : f = 13 := Option.some.inj ((show Tryd.prog.funcNamed "chirograph/chirographlaw04.SealLong" = some 13 by kernel_rfl).symm.trans hf) |>.symm
      obtain rfl : fn = Tryd.f13 := (Option.some.inj (Tryd.func13.symm.trans hfn)).symm
      exact ⟨by kernel_rfl, fun j t ht => by
        rw [Tryd.params13] at ht
        have hm : t ∈ [5, 3] := by simpa using Array.mem_of_getElem? ht
        have hall : ([5, 3].all fun u => !Tryd.prog.wantsStandIn u) = true := by kernel_rfl
        exact (show Tryd.prog.wantsStandIn t = false by simpa using List.all_eq_true.1 hall t hm)⟩)
    (by kernel_rfl)
end Go.Proofs.YtogmoclpijibaaaDoor.long
