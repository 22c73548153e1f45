/- A journal on a disk of its own: calls on both. Conditions: the tables lie where the program lays them. -/
import Derived.Test.YtlhdnkfnhdkbkaaGreatDoorJour4
import Derived.Test.YtlhdnkfnhdkbkaaGreatDoorSealRef3
namespace Go.Proofs.YtlhdnkfnhdkbkaaGreatDoor
open Go Go.RowKit
attribute [local go_sem] Oper.semAt_some

/-- A journal j on a disk q that lives, since the world W, whose blocks lie below B. -/
structure JW (B q j : Nat) (room : Int) (pre : List Seg) (now : Nat) (cur want : List (List UInt8)) (d : DDisk) (W w : World) : Prop where
  js : JS room pre now cur want d
  ja : JAt B j q now w
  da : DiskAt B q d w
  bel : Below B W w
  tab : Tabs W
  hB : W.heap.size = B
  cap : (dUsed d.files : Int) ≤ room
  few : room ≤ 2000000
variable {B q j : Nat} {room : Int} {pre : List Seg} {now : Nat} {cur want : List (List UInt8)} {d : DDisk} {W w : World}
theorem JW.tabs (h : JW B q j room pre now cur want d W w) : Tabs w := h.tab.below (by rw [h.hB]; exact h.bel)
theorem JW.low (h : JW B q j room pre now cur want d W w) : B ≤ w.heap.size := by have := h.bel.size; rw [h.hB] at this; exact this
theorem JW.kept (h : JW B q j room pre now cur want d W w) {w' : World} (k : Below w.heap.size w w') : JW B q j room pre now cur want d W w' :=
  ⟨h.js, h.ja.kept k, h.da.kept k, below_past h.bel k h.low, h.tab, h.hB, h.cap, h.few⟩
/-- A text for which there is room. -/
theorem jw_add (h : JW B q j room pre now cur want d W w) (s : List UInt8) (hs : s.length ≤ 65536) (hr : (s.length : Int) + 8 ≤ room - dUsed d.files) :
    Calls Tryz.prog 13 #[.pointer (some ⟨j, 0, none⟩), .string (stx s)] w fun e w' => e = .returned (.int .i64 0) ∧ JW B q j room pre now (cur ++ [s]) (want ++ [s]) (addD d (nm now) s) W w' ∧ dUsed (addD d (nm now) s).files = dUsed d.files + (s.length + 8) ∧ Stir B w w' := by
  obtain ⟨a1, a2, a3, a4⟩ := h.js.add s hs hr
  have hc := h.cap
  have hf := h.few
  refine (jAdd_any B B j q now d (stx s) w h.ja h.da h.js.few (by rw [stx_size]; exact hs) (by rw [stx_size]; omega) h.tabs).mono ?_
  rintro e w' ⟨rfl, d1, s1⟩
  have e1 : addE d (nm now) (stx s).data.toList = 0 := by unfold addE; rw [if_pos a1]; exact a2
  have e2 : addD d (nm now) (stx s).data.toList = sD (aD d (nm now) (frame s)) (nm now) := if_pos a1
  have e3 : addD d (nm now) s = addD d (nm now) (stx s).data.toList := rfl
  rw [e1, e3]
  refine ⟨rfl, ⟨by rw [e2]; exact a3, h.ja.stir s1, d1, h.bel.trans s1.below, h.tab, h.hB, by rw [e2, a4]; omega, hf⟩, by rw [e2]; exact a4, s1⟩
/-- A text for which there is none. -/
theorem jw_full (h : JW B q j room pre now cur want d W w) (s : List UInt8) (hs : s.length ≤ 65536) (hr : ¬ (s.length : Int) + 8 ≤ room - dUsed d.files) :
    Calls Tryz.prog 13 #[.pointer (some ⟨j, 0, none⟩), .string (stx s)] w fun e w' => e = .returned (.int .i64 9) ∧ JW B q j room pre now cur want d W w' ∧ Stir B w w' := by
  obtain ⟨a1, a2⟩ := h.js.full s hr
  have hc := h.cap
  have hf := h.few
  refine (jAdd_any B B j q now d (stx s) w h.ja h.da h.js.few (by rw [stx_size]; exact hs) (by rw [stx_size]; omega) h.tabs).mono ?_
  rintro e w' ⟨rfl, d1, s1⟩
  have e1 : addE d (nm now) (stx s).data.toList = 9 := by unfold addE; rw [if_neg (by show ¬ aE d (nm now) (frame s) = 0; rw [a1]; decide)]; exact a1
  have e2 : addD d (nm now) (stx s).data.toList = d := by unfold addD; rw [if_neg (by show ¬ aE d (nm now) (frame s) = 0; rw [a1]; decide)]; exact a2
  rw [e1]
  rw [e2] at d1
  exact ⟨rfl, ⟨h.js, h.ja.stir s1, d1, h.bel.trans s1.below, h.tab, h.hB, hc, hf⟩, s1⟩
theorem jw_turn (h : JW B q j room pre now cur want d W w) (hn : now + 1 < 100) :
    Calls Tryz.prog 14 #[.pointer (some ⟨j, 0, none⟩)] w fun e w' => e = .returned (.int .i64 ((now : Int) + 1)) ∧ JW B q j room (pre ++ curS now cur) (now + 1) [] want d W w' ∧ (∀ C v ts, OwnStrs w C v ts → OwnStrs w' C v ts) := by
  refine (jTurn_any B j q now w h.ja h.js.few).mono ?_
  rintro e w' ⟨rfl, rfl⟩
  exact ⟨rfl, ⟨h.js.turn hn, h.ja.set (now + 1) _ rfl, disk_set_aside h.da h.ja, h.bel.setCell (p := ⟨j, 1, none⟩) h.ja.low _, h.tab, h.hB, h.cap, h.few⟩, fun C v ts ho => own_set_aside ho h.ja jr_ne_str⟩
/-- What an opening finds. -/
theorem JS.opens (h : JS room pre now cur want d) : d.dead = false ∧ dNames d.files = ((pre ++ curS now cur).map (·.n)).map nm ∧ (∀ n ∈ (pre ++ curS now cur).map (·.n), n < 100) ∧ ((pre ++ curS now cur).map (·.n)).length ≤ 100 ∧
    (∀ n ∈ (pre ++ curS now cur).map (·.n), (rdB d (nm n)).length ≤ dUsed d.files) ∧ textsOf d ((pre ++ curS now cur).map (·.n)) = want ∧ (cur ≠ [] → nowOf ((pre ++ curS now cur).map (·.n)) = now + 1) := by
  have hr := h.rise
  have hfl := h.few_files
  have hfi : d.files = jFiles (pre ++ curS now cur) := by rw [h.dis]
  have hrd : ∀ s ∈ pre ++ curS now cur, rdB d (nm s.n) = s.bytes ∧ s.bytes.length ≤ dUsed d.files := by
    intro s hs
    have hf := find_mid hr hs
    rw [← hfi] at hf
    have hE : findE d (nm s.n) = 0 := by unfold findE; rw [if_neg (by rw [h.dis]; exact Bool.false_ne_true), hf]
    refine ⟨?_, dFind_len hf⟩
    unfold rdB
    rw [if_pos hE]
    unfold dBytes
    rw [hf]
    rfl
  refine ⟨by rw [h.dis], by rw [hfi]; exact jnames _, ?_, ?_, ?_, ?_, ?_⟩
  · intro n hn
    obtain ⟨s, hs, rfl⟩ := List.mem_map.1 hn
    exact Nat.lt_of_le_of_lt (hr.le s hs) hr.few
  · rw [hfi] at hfl
    unfold jFiles at hfl
    rw [List.length_map] at hfl ⊢
    exact hfl
  · intro n hn
    obtain ⟨s, hs, rfl⟩ := List.mem_map.1 hn
    rw [(hrd s hs).1]
    exact (hrd s hs).2
  · rw [← h.want]
    unfold textsOf segT
    rw [List.map_map]
    congr 1
    refine List.map_congr_left fun s hs => ?_
    show (allR (rdB d (nm s.n))).1 = _
    rw [(hrd s hs).1]
  · intro hc
    rcases curS_cases now cur with ⟨h1, _⟩ | ⟨_, h2⟩
    · exact absurd h1 hc
    · rw [h2, List.map_append]
      exact nowOf_put _ _
theorem jw_opens (js : JS room pre now cur want d) (hm : dUsed d.files ≤ 1000000) (da : DiskAt B q d w) (tabs : Tabs w) (hw : want.length ≤ 1000000) :
    Calls Tryz.prog 10 #[.pointer (some ⟨q, 0, none⟩), .int .i64 0] w fun e w' => ∃ k v m, e = .returned (.tuple #[.pointer (some ⟨k, 0, none⟩), v, .int .i64 0]) ∧ JAt w.heap.size k q m w' ∧ (cur ≠ [] → m = now + 1) ∧ (cur = [] → pre = [] → m = 0) ∧ OwnStrs w' w.heap.size v want ∧ Below w.heap.size w w' := by
  obtain ⟨o1, o2, o3, o4, o5, o6, o7⟩ := js.opens
  refine (jOpen_any B q d _ w da o1 o2 o3 o4 (fun n hn => Nat.le_trans (o5 n hn) hm) (by rw [o6]; exact hw) tabs).mono ?_
  rintro e w' ⟨k, v, rfl, ja, os, b⟩
  rw [o6] at os
  refine ⟨k, v, _, rfl, ja, o7, ?_, os, b⟩
  rintro rfl rfl
  rfl
theorem jw_open (h : JW B q j room pre now cur want d W w) (hm : dUsed d.files ≤ 1000000) (hw : want.length ≤ 1000000) :
    Calls Tryz.prog 10 #[.pointer (some ⟨q, 0, none⟩), .int .i64 0] w fun e w' => ∃ k v m, e = .returned (.tuple #[.pointer (some ⟨k, 0, none⟩), v, .int .i64 0]) ∧ (cur ≠ [] → m = now + 1) ∧ OwnStrs w' w.heap.size v want ∧ JAt B k q m w' ∧ JW B q j room pre now cur want d W w' ∧ Below w.heap.size w w' := by
  refine (jw_opens h.js hm h.da h.tabs hw).mono ?_
  rintro e w' ⟨k, v, m, rfl, ja, o7, _, os, b⟩
  exact ⟨k, v, m, rfl, o7, os, ⟨ja.row, Nat.le_trans h.low ja.low⟩, h.kept b, b⟩
/-- The one that an opening gave takes the other's place. -/
theorem JW.over (h : JW B q j room pre now cur want d W w) {k : Nat} (ja : JAt B k q (now + 1) w) (hn : now + 1 < 100) : JW B q k room (pre ++ curS now cur) (now + 1) [] want d W w :=
  ⟨h.js.turn hn, ja, h.da, h.bel, h.tab, h.hB, h.cap, h.few⟩
theorem jw_first (room : Int) (h0 : 0 ≤ room) (few : room ≤ 2000000) (da : DiskAt B q ⟨room, -1, false, []⟩ w) (bel : Below B W w) (tab : Tabs W) (hB : W.heap.size = B) :
    Calls Tryz.prog 10 #[.pointer (some ⟨q, 0, none⟩), .int .i64 0] w fun e w' => ∃ k v, e = .returned (.tuple #[.pointer (some ⟨k, 0, none⟩), v, .int .i64 0]) ∧ OwnStrs w' w.heap.size v [] ∧ JW B q k room [] 0 [] [] ⟨room, -1, false, []⟩ W w' := by
  have hlow : B ≤ w.heap.size := by have := bel.size; rw [hB] at this; exact this
  refine (jw_opens (JS.new room) (Nat.zero_le _) da (tab.below (by rw [hB]; exact bel)) (Nat.zero_le _)).mono ?_
  rintro e w' ⟨k, v, m, rfl, ja, _, o8, os, b⟩
  obtain rfl := o8 rfl rfl
  exact ⟨k, v, rfl, os, ⟨JS.new room, ⟨ja.row, Nat.le_trans hlow ja.low⟩, da.kept b, below_past bel b hlow, tab, hB, h0, few⟩⟩
end Go.Proofs.YtlhdnkfnhdkbkaaGreatDoor
