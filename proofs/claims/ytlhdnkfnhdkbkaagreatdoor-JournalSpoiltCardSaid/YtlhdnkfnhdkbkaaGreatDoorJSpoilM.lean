/- A journal of which one byte is another one; lists held against a list's end. Conditions: none. -/
import Derived.Test.YtlhdnkfnhdkbkaaGreatDoorJKit
namespace Go.Proofs.YtlhdnkfnhdkbkaaGreatDoor
open Go Go.RowKit
attribute [local go_sem] Oper.semAt_some

/-- What an opening finds of segments. -/
theorem seg_opens {room fuse : Int} {l : List Seg} {top : Nat} {d : DDisk} (hd : d = ⟨room, fuse, false, jFiles l⟩) (hr : Rise l top) : d.dead = false ∧ dNames d.files = (l.map (·.n)).map nm ∧ (∀ n ∈ l.map (·.n), n < 100) ∧ (l.map (·.n)).length ≤ 100 ∧
    (∀ n ∈ l.map (·.n), (rdB d (nm n)).length ≤ dUsed d.files) ∧ textsOf d (l.map (·.n)) = segT l := by
  have hfl := rise_len hr
  have hfew := hr.few
  have hfi : d.files = jFiles l := by rw [hd]
  have hrd : ∀ s ∈ l, rdB d (nm s.n) = s.bytes ∧ s.bytes.length ≤ dUsed d.files := by
    intro s hs
    have hf := find_mid hr hs
    rw [← hfi] at hf
    have hE : findE d (nm s.n) = 0 := by unfold findE; rw [if_neg (by rw [hd]; exact Bool.false_ne_true), hf]
    refine ⟨?_, dFind_len hf⟩
    unfold rdB
    rw [if_pos hE]
    unfold dBytes
    rw [hf]
    rfl
  refine ⟨by rw [hd], by rw [hfi]; exact jnames _, ?_, ?_, ?_, ?_⟩
  · intro n hn
    obtain ⟨s, hs, rfl⟩ := List.mem_map.1 hn
    exact Nat.lt_of_le_of_lt (hr.le s hs) hr.few
  · rw [List.length_map]
    omega
  · intro n hn
    obtain ⟨s, hs, rfl⟩ := List.mem_map.1 hn
    rw [(hrd s hs).1]
    exact (hrd s hs).2
  · unfold textsOf segT
    rw [List.map_map]
    congr 1
    refine List.map_congr_left fun s hs => ?_
    show (allR (rdB d (nm s.n))).1 = _
    rw [(hrd s hs).1]
theorem curS_far {F : List (List UInt8)} {y : DFile} (hy : y ∈ jFiles (curS 1 F)) : y.name = nm 1 := by
  rcases curS_cases 1 F with ⟨_, h2⟩ | ⟨_, h2⟩
  · rw [h2] at hy; cases hy
  · rw [h2] at hy
    rw [List.mem_singleton.1 hy]
    rfl
/-- What a spoilt byte leaves. -/
theorem spoil_is {room : Int} {F1 F2 want : List (List UInt8)} {d : DDisk} (h : JS room (curS 0 F1) 1 F2 want d) (h1 : ∀ t ∈ F1, t.length ≤ 65536) {at' : Int} {x : UInt8} (hE : spE d (nm 0) at' = 0) :
    ∃ (b : List UInt8) (k : Nat), spD d (nm 0) at' x = ⟨room, -1, false, jFiles ([⟨0, b, k⟩] ++ curS 1 F2)⟩ ∧ Rise ([⟨0, b, k⟩] ++ curS 1 F2) 1 ∧ dUsed (spD d (nm 0) at' x).files = dUsed d.files ∧ 0 ≤ at' ∧ b.length ≤ dUsed d.files ∧ (∀ p, (endAt F1 p : Int) ≤ at' → ∃ M, (allR b).1 = F1.take p ++ M) := by
  have hsd : dSorted d.files := by rw [h.dis]; exact h.rise.sorted
  rcases curS_cases 0 F1 with ⟨e1, e2⟩ | ⟨e1, e2⟩
  · exfalso
    have hf : dFind d.files (nm 0) = none := by
      rw [h.dis, e2, List.nil_append]
      refine dFind_none.2 fun y hy e => ?_
      exact nm_ne (by decide) (by decide) (by decide : (1 : Nat) ≠ 0) ((curS_far hy).symm.trans e)
    unfold spE at hE
    rw [hf] at hE
    exact absurd (show (7 : Int) = 0 from hE) (by decide)
  · have hfi : d.files = sFile (tSeg 0 F1) :: jFiles (curS 1 F2) := by rw [h.dis, e2]; rfl
    have hf : dFind d.files (nm 0) = some (sFile (tSeg 0 F1)) := by
      have := dFind_mem (f := sFile (tSeg 0 F1)) hsd (by rw [hfi]; simp)
      exact this
    have hE2 := hE
    unfold spE at hE2
    rw [hf] at hE2
    simp only at hE2
    have hat : 0 ≤ at' ∧ at' < (cat F1).length := by
      by_cases hq : at' < 0 ∨ ((cat F1).length : Int) ≤ at'
      · rw [if_pos (show at' < 0 ∨ (((sFile (tSeg 0 F1)).bytes).length : Int) ≤ at' from hq)] at hE2
        exact absurd hE2 (by decide)
      · omega
    have hb : dBytes d.files (nm 0) = cat F1 := by unfold dBytes; rw [hf]; rfl
    have hxl : (xorAt (cat F1) at'.toNat x).length = (cat F1).length := by unfold xorAt; rw [List.length_set]
    have hput : dPut ⟨nm 0, xorAt (cat F1) at'.toNat x, dSure d.files (nm 0)⟩ d.files = jFiles ([⟨0, xorAt (cat F1) at'.toNat x, dSure d.files (nm 0)⟩] ++ curS 1 F2) := by
      rw [hfi]
      rw [dPut, if_neg (by show ¬ nm 0 < nm 0; exact nlt_irrefl _)]
      unfold dDrop
      rw [List.filter_cons_of_neg (by show ¬ (decide (nm 0 ≠ nm 0) = true); simp)]
      rw [← dDrop, dDrop_none]
      · rfl
      · intro y hy e
        exact nm_ne (by decide) (by decide) (by decide : (1 : Nat) ≠ 0) ((curS_far hy).symm.trans e)
    have hlen := dFind_len hf
    refine ⟨xorAt (cat F1) at'.toNat x, dSure d.files (nm 0), ?_, ?_, ?_, hat.1, by rw [hxl]; exact hlen, ?_⟩
    · unfold spD
      rw [if_pos hE, hb, hput, h.dis]
    · rcases curS_cases 1 F2 with ⟨_, g2⟩ | ⟨_, g2⟩
      · rw [g2]
        exact ⟨List.pairwise_singleton _ _, fun s hs => by rw [List.mem_singleton.1 hs]; exact Nat.zero_le 1, by decide⟩
      · rw [g2]
        refine ⟨List.pairwise_cons.2 ⟨fun s hs => by rw [List.mem_singleton.1 hs]; exact Nat.zero_lt_one, List.pairwise_singleton _ _⟩, fun s hs => ?_, by decide⟩
        rcases List.mem_cons.1 hs with rfl | hs
        · exact Nat.zero_le _
        · rw [List.mem_singleton.1 hs]; exact Nat.le_refl _
    · unfold spD
      rw [if_pos hE, hb]
      show dUsed (dPut _ d.files) = _
      have := dUsed_put (f := ⟨nm 0, xorAt (cat F1) at'.toNat x, dSure d.files (nm 0)⟩) hsd
      have hl : dLen d.files (nm 0) = (cat F1).length := by unfold dLen; rw [hf]; rfl
      simp only [hl, hxl] at this
      omega
    · intro p hp
      have hsplit : cat F1 = cat (F1.take p) ++ cat (F1.drop p) := by rw [← cat_append, List.take_append_drop]
      have hxo : xorAt (cat F1) at'.toNat x = cat (F1.take p) ++ (cat (F1.drop p)).set (at'.toNat - (cat (F1.take p)).length) ((cat F1).getD at'.toNat 0 ^^^ x) := by
        unfold xorAt
        conv => lhs; arg 1; rw [hsplit]
        rw [List.set_append_right]
        show endAt F1 p ≤ _
        omega
      rw [hxo]
      exact all_ahead _ _ (fun t ht => h1 t (List.mem_of_mem_take ht))
/-- A list of texts from a place on. -/
def StrsFrom (w : World) (v : Value) (ts : List (List UInt8)) : Prop :=
  ∃ ao cap, v = .slice ao ts.length cap ∧ ∀ i, i < ts.length → ∃ g o, ao = some ⟨g, o, none⟩ ∧ w.cell? ⟨g, o + i, none⟩ = some (.string (stx (ts.getD i [])))
theorem StrsAt.from {w : World} {v : Value} {ts : List (List UInt8)} (h : StrsAt w v ts) : StrsFrom w v ts := by
  obtain ⟨ao, cap, h1, h2⟩ := h
  exact ⟨ao, cap, h1, fun i hi => by obtain ⟨g, h3, h4⟩ := h2 i hi; exact ⟨g, 0, h3, by rw [Nat.zero_add]; exact h4⟩⟩
theorem add_litJ (g o k : Nat) : (⟨g, o, none⟩ : Addr).add k = ⟨g, o + k, none⟩ := by
  unfold Addr.add
  split
  · rename_i h; rw [h]; rfl
  · rfl
theorem StrsAt.drop {w : World} {ao : Option Addr} {n cap k m c : Nat} {ts : List (List UInt8)} (h : StrsAt w (.slice ao n cap) ts) (hk : ts.length = k + m) : StrsFrom w (.slice (ao.map (fun x => x.add k)) m c) (ts.drop k) := by
  obtain ⟨ao', cap', h1, h2⟩ := h
  obtain ⟨rfl, rfl, rfl⟩ : ao = ao' ∧ n = ts.length ∧ cap = cap' := by simpa using h1
  have hm : m = (ts.drop k).length := by rw [List.length_drop]; omega
  refine ⟨_, _, by rw [hm], fun i hi => ?_⟩
  rw [← hm] at hi
  obtain ⟨g, e, h4⟩ := h2 (k + i) (by omega)
  refine ⟨g, k, by rw [e, Option.map_some, add_litJ, Nat.zero_add], ?_⟩
  rw [h4]
  simp [List.getD_eq_getElem?_getD]
theorem strsFrom_nil {w : World} {ao : Option Addr} {c : Nat} : StrsFrom w (.slice ao 0 c) [] := ⟨ao, c, rfl, fun i hi => absurd hi (Nat.not_lt_zero i)⟩
set_option maxRecDepth 100000 in
theorem sameF_any (v u : Value) (ts : List (List UInt8)) (w : World) (h1 : StrsFrom w v ts) (h2 : StrsFrom w u ts) (hlim : ts.length ≤ 1000000) :
    Calls Tryz.prog 22 #[v, u] w fun e w' => e = .returned (.bool true) ∧ Below w.heap.size w w' := by
  obtain ⟨ao, c1, rfl, k1⟩ := h1
  obtain ⟨bo, c2, rfl, k2⟩ := h2
  obtain ⟨n, hn⟩ : ∃ n, ts.length = n := ⟨_, rfl⟩
  rw [hn] at hlim k1 k2 ⊢
  have hn' : (n : Int) ≤ 1000000 := by omega
  have K1 := Lib.hid k1
  have K2 := Lib.hid k2
  clear k1 k2 hn
  go_enter Tryz.func22, Tryz.ntmps22
  go_wp2_with fail
  go_loopw [13] (fun x wr => ∃ i : Nat, i ≤ n ∧ x = .int .i64 i ∧ Below w.heap.size w wr) (fun x _ => (n - intOf x).toNat)
  case atStart => exact ⟨0, Nat.zero_le _, rfl, Below.refl _ _⟩
  case round =>
    obtain ⟨i, hi, rfl, b0⟩ := hrel
    by_cases hlt : i < n
    · have hlt' : (i : Int) < n := by omega
      obtain ⟨g1, o1, rfl, d1⟩ := K1.out i hlt
      obtain ⟨g2, o2, rfl, d2⟩ := K2.out i hlt
      have c1 := (b0.cell (p := ⟨g1, o1 + i, none⟩) (cellLt d1)).trans d1
      have c2 := (b0.cell (p := ⟨g2, o2 + i, none⟩) (cellLt d2)).trans d2
      clear d1 d2
      go_wp2_with fail
      go_region
      have b1 := b0.drew
      go_wp2_with fail
      exact ⟨⟨i + 1, hlt, by go_num, b1⟩, by simp [intOf]; omega⟩
    · obtain rfl : i = n := by omega
      go_wp2_with fail
      go_ret
      exact ⟨rfl, b0⟩
end Go.Proofs.YtlhdnkfnhdkbkaaGreatDoor
