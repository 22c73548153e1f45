/- For every text, place and turn the law SealSpoilt returns true. Conditions: the listed tables are as the program lays them. -/
import Derived.Test.YtogmoclpijibaaaDoorSealRef2
import Derived.Test.YtogmoclpijibaaaDoorTabs
import Derived.Test.YtogmoclpijibaaaDoorTie
import Derived.Test.YtogmoclpijibaaaDoorCards
import Derived.SevenTiedAt
import Derived.Lib.Builder
namespace Go.Proofs.YtogmoclpijibaaaDoor.spoilt
open Go Go.ChangeShapes Go.WideShapes Go.ChangeAt Go.ChangeMaps Go.RowKit Go.Proofs.YtogmoclpijibaaaDoor

def inSum (j : Nat) : Prop := 4 ≤ j ∧ j < 8
/-- Bytes that are like F's but for at most four one behind the other, all among the sum or all among the rest. -/
structure Fine (a : Nat) (F G : List UInt8) : Prop where
  len : G.length = F.length
  out : ∀ j, (j < a ∨ a + 4 ≤ j) → G[j]? = F[j]?
  yes : inSum a → ∀ j, ¬ inSum j → G[j]? = F[j]?
  no : ¬ inSum a → ∀ j, inSum j → G[j]? = F[j]?
theorem Fine.refl (a : Nat) (F : List UInt8) : Fine a F F := ⟨rfl, fun _ _ => rfl, fun _ _ _ => rfl, fun _ _ _ => rfl⟩
theorem Fine.set {a : Nat} {F G : List UInt8} (h : Fine a F G) (i : Nat) (x : UInt8) (hi : i < 4) (hs : inSum (a + i) ↔ inSum a) : Fine a F (G.set (a + i) x) := by
  have other : ∀ j, j ≠ a + i → (G.set (a + i) x)[j]? = G[j]? := fun j hj => by rw [List.getElem?_set_ne (fun e => hj e.symm)]
  refine ⟨by rw [List.length_set]; exact h.len, fun j hj => (other j (by omega)).trans (h.out j hj), fun ha j hj => (other j (fun e => hj (by rw [e]; exact hs.2 ha))).trans (h.yes ha j hj), fun ha j hj => (other j (fun e => ha (hs.1 (by rw [← e]; exact hj)))).trans (h.no ha j hj)⟩
theorem take_eq {F G : List UInt8} {k : Nat} (h : ∀ j, j < k → G[j]? = F[j]?) : G.take k = F.take k := by
  apply List.ext_getElem?
  intro j
  rw [List.getElem?_take, List.getElem?_take]
  split
  · rename_i hj; exact h j hj
  · rfl
theorem drop_eq {F G : List UInt8} {k : Nat} (h : ∀ j, k ≤ j → G[j]? = F[j]?) : G.drop k = F.drop k := by
  apply List.ext_getElem?
  intro j
  rw [List.getElem?_drop, List.getElem?_drop]
  exact h _ (Nat.le_add_right _ _)
theorem mid_eq {F G : List UInt8} (h : ∀ j, inSum j → G[j]? = F[j]?) : (G.drop 4).take 4 = (F.drop 4).take 4 := by
  apply List.ext_getElem?
  intro j
  rw [List.getElem?_take, List.getElem?_take]
  split
  · rename_i hj
    rw [List.getElem?_drop, List.getElem?_drop]
    exact h _ ⟨by omega, by omega⟩
  · rfl
theorem num4_take (l m : List UInt8) (hl : 4 ≤ l.length) (hm : 4 ≤ m.length) (h : l.take 4 = m.take 4) : num4 l = num4 m := by
  rw [be4_num4 l hl, be4_num4 m hm] at h
  exact be4_inj (num4_lt l) (num4_lt m) h
theorem take_num4 (l m : List UInt8) (hl : 4 ≤ l.length) (hm : 4 ≤ m.length) (h : num4 l = num4 m) : l.take 4 = m.take 4 := by
  rw [be4_num4 l hl, be4_num4 m hm, h]
/-- Three parts of a list: what is ahead of the window, the window, what is behind it. -/
theorem parts (l : List UInt8) (a : Nat) : l = l.take a ++ ((l.drop a).take 4 ++ l.drop (a + 4)) := by
  rw [← List.drop_drop, List.take_append_drop, List.take_append_drop]
theorem spoilt_math (s : List UInt8) (a : Nat) (G : List UInt8) (hs : s.length ≤ 65536) (hf : Fine a (frame s) G) (hne : G ≠ frame s) (h0 : opE G = 0) (hn : opN G = (frame s).length) : False := by
  have hl := frame_length s
  have hG := hf.len
  obtain ⟨o1, _, _⟩ := open_frame s [] hs
  rw [List.append_nil] at o1
  have eF := o1
  have eG := h0
  rw [opN, if_pos h0, hl] at hn
  have hm : num4 G % 16777216 = s.length := by omega
  unfold opE at eG
  rw [if_neg (by omega)] at eG
  split at eG
  · cases eG
  · rename_i k1
    split at eG
    · cases eG
    · split at eG
      · cases eG
      · rename_i k2
        have hx : (G.getD 0 0).toNat = 94 := by
          rcases Decidable.em ((G.getD 0 0).toNat = 94) with k | k
          · exact k
          · exact absurd (.inl k) k1
        have hGn : num4 G = 1577058304 + s.length := by
          have l1 := (G.getD 1 0).toNat_lt
          have l2 := (G.getD 2 0).toNat_lt
          have l3 := (G.getD 3 0).toNat_lt
          unfold num4 at hm ⊢
          rw [hx] at hm ⊢
          omega
        have hFn : num4 (frame s) = 1577058304 + s.length := by
          rw [frame, sizeB]
          exact num4_be4 _ (by omega) _
        have t4 : G.take 4 = (frame s).take 4 := take_num4 _ _ (by omega) (by omega) (hGn.trans hFn.symm)
        have hmF : num4 (frame s) % 16777216 = s.length := by omega
        have d8G : (G.drop 8).take (num4 G % 16777216) = G.drop 8 := by rw [hm]; exact List.take_of_length_le (by rw [List.length_drop]; omega)
        have d8F : ((frame s).drop 8).take (num4 (frame s) % 16777216) = (frame s).drop 8 := by rw [hmF]; exact List.take_of_length_le (by rw [List.length_drop]; omega)
        have sG : num4 (G.drop 4) = crc (G.take 4 ++ G.drop 8) := by
          rw [← d8G]
          exact Decidable.not_not.1 k2
        have sF : num4 ((frame s).drop 4) = crc ((frame s).take 4 ++ (frame s).drop 8) := by
          have : (frame s).drop 8 = s := rfl
          have h4 : (frame s).take 4 = sizeB s.length := rfl
          rw [this, h4]
          exact num4_be4 _ (crc_lt _) s
        have join : ∀ l : List UInt8, l = l.take 4 ++ ((l.drop 4).take 4 ++ l.drop 8) := fun l => parts l 4
        by_cases ha : inSum a
        · have e8 : G.drop 8 = (frame s).drop 8 := drop_eq fun j hj => hf.yes ha j (fun k => by have := k.2; omega)
          rw [t4, e8, ← sF] at sG
          have m4 := take_num4 (G.drop 4) ((frame s).drop 4) (by rw [List.length_drop]; omega) (by rw [List.length_drop]; omega) sG
          refine hne ?_
          rw [join G, join (frame s), t4, m4, e8]
        · have m4 : (G.drop 4).take 4 = ((frame s).drop 4).take 4 := mid_eq (hf.no ha)
          have hnum := num4_take (G.drop 4) ((frame s).drop 4) (by rw [List.length_drop]; omega) (by rw [List.length_drop]; omega) m4
          rw [hnum, sF, t4] at sG
          -- the rest differs in the window alone
          have p1 := parts (G.drop 8) (a - 8)
          have p2 := parts ((frame s).drop 8) (a - 8)
          have q1 : (G.drop 8).take (a - 8) = ((frame s).drop 8).take (a - 8) := take_eq fun j hj => by
            rw [List.getElem?_drop, List.getElem?_drop]
            exact hf.out _ (.inl (by omega))
          by_cases h8 : 8 ≤ a
          · have q2 : (G.drop 8).drop (a - 8 + 4) = ((frame s).drop 8).drop (a - 8 + 4) := drop_eq fun j hj => by
              rw [List.getElem?_drop, List.getElem?_drop]
              exact hf.out _ (.inr (by omega))
            have q3 : (((frame s).drop 8).drop (a - 8)).take 4 = ((G.drop 8).drop (a - 8)).take 4 := by
              refine crc_few ((frame s).take 4 ++ ((frame s).drop 8).take (a - 8)) _ _ (((frame s).drop 8).drop (a - 8 + 4)) ?_ (List.length_take_le _ _) ?_
              · rw [List.length_take, List.length_take, List.length_drop, List.length_drop, List.length_drop, List.length_drop, hG]
              · have e1 : (frame s).take 4 ++ ((frame s).drop 8).take (a - 8) ++ (((frame s).drop 8).drop (a - 8)).take 4 ++ ((frame s).drop 8).drop (a - 8 + 4) = (frame s).take 4 ++ (frame s).drop 8 := by
                  conv => rhs; rw [p2]
                  simp only [List.append_assoc]
                have e2 : (frame s).take 4 ++ ((frame s).drop 8).take (a - 8) ++ ((G.drop 8).drop (a - 8)).take 4 ++ ((frame s).drop 8).drop (a - 8 + 4) = (frame s).take 4 ++ G.drop 8 := by
                  conv => rhs; rw [p1, q1, q2]
                  simp only [List.append_assoc]
                rw [e1, e2]
                exact sG
            have e8 : G.drop 8 = (frame s).drop 8 := by rw [p1, p2, q1, q2, q3]
            refine hne ?_
            rw [join G, join (frame s), t4, m4, e8]
          · have q3 : ((frame s).drop 8).take 4 = (G.drop 8).take 4 := by
              refine crc_few ((frame s).take 4) _ _ (((frame s).drop 8).drop 4) ?_ (List.length_take_le _ _) ?_
              · rw [List.length_take, List.length_take, List.length_drop, List.length_drop, hG]
              · have q4 : (G.drop 8).drop 4 = ((frame s).drop 8).drop 4 := drop_eq fun j hj => by
                  rw [List.getElem?_drop, List.getElem?_drop]
                  exact hf.out _ (.inr (by omega))
                rw [List.append_assoc, List.append_assoc, List.take_append_drop, ← q4, List.take_append_drop]
                exact sG
            have q4 : (G.drop 8).drop 4 = ((frame s).drop 8).drop 4 := drop_eq fun j hj => by
              rw [List.getElem?_drop, List.getElem?_drop]
              exact hf.out _ (.inr (by omega))
            have e8 : G.drop 8 = (frame s).drop 8 := by
              rw [← List.take_append_drop 4 (G.drop 8), ← q3, q4, List.take_append_drop]
            refine hne ?_
            rw [join G, join (frame s), t4, m4, e8]

/-- A row of bytes of the call's own, made of a text. -/
def BytesAt (w : World) (g : Nat) (G : List UInt8) : Prop :=
  ∃ cs : Array Value, w.heap[g]? = some (.cells cs 5 (cs.size, cs.size + 1)) ∧ G.length ≤ cs.size ∧ ∀ (j : Nat) (u : UInt8), G[j]? = some u → cs[j]? = some (Value.int .u8 u.toNat)
theorem BytesAt.cell {w : World} {g : Nat} {G : List UInt8} (h : BytesAt w g G) (j : Nat) (u : UInt8) (hu : G[j]? = some u) : w.cell? ⟨g, j, none⟩ = some (.int .u8 u.toNat) := by
  obtain ⟨cs, h1, _, h3⟩ := h
  rw [Lib.cell_of_heap h1]
  exact h3 j u hu
theorem BytesAt.free {w : World} {g : Nat} {G : List UInt8} (h : BytesAt w g G) (j : Nat) (hj : j < G.length) : w.frozen? ⟨g, j, none⟩ = false := by
  obtain ⟨cs, h1, h2, _⟩ := h
  simp [World.frozen?, h1]
  omega
theorem BytesAt.lt {w : World} {g : Nat} {G : List UInt8} (h : BytesAt w g G) : g < w.heap.size := by
  obtain ⟨cs, h1, _⟩ := h
  exact (Array.getElem?_eq_some_iff.1 h1).1
theorem BytesAt.put {w : World} {g : Nat} {G : List UInt8} (h : BytesAt w g G) (j : Nat) (x : UInt8) : BytesAt (w.setCell ⟨g, j, none⟩ (.int .u8 x.toNat)) g (G.set j x) := by
  obtain ⟨cs, h1, h2, h3⟩ := h
  refine ⟨cs.setIfInBounds j (.int .u8 x.toNat), ?_, by rw [List.length_set, Array.size_setIfInBounds]; exact h2, fun i u hu => ?_⟩
  · rw [Array.size_setIfInBounds]
    simp [World.setCell, Array.getElem?_modify, h1]
  · rw [List.getElem?_set] at hu
    rw [Array.getElem?_setIfInBounds]
    split at hu
    · rename_i e
      subst e
      split at hu
      · rename_i hj
        rw [if_pos rfl, if_pos (by omega)]
        cases hu
        rfl
      · cases hu
    · rename_i e
      rw [if_neg e]
      exact h3 i u hu
theorem BytesAt.conv {w : World} {g : Nat} {G : List UInt8} (cap : Nat) (h : BytesAt w g G) : (convert 33 9 (.slice (some ⟨g, 0, none⟩) G.length cap)).run Tryd.prog w = .ok (.string (stx G)) w := by
  refine run_convert_bytes_back _ _ _ _ ⟨g, 0, none⟩ cap G Tryd.underlying33 Tryd.underlying5 Tryd.underlying9 fun j hj => ?_
  rw [show (⟨g, 0, none⟩ : Addr).add j = ⟨g, j, none⟩ by simp [Addr.add]; exact fun e => e.symm]
  exact h.cell j _ (List.getElem?_eq_getElem hj)
theorem BytesAt.past {w w' : World} {g : Nat} {G : List UInt8} (h : BytesAt w g G) (k : Below w.heap.size w w') : BytesAt w' g G := by
  have hl := h.lt
  obtain ⟨cs, h1, h2⟩ := h
  exact ⟨cs, (k.block g hl).trans h1, h2⟩

set_option maxRecDepth 100000 in
theorem walk_no (s : ByteArray) (a : Int) (t : Nat) (w : World) (ht : Tabs w) (h : a < 0 ∨ (((s.data.toList.take 300).length + 8 : Nat) : Int) ≤ a ∨ t = 0) : Calls Tryd.prog 12 #[.string s, .int .i64 a, .int .u32 t] w fun e w' => e = .returned (.bool true) ∧ Below w.heap.size w w' := by
  have HK := Lib.hid (l3Cut_any s 300 w (by decide))
  obtain ⟨L, hL⟩ : ∃ L, s.data.toList.take 300 = L := ⟨_, rfl⟩
  have hl : L.length ≤ 300 := by rw [← hL, List.length_take]; omega
  rw [hL] at HK
  have H1 := Lib.hid (Wrap_any (stx L) w (by rw [stx_size]; omega) ht)
  rw [show (stx L).data.toList = L from rfl] at H1
  have z1 : (stx L).size = L.length := stx_size L
  have z2 : (stx (frame L)).size = L.length + 8 := by rw [stx_size, frame_length]; omega
  have hl' : (L.length : Int) ≤ 300 := by omega
  have HT := Lib.hid ht
  rw [hL] at h
  obtain ⟨n, hn⟩ : ∃ n, L.length = n := ⟨_, rfl⟩
  rw [hn] at h z1 z2 hl'
  by_cases h1 : a < 0
  · have e1 : decide (a < 0) = true := decide_eq_true h1
    clear ht hL hl h h1 hn
    go_enter Tryd.func12, Tryd.ntmps12
    go_wp2_with fail
    refine HK.out.mono ?_
    rintro e w1 ⟨rfl, rfl⟩
    go_wp2_with fail
    refine H1.out.mono ?_
    rintro e w2 ⟨rfl, b1⟩
    clear HK H1
    go_wp2_with fail
    have T1 := Lib.hid (HT.out.below b1)
    refine (awake4 _ T1.out).mono ?_
    rintro e w3 ⟨rfl, b2⟩
    have b3 := below_past b1 b2 b1.size
    clear b1 b2 T1
    go_wp2_with fail
    go_ret
    exact ⟨rfl, b3⟩
  · have e1 : decide (a < 0) = false := decide_eq_false h1
    by_cases h2 : (n : Int) + 8 ≤ a
    · have e2 : decide ((n : Int) + 8 ≤ a) = true := decide_eq_true h2
      clear ht hL hl h h1 h2 hn
      go_enter Tryd.func12, Tryd.ntmps12
      go_wp2_with fail
      refine HK.out.mono ?_
      rintro e w1 ⟨rfl, rfl⟩
      go_wp2_with fail
      refine H1.out.mono ?_
      rintro e w2 ⟨rfl, b1⟩
      clear HK H1
      go_wp2_with fail
      have T1 := Lib.hid (HT.out.below b1)
      refine (awake4 _ T1.out).mono ?_
      rintro e w3 ⟨rfl, b2⟩
      have b3 := below_past b1 b2 b1.size
      clear b1 b2 T1
      go_wp2_with fail
      go_ret
      exact ⟨rfl, b3⟩
    · have e2 : decide ((n : Int) + 8 ≤ a) = false := decide_eq_false h2
      obtain rfl : t = 0 := by omega
      clear ht hL hl h h1 h2 hn
      go_enter Tryd.func12, Tryd.ntmps12
      go_wp2_with fail
      refine HK.out.mono ?_
      rintro e w1 ⟨rfl, rfl⟩
      go_wp2_with fail
      refine H1.out.mono ?_
      rintro e w2 ⟨rfl, b1⟩
      clear HK H1
      go_wp2_with fail
      have T1 := Lib.hid (HT.out.below b1)
      refine (awake4 _ T1.out).mono ?_
      rintro e w3 ⟨rfl, b2⟩
      have b3 := below_past b1 b2 b1.size
      clear b1 b2 T1
      go_wp2_with fail
      go_ret
      exact ⟨rfl, b3⟩
set_option maxRecDepth 100000 in
set_option maxHeartbeats 2000000 in
theorem walk_yes (s : ByteArray) (a t : Nat) (w : World) (ht : Tabs w) (ha : a < (s.data.toList.take 300).length + 8) (h0 : t ≠ 0) (h32 : t < 4294967296) : Calls Tryd.prog 12 #[.string s, .int .i64 a, .int .u32 t] w fun e w' => e = .returned (.bool true) ∧ Below w.heap.size w w' := by
  have HK := Lib.hid (l3Cut_any s 300 w (by decide))
  obtain ⟨L, hL⟩ : ∃ L, s.data.toList.take 300 = L := ⟨_, rfl⟩
  have hl : L.length ≤ 300 := by rw [← hL, List.length_take]; omega
  rw [hL] at HK
  have H1 := Lib.hid (Wrap_any (stx L) w (by rw [stx_size]; omega) ht)
  rw [show (stx L).data.toList = L from rfl] at H1
  have z1 : (stx L).size = L.length := stx_size L
  have z2 : (stx (frame L)).size = L.length + 8 := by rw [stx_size, frame_length]; omega
  have hl' : (L.length : Int) ≤ 300 := by omega
  have HT := Lib.hid ht
  rw [hL] at ha
  obtain ⟨n, hn⟩ : ∃ n, L.length = n := ⟨_, rfl⟩
  rw [hn] at ha z1 z2 hl'
  have HL := Lib.hid hn
  have e1 : decide ((a : Int) < 0) = false := decide_eq_false (by omega)
  have e2 : decide ((n : Int) + 8 ≤ a) = false := decide_eq_false (by omega)
  have e3 : ((t : Int) == 0) = false := by rw [beq_eq_false_iff_ne]; omega
  have h300 : n ≤ 300 := by omega
  clear ht hL hl hn h0
  go_enter Tryd.func12, Tryd.ntmps12
  go_wp2_with fail
  refine HK.out.mono ?_
  rintro e w1 ⟨rfl, rfl⟩
  go_wp2_with fail
  refine H1.out.mono ?_
  rintro e w2 ⟨rfl, b1⟩
  clear HK H1
  go_wp2_with fail
  have hlen := HL.out
  rw [run_bytes_of_string w2 9 33 5 (stx (frame L)) Tryd.underlying9 Tryd.underlying33 Tryd.underlying5]
  have hcz : (bytesRow (stx (frame L)) (grownCap w2 (stx (frame L)).size 0 5)).size ≥ (frame L).length := by
    rw [bytesRow, Array.size_append, Array.size_map]
    exact Nat.le_add_right _ _
  have k0 : BytesAt (w2.drew.alloc (.cells (bytesRow (stx (frame L)) (grownCap w2 (stx (frame L)).size 0 5)) 5 ((bytesRow (stx (frame L)) (grownCap w2 (stx (frame L)).size 0 5)).size, (bytesRow (stx (frame L)) (grownCap w2 (stx (frame L)).size 0 5)).size + 1))) w2.heap.size (frame L) := by
    refine ⟨_, heap_alloc_new w2.drew _, hcz, fun j u hu => ?_⟩
    rw [bytesRow, Array.getElem?_append_left (by rw [Array.size_map]; exact (List.getElem?_eq_some_iff.1 hu).1), Array.getElem?_map]
    have : (stx (frame L)).data[j]? = some u := by rw [← hu]; exact List.getElem?_toArray
    rw [this]
    rfl
  have b2 : Below w2.heap.size w2 (w2.drew.alloc (.cells (bytesRow (stx (frame L)) (grownCap w2 (stx (frame L)).size 0 5)) 5 ((bytesRow (stx (frame L)) (grownCap w2 (stx (frame L)).size 0 5)).size, (bytesRow (stx (frame L)) (grownCap w2 (stx (frame L)).size 0 5)).size + 1))) := (Below.refl _ _).drew.alloc (Nat.le_refl _) _
  have b3 := below_past b1 b2 b1.size
  have hgw := b1.size
  have K0 := Lib.hid k0
  clear hcz k0 b2 b1 hlen
  generalize grownCap w2 (stx (frame L)).size 0 5 = cap at *
  generalize hg : w2.heap.size = g at *
  clear hg
  generalize w2.drew.alloc (.cells (bytesRow (stx (frame L)) cap) 5 ((bytesRow (stx (frame L)) cap).size, (bytesRow (stx (frame L)) cap).size + 1)) = W at *
  have ha' : (a : Int) < n + 8 := by omega
  simp only [Result.andThen]
  rw [Oper.upon_value]
  go_wp2_with fail
  go_loopw [10] (fun x wr => ∃ (i : Nat) (G : List UInt8), i ≤ 4 ∧ x = .int .i64 i ∧ Hid (Fine a (frame L) G) ∧ Hid (BytesAt wr g G) ∧ Below w1.heap.size w1 wr) (fun x _ => (4 - intOf x).toNat)
  case atStart => exact ⟨0, frame L, Nat.zero_le _, rfl, Lib.hid (Fine.refl _ _), K0, b3⟩
  case round =>
    obtain ⟨i, G, hi, rfl, HF, HB, b4⟩ := hrel
    have hi4 : (i : Int) ≤ 4 := by omega
    by_cases c1 : i < 4
    · have c1' : decide ((i : Int) < 4) = true := decide_eq_true (by omega)
      by_cases c2 : a + i < n + 8
      · have c2' : decide ((a : Int) + i < n + 8) = true := decide_eq_true (by omega)
        by_cases A1 : a + i < 4
        · have d1 : decide ((4 : Int) ≤ a + i) = false := decide_eq_false (by omega)
          have d3 : decide ((4 : Int) ≤ a) = false := decide_eq_false (by omega)
          have hs : inSum (a + i) ↔ inSum a := by unfold inSum; omega
          have hGl : G.length = n + 8 := by rw [HF.out.len, frame_length, HL.out]; omega
          have hgu : G[a + i]? = some (G[a + i]'(by omega)) := List.getElem?_eq_getElem (by omega)
          generalize (G[a + i]'(by omega)) = u at hgu
          have f1 := HB.out.free (a + i) (by omega)
          have k1 := HB.out.cell (a + i) u hgu
          have hu := u.toNat_lt
          have hx : bits .xor .u8 (u.toNat : Int) ((t : Int) / 2 ^ (8 * i) % 256) = ((UInt8.ofNat (u.toNat ^^^ (t / 2 ^ (8 * i) % 256))).toNat : Int) := by
            have hd : (t : Int) / 2 ^ (8 * i) % 256 = ((t / 2 ^ (8 * i) % 256 : Nat) : Int) := by
              rw [Int.natCast_emod, Int.natCast_ediv, Int.natCast_pow]
              rfl
            have hz : t / 2 ^ (8 * i) % 256 < 256 := Nat.mod_lt _ (by decide)
            rw [hd, u8_xor_nat _ _ hu hz, UInt8.toNat_ofNat', Nat.mod_eq_of_lt (Nat.xor_lt_two_pow (n := 8) hu hz)]
          generalize UInt8.ofNat (u.toNat ^^^ (t / 2 ^ (8 * i) % 256)) = x at hx
          have K2 := Lib.hid (HB.out.put (a + i) x)
          have F2 := Lib.hid (HF.out.set i x c1 hs)
          have b5 : Below w1.heap.size w1 (wr.setCell ⟨g, a + i, none⟩ (.int .u8 x.toNat)) := Below.setCell b4 (p := ⟨g, a + i, none⟩) hgw _
          have c2n : (a : Int) + i < n + 8 := by omega
          have s0 : 0 ≤ 8 * (i : Int) := by omega
          have s1 : 8 * (i : Int) < 32 := by omega
          have s2 : 8 * (i : Int) < 64 := by omega
          have s3 : i ≤ 3 := by omega
          have hlt4 : i + 1 ≤ 4 := by omega
          clear c2 hGl hgu hs hu b4 HB HF
          go_wp2_with fail
          go_region
          have b6 := b5.drew
          have K3 : Hid (BytesAt (wr.setCell ⟨g, a + i, none⟩ (.int .u8 x.toNat)).drew g (G.set (a + i) x)) := K2
          go_wp2_with fail
          exact ⟨⟨i + 1, G.set (a + i) x, hlt4, by go_num, F2, K3, b6⟩, by simp [intOf]; omega⟩
        · have d1 : decide ((4 : Int) ≤ a + i) = true := decide_eq_true (by omega)
          by_cases A2 : a < 4
          · have d2 : decide ((a : Int) + i < 8) = true := decide_eq_true (by omega)
            have d3 : decide ((4 : Int) ≤ a) = false := decide_eq_false (by omega)
            clear c1 c2 A1 A2
            have q := HB.out.conv cap
            rw [HF.out.len, frame_length, HL.out, Nat.add_comm] at q
            have T1 := Lib.hid (HT.out.below b4)
            have HFF := Lib.hid HF.out
            have hzG : (stx G).size ≤ 1000 := by rw [stx_size, HF.out.len, frame_length, HL.out]; omega
            by_cases hG : G = frame L
            · subst hG
              clear HF HB HFF
              go_wp2_with fail
              refine (awake4 _ T1.out).mono ?_
              rintro e w3 ⟨rfl, b5⟩
              have b6 := below_past b4 b5 b4.size
              clear b4 b5 T1 q
              go_wp2_with fail
              go_ret
              exact ⟨rfl, b6⟩
            · have hne := str_ne (fun e => hG (stx_inj e))
              have hne2 : (G == frame L) = false := beq_eq_false_iff_ne.2 hG
              have HO := Lib.hid (Open_any (stx G) wr (by omega) T1.out)
              rw [show (stx G).data.toList = G from rfl] at HO
              obtain ⟨E, hE⟩ : ∃ E, opE G = E := ⟨_, rfl⟩
              obtain ⟨N, hN⟩ : ∃ N, opN G = N := ⟨_, rfl⟩
              obtain ⟨S, hS⟩ : ∃ S, opS G = S := ⟨_, rfl⟩
              have hO : OpenR G = .tuple #[.string (stx S), .int .i64 N, .int .i64 E] := by rw [OpenR, hE, hN, hS]
              rw [hO] at HO
              have hfin : E = 0 → N ≠ n + 8 := fun e0 eN => spoilt_math L a G (by rw [HL.out]; omega) HFF.out hG (hE.trans e0) (by rw [hN, eN, frame_length, HL.out]; omega)
              by_cases hE0 : E = 0
              · have hq : (E != 0) = false := by simpa using hE0
                have hNn := hfin hE0
                have hq2 : ((N : Int) != n + 8) = true := by simp; omega
                clear HF HB HFF hG hE hN hS hO hfin hNn hzG hE0
                go_wp2_with fail
                refine HO.out.mono ?_
                rintro e w3 ⟨rfl, b5⟩
                have T3 := Lib.hid (T1.out.below b5)
                have b6 := below_past b4 b5 b4.size
                clear b4 b5 T1 q HO
                go_wp2_with fail
                refine (awake4 _ T3.out).mono ?_
                rintro e w4 ⟨rfl, b5⟩
                have b7 := below_past b6 b5 b6.size
                clear b6 b5 T3
                go_wp2_with fail
                go_ret
                exact ⟨rfl, b7⟩
              · have hq : (E != 0) = true := by simpa using hE0
                clear HF HB HFF hG hE hN hS hO hfin hzG hE0
                go_wp2_with fail
                refine HO.out.mono ?_
                rintro e w3 ⟨rfl, b5⟩
                have T3 := Lib.hid (T1.out.below b5)
                have b6 := below_past b4 b5 b4.size
                clear b4 b5 T1 q HO
                go_wp2_with fail
                refine (awake4 _ T3.out).mono ?_
                rintro e w4 ⟨rfl, b5⟩
                have b7 := below_past b6 b5 b6.size
                clear b6 b5 T3
                go_wp2_with fail
                go_ret
                exact ⟨rfl, b7⟩
          · have d3 : decide ((4 : Int) ≤ a) = true := decide_eq_true (by omega)
            by_cases A3 : a < 8
            · have d4 : decide ((a : Int) < 8) = true := decide_eq_true (by omega)
              by_cases A4 : a + i < 8
              · have d2 : decide ((a : Int) + i < 8) = true := decide_eq_true (by omega)
                have hs : inSum (a + i) ↔ inSum a := by unfold inSum; omega
                clear A1 A2 A3 A4
                have hGl : G.length = n + 8 := by rw [HF.out.len, frame_length, HL.out]; omega
                have hgu : G[a + i]? = some (G[a + i]'(by omega)) := List.getElem?_eq_getElem (by omega)
                generalize (G[a + i]'(by omega)) = u at hgu
                have f1 := HB.out.free (a + i) (by omega)
                have k1 := HB.out.cell (a + i) u hgu
                have hu := u.toNat_lt
                have hx : bits .xor .u8 (u.toNat : Int) ((t : Int) / 2 ^ (8 * i) % 256) = ((UInt8.ofNat (u.toNat ^^^ (t / 2 ^ (8 * i) % 256))).toNat : Int) := by
                  have hd : (t : Int) / 2 ^ (8 * i) % 256 = ((t / 2 ^ (8 * i) % 256 : Nat) : Int) := by
                    rw [Int.natCast_emod, Int.natCast_ediv, Int.natCast_pow]
                    rfl
                  have hz : t / 2 ^ (8 * i) % 256 < 256 := Nat.mod_lt _ (by decide)
                  rw [hd, u8_xor_nat _ _ hu hz, UInt8.toNat_ofNat', Nat.mod_eq_of_lt (Nat.xor_lt_two_pow (n := 8) hu hz)]
                generalize UInt8.ofNat (u.toNat ^^^ (t / 2 ^ (8 * i) % 256)) = x at hx
                have K2 := Lib.hid (HB.out.put (a + i) x)
                have F2 := Lib.hid (HF.out.set i x c1 hs)
                have b5 : Below w1.heap.size w1 (wr.setCell ⟨g, a + i, none⟩ (.int .u8 x.toNat)) := Below.setCell b4 (p := ⟨g, a + i, none⟩) hgw _
                have c2n : (a : Int) + i < n + 8 := by omega
                have s0 : 0 ≤ 8 * (i : Int) := by omega
                have s1 : 8 * (i : Int) < 32 := by omega
                have s2 : 8 * (i : Int) < 64 := by omega
                have s3 : i ≤ 3 := by omega
                have hlt4 : i + 1 ≤ 4 := by omega
                clear c2 hGl hgu hs hu b4 HB HF
                go_wp2_with fail
                go_region
                have b6 := b5.drew
                have K3 : Hid (BytesAt (wr.setCell ⟨g, a + i, none⟩ (.int .u8 x.toNat)).drew g (G.set (a + i) x)) := K2
                go_wp2_with fail
                exact ⟨⟨i + 1, G.set (a + i) x, hlt4, by go_num, F2, K3, b6⟩, by simp [intOf]; omega⟩
              · have d2 : decide ((a : Int) + i < 8) = false := decide_eq_false (by omega)
                clear c1 c2 A1 A2 A3 A4
                have q := HB.out.conv cap
                rw [HF.out.len, frame_length, HL.out, Nat.add_comm] at q
                have T1 := Lib.hid (HT.out.below b4)
                have HFF := Lib.hid HF.out
                have hzG : (stx G).size ≤ 1000 := by rw [stx_size, HF.out.len, frame_length, HL.out]; omega
                by_cases hG : G = frame L
                · subst hG
                  clear HF HB HFF
                  go_wp2_with fail
                  refine (awake4 _ T1.out).mono ?_
                  rintro e w3 ⟨rfl, b5⟩
                  have b6 := below_past b4 b5 b4.size
                  clear b4 b5 T1 q
                  go_wp2_with fail
                  go_ret
                  exact ⟨rfl, b6⟩
                · have hne := str_ne (fun e => hG (stx_inj e))
                  have hne2 : (G == frame L) = false := beq_eq_false_iff_ne.2 hG
                  have HO := Lib.hid (Open_any (stx G) wr (by omega) T1.out)
                  rw [show (stx G).data.toList = G from rfl] at HO
                  obtain ⟨E, hE⟩ : ∃ E, opE G = E := ⟨_, rfl⟩
                  obtain ⟨N, hN⟩ : ∃ N, opN G = N := ⟨_, rfl⟩
                  obtain ⟨S, hS⟩ : ∃ S, opS G = S := ⟨_, rfl⟩
                  have hO : OpenR G = .tuple #[.string (stx S), .int .i64 N, .int .i64 E] := by rw [OpenR, hE, hN, hS]
                  rw [hO] at HO
                  have hfin : E = 0 → N ≠ n + 8 := fun e0 eN => spoilt_math L a G (by rw [HL.out]; omega) HFF.out hG (hE.trans e0) (by rw [hN, eN, frame_length, HL.out]; omega)
                  by_cases hE0 : E = 0
                  · have hq : (E != 0) = false := by simpa using hE0
                    have hNn := hfin hE0
                    have hq2 : ((N : Int) != n + 8) = true := by simp; omega
                    clear HF HB HFF hG hE hN hS hO hfin hNn hzG hE0
                    go_wp2_with fail
                    refine HO.out.mono ?_
                    rintro e w3 ⟨rfl, b5⟩
                    have T3 := Lib.hid (T1.out.below b5)
                    have b6 := below_past b4 b5 b4.size
                    clear b4 b5 T1 q HO
                    go_wp2_with fail
                    refine (awake4 _ T3.out).mono ?_
                    rintro e w4 ⟨rfl, b5⟩
                    have b7 := below_past b6 b5 b6.size
                    clear b6 b5 T3
                    go_wp2_with fail
                    go_ret
                    exact ⟨rfl, b7⟩
                  · have hq : (E != 0) = true := by simpa using hE0
                    clear HF HB HFF hG hE hN hS hO hfin hzG hE0
                    go_wp2_with fail
                    refine HO.out.mono ?_
                    rintro e w3 ⟨rfl, b5⟩
                    have T3 := Lib.hid (T1.out.below b5)
                    have b6 := below_past b4 b5 b4.size
                    clear b4 b5 T1 q HO
                    go_wp2_with fail
                    refine (awake4 _ T3.out).mono ?_
                    rintro e w4 ⟨rfl, b5⟩
                    have b7 := below_past b6 b5 b6.size
                    clear b6 b5 T3
                    go_wp2_with fail
                    go_ret
                    exact ⟨rfl, b7⟩
            · have d4 : decide ((a : Int) < 8) = false := decide_eq_false (by omega)
              have d2 : decide ((a : Int) + i < 8) = false := decide_eq_false (by omega)
              have hs : inSum (a + i) ↔ inSum a := by unfold inSum; omega
              clear A1 A2 A3
              have hGl : G.length = n + 8 := by rw [HF.out.len, frame_length, HL.out]; omega
              have hgu : G[a + i]? = some (G[a + i]'(by omega)) := List.getElem?_eq_getElem (by omega)
              generalize (G[a + i]'(by omega)) = u at hgu
              have f1 := HB.out.free (a + i) (by omega)
              have k1 := HB.out.cell (a + i) u hgu
              have hu := u.toNat_lt
              have hx : bits .xor .u8 (u.toNat : Int) ((t : Int) / 2 ^ (8 * i) % 256) = ((UInt8.ofNat (u.toNat ^^^ (t / 2 ^ (8 * i) % 256))).toNat : Int) := by
                have hd : (t : Int) / 2 ^ (8 * i) % 256 = ((t / 2 ^ (8 * i) % 256 : Nat) : Int) := by
                  rw [Int.natCast_emod, Int.natCast_ediv, Int.natCast_pow]
                  rfl
                have hz : t / 2 ^ (8 * i) % 256 < 256 := Nat.mod_lt _ (by decide)
                rw [hd, u8_xor_nat _ _ hu hz, UInt8.toNat_ofNat', Nat.mod_eq_of_lt (Nat.xor_lt_two_pow (n := 8) hu hz)]
              generalize UInt8.ofNat (u.toNat ^^^ (t / 2 ^ (8 * i) % 256)) = x at hx
              have K2 := Lib.hid (HB.out.put (a + i) x)
              have F2 := Lib.hid (HF.out.set i x c1 hs)
              have b5 : Below w1.heap.size w1 (wr.setCell ⟨g, a + i, none⟩ (.int .u8 x.toNat)) := Below.setCell b4 (p := ⟨g, a + i, none⟩) hgw _
              have c2n : (a : Int) + i < n + 8 := by omega
              have s0 : 0 ≤ 8 * (i : Int) := by omega
              have s1 : 8 * (i : Int) < 32 := by omega
              have s2 : 8 * (i : Int) < 64 := by omega
              have s3 : i ≤ 3 := by omega
              have hlt4 : i + 1 ≤ 4 := by omega
              clear c2 hGl hgu hs hu b4 HB HF
              go_wp2_with fail
              go_region
              have b6 := b5.drew
              have K3 : Hid (BytesAt (wr.setCell ⟨g, a + i, none⟩ (.int .u8 x.toNat)).drew g (G.set (a + i) x)) := K2
              go_wp2_with fail
              exact ⟨⟨i + 1, G.set (a + i) x, hlt4, by go_num, F2, K3, b6⟩, by simp [intOf]; omega⟩
      · have c2' : decide ((a : Int) + i < n + 8) = false := decide_eq_false (by omega)
        clear c1 c2
        have q := HB.out.conv cap
        rw [HF.out.len, frame_length, HL.out, Nat.add_comm] at q
        have T1 := Lib.hid (HT.out.below b4)
        have HFF := Lib.hid HF.out
        have hzG : (stx G).size ≤ 1000 := by rw [stx_size, HF.out.len, frame_length, HL.out]; omega
        by_cases hG : G = frame L
        · subst hG
          clear HF HB HFF
          go_wp2_with fail
          refine (awake4 _ T1.out).mono ?_
          rintro e w3 ⟨rfl, b5⟩
          have b6 := below_past b4 b5 b4.size
          clear b4 b5 T1 q
          go_wp2_with fail
          go_ret
          exact ⟨rfl, b6⟩
        · have hne := str_ne (fun e => hG (stx_inj e))
          have hne2 : (G == frame L) = false := beq_eq_false_iff_ne.2 hG
          have HO := Lib.hid (Open_any (stx G) wr (by omega) T1.out)
          rw [show (stx G).data.toList = G from rfl] at HO
          obtain ⟨E, hE⟩ : ∃ E, opE G = E := ⟨_, rfl⟩
          obtain ⟨N, hN⟩ : ∃ N, opN G = N := ⟨_, rfl⟩
          obtain ⟨S, hS⟩ : ∃ S, opS G = S := ⟨_, rfl⟩
          have hO : OpenR G = .tuple #[.string (stx S), .int .i64 N, .int .i64 E] := by rw [OpenR, hE, hN, hS]
          rw [hO] at HO
          have hfin : E = 0 → N ≠ n + 8 := fun e0 eN => spoilt_math L a G (by rw [HL.out]; omega) HFF.out hG (hE.trans e0) (by rw [hN, eN, frame_length, HL.out]; omega)
          by_cases hE0 : E = 0
          · have hq : (E != 0) = false := by simpa using hE0
            have hNn := hfin hE0
            have hq2 : ((N : Int) != n + 8) = true := by simp; omega
            clear HF HB HFF hG hE hN hS hO hfin hNn hzG hE0
            go_wp2_with fail
            refine HO.out.mono ?_
            rintro e w3 ⟨rfl, b5⟩
            have T3 := Lib.hid (T1.out.below b5)
            have b6 := below_past b4 b5 b4.size
            clear b4 b5 T1 q HO
            go_wp2_with fail
            refine (awake4 _ T3.out).mono ?_
            rintro e w4 ⟨rfl, b5⟩
            have b7 := below_past b6 b5 b6.size
            clear b6 b5 T3
            go_wp2_with fail
            go_ret
            exact ⟨rfl, b7⟩
          · have hq : (E != 0) = true := by simpa using hE0
            clear HF HB HFF hG hE hN hS hO hfin hzG hE0
            go_wp2_with fail
            refine HO.out.mono ?_
            rintro e w3 ⟨rfl, b5⟩
            have T3 := Lib.hid (T1.out.below b5)
            have b6 := below_past b4 b5 b4.size
            clear b4 b5 T1 q HO
            go_wp2_with fail
            refine (awake4 _ T3.out).mono ?_
            rintro e w4 ⟨rfl, b5⟩
            have b7 := below_past b6 b5 b6.size
            clear b6 b5 T3
            go_wp2_with fail
            go_ret
            exact ⟨rfl, b7⟩
    · have c1' : decide ((i : Int) < 4) = false := decide_eq_false (by omega)
      clear c1
      have q := HB.out.conv cap
      rw [HF.out.len, frame_length, HL.out, Nat.add_comm] at q
      have T1 := Lib.hid (HT.out.below b4)
      have HFF := Lib.hid HF.out
      have hzG : (stx G).size ≤ 1000 := by rw [stx_size, HF.out.len, frame_length, HL.out]; omega
      by_cases hG : G = frame L
      · subst hG
        clear HF HB HFF
        go_wp2_with fail
        refine (awake4 _ T1.out).mono ?_
        rintro e w3 ⟨rfl, b5⟩
        have b6 := below_past b4 b5 b4.size
        clear b4 b5 T1 q
        go_wp2_with fail
        go_ret
        exact ⟨rfl, b6⟩
      · have hne := str_ne (fun e => hG (stx_inj e))
        have hne2 : (G == frame L) = false := beq_eq_false_iff_ne.2 hG
        have HO := Lib.hid (Open_any (stx G) wr (by omega) T1.out)
        rw [show (stx G).data.toList = G from rfl] at HO
        obtain ⟨E, hE⟩ : ∃ E, opE G = E := ⟨_, rfl⟩
        obtain ⟨N, hN⟩ : ∃ N, opN G = N := ⟨_, rfl⟩
        obtain ⟨S, hS⟩ : ∃ S, opS G = S := ⟨_, rfl⟩
        have hO : OpenR G = .tuple #[.string (stx S), .int .i64 N, .int .i64 E] := by rw [OpenR, hE, hN, hS]
        rw [hO] at HO
        have hfin : E = 0 → N ≠ n + 8 := fun e0 eN => spoilt_math L a G (by rw [HL.out]; omega) HFF.out hG (hE.trans e0) (by rw [hN, eN, frame_length, HL.out]; omega)
        by_cases hE0 : E = 0
        · have hq : (E != 0) = false := by simpa using hE0
          have hNn := hfin hE0
          have hq2 : ((N : Int) != n + 8) = true := by simp; omega
          clear HF HB HFF hG hE hN hS hO hfin hNn hzG hE0
          go_wp2_with fail
          refine HO.out.mono ?_
          rintro e w3 ⟨rfl, b5⟩
          have T3 := Lib.hid (T1.out.below b5)
          have b6 := below_past b4 b5 b4.size
          clear b4 b5 T1 q HO
          go_wp2_with fail
          refine (awake4 _ T3.out).mono ?_
          rintro e w4 ⟨rfl, b5⟩
          have b7 := below_past b6 b5 b6.size
          clear b6 b5 T3
          go_wp2_with fail
          go_ret
          exact ⟨rfl, b7⟩
        · have hq : (E != 0) = true := by simpa using hE0
          clear HF HB HFF hG hE hN hS hO hfin hzG hE0
          go_wp2_with fail
          refine HO.out.mono ?_
          rintro e w3 ⟨rfl, b5⟩
          have T3 := Lib.hid (T1.out.below b5)
          have b6 := below_past b4 b5 b4.size
          clear b4 b5 T1 q HO
          go_wp2_with fail
          refine (awake4 _ T3.out).mono ?_
          rintro e w4 ⟨rfl, b5⟩
          have b7 := below_past b6 b5 b6.size
          clear b6 b5 T3
          go_wp2_with fail
          go_ret
          exact ⟨rfl, b7⟩
theorem walk (s : ByteArray) (a : Int) (t : Nat) (h32 : t < 4294967296) (w : World) (ht : Tabs w) : Calls Tryd.prog 12 #[.string s, .int .i64 a, .int .u32 t] w fun e w' => e = .returned (.bool true) ∧ Below w.heap.size w w' := by
  by_cases h : a < 0 ∨ (((s.data.toList.take 300).length + 8 : Nat) : Int) ≤ a ∨ t = 0
  · exact walk_no s a t w ht h
  · obtain ⟨k, rfl⟩ : ∃ k : Nat, a = k := ⟨a.toNat, by omega⟩
    exact walk_yes s k t w ht (by omega) (fun e => h (.inr (.inr e))) h32
theorem open_u32 {P : Program} {H : Type} {enc : TypeId × Value → H} {W : World} {sp : Nat → Bool} {held : Bool} {base : Nat} {t : TypeId} {v : Value} {d : DataW H} {p : List MemPlace} (hu : P.underlying t = some (.int .u32)) (hval : Value.okWide P W .any base t v) (hd : DataW.Trod enc P W 0 sp held t v d p) : ∃ c : Nat, c < 4294967296 ∧ v = .int .u32 c := by
  obtain ⟨n, rfl, _, _, w0⟩ := open_int hu hval hd
  have h : 0 ≤ n ∧ n ≤ 4294967295 := by simpa [Lit.wf, IntKind.min, IntKind.max, IntKind.signed, IntKind.bits] using w0
  exact ⟨n.toNat, by omega, by rw [Int.toNat_of_nonneg h.1]⟩
set_option maxRecDepth 100000 in
theorem lifted (os : Os) (started : os.Started) (H : Type) (enc : TypeId × Value → H) :
    ReturnsInHanded {} Tryd.checked os 12 .any (fun w args => (Rows.sealSpoiltSpec.pre enc Tryd.prog Tryd.f12 [] false w args ∧ laidMetH Tryd.prog laidSeal w) ∧ sizedMet enc Tryd.prog Tryd.f12 (OpenSpec.ofChange Rows.sealSpoiltSpec) false w args) (Rows.sealSpoiltSpec.post enc Tryd.prog Tryd.f12 false true false false) := by
  refine returnsInHanded_of_change_and (C := Tryd.checked) (X := fun w _ => laidMetH Tryd.prog laidSeal w) (fun _ _ _ hh h => h.of_heap hh) own started (by kernel_rfl) Tryd.func12
    (ChangeSpec.witness_shaped (enc := enc) (C := Tryd.checked) (os := os) (X := fun w _ => laidMetH Tryd.prog laidSeal w) false (World.doorLaid Tryd.prog 2000 os) #[.string ⟨#[]⟩, .int .i64 0, .int .u32 0] 8 rfl (World.shaped_of_RefB (by kernel_rfl) (by kernel_rfl)) (by kernel_rfl) (by kernel_rfl) (by kernel_rfl) (door_seal os _)) ?_
  intro W base args ds gs before hval0 hW _ _ hL _
  have hval : ∀ (j : Nat) t v, Tryd.f12.params[j]? = some t → args[j]? = some v → Value.okWide Tryd.prog W .any base t v := hval0
  clear hval0
  have hW' := hW
  obtain ⟨p, q, hA0, hV, rfl, hfz, hnd⟩ := hW
  have hA : DataW.TrodAll enc Tryd.prog W 0 (fun _ => true) true Tryd.f12.params.toList args.toList ds p := hA0
  rw [Tryd.params12] at hA hval
  clear hA0 hfz hnd hV
  have hr : Readable Tryd.f12.params.toList := by
    rw [Tryd.params12]
    exact readable_of_all (by kernel_rfl)
  have fin : ∀ W', Below W.heap.size W W' → Rows.sealSpoiltSpec.post enc Tryd.prog Tryd.f12 false true false false W args (.bool true) W' := fun W' hb =>
    law_post rfl hW' hr (fun l hl => by
      rw [Tryd.params12] at hl
      match l, hl with
      | [d1, d2, d3], _ => rfl) (by kernel_rfl) hb
  clear hW' hr
  have HT := tabs_of_laid hL
  obtain ⟨v0, v1, v2, d0, d1, d2, p0, p1, p2, rfl, rfl, rfl, h0, h1, h2⟩ := trodAll_three hA; obtain ⟨s, rfl, _, _, w0⟩ := open_string Tryd.underlying9 (hval 0 9 v0 rfl rfl) h0; obtain ⟨a, rfl, _, _, w1⟩ := open_int Tryd.underlying3 (hval 1 3 v1 rfl rfl) h1; obtain ⟨t, h32, rfl⟩ := open_u32 Tryd.underlying38 (hval 2 38 v2 rfl rfl) h2
  exact (walk s a t h32 W HT).mono fun e W' ⟨he, hb⟩ => ⟨_, he, fin W' hb⟩
theorem row_holds : Rows.SealSpoiltSaid :=
  OpenClaim.holds_of_wide 12 Tryd.f12 rfl rfl rfl rfl rfl rfl rfl ⟨rfl, rfl, rfl, rfl, rfl⟩ rfl rfl rfl rfl rfl (by kernel_rfl) Tryd.func12 (by kernel_rfl)
    (of_decide_eq_true (by kernel_rfl)) (by unfold Func.isWrapper; first | (rw [if_pos (by decide +kernel)]; kernel_rfl) | (rw [if_neg (by decide +kernel)]; exact ⟨rfl, rfl⟩))
    (fun os started H enc _ => lifted os started H enc)
theorem proved : Rows.SealSpoiltCardSaid :=
  Claim7.holds_tied_plain_at .later [] [.data, .data] true _ false
    row_holds (fun _ h => by cases h) (by kernel_rfl) (fun _ h => by cases h) sealSpoilt_row_tie rfl ⟨rfl, rfl⟩ (by kernel_rfl) rfl
    (fun f fn hf hfn => by
      obtain rfl : f = 12 := Option.some.inj ((show Tryd.prog.funcNamed "chirograph/chirographlaw04.SealSpoilt" = some 12 by kernel_rfl).symm.trans hf) |>.symm
      obtain rfl : fn = Tryd.f12 := (Option.some.inj (Tryd.func12.symm.trans hfn)).symm
      exact ⟨by kernel_rfl, fun j t ht => by
        rw [Tryd.params12] at ht
        have hm : t ∈ [9, 3, 38] := by simpa using Array.mem_of_getElem? ht
        have hall : ([9, 3, 38].all fun u => !Tryd.prog.wantsStandIn u) = true := by kernel_rfl
        exact (show Tryd.prog.wantsStandIn t = false by simpa using List.all_eq_true.1 hall t hm)⟩)
    (by kernel_rfl)
end Go.Proofs.YtogmoclpijibaaaDoor.spoilt
