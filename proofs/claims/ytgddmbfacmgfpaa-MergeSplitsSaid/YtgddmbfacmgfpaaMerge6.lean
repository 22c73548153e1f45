/- The document's lists as one. Conditions: none. -/
import Derived.Test.YtgddmbfacmgfpaaMerge5
namespace Go.Proofs.Ytgddmbfacmgfpaa
open Go Go.RowKit

def foldE (l acc : List Ent) : List Ent := l.foldl (fun a x => putE x a) acc
theorem foldE_take (l acc : List Ent) (i : Nat) (x : Ent) (h : l[i]? = some x) : foldE (l.take (i + 1)) acc = putE x (foldE (l.take i) acc) := by
  unfold foldE
  rw [List.take_add_one, h, List.foldl_append]
  rfl
theorem foldE_rising (l : List Ent) : ∀ {acc : List Ent}, rising acc → rising (foldE l acc) := by
  induction l with
  | nil => exact fun h => h
  | cons x l ih => exact fun h => ih (putE_rising h)
theorem foldE_length (l : List Ent) : ∀ (acc : List Ent), (foldE l acc).length ≤ acc.length + l.length := by
  induction l with
  | nil => intro acc; simp [foldE]
  | cons x l ih =>
    intro acc
    have h1 := ih (putE x acc)
    have h2 := putE_length x acc
    show (foldE l (putE x acc)).length ≤ _
    rw [List.length_cons]
    omega
theorem mergeE_drop (ls : List (List Ent)) (j : Nat) (l : List Ent) (h : ls[j]? = some l) (hl : rising l) (hr : rising (mergeE (ls.drop (j + 1)))) : mergeE (ls.drop j) = foldE l (mergeE (ls.drop (j + 1))) := by
  obtain ⟨h5, h6⟩ := List.getElem?_eq_some_iff.1 h
  rw [List.drop_eq_getElem_cons h5, h6, mergeE]
  exact (fold_put hl hr).symm
theorem sumE_drop (ls : List (List Ent)) (j : Nat) : sumE (ls.drop j) ≤ sumE ls := by
  have := sumE_split j ls
  omega
set_option maxRecDepth 100000 in
set_option maxHeartbeats 4000000 in
theorem r12Lists_any (v : Value) (ls : List (List Ent)) (d : Bool) (w : World) (h : EntssAt w v ls) (hr : ∀ l ∈ ls, rising l) (hs : sumE ls ≤ 400000) (hn : ls.length ≤ 400000) :
    Calls Try.prog 34 #[v, .bool d] w fun e w' => ∃ v', e = .returned v' ∧ OwnEnts w' w.heap.size v' (keptE d (mergeE ls)) ∧ Below w.heap.size w w' := by
  obtain ⟨A, cap, rfl, _, _, h3⟩ := h
  have H3 := Lib.hid h3
  have HR := Lib.hid hr
  have HS := Lib.hid hs
  obtain ⟨n, hnn⟩ : ∃ n, ls.length = n := ⟨_, rfl⟩
  rw [hnn] at hn ⊢
  have HN := Lib.hid hnn
  have hni : (n : Int) ≤ 400000 := by omega
  have b0 : Below w.heap.size w (w.alloc (.cells #[] 71)) := (Below.refl _ _).alloc (Nat.le_refl _) _
  have o0 := (ownEnts_new w w.heap.size w.heap.size rfl (Nat.le_refl _)).lie
  clear h3 hr hs hnn
  go_enter Try.func34, Try.ntmps34
  go_wp2_with fail
  generalize w.alloc (.cells #[] 71) = W0 at *
  generalize hC : w.heap.size = C at *
  have HC := Lib.hid hC
  clear hC
  go_loopw [5, 6] (fun al ix wr => ∃ (k : Nat), k ≤ n ∧ ix = .int .i64 ((k : Int) - 1) ∧ EntsAt wr al (mergeE (ls.drop k)) ∧ Below C w wr) (fun _ ix _ => (intOf ix + 1).toNat)
  case atStart => exact ⟨n, Nat.le_refl _, rfl, by rw [List.drop_eq_nil_of_le (by rw [HN.out]; exact Nat.le_refl _)]; exact o0, b0⟩
  case round =>
    obtain ⟨k, hk, rfl, ea, b1⟩ := hrel
    clear b0 o0
    cases k with
    | zero =>
      rw [List.drop_zero] at ea
      have HLM := Lib.hid (Nat.le_trans (mergeE_length ls) HS.out)
      generalize wr = wp at *
      obtain ⟨M, hM⟩ : ∃ M, mergeE ls = M := ⟨_, rfl⟩
      rw [hM] at ea HLM
      have HME := Lib.hid hM
      have hq : ((0 : Nat) : Int) - 1 = -1 := by decide
      rw [hq]
      obtain ⟨A1, cap1, rfl, _, _, h1⟩ := ea
      have H1 := Lib.hid h1
      obtain ⟨p, hp⟩ : ∃ p, M.length = p := ⟨_, rfl⟩
      have HP := Lib.hid hp
      have hpl : p ≤ 400000 := by
        have := HLM.out
        have := HS.out
        omega
      have hpi : (p : Int) ≤ 400000 := by omega
      have hCr : C ≤ wp.heap.size := by have := b1.size; rw [HC.out] at this; exact this
      have o1 := ownEnts_new wp wp.heap.size wp.heap.size rfl (Nat.le_refl _)
      have a1 : Below wp.heap.size wp (wp.alloc (.cells #[] 71)) := (Below.refl _ _).alloc (Nat.le_refl _) _
      rw [hp]
      clear h1 hM hp hq
      go_wp2_with fail
      generalize wp.alloc (.cells #[] 71) = W1 at *
      generalize hB : wp.heap.size = B at *
      have HB := Lib.hid hB
      clear hB
      go_loopw [9, 36] (fun al ix wq => ∃ (i : Nat) (L : List Ent), i ≤ p ∧ ix = .int .i64 i ∧ OwnEnts wq B al L ∧ Below B wp wq ∧ Hid (keptE d (M.take i) = L)) (fun _ ix _ => (p - intOf ix).toNat)
      case atStart => exact ⟨0, [], Nat.zero_le _, rfl, o1, a1, Lib.hid rfl⟩
      case round =>
        obtain ⟨i, L, hi, rfl, ow, b2, HK⟩ := hrel
        clear o1 a1
        have hBr : B ≤ wr.heap.size := by have := b2.size; rw [HB.out] at this; exact this
        by_cases hlt : i < p
        · have hlt' : (i : Int) < p := by omega
          obtain ⟨x, hx⟩ : ∃ x, M[i]? = some x := ⟨_, List.getElem?_eq_getElem (by rw [HP.out]; exact hlt)⟩
          obtain ⟨g, o, rfl, hat⟩ := H1.out i x hx
          have hat2 := hat.below (by rw [HB.out]; exact b2)
          have hk := keptE_take d M i x hx
          rw [HK.out] at hk
          have hlen : L.length ≤ 1000000 := by
            rw [← HK.out]
            refine Nat.le_trans (List.length_filter_le _ _) ?_
            rw [List.length_take]
            omega
          obtain ⟨k, vl, gn⟩ := x
          obtain ⟨c0, c1, c2⟩ := hat2
          have b3 := b2.alloc hBr (.cells #[.string (stx k), .string (stx vl), .bool gn] 71)
          have ow2 : OwnEnts (wr.alloc (.cells #[.string (stx k), .string (stx vl), .bool gn] 71)) B _ L := World.ownsRow.alloc ow _
          have hz2 : B ≤ (wr.alloc (.cells #[.string (stx k), .string (stx vl), .bool gn] 71)).heap.size := Nat.le_trans hBr (by simp)
          clear hat hx b2 ow HK
          by_cases hkeep : (!d || !gn) = true
          · rw [if_pos hkeep] at hk
            have HK2 := Lib.hid hk
            have hcase : d = false ∨ (d = true ∧ gn = false) := by cases d <;> cases gn <;> simp_all
            clear hk hkeep
            rcases hcase with rfl | ⟨rfl, rfl⟩
            · have ow4 : OwnEnts ((wr.alloc (.cells #[.string (stx k), .string (stx vl), .bool gn] 71)).alloc (.cells #[.string (stx k), .string (stx vl), .bool gn] 71)) B _ L := World.ownsRow.alloc ow2 _
              have hc4 := entAt_new (wr.alloc (.cells #[.string (stx k), .string (stx vl), .bool gn] 71)) ⟨k, vl, gn⟩ (wr.heap.size + 1) (by simp)
              have bb4 := b3.alloc hz2 (.cells #[.string (stx k), .string (stx vl), .bool gn] 71)
              have hz4 : B ≤ ((wr.alloc (.cells #[.string (stx k), .string (stx vl), .bool gn] 71)).alloc (.cells #[.string (stx k), .string (stx vl), .bool gn] 71)).heap.size := Nat.le_trans hz2 (by simp)
              clear ow2 b3 hz2
              go_wp2_with (at_builtin; refine wpList_put_ent rfl _ _ rfl B _ L rfl ow4 ⟨k, vl, gn⟩ (wr.heap.size + 1) 1 rfl hc4 hz4 hlen ?_)
              intro v5 w5 hown5 hgrow5 _
              have b5 := ow4.grown hgrow5 bb4 hz4
              clear hgrow5 hc4 ow4 bb4
              go_wp2_with fail
              exact ⟨⟨i + 1, _, hlt, by go_num, hown5, b5, HK2⟩, by simp [intOf]; omega⟩
            · have ow4 : OwnEnts ((wr.alloc (.cells #[.string (stx k), .string (stx vl), .bool false] 71)).alloc (.cells #[.string (stx k), .string (stx vl), .bool false] 71)) B _ L := World.ownsRow.alloc ow2 _
              have hc4 := entAt_new (wr.alloc (.cells #[.string (stx k), .string (stx vl), .bool false] 71)) ⟨k, vl, false⟩ (wr.heap.size + 1) (by simp)
              have bb4 := b3.alloc hz2 (.cells #[.string (stx k), .string (stx vl), .bool false] 71)
              have hz4 : B ≤ ((wr.alloc (.cells #[.string (stx k), .string (stx vl), .bool false] 71)).alloc (.cells #[.string (stx k), .string (stx vl), .bool false] 71)).heap.size := Nat.le_trans hz2 (by simp)
              clear ow2 b3 hz2
              go_wp2_with (at_builtin; refine wpList_put_ent rfl _ _ rfl B _ L rfl ow4 ⟨k, vl, false⟩ (wr.heap.size + 1) 1 rfl hc4 hz4 hlen ?_)
              intro v5 w5 hown5 hgrow5 _
              have b5 := ow4.grown hgrow5 bb4 hz4
              clear hgrow5 hc4 ow4 bb4
              go_wp2_with fail
              exact ⟨⟨i + 1, _, hlt, by go_num, hown5, b5, HK2⟩, by simp [intOf]; omega⟩
          · rw [if_neg hkeep, List.append_nil] at hk
            have HK2 := Lib.hid hk
            obtain ⟨rfl, rfl⟩ : d = true ∧ gn = true := by cases d <;> cases gn <;> simp_all
            clear hk hkeep
            go_wp2_with fail
            exact ⟨⟨i + 1, L, hlt, by go_num, ow2, b3, HK2⟩, by simp [intOf]; omega⟩
        · obtain rfl : i = p := by omega
          have HF : Hid (keptE d M = L) := Lib.hid (by rw [← HK.out, List.take_of_length_le (by rw [HP.out]; exact Nat.le_refl _)])
          go_wp2_with fail
          go_ret
          refine ⟨_, rfl, ?_, ?_⟩
          · rw [HC.out, HME.out, HF.out]
            exact ow.low hCr
          · rw [HC.out]
            exact b1.trans (b2.mono hCr)
    | succ j =>
      have hjc : (((j + 1 : Nat) : Int)) - 1 = j := by omega
      rw [hjc]
      have hjn : (j : Int) < n := by omega
      have hj0 : (0 : Int) ≤ j := by omega
      have hjd : decide ((0 : Int) ≤ j) = true := decide_eq_true hj0
      have hjc2 : IntKind.i64.wrap ((j : Int) - 1) = (j : Int) - 1 := by rw [IntKind.wrap_i64]; omega
      obtain ⟨l, hl⟩ : ∃ l, ls[j]? = some l := ⟨_, List.getElem?_eq_getElem (by rw [HN.out]; omega)⟩
      obtain ⟨g, o, u, rfl, hcu, hu⟩ := H3.out j l hl
      have hlm := List.mem_of_getElem? hl
      have HMJ : Hid (foldE l (mergeE (ls.drop (j + 1))) = mergeE (ls.drop j)) := Lib.hid (mergeE_drop ls j l hl (HR.out l hlm) (mergeE_rising fun x hx => HR.out x (List.mem_of_mem_drop hx))).symm
      have hrM : Hid (rising (mergeE (ls.drop (j + 1)))) := Lib.hid (mergeE_rising fun x hx => HR.out x (List.mem_of_mem_drop hx))
      have hlM : Hid ((mergeE (ls.drop (j + 1))).length + l.length ≤ 400000) := Lib.hid (by
        have h1 := mergeE_length (ls.drop (j + 1))
        have h2 := sumE_drop ls j
        obtain ⟨h5, h6⟩ := List.getElem?_eq_some_iff.1 hl
        rw [List.drop_eq_getElem_cons h5, h6] at h2
        have h7 : sumE (l :: ls.drop (j + 1)) = l.length + sumE (ls.drop (j + 1)) := by simp [sumE]
        have := HS.out
        omega)
      have cu := (b1.cell (p := ⟨g, o + j, none⟩) (by rw [← HC.out]; exact cellLt hcu)).trans hcu
      obtain ⟨A2, cap2, rfl, _, _, hu3⟩ := hu
      have HU := Lib.hid hu3
      have hll : l.length ≤ 400000 := by have := hlM.out; omega
      obtain ⟨m, hmm⟩ : ∃ m, l.length = m := ⟨_, rfl⟩
      have HM := Lib.hid hmm
      rw [hmm] at hll cu
      have hmi : (m : Int) ≤ 400000 := by omega
      generalize mergeE (ls.drop (j + 1)) = M0 at *
      clear hcu hu3 hl hlm hjc hmm
      go_wp2_with fail
      go_loopw [5, 25] (fun al ix wr => ∃ (i : Nat), i ≤ m ∧ ix = .int .i64 i ∧ EntsAt wr al (foldE (l.take i) M0) ∧ Below C w wr) (fun _ ix _ => (m - intOf ix).toNat)
      case atStart => exact ⟨0, Nat.zero_le _, rfl, ea, b1⟩
      case round =>
        obtain ⟨i, hi, rfl, ea2, b2⟩ := hrel
        clear ea b1 cu
        by_cases hlt : i < m
        · have hlt' : (i : Int) < m := by omega
          obtain ⟨x, hx⟩ : ∃ x, l[i]? = some x := ⟨_, List.getElem?_eq_getElem (by rw [HM.out]; exact hlt)⟩
          obtain ⟨g3, o3, rfl, hat⟩ := HU.out i x hx
          obtain ⟨c0, c1, c2⟩ := hat.below (by rw [HC.out]; exact b2)
          have hCr : C ≤ wr.heap.size := by have := b2.size; rw [HC.out] at this; exact this
          have b3 := b2.alloc hCr (.cells #[.string (stx x.key), .string (stx x.val), .bool x.gone] 71)
          have ea3 := ea2.below ((Below.refl _ _).alloc (Nat.le_refl _) (.cells #[.string (stx x.key), .string (stx x.val), .bool x.gone] 71))
          have hlen : (foldE (l.take i) M0).length ≤ 400000 := by
            have h1 := foldE_length (l.take i) M0
            have h2 := hlM.out
            rw [List.length_take] at h1
            omega
          have hrise := foldE_rising (l.take i) hrM.out
          have HP := Lib.hid (r12Put_any _ _ x _ ea3 hlen)
          have HPE : Hid (putRestE x false (foldE (l.take i) M0) = foldE (l.take (i + 1)) M0) := Lib.hid (by
            rw [foldE_take l M0 i x hx]
            exact putF_eq hrise)
          rw [HPE.out] at HP
          have hCr2 : C ≤ (wr.alloc (.cells #[.string (stx x.key), .string (stx x.val), .bool x.gone] 71)).heap.size := Nat.le_trans hCr (by simp)
          unfold entC at HP
          clear hat hx hrise HPE ea2 ea3 hlen b2
          go_wp2_with fail
          refine HP.out.mono ?_
          rintro e w4 ⟨v4, rfl, o4, b4⟩
          have b5 := below_past b3 b4 hCr2
          have e5 := o4.lie
          clear HP o4 b4 b3 c0 c1 c2
          go_wp2_with fail
          exact ⟨⟨i + 1, hlt, by go_num, e5, b5⟩, by simp [intOf]; omega⟩
        · obtain rfl : i = m := by omega
          rw [List.take_of_length_le (by rw [HM.out]; exact Nat.le_refl _), HMJ.out] at ea2
          go_wp2_with fail
          exact ⟨⟨j, by omega, rfl, ea2, b2⟩, by simp [intOf]⟩
end Go.Proofs.Ytgddmbfacmgfpaa
