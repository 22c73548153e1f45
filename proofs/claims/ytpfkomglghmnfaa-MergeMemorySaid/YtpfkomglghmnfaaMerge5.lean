/- The document's put of an entry; two lists held against each other; an entry found. Conditions: none. -/
import Derived.Test.YtpfkomglghmnfaaMerge4
import Derived.Laws.Cover1
import Derived.Laws.StructEq
namespace Go.Proofs.Ytpfkomglghmnfaa
open Go Go.RowKit
attribute [local go_sem] Oper.semAt_some

structure PutEAt (C : Nat) (F : Ent) (w0 wr : World) (u : Value) (L : List Ent) : Prop where
  own : OwnEnts wr (C + 1) u L
  rF : rowAt wr C = some #[.string (stx F.key), .string (stx F.val), .bool F.gone]
  b : Below C w0 wr
section
variable {C : Nat} {F : Ent} {w0 wr : World} {u : Value} {L : List Ent}
theorem PutEAt.alloc (h : PutEAt C F w0 wr u L) (o : Obj) : PutEAt C F w0 (wr.alloc o) u L :=
  ⟨World.ownsRow.alloc h.own _, (rowAt_alloc_past _ _ _ (lt_of_rowAt h.rF)).trans h.rF, h.b.alloc (Nat.le_of_lt (lt_of_rowAt h.rF)) o⟩
theorem PutEAt.app (h : PutEAt C F w0 wr u L) {f : Ent} {w3 : World} {v' : Value} (h1 : OwnEnts w3 (C + 1) v' (L ++ [f])) (hg : wr.grownBy w3 u.ownBlock) : PutEAt C F w0 w3 v' (L ++ [f]) := by
  refine ⟨h1, ?_, h.b.grown hg (Nat.le_of_lt (lt_of_rowAt h.rF)) (fun k hk => by have := (World.ownsRow.lt h.own k hk).1; omega)⟩
  have hkl := lt_of_rowAt h.rF
  have hr := h.rF
  unfold rowAt at hr ⊢
  rw [hg.block C hkl (fun e => by have := (World.ownsRow.lt h.own C e.symm).1; omega)]
  exact hr
end
set_option maxRecDepth 100000 in
set_option maxHeartbeats 4000000 in
theorem r12Put_any (v : Value) (es : List Ent) (F : Ent) (w : World) (h : EntsAt w v es) (hl : es.length ≤ 400000) :
    Calls Try.prog 8 #[v, .agg (entC F).toArray] w fun e w' => ∃ v', e = .returned v' ∧ OwnEnts w' w.heap.size v' (putRestE F false es) ∧ Below w.heap.size w w' := by
  obtain ⟨ao, cap, rfl, k1, k2, hc⟩ := h
  have HC := Lib.hid hc
  obtain ⟨n, hn⟩ : ∃ n, es.length = n := ⟨_, rfl⟩
  have HN := Lib.hid hn
  rw [hn] at hl ⊢
  have hli : (n : Int) ≤ 400000 := by omega
  obtain ⟨T, hT⟩ : ∃ T, putRestE F false es = T := ⟨_, rfl⟩
  rw [hT]
  have HT := Lib.hid hT
  unfold entC
  clear hc hn k1 k2 hT
  have s0 : PutEAt w.heap.size F w ((w.alloc (.cells #[.string (stx F.key), .string (stx F.val), .bool F.gone] 28)).alloc (.cells #[] 28)) (.slice (some ⟨w.heap.size + 1, 0, none⟩) 0 0) [] := by
    refine ⟨ownEnts_new _ _ _ (by simp only [World.size_alloc]) (Nat.le_refl _), ?_, ?_⟩
    · exact (rowAt_alloc_past _ _ _ (by simp only [World.size_alloc]; omega)).trans (rowAt_alloc_at _ _ _ _ rfl)
    · exact ((Below.refl _ _).alloc (Nat.le_refl _) _).alloc (by simp only [World.size_alloc]; omega) _
  go_enter Try.func8, Try.ntmps8
  go_wp2_with fail
  generalize (w.alloc (.cells #[.string (stx F.key), .string (stx F.val), .bool F.gone] 28)).alloc (.cells #[] 28) = W at *
  go_loopw [5, 6, 12] (fun u y x wr => ∃ (i : Nat) (dn : Bool) (L : List Ent), i ≤ n ∧ x = .int .i64 i ∧ y = .bool dn ∧ L.length ≤ 2 * i ∧ Hid (L ++ putRestE F dn (es.drop i) = T) ∧ PutEAt w.heap.size F w wr u L) (fun _ _ x _ => (n - intOf x).toNat)
  case atStart => exact ⟨0, false, [], Nat.zero_le _, rfl, rfl, Nat.zero_le _, HT, s0⟩
  case round =>
    obtain ⟨i, dn, L, hi, rfl, rfl, hLl, HL, s1⟩ := hrel
    clear s0 HT
    by_cases hlt : i < n
    · have hlt' : (i : Int) < n := by omega
      obtain ⟨f, hf⟩ : ∃ f, es[i]? = some f := ⟨_, List.getElem?_eq_getElem (by rw [HN.out]; exact hlt)⟩
      obtain ⟨g, o, rfl, hat⟩ := HC.out i f hf
      obtain ⟨c1, c2, c3⟩ := hat.below s1.b
      have hdr : es.drop i = f :: es.drop (i + 1) := by
        obtain ⟨h5, h6⟩ := List.getElem?_eq_some_iff.1 hf
        rw [List.drop_eq_getElem_cons h5, h6]
      rw [hdr] at HL
      obtain ⟨r, hr⟩ : ∃ r, es.drop (i + 1) = r := ⟨_, rfl⟩
      rw [hr] at HL
      have HR := Lib.hid hr
      clear hr
      have s2 := s1.alloc (.cells #[.string (stx f.key), .string (stx f.val), .bool f.gone] 28)
      have g0 := (cell_of_rowAt s1.rF 0).trans (rfl : _ = some (Value.string (stx F.key)))
      have g1 := (cell_of_rowAt s1.rF 1).trans (rfl : _ = some (Value.string (stx F.val)))
      have g2 := (cell_of_rowAt s1.rF 2).trans (rfl : _ = some (Value.bool F.gone))
      have hw2 := lt_of_rowAt s1.rF
      clear hf hdr hat
      cases dn with
      | true =>
        by_cases heq : f.key = F.key
        · have hq : (f.key == F.key) = true := beq_iff_eq.2 heq
          have HL2 := Lib.hid HL.out
          rw [putRestE_same heq] at HL2
          clear heq s1
          go_wp2_with fail
          exact ⟨⟨i + 1, true, L, hlt, by go_num, rfl, by omega, by rw [HR.out]; exact HL2, s2⟩, by simp [intOf]; omega⟩
        · have hq : (f.key == F.key) = false := beq_eq_false_iff_ne.2 heq
          have HL2 := Lib.hid HL.out
          rw [putRestE_ne heq, ← List.append_assoc] at HL2
          have S2 := Lib.hid s2
          clear heq s1 s2
          go_wp2_with (at_builtin; refine wpList_put_ent rfl _ _ rfl (w.heap.size + 1) _ L rfl (S2.out.alloc (.cells #[.string (stx f.key), .string (stx f.val), .bool f.gone] 28)).own f (wr.heap.size + 1) 1 rfl (entAt_new _ f _ (by first | rfl | simp only [World.size_alloc])) ?c3 ?c4 ?_)
          case c3 => have := lt_of_rowAt (S2.out.alloc (.cells #[.string (stx f.key), .string (stx f.val), .bool f.gone] 28)).rF; omega
          case c4 => omega
          intro v' w3 h1 h2 _
          have s3 := PutEAt.app (S2.out.alloc (.cells #[.string (stx f.key), .string (stx f.val), .bool f.gone] 28)) h1 h2
          clear h1 h2
          go_wp2_with fail
          exact ⟨⟨i + 1, true, L ++ [f], hlt, by go_num, rfl, by rw [List.length_append]; show L.length + 1 ≤ _; omega, by rw [HR.out]; exact HL2, s3⟩, by simp [intOf]; omega⟩
      | false =>
        have hless := lessE f.key F.key
        by_cases hlt2 : f.key < F.key
        · rw [decide_eq_true hlt2] at hless
          have heq : f.key ≠ F.key := klt_ne hlt2
          have hq : (f.key == F.key) = false := beq_eq_false_iff_ne.2 heq
          have HL2 := Lib.hid HL.out
          rw [putRestE_lt hlt2, ← List.append_assoc] at HL2
          have S2 := Lib.hid s2
          clear heq hlt2 s1 s2
          go_wp2_with (at_builtin; refine wpList_put_ent rfl _ _ rfl (w.heap.size + 1) _ L rfl (S2.out.alloc (.cells #[.string (stx f.key), .string (stx f.val), .bool f.gone] 28)).own f (wr.heap.size + 1) 1 rfl (entAt_new _ f _ (by first | rfl | simp only [World.size_alloc])) ?c3 ?c4 ?_)
          case c3 => have := lt_of_rowAt (S2.out.alloc (.cells #[.string (stx f.key), .string (stx f.val), .bool f.gone] 28)).rF; omega
          case c4 => omega
          intro v' w3 h1 h2 _
          have s3 := PutEAt.app (S2.out.alloc (.cells #[.string (stx f.key), .string (stx f.val), .bool f.gone] 28)) h1 h2
          clear h1 h2
          go_wp2_with fail
          exact ⟨⟨i + 1, false, L ++ [f], hlt, by go_num, rfl, by rw [List.length_append]; show L.length + 1 ≤ _; omega, by rw [HR.out]; exact HL2, s3⟩, by simp [intOf]; omega⟩
        · rw [decide_eq_false hlt2] at hless
          by_cases heq : f.key = F.key
          · have hq : (f.key == F.key) = true := beq_iff_eq.2 heq
            have HL2 := Lib.hid HL.out
            rw [putRestE_eq heq, ← List.append_assoc] at HL2
            have S1 := Lib.hid s1
            have S2 := Lib.hid s2
            have hkeep : Hid (∀ w3, ((wr.alloc (.cells #[.string (stx f.key), .string (stx f.val), .bool f.gone] 28)).alloc (.cells #[.string (stx F.key), .string (stx F.val), .bool F.gone] 28)).grownBy w3 (Value.ownBlock u5) → rowAt w3 wr.heap.size = some #[.string (stx f.key), .string (stx f.val), .bool f.gone]) := Lib.hid fun w3 hg => by
              unfold rowAt
              rw [hg.block _ (by simp only [World.size_alloc]; omega) (fun e => by have := (World.ownsRow.lt S1.out.own _ e.symm).2; omega), Below.heap_alloc _ _ _ (by simp only [World.size_alloc]; omega), heap_alloc_new]
              rfl
            clear heq hlt2 s1 s2
            go_wp2_with (at_builtin; refine wpList_put_ent rfl _ _ rfl (w.heap.size + 1) _ L rfl (S2.out.alloc (.cells #[.string (stx F.key), .string (stx F.val), .bool F.gone] 28)).own F (wr.heap.size + 1) 1 rfl (entAt_new _ F _ (by first | rfl | simp only [World.size_alloc])) ?c3 ?c4 ?_)
            case c3 => have := lt_of_rowAt (S2.out.alloc (.cells #[.string (stx F.key), .string (stx F.val), .bool F.gone] 28)).rF; omega
            case c4 => omega
            intro v' w3 h1 h2 _
            have s3 := PutEAt.app (S2.out.alloc (.cells #[.string (stx F.key), .string (stx F.val), .bool F.gone] 28)) h1 h2
            have rE := hkeep.out w3 h2
            have e0 := (cell_of_rowAt rE 0).trans (rfl : _ = some (Value.string (stx f.key)))
            have q0 := (cell_of_rowAt s3.rF 0).trans (rfl : _ = some (Value.string (stx F.key)))
            clear h1 h2 rE
            go_wp2_with fail
            exact ⟨⟨i + 1, true, L ++ [F], hlt, by go_num, rfl, by rw [List.length_append]; show L.length + 1 ≤ _; omega, by rw [HR.out]; exact HL2, s3⟩, by simp [intOf]; omega⟩
          · have hq : (f.key == F.key) = false := beq_eq_false_iff_ne.2 heq
            have HL2 := Lib.hid HL.out
            rw [putRestE_gt hlt2 heq, show [F, f] = [F] ++ [f] from rfl, ← List.append_assoc, ← List.append_assoc] at HL2
            have S1 := Lib.hid s1
            have S2 := Lib.hid s2
            have hkeep : Hid (∀ w3, ((wr.alloc (.cells #[.string (stx f.key), .string (stx f.val), .bool f.gone] 28)).alloc (.cells #[.string (stx F.key), .string (stx F.val), .bool F.gone] 28)).grownBy w3 (Value.ownBlock u5) → rowAt w3 wr.heap.size = some #[.string (stx f.key), .string (stx f.val), .bool f.gone]) := Lib.hid fun w3 hg => by
              unfold rowAt
              rw [hg.block _ (by simp only [World.size_alloc]; omega) (fun e => by have := (World.ownsRow.lt S1.out.own _ e.symm).2; omega), Below.heap_alloc _ _ _ (by simp only [World.size_alloc]; omega), heap_alloc_new]
              rfl
            clear heq hlt2 s1 s2
            go_wp2_with (at_builtin; refine wpList_put_ent rfl _ _ rfl (w.heap.size + 1) _ L rfl (S2.out.alloc (.cells #[.string (stx F.key), .string (stx F.val), .bool F.gone] 28)).own F (wr.heap.size + 1) 1 rfl (entAt_new _ F _ (by first | rfl | simp only [World.size_alloc])) ?c3 ?c4 ?_)
            case c3 => have := lt_of_rowAt (S2.out.alloc (.cells #[.string (stx F.key), .string (stx F.val), .bool F.gone] 28)).rF; omega
            case c4 => omega
            intro v' w3 h1 h2 _
            have s3 := PutEAt.app (S2.out.alloc (.cells #[.string (stx F.key), .string (stx F.val), .bool F.gone] 28)) h1 h2
            have rE := hkeep.out w3 h2
            have e0 := (cell_of_rowAt rE 0).trans (rfl : _ = some (Value.string (stx f.key)))
            have e1 := (cell_of_rowAt rE 1).trans (rfl : _ = some (Value.string (stx f.val)))
            have e2 := (cell_of_rowAt rE 2).trans (rfl : _ = some (Value.bool f.gone))
            have q0 := (cell_of_rowAt s3.rF 0).trans (rfl : _ = some (Value.string (stx F.key)))
            have S3 := Lib.hid s3
            have hL3 : (L ++ [F]).length ≤ 2 * i + 1 := by rw [List.length_append]; show L.length + 1 ≤ _; omega
            clear h1 h2 rE s3
            generalize L ++ [F] = L3 at *
            go_wp2_with (at_builtin; refine wpList_put_ent rfl _ _ rfl (w.heap.size + 1) _ L3 rfl (S3.out.alloc (.cells #[.string (stx f.key), .string (stx f.val), .bool f.gone] 28)).own f w3.heap.size 1 rfl (entAt_new _ f _ (by first | rfl | simp only [World.size_alloc])) ?c3 ?c4 ?_)
            case c3 => have := lt_of_rowAt (S3.out.alloc (.cells #[.string (stx f.key), .string (stx f.val), .bool f.gone] 28)).rF; omega
            case c4 => omega
            intro v2 w4 h1 h2 _
            have s4 := PutEAt.app (S3.out.alloc (.cells #[.string (stx f.key), .string (stx f.val), .bool f.gone] 28)) h1 h2
            clear h1 h2
            go_wp2_with fail
            exact ⟨⟨i + 1, true, L3 ++ [f], hlt, by go_num, rfl, by rw [List.length_append]; show L3.length + 1 ≤ _; omega, by rw [HR.out]; exact HL2, s4⟩, by simp [intOf]; omega⟩
    · obtain rfl : i = n := by omega
      have hdn : es.drop i = [] := List.drop_eq_nil_of_le (by rw [HN.out]; omega)
      rw [hdn] at HL
      cases dn with
      | true =>
        have HLL : Hid (T = L) := Lib.hid (by rw [← HL.out, putRestE_nil_true, List.append_nil])
        clear HL hdn
        go_wp2_with fail
        go_ret
        exact ⟨_, rfl, by rw [HLL.out]; exact s1.own.low (Nat.le_succ _), s1.b⟩
      | false =>
        have HLL : Hid (T = L ++ [F]) := Lib.hid (by rw [← HL.out, putRestE_nil_false])
        have g0 := (cell_of_rowAt s1.rF 0).trans (rfl : _ = some (Value.string (stx F.key)))
        have g1 := (cell_of_rowAt s1.rF 1).trans (rfl : _ = some (Value.string (stx F.val)))
        have g2 := (cell_of_rowAt s1.rF 2).trans (rfl : _ = some (Value.bool F.gone))
        have S1 := Lib.hid s1
        clear HL hdn s1
        go_wp2_with (at_builtin; refine wpList_put_ent rfl _ _ rfl (w.heap.size + 1) _ L rfl (S1.out.alloc (.cells #[.string (stx F.key), .string (stx F.val), .bool F.gone] 28)).own F wr.heap.size 1 rfl (entAt_new _ F _ (by first | rfl | simp only [World.size_alloc])) ?c3 ?c4 ?_)
        case c3 => have := lt_of_rowAt (S1.out.alloc (.cells #[.string (stx F.key), .string (stx F.val), .bool F.gone] 28)).rF; omega
        case c4 => omega
        intro v' w3 h1 h2 _
        have s3 := PutEAt.app (S1.out.alloc (.cells #[.string (stx F.key), .string (stx F.val), .bool F.gone] 28)) h1 h2
        clear h1 h2 g0 g1 g2
        go_wp2_with fail
        go_ret
        exact ⟨_, rfl, by rw [HLL.out]; exact s3.own.low (Nat.le_succ _), s3.b⟩
end Go.Proofs.Ytpfkomglghmnfaa
