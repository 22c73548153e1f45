/- Texts that the next ones stand on: SortStF, SortInsF, Kit, Lab, LabRun, Math, Bits1, OrdMath, Node1. -/
import Derived.Test.YtppgmphojklaeaaGreatDoorPc4
import Derived.Shelf.SlSortCmp.PdqK
import Derived.WalkKit
import Derived.Deep.MidRow
import Derived.Stop.BytesEq
import Derived.Deep.Draws
import Derived.Below
import Derived.Test.YtppgmphojklaeaaGreatDoorRows
import Derived.WalkLawsBesides
import Derived.WalkSpells
import Derived.Lib.BitFns
import Derived.Lib.Bytealg
import Derived.Laws.BitsAllLaws
import Derived.IntWalk
import Derived.Test.YtppgmphojklaeaaGreatDoorShelf
import Derived.Outline
import Derived.BigQuiet
import Derived.Deep.QuietTactic
import Derived.Deep.RegionHeld3
import Derived.Lib.Hide
import Derived.Lib.BytesEntry
namespace Go.Proofs.YtppgmphojklaeaaGreatDoor
open Go Go.Shelf Go.RowKit Go.Lib Go.Sort

section
variable {P : Program} {α : Type} [Inhabited α]
set_option maxHeartbeats 8000000 in
set_option maxRecDepth 1000000 in
theorem stableF {k : Nat} (L : SortPF P k) (enc : α → List Value) (cf : α → α → Int) (g : Nat) (cb : Array Value) (blk off cap : Nat) (d0 : Array α) (w0 w : World)
    (eg : ∀ args w, (callFunc g args).run P w = .ok (.enter g args) w) (hcmp : CmpLays P g cb enc k cf blk off d0.size w0) (R : RowK enc k w0 blk off d0) (hsz : d0.size ≤ 1000000000) (hw : Weak (ltOf cf))
    (hI : InsAny P 231 enc k cf g cb blk off cap d0 w0) (S : SWK enc k w0 blk off d0 w) :
    Calls P 217 #[.slice (some ⟨blk, off, none⟩) d0.size cap, .int .i64 d0.size, .func (.func g) #[] cb] w fun e w' => e = .returned (.tuple #[]) ∧ ∃ d', d'.size = d0.size ∧ d'.toList = isortL (ltOf cf) d0.toList ∧ SWK enc k w0 blk off d' w' := by
  have HI : Aside _ := hI
  have HC : Aside _ := hcmp
  obtain ⟨l, hl⟩ : ∃ l, d0.toList = l := ⟨_, rfl⟩
  obtain ⟨n, hn⟩ : ∃ n, d0.size = n := ⟨_, rfl⟩
  have hln : l.length = n := by rw [← hl, ← hn, Array.length_toList]
  have F0 : Hid (FInv (ltOf cf) 0 0 20 l d0) := by rw [← hl]; exact FInv.start
  have HLN : Hid (l.length = n) := hln
  have HN0 : Hid (d0.size = n) := hn
  have S0 : Aside (SWK enc k w0 blk off d0 w) := S
  rw [hn] at hsz ⊢
  rw [hl]
  clear S hI hcmp hl hln
  have mixed := L.mixed; have t0 := L.t0; have a0 := L.a0; have z0 := L.z0; have v0 := L.v0; have t3 := L.t3; have a3 := L.a3; have z3 := L.z3; have v3 := L.v3; have t4 := L.t4; have a4 := L.a4; have z4 := L.z4; have v4 := L.v4; have ts := L.ts; have ags := L.ags; have zs := L.zs; have vs := L.vs; have tf := L.tf; have af := L.af; have zf := L.zf; have vf := L.vf; have aE := L.aE; have zE := L.zE
  have eS : ∀ args w, (callFunc 232 args).run P w = .ok (.enter 232 args) w := enters_of L.hSym (by kernel_rfl) rfl
  have eI : ∀ args w, (callFunc 231 args).run P w = .ok (.enter 231 args) w := enters_of L.hIns (by kernel_rfl) rfl
  have S1 : Aside (∃ d1, d1.size = n ∧ FInv (ltOf cf) 0 0 20 l d1 ∧ SWK enc k w0 blk off d1 w) := ⟨d0, hn, F0.out, S0.out⟩
  clear S0 F0 hn
  go_enter L.hStable, Tryz.ntmps217
  go_wp2
  go_loopw [7, 8] (fun s7 s8 wr => ∃ (q a b : Nat) (dk : Array α), s7 = .int .i64 a ∧ s8 = .int .i64 b ∧ a ≤ n ∧ a < b ∧ b ≤ n + 20 ∧ dk.size = n ∧ Aside (SWK enc k w0 blk off dk wr) ∧ Hid (FInv (ltOf cf) q a b l dk)) (fun _ s8 _ => (n + 20 - intOf s8).toNat)
  case atStart =>
    obtain ⟨d1, h1, h2, h3⟩ := S1.out
    exact ⟨0, 0, 20, d1, rfl, rfl, Nat.zero_le _, by omega, by omega, h1, h3, h2⟩
  case round =>
    clear S1
    obtain ⟨q, a, b, dk, rfl, rfl, ha, hab, hbn, hds, S1, H⟩ := hrel
    by_cases hlt : b ≤ n
    · have hltz : (b : Int) ≤ (n : Int) := by omega
      have hb2 : (b : Int) + 20 ≤ 2000000000 := by omega
      have hc := HI.out a b dk wr (by rw [HN0.out, hds]) S1.out (by omega) (by omega)
      rw [hds] at hc
      have V2 : Hid (FInv (ltOf cf) (q + 1) b (b + 20) l (Go.Sort.insertionSort (ltOf cf) dk a b)) := H.out.step hw (by rw [hds, HLN.out]) (by rw [HLN.out]; exact hlt)
      have z2 : (Go.Sort.insertionSort (ltOf cf) dk a b).size = n := (insertion_is hw dk (by omega) (by omega)).1.trans hds
      generalize Go.Sort.insertionSort (ltOf cf) dk a b = d2 at hc V2 z2
      clear S1 H
      go_wp2_with fail
      go_at_fn 231
      refine hc.mono ?_
      rintro e w2 ⟨rfl, S2'⟩
      have S2 : Aside (SWK enc k w0 blk off d2 w2) := S2'
      clear hc S2' hds dk
      go_wp2
      go_roundw
      case rel => exact ⟨q + 1, b, b + 20, d2, rfl, by go_num, hlt, by omega, by omega, z2, S2, V2⟩
      case measure => simp [intOf]; omega
    · have hltz : ¬ (b : Int) ≤ (n : Int) := by omega
      have hc := HI.out a n dk wr (by rw [HN0.out, hds]) S1.out (by omega) (by omega)
      rw [hds] at hc
      have V2 : Blocks (ltOf cf) 20 0 (l.length + 1) l (Go.Sort.insertionSort (ltOf cf) dk a l.length) := H.out.fin hw (by rw [hds, HLN.out]) (by rw [HLN.out]; exact ha) (by rw [HLN.out]; omega)
      rw [HLN.out] at V2
      have z2 : (Go.Sort.insertionSort (ltOf cf) dk a n).size = n := (insertion_is hw dk (by omega) (by omega)).1.trans hds
      generalize Go.Sort.insertionSort (ltOf cf) dk a n = d2 at hc V2 z2
      clear S1 H
      go_wp2_with fail
      go_at_fn 231
      refine hc.mono ?_
      rintro e w2 ⟨rfl, S2'⟩
      have S2 : Aside (∃ d2, d2.size = n ∧ Blocks (ltOf cf) 20 0 (n + 1) l d2 ∧ SWK enc k w0 blk off d2 w2) := ⟨d2, z2, V2, S2'⟩
      clear hc S2' hds dk V2 z2 d2 hlt hltz hbn hab ha
      go_wp2
      go_loopw [6, 7, 8, 9] (fun s6 s7 s8 s9 wr => ∃ (s : Nat) (dk : Array α), s6 = .int .i64 s ∧ 0 < s ∧ s ≤ 2000000000 ∧ dk.size = n ∧ Aside (SWK enc k w0 blk off dk wr) ∧ Hid (Blocks (ltOf cf) s 0 (n + 1) l dk)) (fun s6 _ _ _ _ => (n - intOf s6).toNat)
      case atStart =>
        obtain ⟨d2, h1, h2, h3⟩ := S2.out
        exact ⟨20, d2, rfl, by omega, by omega, h1, h3, h2⟩
      case round =>
        clear S2
        obtain ⟨s, dk, rfl, hs0, hs2, hds, S1, H⟩ := hrel
        by_cases hlt : s < n
        · have hltz : (s : Int) < (n : Int) := by omega
          have hp : (0 : Int) ≤ (s : Int) ∧ (s : Int) ≤ 1000000000 := by omega
          have ws : IntKind.i64.wrap (2 * (s : Int)) = 2 * (s : Int) := by rw [IntKind.wrap_i64]; omega
          have ws' : IntKind.i64.wrap ((s : Int) * 2) = (s : Int) * 2 := by rw [IntKind.wrap_i64]; omega
          have S2 : Aside (∃ d2, d2.size = n ∧ BInv (ltOf cf) s 0 0 (s + s) l d2 ∧ SWK enc k w0 blk off d2 wr) := ⟨dk, hds, BInv.start (by rw [HLN.out]; exact H.out), S1.out⟩
          clear S1 H hds dk
          go_wp2
          go_loopw [7, 8] (fun s7 s8 wr => ∃ (i a b : Nat) (dk : Array α), s7 = .int .i64 a ∧ s8 = .int .i64 b ∧ a ≤ n ∧ a + s < b ∧ b ≤ n + (s + s) ∧ dk.size = n ∧ Aside (SWK enc k w0 blk off dk wr) ∧ Hid (BInv (ltOf cf) s i a b l dk)) (fun _ s8 _ => (n + (s + s) - intOf s8).toNat)
          case atStart =>
            obtain ⟨d2, h1, h2, h3⟩ := S2.out
            exact ⟨0, 0, s + s, d2, rfl, by congr 1; omega, Nat.zero_le _, by omega, by omega, h1, h3, h2⟩
          case round =>
            clear S2
            obtain ⟨i, a, b, dk, rfl, rfl, ha, hab, hbn, hds, S1, H⟩ := hrel
            have wa : IntKind.i64.wrap ((a : Int) + (s : Int)) = (a : Int) + (s : Int) := by rw [IntKind.wrap_i64]; omega
            by_cases hlt2 : b ≤ n
            · have hltz2 : (b : Int) ≤ (n : Int) := by omega
              have wb : IntKind.i64.wrap ((b : Int) + 2 * (s : Int)) = (b : Int) + 2 * (s : Int) := by rw [IntKind.wrap_i64]; omega
              have hpre := H.out.pre hw hs0 (by rw [HLN.out]; omega) (e := b) (by rw [HLN.out]; omega)
              have hc := symMergeF L enc cf g cb blk off cap d0 w0 eg HC.out R (by rw [HN0.out]; exact hsz) hw (b - a) a (a + s) b dk wr (Nat.le_refl _) (by rw [HN0.out, hds]) S1.out (by omega) (by omega) (by omega) (Nat.zero_le _) hpre.1 hpre.2
              rw [hds, show ((a + s : Nat) : Int) = (a : Int) + (s : Int) by omega] at hc
              have V1 : Hid (∀ d', Merged (ltOf cf) a (a + s) b dk d' → BInv (ltOf cf) s (i + 1) b (b + (s + s)) l d') := fun d' hm => H.out.step hw hs0 (by rw [hds, HLN.out]) (by rw [HLN.out]; exact hlt2) hm
              clear hpre S1 H
              go_wp2_with fail
              go_at_fn 232
              refine hc.mono ?_
              rintro e w2 ⟨rfl, d2, m2, S2'⟩
              have S2 : Aside (SWK enc k w0 blk off d2 w2) := S2'
              have V2 : Hid (BInv (ltOf cf) s (i + 1) b (b + (s + s)) l d2) := V1.out d2 m2
              have z2 : d2.size = n := m2.size.trans hds
              clear hc S2' m2 V1 hds dk
              go_wp2
              go_roundw
              case rel => exact ⟨i + 1, b, b + (s + s), d2, rfl, by congr 1; omega, hlt2, by omega, by omega, z2, S2, V2⟩
              case measure => simp [intOf]; omega
            · have hltz2 : ¬ (b : Int) ≤ (n : Int) := by omega
              by_cases hm : a + s < n
              · have hmz : (a : Int) + (s : Int) < (n : Int) := by omega
                have hpre := H.out.pre hw hs0 (by rw [HLN.out]; exact hm) (e := n) (by rw [HLN.out]; omega)
                have hc := symMergeF L enc cf g cb blk off cap d0 w0 eg HC.out R (by rw [HN0.out]; exact hsz) hw (n - a) a (a + s) n dk wr (Nat.le_refl _) (by rw [HN0.out, hds]) S1.out (by omega) hm (by omega) (Nat.zero_le _) hpre.1 hpre.2
                rw [hds, show ((a + s : Nat) : Int) = (a : Int) + (s : Int) by omega] at hc
                have V1 : Hid (∀ d', Merged (ltOf cf) a (a + s) n dk d' → Blocks (ltOf cf) (2 * s) 0 (n + 1) l d') := fun d' hmm => by
                  rw [← HLN.out]
                  exact H.out.fin hw hs0 (by rw [hds, HLN.out]) (by rw [HLN.out]; omega) (by rw [HLN.out]; exact hm) (by rw [HLN.out]; exact hmm)
                clear hpre S1 H
                go_wp2_with fail
                go_at_fn 232
                refine hc.mono ?_
                rintro e w2 ⟨rfl, d2, m2, S2'⟩
                have S2 : Aside (SWK enc k w0 blk off d2 w2) := S2'
                have V2 : Hid (Blocks (ltOf cf) (2 * s) 0 (n + 1) l d2) := V1.out d2 m2
                have z2 : d2.size = n := m2.size.trans hds
                clear hc S2' m2 V1 hds dk
                go_wp2
                go_roundw
                case rel => exact ⟨2 * s, d2, by congr 1; omega, by omega, by omega, z2, S2, V2⟩
                case measure => simp [intOf]; omega
              · have hmz : ¬ (a : Int) + (s : Int) < (n : Int) := by omega
                have V2 : Hid (Blocks (ltOf cf) (2 * s) 0 (n + 1) l dk) := by
                  have := H.out.last hs0 (by rw [HLN.out]; omega)
                  rw [HLN.out] at this
                  exact this
                clear H
                go_wp2
                go_roundw
                case rel => exact ⟨2 * s, dk, by congr 1; omega, by omega, by omega, hds, S1, V2⟩
                case measure => simp [intOf]; omega
        · have hltz : ¬ (s : Int) < (n : Int) := by omega
          have V2 : Hid (dk.toList = isortL (ltOf cf) l) := blocks_done (s := s) (by rw [hds, HLN.out]) (by rw [HLN.out]; exact H.out) (by rw [HLN.out]; omega)
          clear H
          go_wp2
          first | go_end0 | ((try simp only [Exit.inBlock, Exit.then]); refine bodyPost_ret (results_none rfl _ _ _) rfl ?_)
          exact ⟨rfl, dk, hds, V2.out, S1.out⟩
end
end Go.Proofs.YtppgmphojklaeaaGreatDoor
namespace Go.Proofs.YtppgmphojklaeaaGreatDoor
open Go Go.Shelf Go.RowKit Go.Lib Go.Sort

section
variable {P : Program} {α : Type} [Inhabited α]
/-- The shelf's numbers, here. -/
def renF : Ren := ⟨fun f => if f = 20 then 231 else 0, fun t => match t with | 0 => 0 | 3 => 3 | 4 => 4 | 22 => 38 | 24 => 46 | 25 => 198 | _ => 0, fun x => x⟩
theorem laysF {k : Nat} (L : SortPF P k) : SlLaysF0.n20 P renF where
  mixed := L.mixed
  f20 := ⟨Tryz.f231.name, by kernel_rfl, by
    have e : Tryz.f231 = { SlBodyF.n20 renF with name := Tryz.f231.name } := by kernel_rfl
    rw [← e]
    exact L.hIns⟩
  t0 := L.t0
  a0 := L.a0
  z0 := L.z0
  v0 := L.v0
  t3 := L.t3
  a3 := L.a3
  z3 := L.z3
  v3 := L.v3
  t4 := L.t4
  a4 := L.a4
  z4 := L.z4
  v4 := L.v4
  t22 := L.ts
  a22 := L.ags
  z22 := L.zs
  v22 := L.vs
  t25 := L.tf
  a25 := L.af
  z25 := L.zf
  v25 := L.vf
theorem insF {k : Nat} (L : SortPF P k) (enc : α → List Value) (cf : α → α → Int) (g : Nat) (cb : Array Value) (blk off cap : Nat) (d0 : Array α) (w0 : World)
    (eg : ∀ args w, (callFunc g args).run P w = .ok (.enter g args) w) (hcmp : CmpLays P g cb enc k cf blk off d0.size w0) (R : RowK enc k w0 blk off d0) (hsz : d0.size ≤ 1000000000) (hw : Weak (ltOf cf)) :
    InsAny P 231 enc k cf g cb blk off cap d0 w0 := fun a b d w hs S hab hb =>
  AnyQ.insertionSortCmpFunc_w (laysF L) k L.aE L.zE enc cf g cb blk off cap a b d0 d w0 w eg hcmp R hs S hw.swo hab hb (by omega)
end
end Go.Proofs.YtppgmphojklaeaaGreatDoor
namespace Go.Proofs.YtppgmphojklaeaaGreatDoor
open Go Go.RowKit

/-- The cells of a block that may be written, if it is one. -/
def rowAt (w : World) (b : Nat) : Option (Array Value) :=
  match w.heap[b]? with
  | some (.cells c _ fr) => if fr = (0, 0) then some c else none
  | _ => none

theorem rowAt_of_heap {w : World} {b : Nat} {c : Array Value} {t : TypeId} (h : w.heap[b]? = some (.cells c t (0, 0))) : rowAt w b = some c := by
  simp [rowAt, h]
theorem heap_of_rowAt {w : World} {b : Nat} {c : Array Value} (h : rowAt w b = some c) : ∃ t, w.heap[b]? = some (.cells c t (0, 0)) := by
  unfold rowAt at h
  split at h
  · rename_i c' t fr he
    split at h
    · rename_i hf
      subst hf
      cases h
      exact ⟨t, he⟩
    · cases h
  · cases h
theorem lt_of_rowAt {w : World} {b : Nat} {c : Array Value} (h : rowAt w b = some c) : b < w.heap.size := by
  obtain ⟨t, ht⟩ := heap_of_rowAt h
  exact (Array.getElem?_eq_some_iff.1 ht).1

@[go_sem] theorem rowAt_alloc_at (w : World) (c : Array Value) (t : TypeId) (n : Nat) (hn : n = w.heap.size) : rowAt (w.alloc (.cells c t)) n = some c := by
  subst hn
  exact rowAt_of_heap (heap_alloc_new w _)
@[go_sem] theorem rowAt_alloc_past (w : World) (o : Obj) (n : Nat) (hn : n < w.heap.size) : rowAt (w.alloc o) n = rowAt w n := by
  unfold rowAt
  rw [Below.heap_alloc w o n hn]
@[go_sem] theorem rowAt_drew (w : World) (n : Nat) : rowAt w.drew n = rowAt w n := rfl
@[go_sem] theorem rowAt_drewN (w : World) (k n : Nat) : rowAt (w.drewN k) n = rowAt w n := rfl
theorem rowAt_below {B : Nat} {w w' : World} (h : Below B w w') {b : Nat} (hb : b < B) : rowAt w' b = rowAt w b := by
  unfold rowAt
  rw [h.block b hb]
theorem rowAt_setRow_same {w : World} {b : Nat} {c : Array Value} (h : rowAt w b = some c) (c' : Array Value) : rowAt (w.setRow b c') b = some c' := by
  obtain ⟨t, ht⟩ := heap_of_rowAt h
  exact rowAt_of_heap (setRow_heap w b c c' t (0, 0) ht)
theorem rowAt_setRow_other (w : World) (b n : Nat) (c' : Array Value) (h : n ≠ b) : rowAt (w.setRow b c') n = rowAt w n := by
  unfold rowAt
  rw [setRow_other w b n c' h]
theorem rowAt_setCell_same {w : World} {b : Nat} {c : Array Value} (h : rowAt w b = some c) (i : Nat) (v : Value) : rowAt (w.setCell ⟨b, i, none⟩ v) b = some (c.setIfInBounds i v) := by
  obtain ⟨t, ht⟩ := heap_of_rowAt h
  exact rowAt_of_heap (heap_setCell_same w b i c t v ht)
theorem rowAt_setCell_other (w : World) (a : Addr) (n : Nat) (v : Value) (h : n ≠ a.block) : rowAt (w.setCell a v) n = rowAt w n := by
  unfold rowAt
  rw [heap_setCell_other w a n v h]
/-- The cells of a block, whether it may be written or not. -/
def rowF (w : World) (b : Nat) : Option (Array Value) :=
  match w.heap[b]? with
  | some (.cells c _ _) => some c
  | _ => none
def rowOr (x y : Option (Array Value)) : Option (Array Value) :=
  match x with
  | some c => some c
  | none => y
@[go_sem] theorem rowOr_some (c : Array Value) (y : Option (Array Value)) : rowOr (some c) y = some c := rfl
@[go_sem] theorem rowF_alloc_past (w : World) (o : Obj) (n : Nat) (hn : n < w.heap.size) : rowF (w.alloc o) n = rowF w n := by
  unfold rowF
  rw [Below.heap_alloc w o n hn]
@[go_sem] theorem rowF_drew (w : World) (n : Nat) : rowF w.drew n = rowF w n := rfl
@[go_sem] theorem rowF_drewN (w : World) (k n : Nat) : rowF (w.drewN k) n = rowF w n := rfl
theorem rowG_of {w : World} {b : Nat} {c : Array Value} (h : rowAt w b = some c) : rowOr (rowAt w b) (rowF w b) = some c := by rw [h]; rfl
theorem rowG_is (w : World) (b : Nat) : rowOr (rowAt w b) (rowF w b) = rowF w b := by
  unfold rowOr
  split
  · rename_i c hc
    obtain ⟨t, ht⟩ := heap_of_rowAt hc
    simp [rowF, ht]
  · rfl
theorem heap_of_rowG {w : World} {b : Nat} {c : Array Value} (h : rowOr (rowAt w b) (rowF w b) = some c) : ∃ t fr, w.heap[b]? = some (.cells c t fr) := by
  rw [rowG_is] at h
  unfold rowF at h
  split at h
  · rename_i c' t fr he
    cases h
    exact ⟨t, fr, he⟩
  · cases h
theorem lt_of_rowG {w : World} {b : Nat} {c : Array Value} (h : rowOr (rowAt w b) (rowF w b) = some c) : b < w.heap.size := by
  obtain ⟨t, fr, ht⟩ := heap_of_rowG h
  exact (Array.getElem?_eq_some_iff.1 ht).1
theorem rowG_of_heap {w : World} {b : Nat} {c : Array Value} {t : TypeId} {fr : Nat × Nat} (h : w.heap[b]? = some (.cells c t fr)) : rowOr (rowAt w b) (rowF w b) = some c := by
  rw [rowG_is]
  simp [rowF, h]
theorem rowG_below {B : Nat} {w w' : World} (h : Below B w w') {b : Nat} (hb : b < B) : rowOr (rowAt w' b) (rowF w' b) = rowOr (rowAt w b) (rowF w b) := by
  rw [rowG_is, rowG_is]
  unfold rowF
  rw [h.block b hb]
theorem cell_of_rowG {w : World} {b : Nat} {c : Array Value} (h : rowOr (rowAt w b) (rowF w b) = some c) (i : Nat) : w.cell? ⟨b, i, none⟩ = c[i]? := by
  obtain ⟨t, fr, ht⟩ := heap_of_rowG h
  exact cell_of_row w b i c t _ ht
theorem cell_of_rowAt {w : World} {b : Nat} {c : Array Value} (h : rowAt w b = some c) (i : Nat) : w.cell? ⟨b, i, none⟩ = c[i]? := by
  obtain ⟨t, ht⟩ := heap_of_rowAt h
  exact cell_of_row w b i c t _ ht
theorem frozen_of_rowAt {w : World} {b : Nat} {c : Array Value} (h : rowAt w b = some c) (i : Nat) : w.frozen? ⟨b, i, none⟩ = false := by
  obtain ⟨t, ht⟩ := heap_of_rowAt h
  exact frozen_of_row w b i c t ht

@[go_sem] theorem setRow_alloc_at (w : World) (c c' : Array Value) (t : TypeId) (n : Nat) (hn : n = w.heap.size) : (w.alloc (.cells c t)).setRow n c' = w.alloc (.cells c' t) := by
  subst hn
  simp only [World.setRow, World.alloc]
  congr 1
  apply Array.ext_getElem?
  intro i
  rw [Array.getElem?_modify]
  by_cases h : w.heap.size = i
  · subst h
    simp
  · have h' : ¬ i = w.heap.size := fun e => h e.symm
    simp [h, h', Array.getElem?_push]
@[go_sem] theorem setRow_alloc_past (w : World) (o : Obj) (n : Nat) (c' : Array Value) (hn : n < w.heap.size) : (w.alloc o).setRow n c' = (w.setRow n c').alloc o := by
  simp only [World.setRow, World.alloc]
  congr 1
  apply Array.ext_getElem?
  intro i
  rw [Array.getElem?_modify, Array.getElem?_push, Array.getElem?_push, Array.getElem?_modify, Array.size_modify]
  by_cases h : n = i
  · subst h
    simp [Nat.ne_of_lt hn]
  · simp [h]
@[go_sem] theorem setRow_drew (w : World) (n : Nat) (c : Array Value) : w.drew.setRow n c = (w.setRow n c).drew := rfl
theorem Below.setRow {B : Nat} {a w : World} (h : Below B a w) {b : Nat} (hb : B ≤ b) (c : Array Value) : Below B a (w.setRow b c) :=
  ⟨h.os, h.tape, h.output, by simpa using h.size, fun i hi => (setRow_other w b i c (by omega)).trans (h.block i hi)⟩

/-- The cells of a row, some of them anew. -/
def splice (c : Array Value) (o : Nat) (v : List Value) : Array Value := (c.toList.take o ++ v ++ c.toList.drop (o + v.length)).toArray

theorem splice_whole (c v : Array Value) (h : v.size = c.size) : splice c 0 v.toList = v := by
  simp [splice, List.drop_eq_nil_of_le, h]

theorem setRow_self {w : World} {b : Nat} {c : Array Value} {t : TypeId} (ht : w.heap[b]? = some (.cells c t (0, 0))) : w.setRow b c = w := by
  have e : (w.setRow b c).heap = w.heap := by
    unfold World.setRow
    apply Array.ext_getElem?
    intro i
    rw [Array.getElem?_modify]
    split
    · rename_i hi
      subst hi
      rw [ht]
      rfl
    · rfl
  exact congrArg (fun h => ({ w with heap := h } : World)) e

theorem setCells_eq_setRow (b : Nat) : ∀ (vs : List Value) (o : Nat) (w : World) (c : Array Value), rowAt w b = some c → o + vs.length ≤ c.size → w.setCells b o vs = w.setRow b (splice c o vs)
  | [], o, w, c, h, ho => by
    obtain ⟨t, ht⟩ := heap_of_rowAt h
    have e : splice c o [] = c := by simp [splice]
    rw [World.setCells, e]
    exact (setRow_self ht).symm
  | v :: vs, o, w, c, h, ho => by
    obtain ⟨t, ht⟩ := heap_of_rowAt h
    have ho' : o < c.size := by simp at ho; omega
    rw [World.setCells, setCells_eq_setRow b vs (o + 1) _ (c.setIfInBounds o v) (rowAt_setCell_same h o v) (by simp at ho ⊢; omega), setCell_eq_setRow w b o c t (0, 0) v ht, setRow_setRow]
    congr 1
    simp only [splice]
    congr 1
    apply List.ext_getElem?
    intro i
    have hl : o ≤ c.size := by omega
    simp only [Array.toList_setIfInBounds, List.length_cons]
    rw [List.getElem?_append, List.getElem?_append, List.getElem?_append, List.getElem?_append]
    simp only [List.length_append, List.length_take, List.length_set, Array.length_toList, List.length_cons, List.getElem?_take, List.getElem?_drop, List.getElem?_set]
    have m1 : min (o + 1) c.size = o + 1 := by omega
    have m2 : min o c.size = o := by omega
    rw [m1, m2]
    by_cases h1 : i < o
    · simp [h1, show i < o + 1 by omega, show i < o + 1 + vs.length by omega, show ¬ o = i by omega, show i < o + (vs.length + 1) by omega]
    · by_cases h2 : i = o
      · subst h2
        simp [show i < i + 1 + vs.length by omega, ho']
      · obtain ⟨k, rfl⟩ : ∃ k, i = o + 1 + k := ⟨i - (o + 1), by omega⟩
        have e1 : o + 1 + k - o = k + 1 := by omega
        by_cases h3 : k < vs.length
        · simp [h1, show ¬ o + 1 + k < o + 1 by omega, show o + 1 + k < o + 1 + vs.length by omega, show o + 1 + k < o + (vs.length + 1) by omega, e1]
        · rw [if_neg (by omega), if_neg (by omega)]
          have e2 : o + 1 + vs.length + (o + 1 + k - (o + 1 + vs.length)) = o + (vs.length + 1) + (o + 1 + k - (o + (vs.length + 1))) := by omega
          rw [e2, if_neg (by omega)]

/-- Loading a value of n cells from place o of block b; what stands behind it where the row is not known. -/
def rowLoad (w : World) (b o n : Nat) (els : Result Value) : Result Value :=
  match rowOr (rowAt w b) (rowF w b) with
  | some c => if o + n ≤ c.size then .ok (.agg (c.extract o (o + n))) w else els
  | none => els
theorem rowLoad_of {w : World} {b o n : Nat} {els : Result Value} {c : Array Value} (h : rowAt w b = some c) (hn : o + n ≤ c.size) : rowLoad w b o n els = .ok (.agg (c.extract o (o + n))) w := by
  simp [rowLoad, rowOr, h, hn]

variable {P : Program}

theorem run_loadVar_rowAt (w : World) (b o n : Nat) (ty : TypeId) (c : Array Value) (d : TypeDesc) (h : rowOr (rowAt w b) (rowF w b) = some c) (hn : o + n ≤ c.size)
    (hu : P.underlying ty = some d) (hd : d.isRow = true) (hi : (P.info? ty).map (·.size) = some n) :
    (loadVar ty ⟨b, o, none⟩).run P w = .ok (.agg (c.extract o (o + n))) w := by
  obtain ⟨t, fr, ht⟩ := heap_of_rowG h
  have hl : (c.extract o (o + n)).toList.length = n := by simp; omega
  have := run_loadVar_mid (P := P) w b o ty (c.extract o (o + n)).toList d (World.rangeAt_of_block ht o n) hu hd (by rw [hl]; exact hi)
  rw [this, Array.toArray_toList]

/-- What a load comes to where the row is not known: a word of its own, so that a walk does not open it. -/
def elseLoad (P : Program) (ty : TypeId) (b o : Nat) (w : World) : Result Value := (loadVar ty ⟨b, o, none⟩).run P w
def elseStore (P : Program) (ty : TypeId) (b o : Nat) (v : Array Value) (w : World) : Result Unit := (storeVar ty ⟨b, o, none⟩ (.agg v)).run P w

theorem run_loadAt_rowAt (w : World) (b o n : Nat) (ty : TypeId) (d : TypeDesc) 
    (hu : P.underlying ty = some d) (hd : d.isRow = true) (hi : (P.info? ty).map (·.size) = some n) :
    (Instr.loadAt ty (.pointer (some ⟨b, o, none⟩))).run P w = rowLoad w b o n (elseLoad P ty b o w) := by
  simp only [Instr.loadAt, Instr.sureAddr, Sem.run_bind, Sem.run_pure, Result.andThen_ok]
  unfold rowLoad
  split
  · rename_i c hc
    split
    · rename_i hle
      exact run_loadVar_rowAt w b o n ty c d hc hle hu hd hi
    · rfl
  · rfl

/-- Is each of them the value of one cell? -/
def oneCells (v : Array Value) : Bool := v.all (·.oneCell')
/-- Storing a value of n cells. -/
def rowStore (w : World) (b o n : Nat) (v : Array Value) (els : Result Unit) : Result Unit :=
  match rowAt w b with
  | some c => if o + n ≤ c.size ∧ v.size = n ∧ oneCells v = true then .ok () (w.setRow b (splice c o v.toList)) else els
  | none => els

theorem run_storeAt_rowAt (w : World) (b o n : Nat) (ty : TypeId) (v : Array Value) (hi : (P.info? ty).map (·.size) = some n) :
    (Instr.storeAt ty (.pointer (some ⟨b, o, none⟩)) (.agg v)).run P w = rowStore w b o n v (elseStore P ty b o v w) := by
  simp only [Instr.storeAt, Instr.sureAddr, Sem.run_bind, Sem.run_pure, Result.andThen_ok]
  unfold rowStore
  split
  · rename_i c hc
    split
    · rename_i hle
      obtain ⟨hle, hv, h1⟩ := hle
      rw [run_storeVar_mid w b o ty v (fun j hj => ⟨by rw [cell_of_rowAt hc]; simp; omega, frozen_of_rowAt hc _⟩) (by rw [hv]; exact hi) h1, setCells_eq_setRow b v.toList o w c hc (by simp; omega)]
    · rfl
  · rfl

/-- A load, a store, a composite value, a zero value of one type: words of their own, so that a walk does not open them cell by cell. -/
def loadOf (ty : TypeId) (v : Value) : Sem Value := Instr.loadAt ty v
def storeOf (ty : TypeId) (v x : Value) : Sem Unit := Instr.storeAt ty v x
def buildOf (ty : TypeId) (parts : Array (Nat × Value)) : Sem Value := Instr.build ty parts
def copyOf (ats : Array TypeId) (ty : TypeId) (args : Array Value) : Sem Value := Builtin.copy_ ats ty args
def zeroOf (ty : TypeId) : Sem Value := zeroValue ty

theorem run_firstCells_row (w : World) (b o k n cap : Nat) (c : Array Value) (h : rowAt w b = some c) (hk : o + k ≤ c.size) :
    (Builtin.firstCells 1 k (.slice (some ⟨b, o, none⟩) n cap)).run P w = .ok (c.extract o (o + k)) w := by
  obtain ⟨t, ht⟩ := heap_of_rowAt h
  have hl : (c.extract o (o + k)).toList.length = k := by simp; omega
  have := run_loadCells_list (P := P) w ⟨b, o, none⟩ (c.extract o (o + k)).toList (fun j v hv => by rw [Addr.add_mid]; exact World.rangeAt_of_block ht o k j v hv)
  rw [hl, Array.toArray_toList] at this
  simpa [Builtin.firstCells] using this
/-- copy, from one row to another one (or within one). -/
theorem run_copy_rows (w : World) (T e ty : TypeId) (b1 o1 n1 c1 b2 o2 n2 c2 k : Nat) (C1 C2 : Array Value) (hu : P.underlying T = some (.slice e)) (hs : (P.info? e).map (·.size) = some 1)
    (h1 : rowAt w b1 = some C1) (h2 : rowAt w b2 = some C2) (hk : k = min n2 n1) (hl1 : o1 + k ≤ C1.size) (hl2 : o2 + k ≤ C2.size) (hone : oneCells C2 = true) :
    (Builtin.copy_ #[T, T] ty #[.slice (some ⟨b1, o1, none⟩) n1 c1, .slice (some ⟨b2, o2, none⟩) n2 c2]).run P w = .ok (goInt k) (w.setRow b1 (splice C1 o1 (C2.extract o2 (o2 + k)).toList)) := by
  have hsz : (sizeOf e).run P w = .ok 1 w := by
    cases hq : P.info? e with
    | none => simp [hq] at hs
    | some i => simp [sizeOf, typeInfo, hq] at hs ⊢; exact hs
  have hf := run_firstCells_row (P := P) w b2 o2 k n2 c2 C2 h2 hl2
  have hlen : (C2.extract o2 (o2 + k)).toList.length = k := by simp; omega
  have hst := run_storeCells_cells (P := P) b1 o1 (C2.extract o2 (o2 + k)).toList 0 w (fun j hj => by rw [cell_of_rowAt h1]; simp; omega) (fun j hj => frozen_of_rowAt h1 _)
    (fun v hv => (Array.all_eq_true_iff_forall_mem.1 hone) v (by
      rw [Array.mem_toList_iff] at hv
      rw [Array.mem_extract_iff_getElem] at hv
      obtain ⟨i, hi, rfl⟩ := hv
      exact Array.getElem_mem _))
  rw [Nat.add_zero, setCells_eq_setRow b1 _ o1 w C1 h1 (by rw [hlen]; exact hl1)] at hst
  have hn : n2.min n1 = k := hk.symm
  simp only [Builtin.copy_, Sem.run_bind, run_underlying hu, Result.andThen_ok, Builtin.lenOf, Sem.run_pure, hn, hsz, hf, hst, List.getElem?_toArray, List.getElem?_cons_zero, List.getElem?_cons_succ]

def elseCopy (P : Program) (T ty : TypeId) (x y : Value) (w : World) : Result Value := (Builtin.copy_ #[T, T] ty #[x, y]).run P w
def rowCopy (w : World) (b1 o1 n1 b2 o2 n2 : Nat) (els : Result Value) : Result Value :=
  match rowAt w b1, rowAt w b2 with
  | some C1, some C2 => if o1 + min n2 n1 ≤ C1.size ∧ o2 + min n2 n1 ≤ C2.size ∧ oneCells C2 = true then .ok (goInt (min n2 n1 : Nat)) (w.setRow b1 (splice C1 o1 (C2.extract o2 (o2 + min n2 n1)).toList)) else els
  | _, _ => els
theorem run_copy_word (w : World) (T e ty : TypeId) (b1 o1 n1 c1 b2 o2 n2 c2 : Nat) (hu : P.underlying T = some (.slice e)) (hs : (P.info? e).map (·.size) = some 1) :
    (Builtin.copy_ #[T, T] ty #[.slice (some ⟨b1, o1, none⟩) n1 c1, .slice (some ⟨b2, o2, none⟩) n2 c2]).run P w =
      rowCopy w b1 o1 n1 b2 o2 n2 (elseCopy P T ty (.slice (some ⟨b1, o1, none⟩) n1 c1) (.slice (some ⟨b2, o2, none⟩) n2 c2) w) := by
  unfold rowCopy
  split
  · rename_i C1 C2 h1 h2
    split
    · rename_i h
      exact run_copy_rows w T e ty b1 o1 n1 c1 b2 o2 n2 c2 _ C1 C2 hu hs h1 h2 rfl h.1 h.2.1 h.2.2
    · rfl
  · rfl

/-- A result that lies in a row. -/
theorem results_row {fn : Func} {p : Tmp} {ty : TypeId} (h : fn.results = #[.cell p ty]) (tmps : Array Value) (w : World) (b : Nat) (c : Array Value) (d : TypeDesc)
    (hp : tmps.getD p undef = .pointer (some ⟨b, 0, none⟩)) (hr : rowAt w b = some c) (hu : P.underlying ty = some d) (hd : (match d with | .struct _ | .array _ _ => true | _ => false) = true) (hi : (P.info? ty).map (·.size) = some c.size) :
    (results fn tmps).run P w = .ok (.agg c) w := by
  obtain ⟨t, ht⟩ := heap_of_rowAt hr
  exact results_cell_row h tmps w b t c _ d hp ht hu hd hi
theorem results_row_tmp {fn : Func} {p q : Tmp} {ty : TypeId} (h : fn.results = #[.cell p ty, .tmp q]) (tmps : Array Value) (w : World) (b : Nat) (c : Array Value) (d : TypeDesc)
    (hp : tmps.getD p undef = .pointer (some ⟨b, 0, none⟩)) (hr : rowAt w b = some c) (hu : P.underlying ty = some d) (hd : (match d with | .struct _ | .array _ _ => true | _ => false) = true) (hi : (P.info? ty).map (·.size) = some c.size) :
    (results fn tmps).run P w = .ok (.tuple #[.agg c, tmps.getD q undef]) w := by
  obtain ⟨t, ht⟩ := heap_of_rowAt hr
  have hp' : tmps[p]?.getD undef = .pointer (some ⟨b, 0, none⟩) := by simpa using hp
  simp [results, h, hp', asAddr, run_loadVar_row w b t ty c _ d ht hu hd hi]
end Go.Proofs.YtppgmphojklaeaaGreatDoor
namespace Go.Proofs.YtppgmphojklaeaaGreatDoor
open Go Go.RowKit

/-- A label: 32 bytes. -/
structure Lab where
  l : List UInt8
  h : l.length = 32
  deriving DecidableEq

def cellsL (a : Lab) : Array Value := (a.l.map Extern.Stop.cell).toArray
def cellsP (n : Int) (a : Lab) : Array Value := (Value.int .i64 n :: a.l.map Extern.Stop.cell).toArray
def zeroLab : Lab := ⟨List.replicate 32 0, by simp⟩
def Lab.get (a : Lab) (i : Nat) : UInt8 := a.l.getD i 0
def Lab.set (a : Lab) (i : Nat) (x : UInt8) : Lab := ⟨a.l.set i x, by simp [a.h]⟩

theorem Lab.ext' {a b : Lab} (h : ∀ i, i < 32 → a.get i = b.get i) : a = b := by
  obtain ⟨a, ha⟩ := a
  obtain ⟨b, hb⟩ := b
  have : a = b := by
    apply List.ext_getElem (ha.trans hb.symm)
    intro i h1 h2
    have := h i (by omega)
    simpa [Lab.get, List.getD, h1, h2] using this
  subst this
  rfl
theorem Lab.get_set (a : Lab) (i j : Nat) (x : UInt8) (hj : j < 32) : (a.set i x).get j = if i = j then x else a.get j := by
  have := a.h
  simp only [Lab.get, Lab.set, List.getD, List.getElem?_set]
  split
  · simp [*]
  · rfl
theorem zeroLab_get (i : Nat) : zeroLab.get i = 0 := by
  simp only [zeroLab, Lab.get, List.getD, List.getElem?_replicate]
  split <;> rfl

@[go_sem, simp] theorem size_cellsL (a : Lab) : (cellsL a).size = 32 := by simp [cellsL, a.h]
@[go_sem, simp] theorem size_cellsP (n : Int) (a : Lab) : (cellsP n a).size = 33 := by simp [cellsP, a.h]
theorem get_cellsL (a : Lab) (i : Nat) (h : i < 32) : (cellsL a)[i]? = some (.int .u8 (a.get i).toNat) := by
  have := a.h
  simp [cellsL, Extern.Stop.cell, Lab.get, List.getD, show i < a.l.length by omega]
theorem get_cellsP0 (n : Int) (a : Lab) : (cellsP n a)[0]? = some (.int .i64 n) := by
  simp [cellsP]
theorem get_cellsP (n : Int) (a : Lab) (i : Nat) (h : i < 32) : (cellsP n a)[1 + i]? = some (.int .u8 (a.get i).toNat) := by
  have := a.h
  rw [Nat.add_comm]
  simp [cellsP, Extern.Stop.cell, Lab.get, List.getD, show i < a.l.length by omega]
@[go_sem, simp] theorem getElem_cellsL (a : Lab) (i : Nat) (h : i < (cellsL a).size) : (cellsL a)[i] = .int .u8 (a.get i).toNat := by
  have := get_cellsL a i (by simpa using h)
  rw [Array.getElem?_eq_getElem h] at this
  exact Option.some.inj this
@[go_sem, simp] theorem getElem_cellsP (n : Int) (a : Lab) (i : Nat) (h : 1 + i < (cellsP n a).size) : (cellsP n a)[1 + i] = .int .u8 (a.get i).toNat := by
  have := get_cellsP n a i (by have := size_cellsP n a; omega)
  rw [Array.getElem?_eq_getElem h] at this
  exact Option.some.inj this
@[go_sem, simp] theorem getElem_cellsP' (n : Int) (a : Lab) (i : Nat) (h : i + 1 < (cellsP n a).size) : (cellsP n a)[i + 1] = .int .u8 (a.get i).toNat := by
  have := get_cellsP n a i (by have := size_cellsP n a; omega)
  rw [Nat.add_comm, Array.getElem?_eq_getElem h] at this
  exact Option.some.inj this
@[go_sem, simp] theorem getElem_cellsP0 (n : Int) (a : Lab) (h : 0 < (cellsP n a).size) : (cellsP n a)[0] = .int .i64 n := by
  simp [cellsP]
@[go_sem, simp] theorem one_cellsL (a : Lab) : oneCells (cellsL a) = true := by
  simp [oneCells, cellsL, Extern.Stop.cell, Value.oneCell']
@[go_sem, simp] theorem one_cellsP (n : Int) (a : Lab) : oneCells (cellsP n a) = true := by
  simp [oneCells, cellsP, Extern.Stop.cell, Value.oneCell']
@[go_sem, simp] theorem extract_cellsL (a : Lab) : (cellsL a).extract 0 32 = cellsL a := by
  have h := size_cellsL a
  conv => rhs; rw [← Array.extract_size (xs := cellsL a), h]
@[go_sem, simp] theorem extract_cellsP (n : Int) (a : Lab) : (cellsP n a).extract 0 33 = cellsP n a := by
  have h := size_cellsP n a
  conv => rhs; rw [← Array.extract_size (xs := cellsP n a), h]
@[go_sem, simp] theorem extract_cellsP1 (n : Int) (a : Lab) : (cellsP n a).extract 1 33 = cellsL a := by
  simp only [cellsP, cellsL, List.extract_toArray]
  congr 1
  simp [List.extract, List.take_of_length_le, a.h]
@[go_sem, simp] theorem splice_cellsL (a b : Lab) : splice (cellsL a) 0 (cellsL b).toList = cellsL b := splice_whole _ _ (by simp)
@[go_sem, simp] theorem splice_cellsP (n m : Int) (a b : Lab) : splice (cellsP n a) 0 (cellsP m b).toList = cellsP m b := splice_whole _ _ (by simp)
@[go_sem, simp] theorem splice_cellsP1 (n : Int) (a b : Lab) : splice (cellsP n a) 1 (cellsL b).toList = cellsP n b := by
  simp [splice, cellsP, cellsL, a.h, b.h, List.drop_eq_nil_of_le]
theorem byte_of_int {x : Int} (h0 : 0 ≤ x) (h1 : x < 256) : ((UInt8.ofNat x.toNat).toNat : Int) = x := by
  rw [UInt8.toNat_ofNat']
  omega
theorem set_cellsL (a : Lab) (i : Nat) (x : Int) (h0 : 0 ≤ x) (h1 : x < 256) : (cellsL a).setIfInBounds i (.int .u8 x) = cellsL (a.set i (UInt8.ofNat x.toNat)) := by
  have e : Extern.Stop.cell (UInt8.ofNat x.toNat) = .int .u8 x := congrArg (Value.int .u8) (byte_of_int h0 h1)
  simp [cellsL, Lab.set, List.map_set, e]
theorem set_cellsP (n : Int) (a : Lab) (i : Nat) (x : Int) (h0 : 0 ≤ x) (h1 : x < 256) : (cellsP n a).setIfInBounds (1 + i) (.int .u8 x) = cellsP n (a.set i (UInt8.ofNat x.toNat)) := by
  rw [Nat.add_comm]
  have e : Extern.Stop.cell (UInt8.ofNat x.toNat) = .int .u8 x := congrArg (Value.int .u8) (byte_of_int h0 h1)
  simp [cellsP, Lab.set, List.map_set, e]
theorem set_cellsP0 (n m : Int) (a : Lab) : (cellsP n a).setIfInBounds 0 (.int .i64 m) = cellsP m a := by
  simp [cellsP]

end Go.Proofs.YtppgmphojklaeaaGreatDoor
namespace Go.Proofs.YtppgmphojklaeaaGreatDoor
open Go Go.RowKit

attribute [go_sem] rowLoad rowStore rowCopy

@[go_sem ↓] theorem load_lab (v : Value) : Instr.loadAt 27 v = loadOf 27 v := rfl
@[go_sem ↓] theorem load_pre (v : Value) : Instr.loadAt 53 v = loadOf 53 v := rfl
@[go_sem ↓] theorem store_lab (v x : Value) : Instr.storeAt 27 v x = storeOf 27 v x := rfl
@[go_sem ↓] theorem store_pre (v x : Value) : Instr.storeAt 53 v x = storeOf 53 v x := rfl
@[go_sem ↓] theorem build_lab (parts : Array (Nat × Value)) : Instr.build 27 parts = buildOf 27 parts := rfl
@[go_sem ↓] theorem build_pre (parts : Array (Nat × Value)) : Instr.build 53 parts = buildOf 53 parts := rfl
@[go_sem ↓] theorem zeroOf_lab : zeroValue 27 = zeroOf 27 := rfl
@[go_sem ↓] theorem zeroOf_pre : zeroValue 53 = zeroOf 53 := rfl
@[go_sem ↓] theorem copy_bytes (ty : TypeId) (args : Array Value) : Builtin.copy_ #[164, 164] ty args = copyOf #[164, 164] ty args := rfl
@[go_sem] theorem run_copy_bytes (w : World) (ty : TypeId) (b1 o1 n1 c1 b2 o2 n2 c2 : Nat) :
    (copyOf #[164, 164] ty #[.slice (some ⟨b1, o1, none⟩) n1 c1, .slice (some ⟨b2, o2, none⟩) n2 c2]).run Tryz.prog w =
      rowCopy w b1 o1 n1 b2 o2 n2 (elseCopy Tryz.prog 164 ty (.slice (some ⟨b1, o1, none⟩) n1 c1) (.slice (some ⟨b2, o2, none⟩) n2 c2) w) :=
  run_copy_word w 164 5 ty b1 o1 n1 c1 b2 o2 n2 c2 Tryz.underlying164 (by kernel_rfl)
@[go_sem] theorem run_load_lab (w : World) (b o : Nat) : (loadOf 27 (.pointer (some ⟨b, o, none⟩))).run Tryz.prog w = rowLoad w b o 32 (elseLoad Tryz.prog 27 b o w) :=
  run_loadAt_rowAt w b o 32 27 _ Tryz.underlying27 rfl (by kernel_rfl)
@[go_sem] theorem run_load_pre (w : World) (b o : Nat) : (loadOf 53 (.pointer (some ⟨b, o, none⟩))).run Tryz.prog w = rowLoad w b o 33 (elseLoad Tryz.prog 53 b o w) :=
  run_loadAt_rowAt w b o 33 53 _ Tryz.underlying53 rfl (by kernel_rfl)
@[go_sem] theorem run_store_lab (w : World) (b o : Nat) (v : Array Value) : (storeOf 27 (.pointer (some ⟨b, o, none⟩)) (.agg v)).run Tryz.prog w = rowStore w b o 32 v (elseStore Tryz.prog 27 b o v w) :=
  run_storeAt_rowAt w b o 32 27 v (by kernel_rfl)
@[go_sem] theorem run_store_pre (w : World) (b o : Nat) (v : Array Value) : (storeOf 53 (.pointer (some ⟨b, o, none⟩)) (.agg v)).run Tryz.prog w = rowStore w b o 33 v (elseStore Tryz.prog 53 b o v w) :=
  run_storeAt_rowAt w b o 33 53 v (by kernel_rfl)

theorem zeroL_cells : cellsL zeroLab = (List.replicate 32 (Value.int .u8 0)).toArray := by
  simp [cellsL, zeroLab, Extern.Stop.cell]
theorem zeroP_cells : cellsP 0 zeroLab = (Value.int .i64 0 :: List.replicate 32 (Value.int .u8 0)).toArray := by
  simp [cellsP, zeroLab, Extern.Stop.cell]
@[go_sem] theorem zero_lab (w : World) : (zeroOf 27).run Tryz.prog w = .ok (.agg (cellsL zeroLab)) w := by
  rw [zeroL_cells]
  kernel_rfl
@[go_sem] theorem zero_pre (w : World) : (zeroOf 53).run Tryz.prog w = .ok (.agg (cellsP 0 zeroLab)) w := by
  rw [zeroP_cells]
  kernel_rfl

theorem Lab.open (a : Lab) : ∃ b0 b1 b2 b3 b4 b5 b6 b7 b8 b9 b10 b11 b12 b13 b14 b15 b16 b17 b18 b19 b20 b21 b22 b23 b24 b25 b26 b27 b28 b29 b30 b31 : UInt8,
    a.l = [b0, b1, b2, b3, b4, b5, b6, b7, b8, b9, b10, b11, b12, b13, b14, b15, b16, b17, b18, b19, b20, b21, b22, b23, b24, b25, b26, b27, b28, b29, b30, b31] := by
  obtain ⟨l, h⟩ := a
  match l, h with
  | [b0, b1, b2, b3, b4, b5, b6, b7, b8, b9, b10, b11, b12, b13, b14, b15, b16, b17, b18, b19, b20, b21, b22, b23, b24, b25, b26, b27, b28, b29, b30, b31], _ =>
    exact ⟨b0, b1, b2, b3, b4, b5, b6, b7, b8, b9, b10, b11, b12, b13, b14, b15, b16, b17, b18, b19, b20, b21, b22, b23, b24, b25, b26, b27, b28, b29, b30, b31, rfl⟩

@[go_sem] theorem build_lab0 (w : World) : (buildOf 27 #[]).run Tryz.prog w = .ok (.agg (cellsL zeroLab)) w := by
  rw [zeroL_cells]
  kernel_rfl
@[go_sem] theorem build_pre0 (w : World) : (buildOf 53 #[]).run Tryz.prog w = .ok (.agg (cellsP 0 zeroLab)) w := by
  rw [zeroP_cells]
  kernel_rfl
@[go_sem] theorem build_lab1 (w : World) (x : Int) : (buildOf 27 #[(0, .int .u8 x)]).run Tryz.prog w = .ok (.agg ((cellsL zeroLab).setIfInBounds 0 (.int .u8 x))) w := by
  rw [zeroL_cells]
  kernel_rfl
@[go_sem] theorem build_pre1 (w : World) (n : Int) : (buildOf 53 #[(0, .int .i64 n)]).run Tryz.prog w = .ok (.agg (cellsP n zeroLab)) w := by
  rw [show cellsP n zeroLab = (Value.int .i64 n :: List.replicate 32 (Value.int .u8 0)).toArray by simp [cellsP, zeroLab, Extern.Stop.cell]]
  kernel_rfl
@[go_sem] theorem build_pre2 (w : World) (n : Int) (a : Lab) : (buildOf 53 #[(0, .int .i64 n), (1, .agg (cellsL a))]).run Tryz.prog w = .ok (.agg (cellsP n a)) w := by
  obtain ⟨b0, b1, b2, b3, b4, b5, b6, b7, b8, b9, b10, b11, b12, b13, b14, b15, b16, b17, b18, b19, b20, b21, b22, b23, b24, b25, b26, b27, b28, b29, b30, b31, h⟩ := a.open
  rw [cellsL, cellsP, h]
  kernel_rfl

theorem equalIn_lab (w : World) (d : Nat) (a b : Lab) : (Op.equalIn (d + 2) 27 (.agg (cellsL a)) (.agg (cellsL b))).run Tryz.prog w = .ok (decide (a = b)) w := by
  rw [cellsL, cellsL, run_equalIn_bytes w d 27 5 32 Tryz.underlying27 Tryz.underlying5 (fun _ => by kernel_rfl) a.l b.l a.h b.h]
  congr 1
  rw [Bool.eq_iff_iff]
  simp
  obtain ⟨a, ha⟩ := a
  obtain ⟨b, hb⟩ := b
  simp
@[go_sem high] theorem eql_lab (w : World) (a b : Lab) : (binOp .eql 27 (.agg (cellsL a)) (.agg (cellsL b))).run Tryz.prog w = .ok (.bool (decide (a = b))) w := by
  rw [run_eql_struct, equalIn_lab]
  rfl
@[go_sem high] theorem neq_lab (w : World) (a b : Lab) : (binOp .neq 27 (.agg (cellsL a)) (.agg (cellsL b))).run Tryz.prog w = .ok (.bool (!decide (a = b))) w := by
  rw [run_neq_struct, equalIn_lab]
  rfl
theorem part_lab (w : World) (n : Int) (a : Lab) : (part 27 (cellsP n a) 1).run Tryz.prog w = .ok (.agg (cellsL a)) w := by
  simp only [part, Sem.run_bind, show (isAgg 27).run Tryz.prog w = .ok true w from by kernel_rfl, show (sizeOf 27).run Tryz.prog w = .ok 32 w from by kernel_rfl, Result.andThen_ok, if_true, Sem.run_pure, show 1 + 32 = 33 from rfl, extract_cellsP1]
theorem part_len (w : World) (n : Int) (a : Lab) : (part 3 (cellsP n a) 0).run Tryz.prog w = .ok (.int .i64 n) w := by
  simp only [part, Sem.run_bind, show (isAgg 3).run Tryz.prog w = .ok false w from by kernel_rfl, Result.andThen_ok, Bool.false_eq_true, if_false, get_cellsP0, Sem.run_pure]
theorem equalIn_pre (w : World) (d : Nat) (n m : Int) (a b : Lab) : (Op.equalIn (d + 3) 53 (.agg (cellsP n a)) (.agg (cellsP m b))).run Tryz.prog w = .ok (decide (n = m ∧ a = b)) w := by
  rw [run_equalIn_struct w (d + 2) 53 _ _ (by kernel_rfl) (by kernel_rfl)]
  rw [show (Program.fieldsOf Tryz.prog 53) = #[{ name := "Len", type := 3, offset := 0, embedded := false, tag := "", pkgPath := "", byteOffset := 0 }, { name := "Bits", type := 27, offset := 1, embedded := false, tag := "", pkgPath := "", byteOffset := 8 }] from by kernel_rfl]
  simp only [Op.eqFields, ne_eq, String.reduceEq, not_false_eq_true, if_true, Sem.run_bind, part_len, Result.andThen_ok, run_equalIn_int w (d + 1) 3 .i64 .i64 n m Tryz.underlying3]
  by_cases h : n = m
  · subst h
    by_cases h2 : a = b
    · simp [h2, part_lab, equalIn_lab]
    · simp [h2, part_lab, equalIn_lab]
  · have h' : (n == m) = false := by simpa using h
    simp [h, h']
@[go_sem high] theorem eql_pre (w : World) (n m : Int) (a b : Lab) : (binOp .eql 53 (.agg (cellsP n a)) (.agg (cellsP m b))).run Tryz.prog w = .ok (.bool (decide (n = m) && decide (a = b))) w := by
  rw [run_eql_struct, equalIn_pre w 9997, Bool.decide_and]
  rfl
@[go_sem high] theorem neq_pre (w : World) (n m : Int) (a b : Lab) : (binOp .neq 53 (.agg (cellsP n a)) (.agg (cellsP m b))).run Tryz.prog w = .ok (.bool (!(decide (n = m) && decide (a = b)))) w := by
  rw [run_neq_struct, equalIn_pre w 9997, Bool.decide_and]
  rfl
end Go.Proofs.YtppgmphojklaeaaGreatDoor
namespace Go.Proofs.YtppgmphojklaeaaGreatDoor
open Go

/-- Bit k of a byte, the highest one first. -/
def bitB (x : UInt8) (k : Nat) : Nat := x.toNat / 2 ^ (7 - k) % 2
/-- Bit i of a label. -/
def bit (a : Lab) (i : Nat) : Nat := bitB (a.get (i / 8)) (i % 8)

theorem bitB_lt (x : UInt8) (k : Nat) : bitB x k < 2 := Nat.mod_lt _ (by decide)
theorem bit_lt (a : Lab) (i : Nat) : bit a i < 2 := bitB_lt _ _

theorem u8_all {p : UInt8 → Prop} (h : ∀ n : Fin 256, p (UInt8.ofNat n.val)) (x : UInt8) : p x := by
  have := h ⟨x.toNat, x.toNat_lt⟩
  simpa using this

theorem byte_ext {x y : UInt8} (h : ∀ k, k < 8 → bitB x k = bitB y k) : x = y := by
  apply UInt8.toNat_inj.1
  have hx := x.toNat_lt
  have hy := y.toNat_lt
  apply Nat.eq_of_testBit_eq
  intro i
  by_cases hi : i < 8
  · have := h (7 - i) (by omega)
    simp only [bitB, show 7 - (7 - i) = i by omega] at this
    rw [Nat.testBit_eq_decide_div_mod_eq, Nat.testBit_eq_decide_div_mod_eq, this]
  · have e : 2 ^ 8 ≤ 2 ^ i := Nat.pow_le_pow_right (by decide) (by omega)
    rw [Nat.testBit_lt_two_pow (by omega), Nat.testBit_lt_two_pow (by omega)]

theorem lab_ext {a b : Lab} (h : ∀ i, i < 256 → bit a i = bit b i) : a = b := by
  apply Lab.ext'
  intro i hi
  apply byte_ext
  intro k hk
  have := h (8 * i + k) (by omega)
  simpa [bit, show (8 * i + k) / 8 = i by omega, show (8 * i + k) % 8 = k by omega] using this

/-- So many bits are the same, and no more. -/
structure IsCommon (a b : Lab) (n : Nat) : Prop where
  le : n ≤ 256
  same : ∀ i, i < n → bit a i = bit b i
  other : n < 256 → bit a n ≠ bit b n
theorem IsCommon.eq {a b : Lab} {n m : Nat} (h : IsCommon a b n) (k : IsCommon a b m) : n = m := by
  rcases Nat.lt_trichotomy n m with hl | hl | hl
  · exact absurd (k.same n hl) (h.other (Nat.lt_of_lt_of_le hl k.le))
  · exact hl
  · exact absurd (h.same m hl) (k.other (Nat.lt_of_lt_of_le hl h.le))
def comFrom (a b : Lab) : Nat → Nat → Nat
  | 0, n => n
  | f + 1, n => if bit a n = bit b n then comFrom a b f (n + 1) else n
/-- How many bits are the same. -/
def common (a b : Lab) : Nat := comFrom a b 256 0
theorem comFrom_is (a b : Lab) : ∀ f n, n + f = 256 → (∀ i, i < n → bit a i = bit b i) → IsCommon a b (comFrom a b f n)
  | 0, n, hf, h => ⟨by simp [comFrom]; omega, by simpa [comFrom] using h, by simp [comFrom]; omega⟩
  | f + 1, n, hf, h => by
    rw [comFrom]
    split
    · rename_i he
      refine comFrom_is a b f (n + 1) (by omega) fun i hi => ?_
      by_cases e : i = n
      · subst e; exact he
      · exact h i (by omega)
    · rename_i he
      exact ⟨by omega, h, fun _ => he⟩
theorem common_is (a b : Lab) : IsCommon a b (common a b) := comFrom_is a b 256 0 rfl (by omega)
theorem common_of {a b : Lab} {n : Nat} (h : IsCommon a b n) : common a b = n := (common_is a b).eq h
theorem common_le (a b : Lab) : common a b ≤ 256 := (common_is a b).le
theorem common_256 {a b : Lab} : common a b = 256 ↔ a = b := by
  constructor
  · intro h
    have := (common_is a b).same
    rw [h] at this
    exact lab_ext this
  · rintro rfl
    exact common_of ⟨Nat.le_refl _, fun _ _ => rfl, fun h => absurd h (Nat.lt_irrefl _)⟩

theorem xor_bitB (x y : UInt8) (k : Nat) : (x.toNat ^^^ y.toNat) / 2 ^ (7 - k) % 2 = (bitB x k + bitB y k) % 2 := by
  have h := Nat.testBit_xor (x := x.toNat) (y := y.toNat) (i := 7 - k)
  rw [Nat.testBit_eq_decide_div_mod_eq, Nat.testBit_eq_decide_div_mod_eq, Nat.testBit_eq_decide_div_mod_eq] at h
  have h1 := bitB_lt x k
  have h2 := bitB_lt y k
  unfold bitB at h1 h2 ⊢
  have h3 : (x.toNat ^^^ y.toNat) / 2 ^ (7 - k) % 2 < 2 := Nat.mod_lt _ (by decide)
  generalize (x.toNat ^^^ y.toNat) / 2 ^ (7 - k) % 2 = p at *
  generalize x.toNat / 2 ^ (7 - k) % 2 = q at *
  generalize y.toNat / 2 ^ (7 - k) % 2 = r at *
  have c : p = 0 ∨ p = 1 := by omega
  have c2 : q = 0 ∨ q = 1 := by omega
  have c3 : r = 0 ∨ r = 1 := by omega
  rcases c with rfl | rfl <;> rcases c2 with rfl | rfl <;> rcases c3 with rfl | rfl <;> simp_all

/-- The first bit that is 1 of a byte that isn't 0. -/
theorem lead (z : Nat) (h0 : z ≠ 0) (h1 : z < 256) : Lib.bitLen z ≤ 8 ∧ 1 ≤ Lib.bitLen z ∧ (∀ j, j < 8 - Lib.bitLen z → z / 2 ^ (7 - j) % 2 = 0) ∧ z / 2 ^ (7 - (8 - Lib.bitLen z)) % 2 = 1 := by
  have key : ∀ n : Fin 256, n.val ≠ 0 → Lib.bitLen n.val ≤ 8 ∧ 1 ≤ Lib.bitLen n.val ∧ (∀ j : Fin 8, j.val < 8 - Lib.bitLen n.val → n.val / 2 ^ (7 - j.val) % 2 = 0) ∧ n.val / 2 ^ (7 - (8 - Lib.bitLen n.val)) % 2 = 1 := by decide +kernel
  obtain ⟨k1, k2, k3, k4⟩ := key ⟨z, h1⟩ h0
  exact ⟨k1, k2, fun j hj => k3 ⟨j, by omega⟩ hj, k4⟩

/-- Behind i bytes that are the same, and one that isn't. -/
theorem common_at {a b : Lab} {i : Nat} (hi : i < 32) (hs : ∀ j, j < i → a.get j = b.get j) (hne : (a.get i).toNat ^^^ (b.get i).toNat ≠ 0) :
    common a b = 8 * i + (8 - Lib.bitLen ((a.get i).toNat ^^^ (b.get i).toNat)) := by
  have hz : (a.get i).toNat ^^^ (b.get i).toNat < 2 ^ 8 := Nat.xor_lt_two_pow (a.get i).toNat_lt (b.get i).toNat_lt
  obtain ⟨k1, k2, k3, k4⟩ := lead _ hne hz
  generalize Lib.bitLen ((a.get i).toNat ^^^ (b.get i).toNat) = n at *
  apply common_of
  refine ⟨by omega, fun j hj => ?_, fun _ => ?_⟩
  · by_cases hlt : j < 8 * i
    · simp only [bit]
      rw [hs (j / 8) (by omega)]
    · have e : j / 8 = i := by omega
      have h := k3 (j % 8) (by omega)
      rw [xor_bitB] at h
      simp only [bit, e]
      have h1 := bitB_lt (a.get i) (j % 8)
      have h2 := bitB_lt (b.get i) (j % 8)
      omega
  · have e : (8 * i + (8 - n)) / 8 = i := by omega
    have e2 : (8 * i + (8 - n)) % 8 = 8 - n := by omega
    rw [xor_bitB] at k4
    simp only [bit, e, e2]
    have h1 := bitB_lt (a.get i) (8 - n)
    have h2 := bitB_lt (b.get i) (8 - n)
    omega
theorem xor_ne {x y : UInt8} : x.toNat ^^^ y.toNat = 0 ↔ x = y := by
  constructor
  · intro h
    have h2 : (x.toNat ^^^ y.toNat) ^^^ y.toNat = 0 ^^^ y.toNat := by rw [h]
    rw [Nat.xor_assoc, Nat.xor_self, Nat.xor_zero, Nat.zero_xor] at h2
    exact UInt8.toNat_inj.1 h2
  · rintro rfl
    exact Nat.xor_self _

/-- The order of two labels. -/
def order (a b : Lab) : Int := if common a b = 256 then 0 else 2 * (bit a (common a b) : Int) - 1

/-- The order of two bytes is that of their first bits that are unlike. -/
theorem byte_lt (x y : UInt8) (k : Nat) (hk : k < 8) (hs : ∀ j, j < k → bitB x j = bitB y j) (hx : bitB x k = 0) (hy : bitB y k = 1) : x < y := by
  rw [UInt8.lt_iff_toNat_lt]
  have hx8 := x.toNat_lt
  have hy8 := y.toNat_lt
  have top : x.toNat / 2 ^ (8 - k) = y.toNat / 2 ^ (8 - k) := by
    apply Nat.eq_of_testBit_eq
    intro i
    rw [Nat.testBit_div_two_pow, Nat.testBit_div_two_pow]
    by_cases hi : i + (8 - k) < 8
    · have := hs (7 - (i + (8 - k))) (by omega)
      simp only [bitB, show 7 - (7 - (i + (8 - k))) = i + (8 - k) by omega] at this
      rw [Nat.testBit_eq_decide_div_mod_eq, Nat.testBit_eq_decide_div_mod_eq, this]
    · have e : 2 ^ 8 ≤ 2 ^ (i + (8 - k)) := Nat.pow_le_pow_right (by decide) (by omega)
      rw [Nat.testBit_lt_two_pow (by omega), Nat.testBit_lt_two_pow (by omega)]
  simp only [bitB] at hx hy
  have e : 2 ^ (8 - k) = 2 * 2 ^ (7 - k) := by rw [show 8 - k = (7 - k) + 1 by omega, Nat.pow_succ, Nat.mul_comm]
  rw [e] at top
  have p : 0 < 2 ^ (7 - k) := Nat.pow_pos (by decide)
  generalize 2 ^ (7 - k) = m at *
  rw [Nat.mul_comm, ← Nat.div_div_eq_div_mul, ← Nat.div_div_eq_div_mul] at top
  have : x.toNat / m < y.toNat / m := by omega
  rcases Nat.lt_or_ge x.toNat y.toNat with h | h
  · exact h
  · have := Nat.div_le_div_right (c := m) h
    omega

theorem compare_at : ∀ (n : Nat) (l m : List UInt8), l.length = m.length → n < l.length → (∀ j, j < n → l.getD j 0 = m.getD j 0) → Lib.compareBytes l m = Lib.compareBytes (l.drop n) (m.drop n)
  | 0, l, m, _, _, _ => by simp
  | n + 1, [], _, _, h, _ => by simp at h
  | n + 1, x :: l, [], h, _, _ => by simp at h
  | n + 1, x :: l, y :: m, h, hn, hs => by
    have e : x = y := by simpa using hs 0 (by omega)
    subst e
    simp only [Lib.compareBytes, UInt8.lt_irrefl, if_false, List.drop_succ_cons]
    exact compare_at n l m (by simpa using h) (by simpa using hn) fun j hj => by simpa using hs (j + 1) (by omega)
theorem compare_self : ∀ l : List UInt8, Lib.compareBytes l l = 0
  | [] => rfl
  | x :: l => by simp [Lib.compareBytes, UInt8.lt_irrefl, compare_self l]

theorem compare_order (a b : Lab) : Lib.compareBytes a.l b.l = order a b := by
  by_cases he : a = b
  · subst he
    rw [compare_self, order, if_pos (common_256.2 rfl)]
  · have hc : common a b ≠ 256 := fun h => he (common_256.1 h)
    have is := common_is a b
    have hlt : common a b < 256 := Nat.lt_of_le_of_ne is.le hc
    rw [order, if_neg hc]
    generalize common a b = n at *
    have ha := a.h
    have hb := b.h
    have hs : ∀ j, j < n / 8 → a.l.getD j 0 = b.l.getD j 0 := by
      intro j hj
      show a.get j = b.get j
      apply byte_ext
      intro k hk
      have := is.same (8 * j + k) (by omega)
      simpa [bit, show (8 * j + k) / 8 = j by omega, show (8 * j + k) % 8 = k by omega] using this
    rw [compare_at (n / 8) a.l b.l (by omega) (by omega) hs]
    have da : a.l.drop (n / 8) = a.get (n / 8) :: a.l.drop (n / 8 + 1) := by
      rw [List.drop_eq_getElem_cons (by omega)]
      simp [Lab.get, List.getD, show n / 8 < a.l.length by omega]
    have db : b.l.drop (n / 8) = b.get (n / 8) :: b.l.drop (n / 8 + 1) := by
      rw [List.drop_eq_getElem_cons (by omega)]
      simp [Lab.get, List.getD, show n / 8 < b.l.length by omega]
    rw [da, db, Lib.compareBytes]
    have hbits : ∀ j, j < n % 8 → bitB (a.get (n / 8)) j = bitB (b.get (n / 8)) j := by
      intro j hj
      have := is.same (8 * (n / 8) + j) (by omega)
      simpa [bit, show (8 * (n / 8) + j) / 8 = n / 8 by omega, show (8 * (n / 8) + j) % 8 = j by omega] using this
    have ho := is.other hlt
    have b1 := bit_lt a n
    have b2 := bit_lt b n
    have c : bit a n = 0 ∧ bit b n = 1 ∨ bit a n = 1 ∧ bit b n = 0 := by omega
    rcases c with ⟨c1, c2⟩ | ⟨c1, c2⟩
    · rw [if_pos (byte_lt _ _ (n % 8) (by omega) hbits c1 c2), c1]
      rfl
    · have hlt' := byte_lt _ _ (n % 8) (by omega) (fun j hj => (hbits j hj).symm) c2 c1
      rw [if_neg (fun h => absurd (UInt8.lt_trans h hlt') (UInt8.lt_irrefl _)), if_pos hlt', c1]
      rfl
/-! ### The walk's words -/
theorem i64_and (a b : Nat) (ha : a < 9223372036854775808) (hb : b < 9223372036854775808) : bits .and .i64 (a : Int) (b : Int) = ((a &&& b : Nat) : Int) := by
  have hx : a &&& b < 2 ^ 63 := Nat.and_lt_two_pow _ (by omega)
  show IntKind.i64.wrap ((BitVec.ofInt 64 (a : Int) &&& BitVec.ofInt 64 (b : Int)).toNat : Int) = _
  rw [BitVec.toNat_and, ofInt_u64 a (by omega), ofInt_u64 b (by omega)]
  exact IntWalk.i64_in _ (by omega)
theorem i64_or (a b : Nat) (ha : a < 9223372036854775808) (hb : b < 9223372036854775808) : bits .or .i64 (a : Int) (b : Int) = ((a ||| b : Nat) : Int) := by
  have hx : a ||| b < 2 ^ 63 := Nat.or_lt_two_pow (by omega) (by omega)
  show IntKind.i64.wrap ((BitVec.ofInt 64 (a : Int) ||| BitVec.ofInt 64 (b : Int)).toNat : Int) = _
  rw [BitVec.toNat_or, ofInt_u64 a (by omega), ofInt_u64 b (by omega)]
  exact IntWalk.i64_in _ (by omega)
theorem div_pow_cast (x k : Nat) : (x : Int) / 2 ^ k = ((x / 2 ^ k : Nat) : Int) := by
  rw [Int.natCast_ediv, Int.natCast_pow]
  rfl
theorem bit_walk (a : Lab) (i : Int) (h0 : 0 ≤ i) (h1 : i < 256) :
    bits .and .i64 (Go.RowKit.wrap64 (((a.get (i / 8).toNat).toNat : Int) / 2 ^ (7 - i % 8).toNat)) 1 = (bit a i.toNat : Int) := by
  have hx := (a.get (i / 8).toNat).toNat_lt
  have hle : (a.get (i / 8).toNat).toNat / 2 ^ (7 - i % 8).toNat ≤ (a.get (i / 8).toNat).toNat := Nat.div_le_self _ _
  rw [div_pow_cast]
  have e : bit a i.toNat = (a.get (i / 8).toNat).toNat / 2 ^ (7 - i % 8).toNat % 2 := by
    rw [bit, bitB, show (i / 8).toNat = i.toNat / 8 by omega, show (7 - i % 8).toNat = 7 - i.toNat % 8 by omega]
  rw [e]
  generalize (a.get (i / 8).toNat).toNat / 2 ^ (7 - i % 8).toNat = q at *
  rw [IntWalk.wrap64_in _ ⟨by omega, by omega⟩, show (1 : Int) = ((1 : Nat) : Int) from rfl, i64_and _ _ (by omega) (by omega), nat_mask1]
end Go.Proofs.YtppgmphojklaeaaGreatDoor
namespace Go.Proofs.YtppgmphojklaeaaGreatDoor
open Go Go.RowKit

theorem row_ret_lab {fn : Func} {p : Tmp} (h : fn.results = #[.cell p 27]) {R : Ending → World → Prop} {a : Act} {w : World} {b : Nat} {l : Lab} (hp : a.tmps.getD p undef = .pointer (some ⟨b, 0, none⟩)) (hd : a.defers = [])
    (hr : rowAt w b = some (cellsL l)) (hR : R (.returned (.agg (cellsL l))) w) : bodyPost Tryz.prog fn R .ret a w :=
  bodyPost_ret (results_row h a.tmps w b _ _ hp hr Tryz.underlying27 rfl (by rw [size_cellsL]; kernel_rfl)) hd hR
theorem row_ret_pre {fn : Func} {p : Tmp} (h : fn.results = #[.cell p 53]) {R : Ending → World → Prop} {a : Act} {w : World} {b : Nat} {n : Int} {l : Lab} (hp : a.tmps.getD p undef = .pointer (some ⟨b, 0, none⟩)) (hd : a.defers = [])
    (hr : rowAt w b = some (cellsP n l)) (hR : R (.returned (.agg (cellsP n l))) w) : bodyPost Tryz.prog fn R .ret a w :=
  bodyPost_ret (results_row h a.tmps w b _ _ hp hr Tryz.underlying53 rfl (by rw [size_cellsP]; kernel_rfl)) hd hR


theorem below_drewN {B : Nat} {a w : World} (h : Below B a w) (n : Nat) : Below B a (w.drewN n) := ⟨h.os, h.tape, h.output, h.size, h.block⟩
theorem ret_int {k : IntKind} {a b : Int} (h : a = b) : Ending.returned (.int k a) = .returned (.int k b) := by rw [h]

def bitI (a : Lab) (i : Int) : Int := if 0 ≤ i ∧ i < 256 then (bit a i.toNat : Int) else 0

theorem Bit_any (a : Lab) (i : Int) (w : World) :
    Calls Tryz.prog 86 #[.agg (cellsL a), .int .i64 i] w fun e w' => e = .returned (.int .i64 (bitI a i)) ∧ Below w.heap.size w w' := by
  by_cases h : 0 ≤ i ∧ i < 256
  · obtain ⟨h0, h1⟩ := h
    have hc := get_cellsL a (i / 8).toNat (by omega)
    go_enter Tryz.func86, Tryz.ntmps86
    go_wp2
    go_ret
    exact ⟨ret_int (by rw [bit_walk a i h0 h1, bitI, if_pos ⟨h0, h1⟩]), (Below.refl _ _).alloc (Nat.le_refl _) _⟩
  · by_cases h0 : i < 0
    · go_enter Tryz.func86, Tryz.ntmps86
      go_wp2
      go_ret
      exact ⟨ret_int (by rw [bitI, if_neg h]), (Below.refl _ _).alloc (Nat.le_refl _) _⟩
    · have h1 : 256 ≤ i := by omega
      have h2 : 0 ≤ i := by omega
      go_enter Tryz.func86, Tryz.ntmps86
      go_wp2
      go_ret
      exact ⟨ret_int (by rw [bitI, if_neg h]), (Below.refl _ _).alloc (Nat.le_refl _) _⟩

theorem half_walk (x k : Nat) : ((x : Int) / 2 ^ k) / 2 = (x : Int) / 2 ^ (k + 1) := by
  rw [div_pow_cast, div_pow_cast, Nat.pow_succ, ← Nat.div_div_eq_div_mul]
  rfl

theorem rBit_any (a : Lab) (i : Int) (w : World) :
    Calls Tryz.prog 78 #[.agg (cellsL a), .int .i64 i] w fun e w' => e = .returned (.int .i64 (bitI a i)) ∧ Below w.heap.size w w' := by
  by_cases h : 0 ≤ i ∧ i < 256
  · obtain ⟨h0, h1⟩ := h
    have hc := get_cellsL a (i / 8).toNat (by omega)
    have hx := (a.get (i / 8).toNat).toNat_lt
    go_enter Tryz.func78, Tryz.ntmps78
    generalize hX : (a.get (i / 8).toNat).toNat = X at *
    have HX := Lib.hid hX
    clear hX
    go_wp2
    go_loop [5, 6] (fun x k => ∃ r q : Nat, i % 8 + r ≤ 7 ∧ q ≤ 255 ∧ Hid (q = X / 2 ^ r) ∧ k = .int .i64 (i % 8 + r) ∧ x = .int .i64 (q : Int)) (fun _ k => (7 - intOf k).toNat)
    case atStart => exact ⟨0, X, by omega, by omega, Lib.hid (by simp), by simp, rfl⟩
    case round =>
      obtain ⟨r, q, hr, hq, HQ, rfl, rfl⟩ := hrel
      by_cases hlt : i % 8 + r < 7
      · go_wp2
        go_round
        case rel => exact ⟨r + 1, q / 2, by omega, by omega, Lib.hid (by rw [HQ.out, Nat.pow_succ, ← Nat.div_div_eq_div_mul]), by go_num, by go_num⟩
        case measure => simp [intOf]; omega
      · go_wp2
        go_ret
        exact ⟨ret_int (by rw [bitI, if_pos ⟨h0, h1⟩, bit, bitB, show i.toNat / 8 = (i / 8).toNat by omega, HX.out, show 7 - i.toNat % 8 = r by omega, ← HQ.out]; rfl), (Below.refl _ _).alloc (Nat.le_refl _) _⟩
  · by_cases h0 : i < 0
    · go_enter Tryz.func78, Tryz.ntmps78
      go_wp2
      go_ret
      exact ⟨ret_int (by rw [bitI, if_neg h]), (Below.refl _ _).alloc (Nat.le_refl _) _⟩
    · have h1 : 256 ≤ i := by omega
      have h2 : 0 ≤ i := by omega
      go_enter Tryz.func78, Tryz.ntmps78
      go_wp2
      go_ret
      exact ⟨ret_int (by rw [bitI, if_neg h]), (Below.refl _ _).alloc (Nat.le_refl _) _⟩

theorem Common_any (a b : Lab) (w : World) :
    Calls Tryz.prog 71 #[.agg (cellsL a), .agg (cellsL b)] w fun e w' => e = .returned (.int .i64 (common a b)) ∧ Below w.heap.size w w' := by
  go_enter Tryz.func71, Tryz.ntmps71
  go_wp2
  go_loopw [7] (fun k wr => ∃ i n : Nat, i ≤ 32 ∧ k = .int .i64 i ∧ (∀ j, j < i → a.get j = b.get j) ∧ wr = ((w.alloc (.cells (cellsL a) 27)).alloc (.cells (cellsL b) 27)).drewN n) (fun k _ => (32 - intOf k).toNat)
  case atStart => exact ⟨0, 0, by omega, rfl, by omega, rfl⟩
  case round =>
    obtain ⟨i, n, hi, rfl, hs, rfl⟩ := hrel
    by_cases hlt : i < 32
    · have hx := (a.get i).toNat_lt
      have hy := (b.get i).toNat_lt
      have hxor := u8_xor_nat (a.get i).toNat (b.get i).toNat hx hy
      have hz : (a.get i).toNat ^^^ (b.get i).toNat < 2 ^ 8 := Nat.xor_lt_two_pow hx hy
      have HC := fun hne => Lib.hid (common_at hlt hs hne)
      have HE := Lib.hid (xor_ne (x := a.get i) (y := b.get i))
      have HS := Lib.hid hs
      clear hs
      generalize (a.get i).toNat ^^^ (b.get i).toNat = z at *
      by_cases h0 : z = 0
      · have hb : ((z : Int) != 0) = false := by rw [h0]; rfl
        have HE2 := Lib.hid (HE.out.1 h0)
        clear HC HE h0
        go_wp2
        go_quiet (fail)
        go_wp2
        go_roundw
        case rel => exact ⟨i + 1, _, by omega, by go_num, fun j hj => by
            by_cases e : j = i
            · subst e; exact HE2.out
            · exact HS.out j (by omega), rfl⟩
        case measure => simp [intOf]; omega
      · have hb : ((z : Int) != 0) = true := by simpa using h0
        have HC2 := HC h0
        have hl8 := (lead z h0 hz).1
        clear HC HE HS
        go_wp2
        go_quiet (fail)
        go_wp2_with fail
        refine (Tryz.bits_LeadingZeros8 _ _ (by omega) (by omega)).mono ?_
        rintro e w' ⟨rfl, rfl⟩
        go_wp2
        go_ret
        exact ⟨ret_int (by rw [HC2.out]; omega), below_drewN (((Below.refl _ _).alloc (Nat.le_refl _) _).alloc (by simp) _) _⟩
    · have hi' : i = 32 := by omega
      subst hi'
      have HS := Lib.hid hs
      clear hs
      go_wp2
      go_ret
      refine ⟨ret_int ?_, below_drewN (((Below.refl _ _).alloc (Nat.le_refl _) _).alloc (by simp) _) _⟩
      rw [common_256.2 (Lab.ext' HS.out)]
      rfl

theorem run_bytes_row (w : World) (b1 : Nat) (x : Lab) (h1 : rowAt w b1 = some (cellsL x)) (c : Nat) : (Extern.Bytes.bytesOf (.slice (some ⟨b1, 0, none⟩) 32 c)).run Tryz.prog w = .ok ⟨x.l.toArray⟩ w := by
  have hl := Lib.run_loadBytesX (P := Tryz.prog) w (x.l.map fun b => (b.toNat : Int)) ⟨b1, 0, none⟩ .empty (fun j v hj => by
    have hjl : j < x.l.length := by simpa using (List.getElem?_eq_some_iff.1 hj).1
    have e : (⟨b1, 0, none⟩ : Addr).add j = ⟨b1, j, none⟩ := by unfold Addr.add; split <;> simp_all
    have := x.h
    rw [e, cell_of_rowAt h1, get_cellsL x j (by omega)]
    simp only [List.getElem?_map, Option.map_eq_some_iff] at hj
    obtain ⟨u, hu, rfl⟩ := hj
    simp [Lab.get, List.getD, hu])
  have e : Lib.bytesOf (x.l.map fun b => (b.toNat : Int)) = x.l := by
    have hid : ((fun n : Int => UInt8.ofNat n.toNat) ∘ fun b : UInt8 => (b.toNat : Int)) = id := by
      funext b
      simp
    simp [Lib.bytesOf, hid]
  rw [e] at hl
  simp only [List.length_map, x.h] at hl
  simp only [Extern.Bytes.bytesOf]
  rw [hl]
  simp
theorem run_compare_rows (w : World) (b1 b2 : Nat) (x y : Lab) (h1 : rowAt w b1 = some (cellsL x)) (h2 : rowAt w b2 = some (cellsL y)) (c d : Nat) :
    (Extern.BytealgCompare.compare #[.slice (some ⟨b1, 0, none⟩) 32 c, .slice (some ⟨b2, 0, none⟩) 32 d]).run Tryz.prog w = .ok (.int .i64 (order x y)) w := by
  have l1 := run_bytes_row w b1 x h1 c
  have l2 := run_bytes_row w b2 y h2 d
  change Sem.run Tryz.prog (do pure (goInt (Extern.BytealgCompare.cmp (← Extern.Bytes.bytesOf (.slice (some ⟨b1, 0, none⟩) 32 c)) (← Extern.Bytes.bytesOf (.slice (some ⟨b2, 0, none⟩) 32 d))))) w = _
  simp only [Sem.run_bind, l1, l2, Result.andThen_ok, Sem.run_pure, Lib.cmp_eq, compare_order]
  rfl
set_option maxRecDepth 100000 in
theorem Compare_any (w : World) (b1 b2 : Nat) (x y : Lab) (h1 : rowAt w b1 = some (cellsL x)) (h2 : rowAt w b2 = some (cellsL y)) (c d : Nat) :
    Calls Tryz.prog 130 #[.slice (some ⟨b1, 0, none⟩) 32 c, .slice (some ⟨b2, 0, none⟩) 32 d] w fun e w' => e = .returned (.int .i64 (order x y)) ∧ w' = w := by
  have H1 := Lib.hid h1
  have H2 := Lib.hid h2
  clear h1 h2
  go_enter Tryz.func130, Tryz.ntmps130
  go_wp2_with fail
  rw [run_callFunc_extern Tryz.func182 (by kernel_rfl) (by kernel_rfl) (by kernel_rfl) (e := Extern.BytealgCompare.compare) (by kernel_rfl), run_compare_rows w b1 b2 x y H1.out H2.out]
  simp only [Result.andThen]
  rw [Oper.upon_value]
  go_wp2
  go_ret
  exact ⟨rfl, rfl⟩
set_option maxRecDepth 100000 in
theorem Order_any (a b : Lab) (w : World) :
    Calls Tryz.prog 61 #[.agg (cellsL a), .agg (cellsL b)] w fun e w' => e = .returned (.int .i64 (order a b)) ∧ Below w.heap.size w w' := by
  go_enter Tryz.func61, Tryz.ntmps61
  go_wp2
  have r1 : rowAt ((w.alloc (.cells (cellsL a) 27)).alloc (.cells (cellsL b) 27)) w.heap.size = some (cellsL a) := by simp [rowAt_alloc_past, rowAt_alloc_at]
  have r2 : rowAt ((w.alloc (.cells (cellsL a) 27)).alloc (.cells (cellsL b) 27)) (w.heap.size + 1) = some (cellsL b) := by simp [rowAt_alloc_at]
  have R1 := Lib.hid r1
  have R2 := Lib.hid r2
  clear r1 r2
  go_quiet ((go_at_call 130; exact Calls.quiet_of_same (Compare_any _ _ _ a b (by exact R1.out) (by exact R2.out) _ _)))
  go_wp2
  go_ret
  exact ⟨rfl, below_drewN (((Below.refl _ _).alloc (Nat.le_refl _) _).alloc (by simp) _) _⟩
end Go.Proofs.YtppgmphojklaeaaGreatDoor
namespace Go.Proofs.YtppgmphojklaeaaGreatDoor
open Go

theorem order_pos {a b : Lab} : 0 < order a b ↔ ∃ n, n < 256 ∧ common a b = n ∧ bit a n = 1 ∧ bit b n = 0 := by
  have is := common_is a b
  unfold order
  constructor
  · intro h
    split at h
    · omega
    · rename_i hne
      have hlt : common a b < 256 := by have := is.le; omega
      have h1 := bit_lt a (common a b)
      have h2 := bit_lt b (common a b)
      have h3 := is.other hlt
      exact ⟨_, hlt, rfl, by omega, by omega⟩
  · rintro ⟨n, hn, rfl, h1, h2⟩
    rw [if_neg (by omega), h1]
    decide
theorem order_le {a b : Lab} : order a b ≤ 0 ↔ a = b ∨ ∃ n, n < 256 ∧ common a b = n ∧ bit a n = 0 ∧ bit b n = 1 := by
  have is := common_is a b
  constructor
  · intro h
    by_cases he : a = b
    · exact .inl he
    · right
      have hc : common a b ≠ 256 := fun e => he (common_256.1 e)
      have hlt : common a b < 256 := by have := is.le; omega
      rw [order, if_neg hc] at h
      have h1 := bit_lt a (common a b)
      have h2 := bit_lt b (common a b)
      have h3 := is.other hlt
      exact ⟨_, hlt, rfl, by omega, by omega⟩
  · rintro (rfl | ⟨n, hn, rfl, h1, h2⟩)
    · rw [order, if_pos (common_256.2 rfl)]; exact Int.le_refl _
    · rw [order, if_neg (by omega), h1]; decide

/-- Of three labels in order: what the outer ones have in common. -/
theorem between_math {a b c : Lab} (h1 : order a b ≤ 0) (h2 : order b c ≤ 0) : order a c ≤ 0 ∧ common a c = min (common a b) (common b c) := by
  rcases order_le.1 h1 with rfl | ⟨n, hn, e1, n1, n2⟩
  · refine ⟨h2, ?_⟩
    rw [common_256.2 rfl]
    have := common_le a c
    omega
  · rcases order_le.1 h2 with rfl | ⟨m, hm, e2, m1, m2⟩
    · refine ⟨h1, ?_⟩
      rw [common_256.2 (rfl : b = b)]
      omega
    · have is1 := common_is a b
      have is2 := common_is b c
      rw [e1] at is1
      rw [e2] at is2
      rcases Nat.lt_trichotomy n m with hlt | rfl | hlt
      · have hc : common a c = n := common_of ⟨by omega, fun i hi => (is1.same i hi).trans (is2.same i (by omega)), fun _ => by rw [← is2.same n hlt]; omega⟩
        refine ⟨order_le.2 (.inr ⟨n, hn, hc, n1, by rw [← is2.same n hlt]; exact n2⟩), by rw [hc]; omega⟩
      · omega
      · have hc : common a c = m := common_of ⟨by omega, fun i hi => (is1.same i (by omega)).trans (is2.same i hi), fun _ => by rw [is1.same m hlt]; omega⟩
        refine ⟨order_le.2 (.inr ⟨m, hm, hc, by rw [is1.same m hlt]; exact m1, m2⟩), by rw [hc]; omega⟩

theorem order_zero {a b : Lab} : order a b = 0 ↔ a = b := by
  constructor
  · intro h
    rcases order_le.1 (Int.le_of_eq h) with e | ⟨n, hn, e, n1, n2⟩
    · exact e
    · rw [order, if_neg (by omega), e, n1] at h
      exact absurd h (by decide)
  · rintro rfl
    rw [order, if_pos (common_256.2 rfl)]
theorem common_symm (a b : Lab) : common a b = common b a := by
  have is := common_is b a
  exact common_of ⟨is.le, fun i hi => (is.same i hi).symm, fun h => (is.other h).symm⟩
theorem order_swap {a b : Lab} : order a b < 0 ↔ 0 < order b a := by
  rw [order_pos]
  constructor
  · intro h
    rcases order_le.1 (Int.le_of_lt h) with e | ⟨n, hn, e, n1, n2⟩
    · rw [order_zero.2 e] at h
      omega
    · exact ⟨n, hn, by rw [common_symm]; exact e, n2, n1⟩
  · rintro ⟨n, hn, e, n1, n2⟩
    rw [order, if_neg (by rw [common_symm]; omega), common_symm, e, n2]
    decide
/-- Whatever is compared by labels is compared weakly. -/
theorem weak_order {α : Type} (f : α → Lab) : Weak (fun x y : α => decide (order (f x) (f y) < 0)) := by
  have le_of : ∀ {a b : Lab}, ¬ order a b < 0 → order b a ≤ 0 := fun {a b} h => by
    have := mt (order_swap (a := a) (b := b)).2 h
    omega
  have ge_of : ∀ {a b : Lab}, order b a ≤ 0 → ¬ order a b < 0 := fun {a b} h k => by
    have := order_swap.1 k
    omega
  refine ⟨fun x => decide_eq_false (by rw [order_zero.2 rfl]; omega), fun x y z h1 h2 => decide_eq_true ?_, fun x y z h1 h2 => decide_eq_false (ge_of ?_)⟩
  · have k1 := of_decide_eq_true h1
    have k2 := of_decide_eq_true h2
    have k3 := (between_math (Int.le_of_lt k1) (Int.le_of_lt k2)).1
    by_cases hz : order (f x) (f z) = 0
    · exfalso
      rw [order_zero.1 hz] at k1
      have := order_swap.1 k1
      omega
    · omega
  · exact (between_math (le_of (of_decide_eq_false h2)) (le_of (of_decide_eq_false h1))).1
end Go.Proofs.YtppgmphojklaeaaGreatDoor
namespace Go.Proofs.YtppgmphojklaeaaGreatDoor
open Go Go.RowKit

/-- An item: a length, its bits, a sum, an epoch. -/
structure Itm where
  n : Int
  b : Lab
  s : Lab
  e : Int
  deriving DecidableEq
/-- A leaf: a label, a value, an epoch. -/
structure Lf where
  a : Lab
  v : Lab
  e : Int
  deriving DecidableEq
def lcells (a : Lab) : List Value := a.l.map Extern.Stop.cell
theorem lcells_len (a : Lab) : (lcells a).length = 32 := by simp [lcells, a.h]
theorem cellsL_eq (a : Lab) : cellsL a = (lcells a).toArray := rfl
theorem cellsP_eq (n : Int) (a : Lab) : cellsP n a = (Value.int .i64 n :: lcells a).toArray := rfl
def icells (x : Itm) : List Value := Value.int .i64 x.n :: (lcells x.b ++ (lcells x.s ++ [Value.int .i64 x.e]))
def cellsI (x : Itm) : Array Value := (icells x).toArray
def fcells (x : Lf) : List Value := lcells x.a ++ (lcells x.v ++ [Value.int .i64 x.e])
def cellsF (x : Lf) : Array Value := (fcells x).toArray
def cellsN (x y : Itm) : Array Value := (icells x ++ icells y).toArray
def zeroItm : Itm := ⟨0, zeroLab, zeroLab, 0⟩
def zeroLf : Lf := ⟨zeroLab, zeroLab, 0⟩
theorem icells_len (x : Itm) : (icells x).length = 66 := by simp [icells, lcells_len]
theorem fcells_len (x : Lf) : (fcells x).length = 65 := by simp [fcells, lcells_len]
@[go_sem, simp] theorem size_cellsI (x : Itm) : (cellsI x).size = 66 := by simp [cellsI, icells_len]
@[go_sem, simp] theorem size_cellsF (x : Lf) : (cellsF x).size = 65 := by simp [cellsF, fcells_len]
@[go_sem, simp] theorem size_cellsN (x y : Itm) : (cellsN x y).size = 132 := by simp [cellsN, icells_len]
theorem one_lcells (a : Lab) : ∀ v ∈ lcells a, v.oneCell' = true := by
  intro v hv
  obtain ⟨x, _, rfl⟩ := List.mem_map.1 hv
  rfl
theorem one_icells (x : Itm) : ∀ v ∈ icells x, v.oneCell' = true := by
  intro v hv
  simp only [icells, List.mem_cons, List.mem_append, List.not_mem_nil, or_false] at hv
  rcases hv with rfl | h | h | rfl
  · rfl
  · exact one_lcells _ _ h
  · exact one_lcells _ _ h
  · rfl
theorem one_fcells (x : Lf) : ∀ v ∈ fcells x, v.oneCell' = true := by
  intro v hv
  simp only [fcells, List.mem_cons, List.mem_append, List.not_mem_nil, or_false] at hv
  rcases hv with h | h | rfl
  · exact one_lcells _ _ h
  · exact one_lcells _ _ h
  · rfl
theorem one_of_list {l : List Value} (h : ∀ v ∈ l, v.oneCell' = true) : oneCells l.toArray = true := by
  simp only [oneCells, List.all_toArray, List.all_eq_true]
  exact h
@[go_sem, simp] theorem one_cellsI (x : Itm) : oneCells (cellsI x) = true := one_of_list (one_icells x)
@[go_sem, simp] theorem one_cellsF (x : Lf) : oneCells (cellsF x) = true := one_of_list (one_fcells x)
@[go_sem, simp] theorem one_cellsN (x y : Itm) : oneCells (cellsN x y) = true := one_of_list fun v hv => by
  rcases List.mem_append.1 hv with h | h
  · exact one_icells _ _ h
  · exact one_icells _ _ h

/-- A piece of a row of cells. -/
theorem mid_extract (a b c : List Value) (i j : Nat) (hi : a.length = i) (hj : i + b.length = j) : ((a ++ (b ++ c)).toArray).extract i j = b.toArray := by
  subst hi hj
  simp [List.extract, List.extract_toArray]
theorem mid_splice (a b c d : List Value) (i : Nat) (hi : a.length = i) (hj : b.length = d.length) : splice (a ++ (b ++ c)).toArray i d.toArray.toList = (a ++ (d ++ c)).toArray := by
  subst hi
  simp [splice, ← hj]
@[go_sem, simp] theorem extract_I (x : Itm) : (cellsI x).extract 0 66 = cellsI x := by
  have h := size_cellsI x
  conv => rhs; rw [← Array.extract_size (xs := cellsI x), h]
@[go_sem, simp] theorem extract_F (x : Lf) : (cellsF x).extract 0 65 = cellsF x := by
  have h := size_cellsF x
  conv => rhs; rw [← Array.extract_size (xs := cellsF x), h]
@[go_sem, simp] theorem extract_N (x y : Itm) : (cellsN x y).extract 0 132 = cellsN x y := by
  have h := size_cellsN x y
  conv => rhs; rw [← Array.extract_size (xs := cellsN x y), h]
@[go_sem, simp] theorem extract_I0 (x : Itm) : (cellsI x).extract 0 33 = cellsP x.n x.b :=
  mid_extract [] (Value.int .i64 x.n :: lcells x.b) (lcells x.s ++ [Value.int .i64 x.e]) 0 33 rfl (by simp [lcells_len])
@[go_sem, simp] theorem extract_I1 (x : Itm) : (cellsI x).extract 1 33 = cellsL x.b :=
  mid_extract [Value.int .i64 x.n] (lcells x.b) (lcells x.s ++ [Value.int .i64 x.e]) 1 33 rfl (by simp [lcells_len])
@[go_sem, simp] theorem extract_I2 (x : Itm) : (cellsI x).extract 33 65 = cellsL x.s := by
  have := mid_extract (Value.int .i64 x.n :: lcells x.b) (lcells x.s) [Value.int .i64 x.e] 33 65 (by simp [lcells_len]) (by simp [lcells_len])
  rw [cellsL_eq, ← this]
  rfl
theorem get_I0 (x : Itm) : (cellsI x)[0]? = some (.int .i64 x.n) := rfl
theorem get_I65 (x : Itm) : (cellsI x)[65]? = some (.int .i64 x.e) := by
  rw [cellsI, icells, List.getElem?_toArray, List.getElem?_cons_succ, List.getElem?_append_right (by rw [lcells_len]; decide), lcells_len, List.getElem?_append_right (by rw [lcells_len]; decide), lcells_len]
  rfl
@[go_sem, simp] theorem extract_F0 (x : Lf) : (cellsF x).extract 0 32 = cellsL x.a :=
  mid_extract [] (lcells x.a) (lcells x.v ++ [Value.int .i64 x.e]) 0 32 rfl (by simp [lcells_len])
@[go_sem, simp] theorem extract_F1 (x : Lf) : (cellsF x).extract 32 64 = cellsL x.v :=
  mid_extract (lcells x.a) (lcells x.v) [Value.int .i64 x.e] 32 64 (by simp [lcells_len]) (by simp [lcells_len])
theorem get_F64 (x : Lf) : (cellsF x)[64]? = some (.int .i64 x.e) := by
  rw [cellsF, fcells, List.getElem?_toArray, List.getElem?_append_right (by rw [lcells_len]; decide), lcells_len, List.getElem?_append_right (by rw [lcells_len]; decide), lcells_len]
  rfl
@[go_sem, simp] theorem extract_N0 (x y : Itm) : (cellsN x y).extract 0 66 = cellsI x := by
  have := mid_extract [] (icells x) (icells y) 0 66 rfl (by simp [icells_len])
  rw [List.nil_append] at this
  exact this
@[go_sem, simp] theorem extract_N1 (x y : Itm) : (cellsN x y).extract 66 132 = cellsI y := by
  have := mid_extract (icells x) (icells y) [] 66 132 (icells_len x) (by simp [icells_len])
  rw [List.append_nil] at this
  exact this
@[go_sem, simp] theorem extract_N00 (x y : Itm) : (cellsN x y).extract 0 33 = cellsP x.n x.b := by
  have := mid_extract [] (Value.int .i64 x.n :: lcells x.b) (lcells x.s ++ [Value.int .i64 x.e] ++ icells y) 0 33 rfl (by simp [lcells_len])
  rw [cellsP_eq, ← this, cellsN, icells]
  simp only [List.nil_append, List.cons_append, List.append_assoc]
@[go_sem, simp] theorem extract_N01 (x y : Itm) : (cellsN x y).extract 1 33 = cellsL x.b := by
  have := mid_extract [Value.int .i64 x.n] (lcells x.b) (lcells x.s ++ [Value.int .i64 x.e] ++ icells y) 1 33 rfl (by simp [lcells_len])
  rw [cellsL_eq, ← this, cellsN, icells]
  simp only [List.nil_append, List.cons_append, List.append_assoc]
@[go_sem, simp] theorem extract_N10 (x y : Itm) : (cellsN x y).extract 66 99 = cellsP y.n y.b := by
  have := mid_extract (icells x) (Value.int .i64 y.n :: lcells y.b) (lcells y.s ++ [Value.int .i64 y.e]) 66 99 (icells_len x) (by simp [lcells_len])
  rw [cellsP_eq, ← this]
  rfl
@[go_sem, simp] theorem extract_N11 (x y : Itm) : (cellsN x y).extract 67 99 = cellsL y.b := by
  have := mid_extract (icells x ++ [Value.int .i64 y.n]) (lcells y.b) (lcells y.s ++ [Value.int .i64 y.e]) 67 99 (by simp [icells_len]) (by simp [lcells_len])
  rw [cellsL_eq, ← this, cellsN]
  simp only [List.append_assoc]
  rfl
theorem get_N65 (x y : Itm) : (cellsN x y)[65]? = some (.int .i64 x.e) := by
  rw [cellsN, List.getElem?_toArray, List.getElem?_append_left (by rw [icells_len]; decide)]
  rw [← List.getElem?_toArray]
  exact get_I65 x
theorem get_N131 (x y : Itm) : (cellsN x y)[131]? = some (.int .i64 y.e) := by
  rw [cellsN, List.getElem?_toArray, List.getElem?_append_right (by rw [icells_len]; decide), icells_len, ← List.getElem?_toArray]
  exact get_I65 y
@[go_sem, simp] theorem splice_I (x y : Itm) : splice (cellsI x) 0 (cellsI y).toList = cellsI y := splice_whole _ _ (by simp)
@[go_sem, simp] theorem splice_F (x y : Lf) : splice (cellsF x) 0 (cellsF y).toList = cellsF y := splice_whole _ _ (by simp)
@[go_sem, simp] theorem splice_N (x y z u : Itm) : splice (cellsN x y) 0 (cellsN z u).toList = cellsN z u := splice_whole _ _ (by simp)
@[go_sem, simp] theorem splice_I1 (x : Itm) (a : Lab) : splice (cellsI x) 1 (cellsL a).toList = cellsI ⟨x.n, a, x.s, x.e⟩ :=
  mid_splice [Value.int .i64 x.n] (lcells x.b) (lcells x.s ++ [Value.int .i64 x.e]) (lcells a) 1 rfl (by rw [lcells_len, lcells_len])
@[go_sem, simp] theorem splice_I2 (x : Itm) (a : Lab) : splice (cellsI x) 33 (cellsL a).toList = cellsI ⟨x.n, x.b, a, x.e⟩ := by
  have := mid_splice (Value.int .i64 x.n :: lcells x.b) (lcells x.s) [Value.int .i64 x.e] (lcells a) 33 (by simp [lcells_len]) (by rw [lcells_len, lcells_len])
  exact this
theorem set_I0 (x : Itm) (m : Int) : (cellsI x).setIfInBounds 0 (.int .i64 m) = cellsI ⟨m, x.b, x.s, x.e⟩ := by
  simp [cellsI, icells]
theorem set_I65 (x : Itm) (m : Int) : (cellsI x).setIfInBounds 65 (.int .i64 m) = cellsI ⟨x.n, x.b, x.s, m⟩ := by
  have h1 : icells x = (Value.int .i64 x.n :: (lcells x.b ++ lcells x.s)) ++ [Value.int .i64 x.e] := by simp [icells]
  have h2 : icells ⟨x.n, x.b, x.s, m⟩ = (Value.int .i64 x.n :: (lcells x.b ++ lcells x.s)) ++ [Value.int .i64 m] := by simp [icells]
  rw [cellsI, cellsI, h1, h2, List.setIfInBounds_toArray, List.set_append_right _ _ (by simp [lcells_len])]
  simp [lcells_len]

theorem zeroI_cells : cellsI zeroItm = (Value.int .i64 0 :: (List.replicate 64 (Value.int .u8 0) ++ [Value.int .i64 0])).toArray := by
  simp [cellsI, icells, zeroItm, zeroLab, lcells, Extern.Stop.cell]
theorem zeroF_cells : cellsF zeroLf = (List.replicate 64 (Value.int .u8 0) ++ [Value.int .i64 0]).toArray := by
  simp [cellsF, fcells, zeroLf, zeroLab, lcells, Extern.Stop.cell]
theorem zeroN_cells : cellsN zeroItm zeroItm = ((Value.int .i64 0 :: (List.replicate 64 (Value.int .u8 0) ++ [Value.int .i64 0])) ++ (Value.int .i64 0 :: (List.replicate 64 (Value.int .u8 0) ++ [Value.int .i64 0]))).toArray := by
  simp [cellsN, icells, zeroItm, zeroLab, lcells, Extern.Stop.cell]
@[go_sem ↓] theorem load_item (v : Value) : Instr.loadAt 55 v = loadOf 55 v := rfl
@[go_sem ↓] theorem store_item (v x : Value) : Instr.storeAt 55 v x = storeOf 55 v x := rfl
@[go_sem ↓] theorem build_item (parts : Array (Nat × Value)) : Instr.build 55 parts = buildOf 55 parts := rfl
@[go_sem ↓] theorem zeroOf_item : zeroValue 55 = zeroOf 55 := rfl
@[go_sem] theorem run_load_item (w : World) (b o : Nat) : (loadOf 55 (.pointer (some ⟨b, o, none⟩))).run Tryz.prog w = rowLoad w b o 66 (elseLoad Tryz.prog 55 b o w) :=
  run_loadAt_rowAt w b o 66 55 _ Tryz.underlying55 rfl (by kernel_rfl)
@[go_sem] theorem run_store_item (w : World) (b o : Nat) (v : Array Value) : (storeOf 55 (.pointer (some ⟨b, o, none⟩)) (.agg v)).run Tryz.prog w = rowStore w b o 66 v (elseStore Tryz.prog 55 b o v w) :=
  run_storeAt_rowAt w b o 66 55 v (by kernel_rfl)
@[go_sem] theorem zero_item (w : World) : (zeroOf 55).run Tryz.prog w = .ok (.agg (cellsI zeroItm)) w := by
  rw [zeroI_cells]
  kernel_rfl
@[go_sem] theorem build0_item (w : World) : (buildOf 55 #[]).run Tryz.prog w = .ok (.agg (cellsI zeroItm)) w := by
  rw [zeroI_cells]
  kernel_rfl
@[go_sem ↓] theorem load_ritem (v : Value) : Instr.loadAt 66 v = loadOf 66 v := rfl
@[go_sem ↓] theorem store_ritem (v x : Value) : Instr.storeAt 66 v x = storeOf 66 v x := rfl
@[go_sem ↓] theorem build_ritem (parts : Array (Nat × Value)) : Instr.build 66 parts = buildOf 66 parts := rfl
@[go_sem ↓] theorem zeroOf_ritem : zeroValue 66 = zeroOf 66 := rfl
@[go_sem] theorem run_load_ritem (w : World) (b o : Nat) : (loadOf 66 (.pointer (some ⟨b, o, none⟩))).run Tryz.prog w = rowLoad w b o 66 (elseLoad Tryz.prog 66 b o w) :=
  run_loadAt_rowAt w b o 66 66 _ Tryz.underlying66 rfl (by kernel_rfl)
@[go_sem] theorem run_store_ritem (w : World) (b o : Nat) (v : Array Value) : (storeOf 66 (.pointer (some ⟨b, o, none⟩)) (.agg v)).run Tryz.prog w = rowStore w b o 66 v (elseStore Tryz.prog 66 b o v w) :=
  run_storeAt_rowAt w b o 66 66 v (by kernel_rfl)
@[go_sem] theorem zero_ritem (w : World) : (zeroOf 66).run Tryz.prog w = .ok (.agg (cellsI zeroItm)) w := by
  rw [zeroI_cells]
  kernel_rfl
@[go_sem] theorem build0_ritem (w : World) : (buildOf 66 #[]).run Tryz.prog w = .ok (.agg (cellsI zeroItm)) w := by
  rw [zeroI_cells]
  kernel_rfl
@[go_sem ↓] theorem load_leaf (v : Value) : Instr.loadAt 46 v = loadOf 46 v := rfl
@[go_sem ↓] theorem store_leaf (v x : Value) : Instr.storeAt 46 v x = storeOf 46 v x := rfl
@[go_sem ↓] theorem build_leaf (parts : Array (Nat × Value)) : Instr.build 46 parts = buildOf 46 parts := rfl
@[go_sem ↓] theorem zeroOf_leaf : zeroValue 46 = zeroOf 46 := rfl
@[go_sem] theorem run_load_leaf (w : World) (b o : Nat) : (loadOf 46 (.pointer (some ⟨b, o, none⟩))).run Tryz.prog w = rowLoad w b o 65 (elseLoad Tryz.prog 46 b o w) :=
  run_loadAt_rowAt w b o 65 46 _ Tryz.underlying46 rfl (by kernel_rfl)
@[go_sem] theorem run_store_leaf (w : World) (b o : Nat) (v : Array Value) : (storeOf 46 (.pointer (some ⟨b, o, none⟩)) (.agg v)).run Tryz.prog w = rowStore w b o 65 v (elseStore Tryz.prog 46 b o v w) :=
  run_storeAt_rowAt w b o 65 46 v (by kernel_rfl)
@[go_sem] theorem zero_leaf (w : World) : (zeroOf 46).run Tryz.prog w = .ok (.agg (cellsF zeroLf)) w := by
  rw [zeroF_cells]
  kernel_rfl
@[go_sem] theorem build0_leaf (w : World) : (buildOf 46 #[]).run Tryz.prog w = .ok (.agg (cellsF zeroLf)) w := by
  rw [zeroF_cells]
  kernel_rfl
@[go_sem ↓] theorem load_rleaf (v : Value) : Instr.loadAt 64 v = loadOf 64 v := rfl
@[go_sem ↓] theorem store_rleaf (v x : Value) : Instr.storeAt 64 v x = storeOf 64 v x := rfl
@[go_sem ↓] theorem build_rleaf (parts : Array (Nat × Value)) : Instr.build 64 parts = buildOf 64 parts := rfl
@[go_sem ↓] theorem zeroOf_rleaf : zeroValue 64 = zeroOf 64 := rfl
@[go_sem] theorem run_load_rleaf (w : World) (b o : Nat) : (loadOf 64 (.pointer (some ⟨b, o, none⟩))).run Tryz.prog w = rowLoad w b o 65 (elseLoad Tryz.prog 64 b o w) :=
  run_loadAt_rowAt w b o 65 64 _ Tryz.underlying64 rfl (by kernel_rfl)
@[go_sem] theorem run_store_rleaf (w : World) (b o : Nat) (v : Array Value) : (storeOf 64 (.pointer (some ⟨b, o, none⟩)) (.agg v)).run Tryz.prog w = rowStore w b o 65 v (elseStore Tryz.prog 64 b o v w) :=
  run_storeAt_rowAt w b o 65 64 v (by kernel_rfl)
@[go_sem] theorem zero_rleaf (w : World) : (zeroOf 64).run Tryz.prog w = .ok (.agg (cellsF zeroLf)) w := by
  rw [zeroF_cells]
  kernel_rfl
@[go_sem] theorem build0_rleaf (w : World) : (buildOf 64 #[]).run Tryz.prog w = .ok (.agg (cellsF zeroLf)) w := by
  rw [zeroF_cells]
  kernel_rfl
@[go_sem ↓] theorem load_inner (v : Value) : Instr.loadAt 57 v = loadOf 57 v := rfl
@[go_sem ↓] theorem store_inner (v x : Value) : Instr.storeAt 57 v x = storeOf 57 v x := rfl
@[go_sem ↓] theorem build_inner (parts : Array (Nat × Value)) : Instr.build 57 parts = buildOf 57 parts := rfl
@[go_sem ↓] theorem zeroOf_inner : zeroValue 57 = zeroOf 57 := rfl
@[go_sem] theorem run_load_inner (w : World) (b o : Nat) : (loadOf 57 (.pointer (some ⟨b, o, none⟩))).run Tryz.prog w = rowLoad w b o 132 (elseLoad Tryz.prog 57 b o w) :=
  run_loadAt_rowAt w b o 132 57 _ Tryz.underlying57 rfl (by kernel_rfl)
@[go_sem] theorem run_store_inner (w : World) (b o : Nat) (v : Array Value) : (storeOf 57 (.pointer (some ⟨b, o, none⟩)) (.agg v)).run Tryz.prog w = rowStore w b o 132 v (elseStore Tryz.prog 57 b o v w) :=
  run_storeAt_rowAt w b o 132 57 v (by kernel_rfl)
@[go_sem] theorem zero_inner (w : World) : (zeroOf 57).run Tryz.prog w = .ok (.agg (cellsN zeroItm zeroItm)) w := by
  rw [zeroN_cells]
  kernel_rfl
@[go_sem] theorem build0_inner (w : World) : (buildOf 57 #[]).run Tryz.prog w = .ok (.agg (cellsN zeroItm zeroItm)) w := by
  rw [zeroN_cells]
  kernel_rfl

@[go_sem] theorem build_item3 (w : World) (n : Int) (a s : Lab) (e : Int) : (buildOf 55 #[(0, .agg (cellsP n a)), (1, .agg (cellsL s)), (2, .int .i64 e)]).run Tryz.prog w = .ok (.agg (cellsI ⟨n, a, s, e⟩)) w := by
  obtain ⟨xb0, xb1, xb2, xb3, xb4, xb5, xb6, xb7, xb8, xb9, xb10, xb11, xb12, xb13, xb14, xb15, xb16, xb17, xb18, xb19, xb20, xb21, xb22, xb23, xb24, xb25, xb26, xb27, xb28, xb29, xb30, xb31, hx⟩ := Lab.open a
  obtain ⟨yb0, yb1, yb2, yb3, yb4, yb5, yb6, yb7, yb8, yb9, yb10, yb11, yb12, yb13, yb14, yb15, yb16, yb17, yb18, yb19, yb20, yb21, yb22, yb23, yb24, yb25, yb26, yb27, yb28, yb29, yb30, yb31, hy⟩ := Lab.open s
  rw [cellsL, cellsP, cellsI, icells, lcells, lcells, hx, hy]
  kernel_rfl
@[go_sem] theorem build_ritem4 (w : World) (n : Int) (a s : Lab) (e : Int) : (buildOf 66 #[(0, .int .i64 n), (1, .agg (cellsL a)), (2, .agg (cellsL s)), (3, .int .i64 e)]).run Tryz.prog w = .ok (.agg (cellsI ⟨n, a, s, e⟩)) w := by
  obtain ⟨xb0, xb1, xb2, xb3, xb4, xb5, xb6, xb7, xb8, xb9, xb10, xb11, xb12, xb13, xb14, xb15, xb16, xb17, xb18, xb19, xb20, xb21, xb22, xb23, xb24, xb25, xb26, xb27, xb28, xb29, xb30, xb31, hx⟩ := Lab.open a
  obtain ⟨yb0, yb1, yb2, yb3, yb4, yb5, yb6, yb7, yb8, yb9, yb10, yb11, yb12, yb13, yb14, yb15, yb16, yb17, yb18, yb19, yb20, yb21, yb22, yb23, yb24, yb25, yb26, yb27, yb28, yb29, yb30, yb31, hy⟩ := Lab.open s
  rw [cellsL, cellsL, cellsI, icells, lcells, lcells, hx, hy]
  kernel_rfl
@[go_sem] theorem build_leaf3 (w : World) (a v : Lab) (e : Int) : (buildOf 46 #[(0, .agg (cellsL a)), (1, .agg (cellsL v)), (2, .int .i64 e)]).run Tryz.prog w = .ok (.agg (cellsF ⟨a, v, e⟩)) w := by
  obtain ⟨xb0, xb1, xb2, xb3, xb4, xb5, xb6, xb7, xb8, xb9, xb10, xb11, xb12, xb13, xb14, xb15, xb16, xb17, xb18, xb19, xb20, xb21, xb22, xb23, xb24, xb25, xb26, xb27, xb28, xb29, xb30, xb31, hx⟩ := Lab.open a
  obtain ⟨yb0, yb1, yb2, yb3, yb4, yb5, yb6, yb7, yb8, yb9, yb10, yb11, yb12, yb13, yb14, yb15, yb16, yb17, yb18, yb19, yb20, yb21, yb22, yb23, yb24, yb25, yb26, yb27, yb28, yb29, yb30, yb31, hy⟩ := Lab.open v
  rw [cellsL, cellsL, cellsF, fcells, lcells, lcells, hx, hy]
  kernel_rfl
@[go_sem] theorem build_rleaf3 (w : World) (a v : Lab) (e : Int) : (buildOf 64 #[(0, .agg (cellsL a)), (1, .agg (cellsL v)), (2, .int .i64 e)]).run Tryz.prog w = .ok (.agg (cellsF ⟨a, v, e⟩)) w := by
  obtain ⟨xb0, xb1, xb2, xb3, xb4, xb5, xb6, xb7, xb8, xb9, xb10, xb11, xb12, xb13, xb14, xb15, xb16, xb17, xb18, xb19, xb20, xb21, xb22, xb23, xb24, xb25, xb26, xb27, xb28, xb29, xb30, xb31, hx⟩ := Lab.open a
  obtain ⟨yb0, yb1, yb2, yb3, yb4, yb5, yb6, yb7, yb8, yb9, yb10, yb11, yb12, yb13, yb14, yb15, yb16, yb17, yb18, yb19, yb20, yb21, yb22, yb23, yb24, yb25, yb26, yb27, yb28, yb29, yb30, yb31, hy⟩ := Lab.open v
  rw [cellsL, cellsL, cellsF, fcells, lcells, lcells, hx, hy]
  kernel_rfl
@[go_sem] theorem build_leaf02 (w : World) (a : Lab) (e : Int) : (buildOf 46 #[(0, .agg (cellsL a)), (2, .int .i64 e)]).run Tryz.prog w = .ok (.agg (cellsF ⟨a, zeroLab, e⟩)) w := by
  obtain ⟨xb0, xb1, xb2, xb3, xb4, xb5, xb6, xb7, xb8, xb9, xb10, xb11, xb12, xb13, xb14, xb15, xb16, xb17, xb18, xb19, xb20, xb21, xb22, xb23, xb24, xb25, xb26, xb27, xb28, xb29, xb30, xb31, hx⟩ := Lab.open a
  rw [cellsL, cellsF, fcells, lcells, lcells, hx]
  kernel_rfl
@[go_sem] theorem build_inner2 (w : World) (x y : Itm) : (buildOf 57 #[(0, .agg (cellsI x)), (1, .agg (cellsI y))]).run Tryz.prog w = .ok (.agg (cellsN x y)) w := by
  obtain ⟨n, a, b, e⟩ := x
  obtain ⟨m, c, d, f⟩ := y
  obtain ⟨pb0, pb1, pb2, pb3, pb4, pb5, pb6, pb7, pb8, pb9, pb10, pb11, pb12, pb13, pb14, pb15, pb16, pb17, pb18, pb19, pb20, pb21, pb22, pb23, pb24, pb25, pb26, pb27, pb28, pb29, pb30, pb31, hp⟩ := Lab.open a
  obtain ⟨qb0, qb1, qb2, qb3, qb4, qb5, qb6, qb7, qb8, qb9, qb10, qb11, qb12, qb13, qb14, qb15, qb16, qb17, qb18, qb19, qb20, qb21, qb22, qb23, qb24, qb25, qb26, qb27, qb28, qb29, qb30, qb31, hq⟩ := Lab.open b
  obtain ⟨rb0, rb1, rb2, rb3, rb4, rb5, rb6, rb7, rb8, rb9, rb10, rb11, rb12, rb13, rb14, rb15, rb16, rb17, rb18, rb19, rb20, rb21, rb22, rb23, rb24, rb25, rb26, rb27, rb28, rb29, rb30, rb31, hr⟩ := Lab.open c
  obtain ⟨sb0, sb1, sb2, sb3, sb4, sb5, sb6, sb7, sb8, sb9, sb10, sb11, sb12, sb13, sb14, sb15, sb16, sb17, sb18, sb19, sb20, sb21, sb22, sb23, sb24, sb25, sb26, sb27, sb28, sb29, sb30, sb31, hs⟩ := Lab.open d
  rw [cellsI, cellsI, cellsN, icells, icells, lcells, lcells, lcells, lcells, hp, hq, hr, hs]
  kernel_rfl
end Go.Proofs.YtppgmphojklaeaaGreatDoor
