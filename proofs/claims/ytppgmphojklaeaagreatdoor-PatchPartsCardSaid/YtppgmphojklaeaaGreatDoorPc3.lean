/- Texts that the next ones stand on: SortPure, SortSt, SortIns, SortWF. -/
import Derived.Test.YtppgmphojklaeaaGreatDoorPc2
import Derived.Shelf.SlSortCmp.PdqK
import Derived.Shelf.SlSortCmp.KitK
namespace Go.Proofs.YtppgmphojklaeaaGreatDoor
open Go Go.Shelf Go.RowKit Go.Lib Go.Sort

section
variable {α : Type} [Inhabited α] {lt : α → α → Bool}
/-- The first blocks of twenty: q of them sorted, a and b the next. -/
structure FInv (lt : α → α → Bool) (q a b : Nat) (l : List α) (d : Array α) : Prop where
  ha : a = 20 * q
  hb : b = a + 20
  bl : Blocks lt 20 0 q l d
  rest : ∀ t, a ≤ t → t < l.length → l[t]? = some d[t]!
theorem FInv.start {d : Array α} : FInv lt 0 0 20 d.toList d := ⟨rfl, rfl, fun j _ h => by omega, fun t _ h => by
  have h' : t < d.size := by rw [Array.length_toList] at h; exact h
  rw [Array.getElem?_toList, Array.getElem?_eq_getElem h', getElem!_pos d t h']⟩
theorem FInv.step (hw : Weak lt) {q a b : Nat} {l : List α} {d : Array α} (H : FInv lt q a b l d) (hd : d.size = l.length) (hb : b ≤ l.length) : FInv lt (q + 1) b (b + 20) l (Go.Sort.insertionSort lt d a b) := by
  have h1 := H.ha; have h2 := H.hb
  subst h1
  obtain ⟨x1, x2, x3⟩ := blocks_first hw hd (s := 20) (q := q) (b := b) (by omega) (by omega) H.bl H.rest
  exact ⟨by omega, rfl, x1, x3⟩
theorem FInv.fin (hw : Weak lt) {q a b : Nat} {l : List α} {d : Array α} (H : FInv lt q a b l d) (hd : d.size = l.length) (ha : a ≤ l.length) (hb : l.length < b) : Blocks lt 20 0 (l.length + 1) l (Go.Sort.insertionSort lt d a l.length) := by
  have h1 := H.ha; have h2 := H.hb
  subst h1
  obtain ⟨x1, x2, x3⟩ := blocks_first hw hd (s := 20) (q := q) (b := l.length) (by omega) ha H.bl H.rest
  intro j h0 hj hjl
  by_cases h : j < q + 1
  · exact x1 j h0 h hjl
  · exfalso
    have : 20 * (q + 1) ≤ 20 * j := Nat.mul_le_mul_left _ (by omega)
    omega
/-- Blocks of s merged in pairs: i pairs done, the next pair at a, its end at b. -/
structure BInv (lt : α → α → Bool) (s i a b : Nat) (l : List α) (d : Array α) : Prop where
  ha : a = s * (2 * i)
  hb : b = a + (s + s)
  b1 : Blocks lt (2 * s) 0 i l d
  b2 : Blocks lt s (2 * i) (l.length + 1) l d
theorem BInv.start {s : Nat} {l : List α} {d : Array α} (h : Blocks lt s 0 (l.length + 1) l d) : BInv lt s 0 0 (s + s) l d := ⟨rfl, by omega, fun j _ hj => by omega, h⟩
theorem BInv.mids {s i a b : Nat} {l : List α} {d : Array α} (H : BInv lt s i a b l d) : s * (2 * i + 1) = a + s ∧ s * (2 * i + 2) = b := by
  have h1 := H.ha; have h2 := H.hb
  rw [Nat.mul_add, Nat.mul_add]
  omega
theorem BInv.pre (hw : Weak lt) {s i a b : Nat} {l : List α} {d : Array α} (H : BInv lt s i a b l d) (hs : 0 < s) (hlt : a + s < l.length) {e : Nat} (he : e = min b l.length) : NoInv lt (seg d a (a + s - a)) ∧ NoInv lt (seg d (a + s) (e - (a + s))) := by
  obtain ⟨m1, m2⟩ := H.mids
  have h1 := H.ha; have h2 := H.hb
  constructor
  · have hA := H.b2 (2 * i) (Nat.le_refl _) (by
      have : 2 * i ≤ s * (2 * i) := Nat.le_mul_of_pos_left _ hs
      omega) (by omega)
    rw [Nat.min_eq_left (by omega), ← h1] at hA
    rw [show a + s - a = s by omega, hA]
    exact isortL_sorted hw _
  · have hB := H.b2 (2 * i + 1) (by omega) (by
      have : 2 * i + 1 ≤ s * (2 * i + 1) := Nat.le_mul_of_pos_left _ hs
      omega) (by omega)
    rw [m1] at hB
    rw [show e - (a + s) = min s (l.length - (a + s)) by omega, hB]
    exact isortL_sorted hw _
theorem BInv.step (hw : Weak lt) {s i a b : Nat} {l : List α} {d d' : Array α} (H : BInv lt s i a b l d) (hs : 0 < s) (hd : d.size = l.length) (hb : b ≤ l.length) (hm : Merged lt a (a + s) b d d') : BInv lt s (i + 1) b (b + (s + s)) l d' := by
  obtain ⟨m1, m2⟩ := H.mids
  have h2 := H.hb
  obtain ⟨x1, x2⟩ := blocks_merge hw hs hd (by omega) H.b1 H.b2 (d' := d') (by
    rw [m1, m2, ← H.ha, Nat.min_eq_left hb]
    exact hm)
  exact ⟨by rw [show 2 * (i + 1) = 2 * i + 2 by omega, m2], rfl, x1, x2⟩
theorem BInv.fin (hw : Weak lt) {s i a b : Nat} {l : List α} {d d' : Array α} (H : BInv lt s i a b l d) (hs : 0 < s) (hd : d.size = l.length) (hb : l.length < b) (hlt : a + s < l.length) (hm : Merged lt a (a + s) l.length d d') : Blocks lt (2 * s) 0 (l.length + 1) l d' := by
  obtain ⟨m1, m2⟩ := H.mids
  have h1 := H.ha
  have h2 := H.hb
  obtain ⟨x1, x2⟩ := blocks_merge hw hs hd (by omega) H.b1 H.b2 (d' := d') (by
    rw [m1, m2, ← H.ha, Nat.min_eq_right (by omega)]
    exact hm)
  intro j h0 hj hjl
  by_cases h : j < i + 1
  · exact x1 j h0 h hjl
  · exfalso
    have : 2 * s * (i + 1) ≤ 2 * s * j := Nat.mul_le_mul_left _ (by omega)
    have e0 : s * (2 * i) = 2 * s * i := by rw [Nat.mul_comm 2 s, Nat.mul_assoc]
    rw [Nat.mul_add] at this
    omega
theorem BInv.last {s i a b : Nat} {l : List α} {d : Array α} (H : BInv lt s i a b l d) (hs : 0 < s) (hlt : l.length ≤ a + s) : Blocks lt (2 * s) 0 (l.length + 1) l d :=
  blocks_last hs (by rw [H.mids.1]; exact hlt) H.b1 H.b2
theorem blocks_done {s : Nat} {l : List α} {d : Array α} (hd : d.size = l.length) (h : Blocks lt s 0 (l.length + 1) l d) (hs : l.length ≤ s) : d.toList = isortL lt l := by
  rw [← h.all (by omega) hs, ← hd, seg_all]
variable {P : Program}
/-- What insertion sort does with a part. -/
def InsAny (P : Program) (f : FuncId) (enc : α → List Value) (k : Nat) (cf : α → α → Int) (g : Nat) (cb : Array Value) (blk off cap : Nat) (d0 : Array α) (w0 : World) : Prop :=
  ∀ (a b : Nat) (d : Array α) (w : World), d0.size = d.size → SWK enc k w0 blk off d w → a ≤ b → b ≤ d.size →
    Calls P f #[.slice (some ⟨blk, off, none⟩) d.size cap, .int .i64 a, .int .i64 b, .func (.func g) #[] cb] w fun e w' => e = .returned (.tuple #[]) ∧ SWK enc k w0 blk off (Go.Sort.insertionSort (ltOf cf) d a b) w'
omit [Inhabited α] in
theorem Weak.swo {lt : α → α → Bool} (h : Weak lt) : SWO lt := ⟨h.irr, h.tr, h.ntr⟩
end
end Go.Proofs.YtppgmphojklaeaaGreatDoor
namespace Go.Proofs.YtppgmphojklaeaaGreatDoor
open Go Go.Shelf Go.RowKit Go.Lib Go.Sort

section
variable {P : Program} {α : Type} [Inhabited α]
set_option maxHeartbeats 8000000 in
set_option maxRecDepth 1000000 in
theorem stableI {k : Nat} (L : SortPI P k) (enc : α → List Value) (cf : α → α → Int) (g : Nat) (cb : Array Value) (blk off cap : Nat) (d0 : Array α) (w0 w : World)
    (eg : ∀ args w, (callFunc g args).run P w = .ok (.enter g args) w) (hcmp : CmpLays P g cb enc k cf blk off d0.size w0) (R : RowK enc k w0 blk off d0) (hsz : d0.size ≤ 1000000000) (hw : Weak (ltOf cf))
    (hI : InsAny P 190 enc k cf g cb blk off cap d0 w0) (S : SWK enc k w0 blk off d0 w) :
    Calls P 181 #[.slice (some ⟨blk, off, none⟩) d0.size cap, .int .i64 d0.size, .func (.func g) #[] cb] w fun e w' => e = .returned (.tuple #[]) ∧ ∃ d', d'.size = d0.size ∧ d'.toList = isortL (ltOf cf) d0.toList ∧ SWK enc k w0 blk off d' w' := by
  have HI : Aside _ := hI
  have HC : Aside _ := hcmp
  obtain ⟨l, hl⟩ : ∃ l, d0.toList = l := ⟨_, rfl⟩
  obtain ⟨n, hn⟩ : ∃ n, d0.size = n := ⟨_, rfl⟩
  have hln : l.length = n := by rw [← hl, ← hn, Array.length_toList]
  have F0 : Hid (FInv (ltOf cf) 0 0 20 l d0) := by rw [← hl]; exact FInv.start
  have HLN : Hid (l.length = n) := hln
  have HN0 : Hid (d0.size = n) := hn
  have S0 : Aside (SWK enc k w0 blk off d0 w) := S
  rw [hn] at hsz ⊢
  rw [hl]
  clear S hI hcmp hl hln
  have mixed := L.mixed; have t0 := L.t0; have a0 := L.a0; have z0 := L.z0; have v0 := L.v0; have t3 := L.t3; have a3 := L.a3; have z3 := L.z3; have v3 := L.v3; have t4 := L.t4; have a4 := L.a4; have z4 := L.z4; have v4 := L.v4; have ts := L.ts; have ags := L.ags; have zs := L.zs; have vs := L.vs; have tf := L.tf; have af := L.af; have zf := L.zf; have vf := L.vf; have aE := L.aE; have zE := L.zE
  have eS : ∀ args w, (callFunc 215 args).run P w = .ok (.enter 215 args) w := enters_of L.hSym (by kernel_rfl) rfl
  have eI : ∀ args w, (callFunc 190 args).run P w = .ok (.enter 190 args) w := enters_of L.hIns (by kernel_rfl) rfl
  have S1 : Aside (∃ d1, d1.size = n ∧ FInv (ltOf cf) 0 0 20 l d1 ∧ SWK enc k w0 blk off d1 w) := ⟨d0, hn, F0.out, S0.out⟩
  clear S0 F0 hn
  go_enter L.hStable, Tryz.ntmps181
  go_wp2
  go_loopw [7, 8] (fun s7 s8 wr => ∃ (q a b : Nat) (dk : Array α), s7 = .int .i64 a ∧ s8 = .int .i64 b ∧ a ≤ n ∧ a < b ∧ b ≤ n + 20 ∧ dk.size = n ∧ Aside (SWK enc k w0 blk off dk wr) ∧ Hid (FInv (ltOf cf) q a b l dk)) (fun _ s8 _ => (n + 20 - intOf s8).toNat)
  case atStart =>
    obtain ⟨d1, h1, h2, h3⟩ := S1.out
    exact ⟨0, 0, 20, d1, rfl, rfl, Nat.zero_le _, by omega, by omega, h1, h3, h2⟩
  case round =>
    clear S1
    obtain ⟨q, a, b, dk, rfl, rfl, ha, hab, hbn, hds, S1, H⟩ := hrel
    by_cases hlt : b ≤ n
    · have hltz : (b : Int) ≤ (n : Int) := by omega
      have hb2 : (b : Int) + 20 ≤ 2000000000 := by omega
      have hc := HI.out a b dk wr (by rw [HN0.out, hds]) S1.out (by omega) (by omega)
      rw [hds] at hc
      have V2 : Hid (FInv (ltOf cf) (q + 1) b (b + 20) l (Go.Sort.insertionSort (ltOf cf) dk a b)) := H.out.step hw (by rw [hds, HLN.out]) (by rw [HLN.out]; exact hlt)
      have z2 : (Go.Sort.insertionSort (ltOf cf) dk a b).size = n := (insertion_is hw dk (by omega) (by omega)).1.trans hds
      generalize Go.Sort.insertionSort (ltOf cf) dk a b = d2 at hc V2 z2
      clear S1 H
      go_wp2_with fail
      go_at_fn 190
      refine hc.mono ?_
      rintro e w2 ⟨rfl, S2'⟩
      have S2 : Aside (SWK enc k w0 blk off d2 w2) := S2'
      clear hc S2' hds dk
      go_wp2
      go_roundw
      case rel => exact ⟨q + 1, b, b + 20, d2, rfl, by go_num, hlt, by omega, by omega, z2, S2, V2⟩
      case measure => simp [intOf]; omega
    · have hltz : ¬ (b : Int) ≤ (n : Int) := by omega
      have hc := HI.out a n dk wr (by rw [HN0.out, hds]) S1.out (by omega) (by omega)
      rw [hds] at hc
      have V2 : Blocks (ltOf cf) 20 0 (l.length + 1) l (Go.Sort.insertionSort (ltOf cf) dk a l.length) := H.out.fin hw (by rw [hds, HLN.out]) (by rw [HLN.out]; exact ha) (by rw [HLN.out]; omega)
      rw [HLN.out] at V2
      have z2 : (Go.Sort.insertionSort (ltOf cf) dk a n).size = n := (insertion_is hw dk (by omega) (by omega)).1.trans hds
      generalize Go.Sort.insertionSort (ltOf cf) dk a n = d2 at hc V2 z2
      clear S1 H
      go_wp2_with fail
      go_at_fn 190
      refine hc.mono ?_
      rintro e w2 ⟨rfl, S2'⟩
      have S2 : Aside (∃ d2, d2.size = n ∧ Blocks (ltOf cf) 20 0 (n + 1) l d2 ∧ SWK enc k w0 blk off d2 w2) := ⟨d2, z2, V2, S2'⟩
      clear hc S2' hds dk V2 z2 d2 hlt hltz hbn hab ha
      go_wp2
      go_loopw [6, 7, 8, 9] (fun s6 s7 s8 s9 wr => ∃ (s : Nat) (dk : Array α), s6 = .int .i64 s ∧ 0 < s ∧ s ≤ 2000000000 ∧ dk.size = n ∧ Aside (SWK enc k w0 blk off dk wr) ∧ Hid (Blocks (ltOf cf) s 0 (n + 1) l dk)) (fun s6 _ _ _ _ => (n - intOf s6).toNat)
      case atStart =>
        obtain ⟨d2, h1, h2, h3⟩ := S2.out
        exact ⟨20, d2, rfl, by omega, by omega, h1, h3, h2⟩
      case round =>
        clear S2
        obtain ⟨s, dk, rfl, hs0, hs2, hds, S1, H⟩ := hrel
        by_cases hlt : s < n
        · have hltz : (s : Int) < (n : Int) := by omega
          have hp : (0 : Int) ≤ (s : Int) ∧ (s : Int) ≤ 1000000000 := by omega
          have ws : IntKind.i64.wrap (2 * (s : Int)) = 2 * (s : Int) := by rw [IntKind.wrap_i64]; omega
          have ws' : IntKind.i64.wrap ((s : Int) * 2) = (s : Int) * 2 := by rw [IntKind.wrap_i64]; omega
          have S2 : Aside (∃ d2, d2.size = n ∧ BInv (ltOf cf) s 0 0 (s + s) l d2 ∧ SWK enc k w0 blk off d2 wr) := ⟨dk, hds, BInv.start (by rw [HLN.out]; exact H.out), S1.out⟩
          clear S1 H hds dk
          go_wp2
          go_loopw [7, 8] (fun s7 s8 wr => ∃ (i a b : Nat) (dk : Array α), s7 = .int .i64 a ∧ s8 = .int .i64 b ∧ a ≤ n ∧ a + s < b ∧ b ≤ n + (s + s) ∧ dk.size = n ∧ Aside (SWK enc k w0 blk off dk wr) ∧ Hid (BInv (ltOf cf) s i a b l dk)) (fun _ s8 _ => (n + (s + s) - intOf s8).toNat)
          case atStart =>
            obtain ⟨d2, h1, h2, h3⟩ := S2.out
            exact ⟨0, 0, s + s, d2, rfl, by congr 1; omega, Nat.zero_le _, by omega, by omega, h1, h3, h2⟩
          case round =>
            clear S2
            obtain ⟨i, a, b, dk, rfl, rfl, ha, hab, hbn, hds, S1, H⟩ := hrel
            have wa : IntKind.i64.wrap ((a : Int) + (s : Int)) = (a : Int) + (s : Int) := by rw [IntKind.wrap_i64]; omega
            by_cases hlt2 : b ≤ n
            · have hltz2 : (b : Int) ≤ (n : Int) := by omega
              have wb : IntKind.i64.wrap ((b : Int) + 2 * (s : Int)) = (b : Int) + 2 * (s : Int) := by rw [IntKind.wrap_i64]; omega
              have hpre := H.out.pre hw hs0 (by rw [HLN.out]; omega) (e := b) (by rw [HLN.out]; omega)
              have hc := symMergeI L enc cf g cb blk off cap d0 w0 eg HC.out R (by rw [HN0.out]; exact hsz) hw (b - a) a (a + s) b dk wr (Nat.le_refl _) (by rw [HN0.out, hds]) S1.out (by omega) (by omega) (by omega) (Nat.zero_le _) hpre.1 hpre.2
              rw [hds, show ((a + s : Nat) : Int) = (a : Int) + (s : Int) by omega] at hc
              have V1 : Hid (∀ d', Merged (ltOf cf) a (a + s) b dk d' → BInv (ltOf cf) s (i + 1) b (b + (s + s)) l d') := fun d' hm => H.out.step hw hs0 (by rw [hds, HLN.out]) (by rw [HLN.out]; exact hlt2) hm
              clear hpre S1 H
              go_wp2_with fail
              go_at_fn 215
              refine hc.mono ?_
              rintro e w2 ⟨rfl, d2, m2, S2'⟩
              have S2 : Aside (SWK enc k w0 blk off d2 w2) := S2'
              have V2 : Hid (BInv (ltOf cf) s (i + 1) b (b + (s + s)) l d2) := V1.out d2 m2
              have z2 : d2.size = n := m2.size.trans hds
              clear hc S2' m2 V1 hds dk
              go_wp2
              go_roundw
              case rel => exact ⟨i + 1, b, b + (s + s), d2, rfl, by congr 1; omega, hlt2, by omega, by omega, z2, S2, V2⟩
              case measure => simp [intOf]; omega
            · have hltz2 : ¬ (b : Int) ≤ (n : Int) := by omega
              by_cases hm : a + s < n
              · have hmz : (a : Int) + (s : Int) < (n : Int) := by omega
                have hpre := H.out.pre hw hs0 (by rw [HLN.out]; exact hm) (e := n) (by rw [HLN.out]; omega)
                have hc := symMergeI L enc cf g cb blk off cap d0 w0 eg HC.out R (by rw [HN0.out]; exact hsz) hw (n - a) a (a + s) n dk wr (Nat.le_refl _) (by rw [HN0.out, hds]) S1.out (by omega) hm (by omega) (Nat.zero_le _) hpre.1 hpre.2
                rw [hds, show ((a + s : Nat) : Int) = (a : Int) + (s : Int) by omega] at hc
                have V1 : Hid (∀ d', Merged (ltOf cf) a (a + s) n dk d' → Blocks (ltOf cf) (2 * s) 0 (n + 1) l d') := fun d' hmm => by
                  rw [← HLN.out]
                  exact H.out.fin hw hs0 (by rw [hds, HLN.out]) (by rw [HLN.out]; omega) (by rw [HLN.out]; exact hm) (by rw [HLN.out]; exact hmm)
                clear hpre S1 H
                go_wp2_with fail
                go_at_fn 215
                refine hc.mono ?_
                rintro e w2 ⟨rfl, d2, m2, S2'⟩
                have S2 : Aside (SWK enc k w0 blk off d2 w2) := S2'
                have V2 : Hid (Blocks (ltOf cf) (2 * s) 0 (n + 1) l d2) := V1.out d2 m2
                have z2 : d2.size = n := m2.size.trans hds
                clear hc S2' m2 V1 hds dk
                go_wp2
                go_roundw
                case rel => exact ⟨2 * s, d2, by congr 1; omega, by omega, by omega, z2, S2, V2⟩
                case measure => simp [intOf]; omega
              · have hmz : ¬ (a : Int) + (s : Int) < (n : Int) := by omega
                have V2 : Hid (Blocks (ltOf cf) (2 * s) 0 (n + 1) l dk) := by
                  have := H.out.last hs0 (by rw [HLN.out]; omega)
                  rw [HLN.out] at this
                  exact this
                clear H
                go_wp2
                go_roundw
                case rel => exact ⟨2 * s, dk, by congr 1; omega, by omega, by omega, hds, S1, V2⟩
                case measure => simp [intOf]; omega
        · have hltz : ¬ (s : Int) < (n : Int) := by omega
          have V2 : Hid (dk.toList = isortL (ltOf cf) l) := blocks_done (s := s) (by rw [hds, HLN.out]) (by rw [HLN.out]; exact H.out) (by rw [HLN.out]; omega)
          clear H
          go_wp2
          first | go_end0 | ((try simp only [Exit.inBlock, Exit.then]); refine bodyPost_ret (results_none rfl _ _ _) rfl ?_)
          exact ⟨rfl, dk, hds, V2.out, S1.out⟩
end
end Go.Proofs.YtppgmphojklaeaaGreatDoor
namespace Go.Proofs.YtppgmphojklaeaaGreatDoor
open Go Go.Shelf Go.RowKit Go.Lib Go.Sort

section
variable {P : Program} {α : Type} [Inhabited α]
/-- The shelf's numbers, here. -/
def renI : Ren := ⟨fun f => if f = 20 then 190 else 0, fun t => match t with | 0 => 0 | 3 => 3 | 4 => 4 | 22 => 22 | 24 => 55 | 25 => 117 | _ => 0, fun x => x⟩
theorem laysI {k : Nat} (L : SortPI P k) : SlLaysF0.n20 P renI where
  mixed := L.mixed
  f20 := ⟨Tryz.f190.name, by kernel_rfl, by
    have e : Tryz.f190 = { SlBodyF.n20 renI with name := Tryz.f190.name } := by kernel_rfl
    rw [← e]
    exact L.hIns⟩
  t0 := L.t0
  a0 := L.a0
  z0 := L.z0
  v0 := L.v0
  t3 := L.t3
  a3 := L.a3
  z3 := L.z3
  v3 := L.v3
  t4 := L.t4
  a4 := L.a4
  z4 := L.z4
  v4 := L.v4
  t22 := L.ts
  a22 := L.ags
  z22 := L.zs
  v22 := L.vs
  t25 := L.tf
  a25 := L.af
  z25 := L.zf
  v25 := L.vf
theorem insI {k : Nat} (L : SortPI P k) (enc : α → List Value) (cf : α → α → Int) (g : Nat) (cb : Array Value) (blk off cap : Nat) (d0 : Array α) (w0 : World)
    (eg : ∀ args w, (callFunc g args).run P w = .ok (.enter g args) w) (hcmp : CmpLays P g cb enc k cf blk off d0.size w0) (R : RowK enc k w0 blk off d0) (hsz : d0.size ≤ 1000000000) (hw : Weak (ltOf cf)) :
    InsAny P 190 enc k cf g cb blk off cap d0 w0 := fun a b d w hs S hab hb =>
  AnyQ.insertionSortCmpFunc_w (laysI L) k L.aE L.zE enc cf g cb blk off cap a b d0 d w0 w eg hcmp R hs S hw.swo hab hb (by omega)
end
end Go.Proofs.YtppgmphojklaeaaGreatDoor
namespace Go.Proofs.YtppgmphojklaeaaGreatDoor
open Go Go.Shelf Go.RowKit Go.Lib Go.Sort

section
variable {P : Program} {α : Type} [Inhabited α]
/-- What a sort leans on of a program's types. -/
structure SortPF (P : Program) (k : Nat) : Prop where
  mixed : P.follows .mixedOrders = true
  t0 : P.underlying 0 = some (TypeDesc.tuple #[])
  a0 : ∀ w, (isAgg 0).run P w = .ok false w
  z0 : ∀ w, (Go.sizeOf 0).run P w = .ok 1 w
  v0 : ∀ w, (zeroValue 0).run P w = .ok (Value.tuple #[]) w
  t3 : P.underlying 3 = some (TypeDesc.int IntKind.i64)
  a3 : ∀ w, (isAgg 3).run P w = .ok false w
  z3 : ∀ w, (Go.sizeOf 3).run P w = .ok 1 w
  v3 : ∀ w, (zeroValue 3).run P w = .ok (Value.int IntKind.i64 0) w
  t4 : P.underlying 4 = some (TypeDesc.bool)
  a4 : ∀ w, (isAgg 4).run P w = .ok false w
  z4 : ∀ w, (Go.sizeOf 4).run P w = .ok 1 w
  v4 : ∀ w, (zeroValue 4).run P w = .ok (Value.bool false) w
  tu : P.underlying 210 = some (TypeDesc.int IntKind.u64)
  au : ∀ w, (isAgg 210).run P w = .ok false w
  zu : ∀ w, (Go.sizeOf 210).run P w = .ok 1 w
  vu : ∀ w, (zeroValue 210).run P w = .ok (Value.int IntKind.u64 0) w
  ts : P.underlying 38 = some (TypeDesc.slice 46)
  ags : ∀ w, (isAgg 38).run P w = .ok false w
  zs : ∀ w, (Go.sizeOf 38).run P w = .ok 1 w
  vs : ∀ w, (zeroValue 38).run P w = .ok (Value.slice none 0 0) w
  tf : P.underlying 198 = some (TypeDesc.func #[46, 46] #[3] false)
  af : ∀ w, (isAgg 198).run P w = .ok false w
  zf : ∀ w, (Go.sizeOf 198).run P w = .ok 1 w
  vf : ∀ w, (zeroValue 198).run P w = .ok (Value.nilFunc) w
  aE : ∀ w, (isAgg 46).run P w = .ok true w
  zE : ∀ w, (Go.sizeOf 46).run P w = .ok k w
  hSwap : P.funcs[249]? = some Tryz.f249
  hRot : P.funcs[244]? = some Tryz.f244
  hSym : P.funcs[232]? = some Tryz.f232
  hIns : P.funcs[231]? = some Tryz.f231
  hStable : P.funcs[217]? = some Tryz.f217
  hSort : P.funcs[184]? = some Tryz.f184
set_option maxHeartbeats 4000000 in
set_option maxRecDepth 1000000 in
theorem swapRangeF {k : Nat} (L : SortPF P k) (enc : α → List Value) (fv : Value) (blk off cap a b n : Nat) (d0 d : Array α) (w0 w : World)
    (R : RowK enc k w0 blk off d0) (hs : d0.size = d.size) (S : SWK enc k w0 blk off d w) (hab : a + n ≤ b) (hb : b + n ≤ d.size) (hsz : d.size < 4611686018427387904) :
    Calls P 249 #[.slice (some ⟨blk, off, none⟩) d.size cap, .int .i64 a, .int .i64 b, .int .i64 n, fv] w fun e w' => e = .returned (.tuple #[]) ∧ ∃ d', Via (swσ a b n) d d' ∧ SWK enc k w0 blk off d' w' := by
  have mixed := L.mixed; have t0 := L.t0; have a0 := L.a0; have z0 := L.z0; have v0 := L.v0; have t3 := L.t3; have a3 := L.a3; have z3 := L.z3; have v3 := L.v3; have t4 := L.t4; have a4 := L.a4; have z4 := L.z4; have v4 := L.v4; have ts := L.ts; have ags := L.ags; have zs := L.zs; have vs := L.vs; have tf := L.tf; have af := L.af; have zf := L.zf; have vf := L.vf; have aE := L.aE; have zE := L.zE
  have S0 : Aside (SWK enc k w0 blk off d w) := S
  clear S
  go_enter L.hSwap, Tryz.ntmps249
  go_wp2
  go_loopw [10] (fun s10 wr => ∃ (i : Nat) (dk : Array α), s10 = .int .i64 i ∧ i ≤ n ∧ dk.size = d.size ∧ Aside (SWK enc k w0 blk off dk wr) ∧ Hid (Via (swσ a b i) d dk)) (fun s10 _ => (n - intOf s10).toNat)
  case atStart => exact ⟨0, d, rfl, Nat.zero_le _, rfl, S0, (Via.refl d).congr fun t _ => (swσ_zero a b t).symm⟩
  case round =>
    clear S0
    obtain ⟨i, dk, rfl, hi, hds, S1, hv⟩ := hrel
    by_cases hlt : i < n
    · have hltz : (i : Int) < (n : Int) := by omega
      go_wp2_with fail
      have ea : ((a : Int) + (i : Int)).toNat = a + i := by omega
      have pa : (0 : Int) ≤ (a : Int) + (i : Int) := by omega
      have ba : (a : Int) + (i : Int) < (d.size : Int) := by omega
      have ra : IntKind.i64.wrap ((a : Int) + (i : Int)) = (a : Int) + (i : Int) := by rw [IntKind.wrap_i64]; omega
      have ec : ((b : Int) + (i : Int)).toNat = b + i := by omega
      have pc : (0 : Int) ≤ (b : Int) + (i : Int) := by omega
      have bc : (b : Int) + (i : Int) < (d.size : Int) := by omega
      have rc : IntKind.i64.wrap ((b : Int) + (i : Int)) = (b : Int) + (i : Int) := by rw [IntKind.wrap_i64]; omega
      have S2 : Aside (SWK enc k w0 blk off (swp dk (a + i) (b + i)) ((wr.drew.setCells blk (off + (a + i) * k) (enc dk[b + i]!)).setCells blk (off + (b + i) * k) (enc dk[a + i]!))) := S1.out.swapped R (a + i) (b + i) (by omega) (by omega)
      have la := S1.out.ld1 R (by omega) P (a + i) (by omega)
      have lb := S1.out.ld1 R (by omega) P (b + i) (by omega)
      have sa := S1.out.st1 R (by omega) P (a + i) (by omega) dk[b + i]!
      have sb := S1.out.st2 R (by omega) P (a + i) (b + i) (by omega) (by omega) dk[b + i]! dk[a + i]!
      have na : (enc dk[a + i]!).length = k := R.hk _
      have nb : (enc dk[b + i]!).length = k := R.hk _
      have V2 : Hid (Via (swσ a b (i + 1)) d (swp dk (a + i) (b + i))) := (hv.out.trans (via_swp dk (i := a + i) (j := b + i) (by omega) (by omega)) (fun t ht => one_lt (by omega) (by omega) ht)).congr fun t _ => sw_step (by omega)
      generalize enc dk[a + i]! = cI at S2 la sb na
      generalize enc dk[b + i]! = cJ at S2 lb sa sb nb
      clear S1 hv
      go_wp2_with fail
      go_big_region_o
      clear la lb sa sb
      generalize (wr.drew.setCells blk (off + (a + i) * k) cJ).setCells blk (off + (b + i) * k) cI = w2 at S2 ⊢
      go_wp2
      go_roundw
      case rel => exact ⟨i + 1, _, by go_num, hlt, by rw [size_swp]; exact hds, S2, V2⟩
      case measure => simp [intOf]; omega
    · obtain rfl : i = n := by omega
      have hltz : ¬ (i : Int) < (i : Int) := by omega
      go_wp2
      go_end0
      exact ⟨rfl, dk, hv.out, S1.out⟩
set_option maxHeartbeats 4000000 in
set_option maxRecDepth 1000000 in
theorem rotateF {k : Nat} (L : SortPF P k) (enc : α → List Value) (fv : Value) (blk off cap a m b : Nat) (d0 d : Array α) (w0 w : World)
    (R : RowK enc k w0 blk off d0) (hs : d0.size = d.size) (S : SWK enc k w0 blk off d w) (ham : a < m) (hmb : m < b) (hb : b ≤ d.size) (hsz : d.size < 4611686018427387904) :
    Calls P 244 #[.slice (some ⟨blk, off, none⟩) d.size cap, .int .i64 a, .int .i64 m, .int .i64 b, fv] w fun e w' => e = .returned (.tuple #[]) ∧ ∃ d', Via (rotσ a m b) d d' ∧ SWK enc k w0 blk off d' w' := by
  have mixed := L.mixed; have t0 := L.t0; have a0 := L.a0; have z0 := L.z0; have v0 := L.v0; have t3 := L.t3; have a3 := L.a3; have z3 := L.z3; have v3 := L.v3; have t4 := L.t4; have a4 := L.a4; have z4 := L.z4; have v4 := L.v4; have ts := L.ts; have ags := L.ags; have zs := L.zs; have vs := L.vs; have tf := L.tf; have af := L.af; have zf := L.zf; have vf := L.vf; have aE := L.aE; have zE := L.zE
  have S0 : Aside (SWK enc k w0 blk off d w) := S
  have es : ∀ args w, (callFunc 249 args).run P w = .ok (.enter 249 args) w := enters_of L.hSwap (by kernel_rfl) rfl
  clear S
  go_enter L.hRot, Tryz.ntmps244
  have wa : IntKind.i64.wrap ((m : Int) - (a : Int)) = (m : Int) - (a : Int) := by rw [IntKind.wrap_i64]; omega
  have wb : IntKind.i64.wrap ((b : Int) - (m : Int)) = (b : Int) - (m : Int) := by rw [IntKind.wrap_i64]; omega
  go_wp2
  go_loopw [10, 11] (fun s10 s11 wr => ∃ (i j : Nat) (dk : Array α) (σ : Nat → Nat), s10 = .int .i64 i ∧ s11 = .int .i64 j ∧ 0 < i ∧ i ≤ m - a ∧ 0 < j ∧ j ≤ b - m ∧ dk.size = d.size ∧ Aside (SWK enc k w0 blk off dk wr) ∧ Hid (Via σ d dk ∧ ∀ t, σ (rotσ (m - i) m (m + j) t) = rotσ a m b t)) (fun s10 s11 _ => (intOf s10 + intOf s11).toNat)
  case atStart =>
    refine ⟨m - a, b - m, d, id, ?_, ?_, by omega, Nat.le_refl _, by omega, Nat.le_refl _, rfl, S0, Via.refl d, fun t => ?_⟩
    · congr 1; omega
    · congr 1; omega
    · show rotσ (m - (m - a)) m (m + (b - m)) t = _
      rw [show m - (m - a) = a by omega, show m + (b - m) = b by omega]
  case round =>
    clear S0
    obtain ⟨i, j, dk, σ, rfl, rfl, hi0, him, hj0, hjb, hds, S1, hv⟩ := hrel
    have hii : (i : Int) ≤ m := by omega
    have wmi : IntKind.i64.wrap ((m : Int) - (i : Int)) = (m : Int) - (i : Int) := by rw [IntKind.wrap_i64]; omega
    by_cases hlt : j < i
    · have q1 : ((i : Int) != (j : Int)) = true := by rw [bne_iff_ne]; omega
      have q1' : (i != j) = true := by rw [bne_iff_ne]; omega
      have q2 : (j : Int) < (i : Int) := by omega
      have hc := swapRangeF L enc fv blk off cap (m - i) m j d0 dk w0 wr R (by omega) S1.out (by omega) (by omega) (by omega)
      rw [hds, show ((m - i : Nat) : Int) = (m : Int) - (i : Int) by omega] at hc
      have wij : IntKind.i64.wrap ((i : Int) - (j : Int)) = (i : Int) - (j : Int) := by rw [IntKind.wrap_i64]; omega
      go_wp2_with (go_at_fn 249; refine hc.mono ?_; rintro e w2 ⟨rfl, d2, hv2, S2'⟩)
      have S2 : Aside (SWK enc k w0 blk off d2 w2) := S2'
      have V2 : Hid (Via (fun t => σ (swσ (m - i) m j t)) d d2 ∧ ∀ t, σ (swσ (m - i) m j (rotσ (m - (i - j)) m (m + j) t)) = rotσ a m b t) := ⟨hv.out.1.trans hv2 (fun t ht => sw_lt (by omega) (by omega) ht), fun t => by rw [rot_left (by omega) hj0 hlt]; exact hv.out.2 t⟩
      have z2 : d2.size = d.size := hv2.size.trans hds
      clear hc S1 S2' hv hv2
      go_wp2
      go_roundw
      case rel => exact ⟨i - j, j, d2, _, by congr 1; omega, rfl, by omega, by omega, hj0, hjb, z2, S2, V2⟩
      case measure => simp [intOf]; omega
    · by_cases hgt : i < j
      · have q1 : ((i : Int) != (j : Int)) = true := by rw [bne_iff_ne]; omega
        have q1' : (i != j) = true := by rw [bne_iff_ne]; omega
        have q2 : ¬ (j : Int) < (i : Int) := by omega
        have hc := swapRangeF L enc fv blk off cap (m - i) (m + j - i) i d0 dk w0 wr R (by omega) S1.out (by omega) (by omega) (by omega)
        rw [hds, show ((m - i : Nat) : Int) = (m : Int) - (i : Int) by omega, show ((m + j - i : Nat) : Int) = (m : Int) + (j : Int) - (i : Int) by omega] at hc
        have wij : IntKind.i64.wrap ((j : Int) - (i : Int)) = (j : Int) - (i : Int) := by rw [IntKind.wrap_i64]; omega
        have wmj : IntKind.i64.wrap ((m : Int) + (j : Int)) = (m : Int) + (j : Int) := by rw [IntKind.wrap_i64]; omega
        have wmji : IntKind.i64.wrap ((m : Int) + (j : Int) - (i : Int)) = (m : Int) + (j : Int) - (i : Int) := by rw [IntKind.wrap_i64]; omega
        go_wp2_with (go_at_fn 249; refine hc.mono ?_; rintro e w2 ⟨rfl, d2, hv2, S2'⟩)
        have S2 : Aside (SWK enc k w0 blk off d2 w2) := S2'
        have V2 : Hid (Via (fun t => σ (swσ (m - i) (m + j - i) i t)) d d2 ∧ ∀ t, σ (swσ (m - i) (m + j - i) i (rotσ (m - i) m (m + (j - i)) t)) = rotσ a m b t) := ⟨hv.out.1.trans hv2 (fun t ht => sw_lt (by omega) (by omega) ht), fun t => by rw [rot_right (by omega) hi0 hgt]; exact hv.out.2 t⟩
        have z2 : d2.size = d.size := hv2.size.trans hds
        clear hc S1 S2' hv hv2
        go_wp2
        go_roundw
        case rel => exact ⟨i, j - i, d2, _, rfl, by congr 1; omega, hi0, him, by omega, by omega, z2, S2, V2⟩
        case measure => simp [intOf]; omega
      · obtain rfl : i = j := by omega
        have q1 : ((i : Int) != (i : Int)) = false := by simp
        have q1' : (i != i) = false := by simp
        have hc := swapRangeF L enc fv blk off cap (m - i) m i d0 dk w0 wr R (by omega) S1.out (by omega) (by omega) (by omega)
        rw [hds, show ((m - i : Nat) : Int) = (m : Int) - (i : Int) by omega] at hc
        go_wp2_with (go_at_fn 249; refine hc.mono ?_; rintro e w2 ⟨rfl, d2, hv2, S2'⟩)
        go_end0
        exact ⟨rfl, d2, (hv.out.1.trans hv2 (fun t ht => sw_lt (by omega) (by omega) ht)).congr fun t _ => by rw [rot_even (by omega)]; exact hv.out.2 t, S2'⟩
end
end Go.Proofs.YtppgmphojklaeaaGreatDoor
