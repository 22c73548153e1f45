/- One file's crash; Crash. Conditions: none. -/
import Derived.Test.YtlhdnkfnhdkbkaaGreatDoorDisk8
namespace Go.Proofs.YtlhdnkfnhdkbkaaGreatDoor
open Go Go.RowKit Go.Maps
attribute [local go_sem] Oper.semAt_some

/-- How many bytes that weren't sure a file keeps. -/
def crashK (f : DFile) (keep : Int) : Nat := (keep % ((f.bytes.length : Int) - f.sure + 1)).toNat
def crashF (f : DFile) (keep : Int) : DFile := ⟨f.name, f.bytes.take (f.sure + crashK f keep), f.sure + crashK f keep⟩
theorem tmod_neg {a c : Int} (hc : 0 < c) (h : a.tmod c < 0) : a.tmod c + c = a % c := by
  rw [Int.tmod_eq_emod] at *
  have := Int.emod_nonneg a (show c ≠ 0 by omega)
  split at h
  · omega
  · rename_i h1
    rw [if_neg h1]
    omega
theorem tmod_pos {a c : Int} (hc : 0 < c) (h : ¬ a.tmod c < 0) : a.tmod c = a % c := by
  rw [Int.tmod_eq_emod] at *
  have := Int.emod_lt_of_pos a hc
  split at h
  · rename_i h1
    rw [if_pos h1]
    omega
  · omega
theorem tmod_bounds {a c : Int} (hc : 0 < c) : -c < a.tmod c ∧ a.tmod c < c := by
  rw [Int.tmod_eq_emod]
  have := Int.emod_lt_of_pos a hc
  have := Int.emod_nonneg a (show c ≠ 0 by omega)
  split <;> omega
/-- An own row is cut. -/
theorem own_cut {w : World} {B n cap k : Nat} {e : TypeId} {ao : Option Addr} {xs : List Value} (h : w.ownsRow B e 1 (.slice ao n cap) n xs) (hk : k ≤ n) : w.ownsRow B e 1 (.slice ao k cap) k (xs.take k) := by
  have hxl : xs.length = n := by simpa using h.1
  refine ⟨by rw [List.length_take]; omega, ?_⟩
  rcases h.2 with ⟨hv, h0⟩ | ⟨g, cap', cur, hv, hb, hh, h1, h2, h3, h4⟩
  · injection hv with e1 _ e2
    subst e1 e2
    obtain rfl : k = 0 := by omega
    exact .inl ⟨rfl, rfl⟩
  · injection hv with e1 _ e2
    subst e1 e2
    refine .inr ⟨g, cap, cur, rfl, hb, hh, by omega, h2, h3, ?_⟩
    rw [← h4, List.take_take]
    congr 1
    omega
theorem own_cap {w : World} {B n cap : Nat} {e : TypeId} {ao : Option Addr} {xs : List Value} (h : w.ownsRow B e 1 (.slice ao n cap) n xs) : n ≤ cap ∧ cap ≤ maxLen := by
  rcases h.2 with ⟨hv, h0⟩ | ⟨g, cap', cur, hv, hb, hh, h1, h2, h3, h4⟩
  · injection hv with e1 _ e2
    subst e2
    exact ⟨by omega, by unfold maxLen; omega⟩
  · injection hv with e1 _ e2
    subst e2
    exact ⟨h1, h2⟩
theorem setCell_drew (w : World) (b j : Nat) (x : Value) : w.grownBy (w.setCell ⟨b, j, none⟩ x).drew (some b) := (setCell_grown w b j x).trans ⟨rfl, rfl, rfl, Nat.le_refl _, fun _ _ _ => rfl⟩
set_option maxRecDepth 100000 in
set_option maxHeartbeats 1000000 in
theorem fCrash_any (B g : Nat) (v : Value) (f : DFile) (keep : Int) (w : World) (h : FileAt B g v f w) (hf : f.bytes.length ≤ 1000000000000) :
    Calls Tryz.prog 35 #[.pointer (some ⟨g, 0, none⟩), .int .i64 keep] w fun e w' => e = .returned (.tuple #[]) ∧ ∃ v', FileAt B g v' (crashF f keep) w' ∧ v'.ownBlock = v.ownBlock ∧ w.grownBy w' (some g) := by
  obtain ⟨ao, cap, rfl⟩ := own_shape h.own
  have hown := h.own
  have hsu := h.sure
  have hcap := own_cap hown
  obtain ⟨c, hc⟩ : ∃ c : Int, (f.bytes.length : Int) - f.sure + 1 = c := ⟨_, rfl⟩
  have hc0 : 0 < c := by omega
  have hcb : c ≤ 1000000000001 := by omega
  have hb := tmod_bounds (a := keep) hc0
  have hem := Int.emod_lt_of_pos keep hc0
  have hem0 := Int.emod_nonneg keep (show c ≠ 0 by omega)
  obtain ⟨k, hkk⟩ : ∃ k, crashK f keep = k := ⟨_, rfl⟩
  have hke : keep % c = (k : Int) := by
    rw [← hkk]
    unfold crashK
    rw [hc]
    omega
  have hsk : f.sure + k ≤ f.bytes.length := by omega
  have c0 : w.cell? ⟨g, 0, none⟩ = some (.slice ao f.bytes.length cap) := (Lib.cell_of_heap h.row 0).trans rfl
  have c1 : w.cell? ⟨g, 1, none⟩ = some (.int .i64 f.sure) := (Lib.cell_of_heap h.row 1).trans rfl
  have f0 := Lib.frozen_of_heap h.row 0
  have f1 := Lib.frozen_of_heap h.row 1
  have HF : Hid (∀ W, w.grownBy W (some g) → W.heap[g]? = some (.cells #[.slice ao (f.sure + k) cap, .int .i64 ((f.sure + k : Nat) : Int)] 71 (0, 0)) → FileAt B g (.slice ao (f.sure + k) cap) (crashF f keep) W) := Lib.hid fun W hg hr => by
    unfold crashF
    rw [hkk]
    refine ⟨hr, ?_, ?_, h.low⟩
    · have := (own_cut hown hsk).kept hg (by
        have h1 := own_ne hown h.row (by decide)
        cases ao with
        | none => exact .inl rfl
        | some q => exact .inr h1)
      rw [show (f.bytes.take (f.sure + k)).length = f.sure + k by rw [List.length_take]; omega, show Lib.byteCells (f.bytes.take (f.sure + k)) = (Lib.byteCells f.bytes).take (f.sure + k) by simp [Lib.byteCells]]
      exact this
    · show f.sure + k ≤ (f.bytes.take (f.sure + k)).length
      rw [List.length_take]
      omega
  have HR := Lib.hid h.row
  have HNIL : Hid (ao = none → f.bytes.length = 0 ∧ cap = 0) := Lib.hid fun e => by
    subst e
    rcases hown.2 with ⟨hv, h0⟩ | ⟨g', cap', cur, hv, _⟩
    · injection hv with _ _ e2
      exact ⟨h0, e2⟩
    · cases hv
  generalize f.bytes.length = n at *
  generalize f.sure = s at *
  have hni : (n : Int) ≤ 1000000000000 := by omega
  have hsn : (s : Int) ≤ n := by omega
  have hcapi : (n : Int) ≤ cap := by omega
  have hcapj : (cap : Int) ≤ 9223372036854775807 := by have := hcap.2; unfold maxLen at this; omega
  have hski : (s : Int) + k ≤ n := by omega
  have hsc : (s : Int) + k ≤ cap := by omega
  have hsc2 : s + k ≤ cap := by omega
  clear h hown hkk hcap hf hsu
  by_cases hneg : keep.tmod c < 0
  · have hq : decide (keep.tmod c < 0) = true := decide_eq_true hneg
    have hke2 : keep.tmod c + c = k := by rw [tmod_neg hc0 hneg, hke]
    clear hke hneg hem hem0
    go_enter Tryz.func35, Tryz.ntmps35
    go_wp2_with fail
    go_region
    go_wp2_with fail
    obtain ⟨p, hp⟩ : ∃ p : Nat, s + k = p := ⟨_, rfl⟩
    have hpi : (s : Int) + k = p := by omega
    rw [hpi]
    rw [hp] at HF
    have r1 : ((w.setCell ⟨g, 1, none⟩ (.int .i64 (p : Int))).drew).heap[g]? = some (.cells #[.slice ao n cap, .int .i64 (p : Int)] 71 (0, 0)) := dHeap_put HR.out _
    have g1 : w.grownBy ((w.setCell ⟨g, 1, none⟩ (.int .i64 (p : Int))).drew) (some g) := (setCell_grown w g 1 _).trans ⟨rfl, rfl, rfl, Nat.le_refl _, fun _ _ _ => rfl⟩
    generalize ((w.setCell ⟨g, 1, none⟩ (.int .i64 (p : Int))).drew) = W1 at *
    have d0 := (Lib.cell_of_heap r1 0).trans (rfl : _ = some (Value.slice ao n cap))
    have d1 := (Lib.cell_of_heap r1 1).trans (rfl : _ = some (Value.int .i64 p))
    have e0 := Lib.frozen_of_heap r1 0
    have hpc : p ≤ cap := by omega
    have hpn : p ≤ n := by omega
    have hpci : (p : Int) ≤ cap := by omega
    clear c0 c1 f0 f1 hq hke2 hb hc
    cases ao with
    | none =>
      obtain ⟨rfl, rfl⟩ : n = 0 ∧ cap = 0 := HNIL.out rfl
      obtain rfl : p = 0 := by omega
      go_region
      go_wp2_with fail
      go_end0
      exact ⟨rfl, _, HF.out _ (g1.trans (setCell_drew W1 g 0 _)) (dHeap_put r1 _), rfl, g1.trans (setCell_drew W1 g 0 _)⟩
    | some ad =>
      go_region
      go_wp2_with fail
      go_end0
      exact ⟨rfl, _, HF.out _ (g1.trans (setCell_drew W1 g 0 _)) (dHeap_put r1 _), rfl, g1.trans (setCell_drew W1 g 0 _)⟩
  · have hq : decide (keep.tmod c < 0) = false := decide_eq_false hneg
    have hke2 : keep.tmod c = k := by rw [tmod_pos hc0 hneg, hke]
    clear hke hneg hem hem0
    go_enter Tryz.func35, Tryz.ntmps35
    go_wp2_with fail
    go_region
    go_wp2_with fail
    obtain ⟨p, hp⟩ : ∃ p : Nat, s + k = p := ⟨_, rfl⟩
    have hpi : (s : Int) + k = p := by omega
    rw [hpi]
    rw [hp] at HF
    have r1 : ((w.setCell ⟨g, 1, none⟩ (.int .i64 (p : Int))).drew).heap[g]? = some (.cells #[.slice ao n cap, .int .i64 (p : Int)] 71 (0, 0)) := dHeap_put HR.out _
    have g1 : w.grownBy ((w.setCell ⟨g, 1, none⟩ (.int .i64 (p : Int))).drew) (some g) := (setCell_grown w g 1 _).trans ⟨rfl, rfl, rfl, Nat.le_refl _, fun _ _ _ => rfl⟩
    generalize ((w.setCell ⟨g, 1, none⟩ (.int .i64 (p : Int))).drew) = W1 at *
    have d0 := (Lib.cell_of_heap r1 0).trans (rfl : _ = some (Value.slice ao n cap))
    have d1 := (Lib.cell_of_heap r1 1).trans (rfl : _ = some (Value.int .i64 p))
    have e0 := Lib.frozen_of_heap r1 0
    have hpc : p ≤ cap := by omega
    have hpn : p ≤ n := by omega
    have hpci : (p : Int) ≤ cap := by omega
    clear c0 c1 f0 f1 hq hke2 hb hc
    cases ao with
    | none =>
      obtain ⟨rfl, rfl⟩ : n = 0 ∧ cap = 0 := HNIL.out rfl
      obtain rfl : p = 0 := by omega
      go_region
      go_wp2_with fail
      go_end0
      exact ⟨rfl, _, HF.out _ (g1.trans (setCell_drew W1 g 0 _)) (dHeap_put r1 _), rfl, g1.trans (setCell_drew W1 g 0 _)⟩
    | some ad =>
      go_region
      go_wp2_with fail
      go_end0
      exact ⟨rfl, _, HF.out _ (g1.trans (setCell_drew W1 g 0 _)) (dHeap_put r1 _), rfl, g1.trans (setCell_drew W1 g 0 _)⟩
/-- A disk whose count of bytes may be another one. -/
structure DiskU (B b m : Nat) (u : Int) (left : Int) (D : DW) (G : List UInt8 → Nat) (V : List UInt8 → Value) (d : DDisk) (w : World) : Prop where
  row : w.heap[b]? = some (.cells #[.map (some m), .int .i64 d.room, .int .i64 u, .int .i64 left, .bool d.dead] 60 (0, 0))
  map : w.ownsMap Tryz.prog 9 ptrElem m d.files.length D
  is : MapIs D G d.files
  sorted : dSorted d.files
  file : ∀ f ∈ d.files, FileAt B (G f.name) (V f.name) f w
  apart : ∀ f ∈ d.files, ∀ f' ∈ d.files, f.name ≠ f'.name → G f.name ≠ G f'.name ∧ ∀ k, (V f.name).ownBlock = some k → (V f'.name).ownBlock ≠ some k
  low : B ≤ b ∧ B ≤ m
  room : 0 ≤ d.room ∧ d.room ≤ 9223372036854775807
section
variable {B b m : Nat} {u left : Int} {D : DW} {G : List UInt8 → Nat} {V : List UInt8 → Value} {d : DDisk} {w w' : World}
theorem DiskIs.toU (h : DiskIs B b m left D G V d w) : DiskU B b m (dUsed d.files) left D G V d w := ⟨h.row, h.map, h.is, h.sorted, h.file, h.apart, h.low, h.room⟩
theorem DiskU.b_ne_m (h : DiskU B b m u left D G V d w) : b ≠ m := by
  obtain ⟨es, c, hm⟩ := mapBlk h.map
  exact blk_ne_map h.row hm
theorem DiskU.bB (h : DiskU B b m u left D G V d w) : B ≤ w.heap.size := Nat.le_of_lt (Nat.lt_of_le_of_lt h.low.1 (dHeap_lt h.row))
theorem DiskU.kept (h : DiskU B b m u left D G V d w) (k : Below w.heap.size w w') : DiskU B b m u left D G V d w' :=
  ⟨(k.block b (dHeap_lt h.row)).trans h.row, h.map.kept (below_grown k) (by simp), h.is, h.sorted, fun f hf => (h.file f hf).kept (below_grown k) (by simp) (by cases (V f.name).ownBlock <;> simp), h.apart, h.low, h.room⟩
theorem DiskU.setUsed (h : DiskU B b m u left D G V d w) (j : Nat) (x : Value) {u' left' : Int} {d' : DDisk}
    (hc : (#[Value.map (some m), .int .i64 d.room, .int .i64 u, .int .i64 left, .bool d.dead]).setIfInBounds j x = #[.map (some m), .int .i64 d'.room, .int .i64 u', .int .i64 left', .bool d'.dead]) (hf : d'.files = d.files) (hr : d'.room = d.room) :
    DiskU B b m u' left' D G V d' (w.setCell ⟨b, j, none⟩ x) ∧ Stir B w (w.setCell ⟨b, j, none⟩ x) := by
  have hg := setCell_grown w b j x
  obtain ⟨es, c, hm⟩ := mapBlk h.map
  refine ⟨⟨?_, ?_, ?_, ?_, ?_, ?_, h.low, ?_⟩, Stir.grown hg (fun k e => ?_) h.bB⟩
  · rw [dHeap_put h.row x, hc]
  · rw [hf]
    exact h.map.kept hg (fun e => blk_ne_map h.row hm (by simpa using e.symm))
  · rw [hf]; exact h.is
  · rw [hf]; exact h.sorted
  · rw [hf]
    intro f hf'
    have hk := h.file f hf'
    exact hk.kept hg (fun e => blk_ne hk.row h.row (by decide) (by simpa using e)) (.inr (own_ne hk.own h.row (by decide)))
  · rw [hf]; exact h.apart
  · rw [hr]; exact h.room
  · obtain rfl : b = k := by simpa using e
    exact ⟨h.low.1, notPlain_disk h.row⟩
theorem DiskU.toIs (h : DiskU B b m u left D G V d w) (hu : u = dUsed d.files) (hf : d.dead = false → max left (-1) = d.fuse) (hl : -9223372036854775808 ≤ left ∧ left ≤ 9223372036854775807) : DiskIs B b m left D G V d w :=
  ⟨by rw [← hu]; exact h.row, hf, h.map, h.is, h.sorted, h.file, h.apart, h.low, h.room, hl⟩
theorem DiskU.step (h : DiskU B b m u left D G V d w) {f : DFile} (hf : f ∈ d.files) (f' : DFile) (hn : f'.name = f.name) (hg : w.grownBy w' (some (G f.name))) (v' : Value) (hk : FileAt B (G f.name) v' f' w') (hob : v'.ownBlock = (V f.name).ownBlock) :
    DiskU B b m u left D G (upd V f.name v') { d with files := dPut f' d.files } w' ∧ Stir B w w' := by
  have hkf := h.file f hf
  obtain ⟨es, c, hm⟩ := mapBlk h.map
  have hfd : (dFind d.files f'.name).isSome = true := by rw [hn, dFind_mem h.sorted hf]; rfl
  have hl : (dPut f' d.files).length = d.files.length := by rw [length_put h.sorted, if_pos hfd]; rfl
  have hoth : ∀ x ∈ d.files, x.name ≠ f.name → FileAt B (G x.name) (V x.name) x w' := fun x hx hne =>
    (h.file x hx).kept hg (fun e => (h.apart x hx f hf hne).1 (by simpa using e)) (.inr (own_ne (h.file x hx).own hkf.row (by decide)))
  refine ⟨⟨?_, ?_, ?_, h.sorted.put, ?_, ?_, h.low, h.room⟩, Stir.grown hg (fun k e => by
      obtain rfl : G f.name = k := by simpa using e
      exact ⟨hkf.low, notPlain_file hkf.row⟩) h.bB⟩
  · exact (hg.block b (dHeap_lt h.row) (fun e => blk_ne hkf.row h.row (by decide) (by simpa using e.symm))).trans h.row
  · show w'.ownsMap _ _ _ m (dPut f' d.files).length D
    rw [hl]
    exact h.map.kept hg (fun e => blk_ne_map hkf.row hm (by simpa using e.symm))
  · refine h.is.congr (fun n => ?_) hl fun n _ => rfl
    by_cases e : n = f'.name
    · subst e
      rw [dFind_put_same h.sorted, hfd]
      rfl
    · rw [dFind_put_other h.sorted e]
  · intro x hx
    rcases mem_dPut.1 hx with rfl | ⟨h1, h2⟩
    · rw [hn, upd_same]; exact hk
    · rw [hn] at h2
      rw [upd_other _ _ h2]; exact hoth x h1 h2
  · intro x hx y hy hne
    rcases mem_dPut.1 hx with rfl | ⟨h1, h2⟩
    · rcases mem_dPut.1 hy with rfl | ⟨h3, h4⟩
      · exact absurd rfl hne
      · rw [hn] at h4 ⊢
        rw [upd_same, upd_other _ _ h4, hob]
        exact h.apart f hf y h3 (fun e => h4 e.symm)
    · rw [hn] at h2
      rcases mem_dPut.1 hy with rfl | ⟨h3, h4⟩
      · rw [hn, upd_same, upd_other _ _ h2, hob]
        exact h.apart x h1 f hf h2
      · rw [hn] at h4
        rw [upd_other _ _ h2, upd_other _ _ h4]
        exact h.apart x h1 y h3 hne
end
theorem put_mid {A post : List DFile} {f f' : DFile} (h1 : ∀ x ∈ A, x.name < f'.name) (h2 : f.name = f'.name) (h3 : ∀ x ∈ post, x.name ≠ f'.name) : dPut f' (A ++ f :: post) = A ++ f' :: post := by
  induction A with
  | nil =>
    show dPut f' (f :: post) = f' :: post
    unfold dPut
    rw [if_neg (by rw [h2]; exact nlt_irrefl _)]
    unfold dDrop
    rw [List.filter_cons_of_neg (by simp [h2])]
    congr 1
    exact dDrop_none h3
  | cons x A ih =>
    show dPut f' (x :: (A ++ f :: post)) = x :: (A ++ f' :: post)
    unfold dPut
    rw [if_pos (h1 x (by simp)), ih fun y hy => h1 y (by simp [hy])]
def keepAt (ks : List Int) (i : Nat) : Int := if 0 < ks.length then ks.getD (i % ks.length) 0 else 0
/-- The first i files have crashed. -/
def crashTo (ks : List Int) (l : List DFile) (i : Nat) : List DFile := ((l.take i).mapIdx fun j f => crashF f (keepAt ks j)) ++ l.drop i
def crashD (d : DDisk) (ks : List Int) : DDisk := ⟨d.room, -1, false, crashTo ks d.files d.files.length⟩
theorem crashTo_zero (ks : List Int) (l : List DFile) : crashTo ks l 0 = l := by simp [crashTo]
theorem crashTo_length (ks : List Int) (l : List DFile) (i : Nat) : (crashTo ks l i).length = l.length := by
  simp [crashTo]
  omega
theorem crashTo_at (ks : List Int) {l : List DFile} {i : Nat} (h : i < l.length) : l[i] ∈ crashTo ks l i := by
  unfold crashTo
  refine List.mem_append.2 (.inr ?_)
  rw [List.drop_eq_getElem_cons h]
  exact List.mem_cons_self
theorem crashTo_succ (ks : List Int) {l : List DFile} (hs : dSorted l) {i : Nat} (h : i < l.length) : crashTo ks l (i + 1) = dPut (crashF l[i] (keepAt ks i)) (crashTo ks l i) := by
  have hp : dSorted (l.take i ++ l[i] :: l.drop (i + 1)) := by rw [← List.drop_eq_getElem_cons h, List.take_append_drop]; exact hs
  obtain ⟨_, h2, h3⟩ := List.pairwise_append.1 hp
  obtain ⟨h4, _⟩ := List.pairwise_cons.1 h2
  have e1 : crashTo ks l i = ((l.take i).mapIdx fun j f => crashF f (keepAt ks j)) ++ l[i] :: l.drop (i + 1) := by
    unfold crashTo
    rw [List.drop_eq_getElem_cons h]
  rw [e1, put_mid (f := l[i]) (f' := crashF l[i] (keepAt ks i)) (fun x hx => ?_) rfl (fun x hx => fun e => nlt_ne (h4 x hx) e.symm)]
  · unfold crashTo
    rw [List.take_succ_eq_append_getElem h, List.mapIdx_append, List.append_assoc]
    congr 1
    simp only [List.mapIdx_cons, List.mapIdx_nil, List.cons_append, List.nil_append, List.length_take, Nat.min_eq_left (Nat.le_of_lt h), Nat.zero_add]
  · obtain ⟨j, hj, rfl⟩ := List.mem_mapIdx.1 hx
    exact h3 _ (List.getElem_mem hj) l[i] List.mem_cons_self
theorem crashTo_names (ks : List Int) (l : List DFile) (i : Nat) : dNames (crashTo ks l i) = dNames l := by
  unfold dNames crashTo
  rw [List.map_append]
  have : ((l.take i).mapIdx fun j f => crashF f (keepAt ks j)).map (·.name) = (l.take i).map (·.name) := by
    apply List.ext_getElem
    · simp
    · intro k h1 h2
      simp [crashF]
  rw [this, ← List.map_append, List.take_append_drop]
/-- The bytes of the files that have crashed. -/
def usedTo (ks : List Int) (l : List DFile) (i : Nat) : Nat := dUsed ((l.take i).mapIdx fun j f => crashF f (keepAt ks j))
theorem dUsed_append (l m : List DFile) : dUsed (l ++ m) = dUsed l + dUsed m := by simp [dUsed]
theorem usedTo_succ (ks : List Int) {l : List DFile} {i : Nat} (h : i < l.length) : usedTo ks l (i + 1) = usedTo ks l i + (crashF l[i] (keepAt ks i)).bytes.length := by
  unfold usedTo
  rw [List.take_succ_eq_append_getElem h, List.mapIdx_append, dUsed_append]
  congr 1
  simp [dUsed, Nat.min_eq_left (Nat.le_of_lt h)]
theorem usedTo_all (ks : List Int) (l : List DFile) : usedTo ks l l.length = dUsed (crashTo ks l l.length) := by
  unfold usedTo crashTo
  simp
theorem dUsed_mem {l : List DFile} {f : DFile} (h : f ∈ l) : f.bytes.length ≤ dUsed l := by
  induction l with
  | nil => cases h
  | cons x r ih =>
    rw [dUsed_cons]
    rcases List.mem_cons.1 h with rfl | h
    · omega
    · have := ih h; omega
theorem usedTo_le (ks : List Int) (l : List DFile) (i : Nat) : usedTo ks l i ≤ dUsed (l.take i) := by
  induction i with
  | zero => simp [usedTo, dUsed]
  | succ i ih =>
    by_cases h : i < l.length
    · rw [usedTo_succ ks h, List.take_succ_eq_append_getElem h, dUsed_append]
      have : (crashF l[i] (keepAt ks i)).bytes.length ≤ l[i].bytes.length := by
        show (List.take _ _).length ≤ _
        rw [List.length_take]
        omega
      simp only [dUsed, List.map_cons, List.map_nil, List.sum_cons, List.sum_nil] at *
      omega
    · have e : l.take (i + 1) = l.take i := by rw [List.take_of_length_le (by omega), List.take_of_length_le (by omega)]
      unfold usedTo at *
      rw [e]
      exact ih
theorem dUsed_take (l : List DFile) (i : Nat) : dUsed (l.take i) ≤ dUsed l := by
  have := dUsed_append (l.take i) (l.drop i)
  rw [List.take_append_drop] at this
  omega
end Go.Proofs.YtlhdnkfnhdkbkaaGreatDoor
