/- A journal is opened. Conditions: the tables lie where the program lays them. -/
import Derived.Test.YtlhdnkfnhdkbkaaGreatDoorJour2
namespace Go.Proofs.YtlhdnkfnhdkbkaaGreatDoor
open Go Go.RowKit
attribute [local go_sem] Oper.semAt_some

/-- A journal in block j: its disk, the number of the segment that takes texts. -/
structure JAt (B j b : Nat) (now : Nat) (w : World) : Prop where
  row : w.heap[j]? = some (.cells #[.pointer (some ⟨b, 0, none⟩), .int .i64 now] 62 (0, 0))
  low : B ≤ j
theorem jr_ne_str : 9 ≠ 62 := by decide
theorem jr_ne_int : 3 ≠ 62 := by decide
theorem jr_plain : 62 ≠ 5 ∧ 62 ≠ 60 ∧ 62 ≠ 71 := by decide
theorem JAt.kept {B j b now : Nat} {w w' : World} (h : JAt B j b now w) (k : Below w.heap.size w w') : JAt B j b now w' := ⟨(k.block j (dHeap_lt h.row)).trans h.row, h.low⟩
theorem JAt.stir {B C j b now : Nat} {w w' : World} (h : JAt B j b now w) (k : Stir C w w') : JAt B j b now w' := ⟨k.keep h.row jr_plain, h.low⟩
theorem JAt.aside {B C j b now e n : Nat} {w w' : World} {v : Value} {xs : List Value} (h : JAt B j b now w) (ho : w.ownsRow C e 1 v n xs) (he : e ≠ 62) (hg : w.grownBy w' v.ownBlock) : JAt B j b now w' :=
  ⟨(hg.block j (dHeap_lt h.row) (fun q => own_ne ho h.row he q.symm)).trans h.row, h.low⟩
theorem JAt.set {B j b now : Nat} {w : World} (h : JAt B j b now w) (m : Nat) (x : Int) (hx : x = m) : JAt B j b m (w.setCell ⟨j, 1, none⟩ (.int .i64 x)) := ⟨by subst hx; exact dHeap_put h.row _, h.low⟩
theorem own_set_aside {w : World} {B C g j e s n b now : Nat} {v u : Value} {xs : List Value} (h : w.ownsRow B e s v n xs) (hg : JAt C g b now w) (he : e ≠ 62) : (w.setCell ⟨g, j, none⟩ u).ownsRow B e s v n xs :=
  World.ownsRow.kept h (row := some g) (setCell_grown w g j u) (by
    cases hv : v.ownBlock with
    | none => exact .inl rfl
    | some k => exact .inr (hv ▸ own_ne h hg.row he))
theorem disk_set_aside {B C b g j bb now : Nat} {d : DDisk} {w : World} {u : Value} (h : DiskAt B b d w) (hg : JAt C g bb now w) : DiskAt B b d (w.setCell ⟨g, j, none⟩ u) := by
  obtain ⟨m, left, D, G, V, h⟩ := h
  obtain ⟨es, c, hm⟩ := mapBlk h.map
  have hgr := setCell_grown w g j u
  refine ⟨m, left, D, G, V, ⟨(hgr.block b (dHeap_lt h.row) (fun e => ?_)).trans h.row, h.fuse, h.map.kept hgr (fun e => ?_), h.is, h.sorted, fun f hf => (h.file f hf).kept hgr (fun e => ?_) ?_, h.apart, h.low, h.room, h.left_⟩⟩
  · obtain rfl : b = g := by simpa using e
    exact blk_ne hg.row h.row jr_plain.2.1 rfl
  · obtain rfl : m = g := by simpa using e
    exact blk_ne_map hg.row hm rfl
  · have e2 : G f.name = g := by simpa using e
    exact blk_ne hg.row (h.file f hf).row jr_plain.2.2 e2.symm
  · exact .inr (own_ne (h.file f hf).own hg.row jr_plain.1.symm)
theorem stir_set {B g j b now : Nat} {w : World} {u : Value} (hg : JAt B g b now w) : Below B w (w.setCell ⟨g, j, none⟩ u) :=
  Below.setCell (p := ⟨g, j, none⟩) (Below.refl _ _) hg.low u

/-- The number behind the last one. -/
def nowOf (ns : List Nat) : Nat := match ns.getLast? with | some n => n + 1 | none => 0
theorem nowOf_put (ns : List Nat) (n : Nat) : nowOf (ns ++ [n]) = n + 1 := by unfold nowOf; rw [List.getLast?_append]; rfl
def textsOf (d : DDisk) (ns : List Nat) : List (List UInt8) := (ns.map fun n => (allR (rdB d (nm n))).1).flatten
theorem textsOf_put (d : DDisk) (ns : List Nat) (n : Nat) : textsOf d (ns ++ [n]) = textsOf d ns ++ (allR (rdB d (nm n))).1 := by unfold textsOf; rw [List.map_append, List.flatten_append]; simp
theorem textsOf_take (d : DDisk) (ns : List Nat) (i : Nat) (h : i < ns.length) : textsOf d (ns.take (i + 1)) = textsOf d (ns.take i) ++ (allR (rdB d (nm (ns.getD i 0)))).1 ∧ nowOf (ns.take (i + 1)) = ns.getD i 0 + 1 := by
  have e : ns.take (i + 1) = ns.take i ++ [ns.getD i 0] := by
    rw [List.take_add_one, List.getElem?_eq_getElem h, List.getD_eq_getElem?_getD, List.getElem?_eq_getElem h]; rfl
  rw [e, textsOf_put, nowOf_put]
  exact ⟨rfl, rfl⟩
theorem textsOf_le (d : DDisk) (ns : List Nat) (i : Nat) : (textsOf d (ns.take i)).length ≤ (textsOf d ns).length := by
  have : textsOf d ns = textsOf d (ns.take i) ++ textsOf d (ns.drop i) := by
    unfold textsOf
    rw [← List.flatten_append, ← List.map_append, List.take_append_drop]
  rw [this, List.length_append]
  omega
theorem texts_one_le (d : DDisk) (ns : List Nat) (i : Nat) (h : i < ns.length) : ((allR (rdB d (nm (ns.getD i 0)))).1).length ≤ (textsOf d ns).length := by
  have h1 := textsOf_le d ns (i + 1)
  rw [(textsOf_take d ns i h).1, List.length_append] at h1
  omega
set_option maxRecDepth 100000 in
set_option maxHeartbeats 2000000 in
theorem jOpen_any (B b : Nat) (d : DDisk) (ns : List Nat) (w : World) (h0 : DiskAt B b d w) (hd : d.dead = false) (hn : dNames d.files = ns.map nm) (hns : ∀ n ∈ ns, n < 100) (hl : ns.length ≤ 100)
    (hr : ∀ n ∈ ns, (rdB d (nm n)).length ≤ 1000000) (hm : (textsOf d ns).length ≤ 1000000) (ht : Tabs w) :
    Calls Tryz.prog 10 #[.pointer (some ⟨b, 0, none⟩), .int .i64 0] w fun e w' => ∃ j v, e = .returned (.tuple #[.pointer (some ⟨j, 0, none⟩), v, .int .i64 0]) ∧ JAt w.heap.size j b (nowOf ns) w' ∧ OwnStrs w' w.heap.size v (textsOf d ns) ∧ Below w.heap.size w w' := by
  have hfl : d.files.length ≤ 100 := by
    have : (dNames d.files).length = (ns.map nm).length := by rw [hn]
    unfold dNames at this
    rw [List.length_map, List.length_map] at this
    omega
  have hnl : ∀ f ∈ d.files, f.name.length ≤ 281474976710656 := by
    intro f hf
    have : f.name ∈ dNames d.files := List.mem_map.2 ⟨f, hf, rfl⟩
    rw [hn] at this
    obtain ⟨x, _, e⟩ := List.mem_map.1 this
    rw [← e, nm_length]
    decide
  have hlist : listL d = ns.map nm := by unfold listL; rw [if_neg (by rw [hd]; decide), hn]
  have HDD := Lib.hid (dDead_any B b d w h0)
  rw [hd] at HDD
  obtain ⟨C, hC⟩ : ∃ C, w.heap.size = C := ⟨_, rfl⟩
  have HC := Lib.hid hC
  have HSG : Hid (∀ w, DiskAt B b d w → Calls Tryz.prog 28 #[.pointer (some ⟨b, 0, none⟩)] w fun e w' => ∃ v, e = .returned v ∧ OwnInts w' w.heap.size v (numsI ns) ∧ Below w.heap.size w w') := Lib.hid fun w h => jSegments_any B b d ns w h hlist hns hl hfl hnl
  have HRD : Hid (∀ i, i < ns.length → ∀ w, DiskAt B b d w → Tabs w → Calls Tryz.prog 29 #[.pointer (some ⟨b, 0, none⟩), .int .i64 ((ns.getD i 0 : Nat) : Int)] w fun e w' => ∃ v, e = .returned v ∧ OwnStrs w' w.heap.size v (allR (rdB d (nm (ns.getD i 0)))).1 ∧ Below w.heap.size w w') := Lib.hid fun i hi w h k => by
    have hmem : ns.getD i 0 ∈ ns := by
      rw [List.getD_eq_getElem?_getD, List.getElem?_eq_getElem hi]
      exact List.getElem_mem _
    exact jread_any B b d _ w h (hns _ hmem) (hr _ hmem) k
  have HST : Hid (∀ i, i < ns.length → (textsOf d (ns.take (i + 1)) = textsOf d (ns.take i) ++ (allR (rdB d (nm (ns.getD i 0)))).1 ∧ nowOf (ns.take (i + 1)) = ns.getD i 0 + 1) ∧ (textsOf d (ns.take i)).length ≤ 1000000 ∧ ((allR (rdB d (nm (ns.getD i 0)))).1).length ≤ 1000000 ∧ ns.getD i 0 < 100) := Lib.hid fun i hi => ⟨textsOf_take d ns i hi, Nat.le_trans (textsOf_le d ns i) hm, Nat.le_trans (texts_one_le d ns i hi) hm, by
    rw [List.getD_eq_getElem?_getD, List.getElem?_eq_getElem hi]
    exact hns _ (List.getElem_mem _)⟩
  obtain ⟨n, hnn⟩ : ∃ n, ns.length = n := ⟨_, rfl⟩
  have HNN := Lib.hid hnn
  have HNL := Lib.hid (numsI_len ns)
  have HGET : Hid (∀ i, i < n → (intCells (numsI ns))[i]? = some (.int .i64 ((ns.getD i 0 : Nat) : Int))) := Lib.hid fun i hi => by
    unfold intCells numsI
    rw [List.getElem?_map, List.getElem?_map, List.getElem?_eq_getElem (by rw [hnn]; exact hi), List.getD_eq_getElem?_getD, List.getElem?_eq_getElem (by rw [hnn]; exact hi)]
    rfl
  have HT := Lib.hid ht
  have HDK := Lib.hid h0
  rw [hnn] at hl HST HRD HNL
  have hli : (n : Int) ≤ 100 := by omega
  clear h0 hd hn hns hr hm ht hfl hnl hlist hnn
  rw [hC]
  have a0 : Below w.heap.size w (w.alloc (.cells #[.pointer (some ⟨b, 0, none⟩), .int .i64 0] 62)) := (Below.refl _ _).alloc (Nat.le_refl _) _
  have j0 : JAt C C b 0 (w.alloc (.cells #[.pointer (some ⟨b, 0, none⟩), .int .i64 0] 62)) := ⟨by rw [← hC]; exact heap_alloc_new w _, Nat.le_refl _⟩
  rw [hC] at a0
  have z0 : C ≤ (w.alloc (.cells #[.pointer (some ⟨b, 0, none⟩), .int .i64 0] 62)).heap.size := by rw [World.size_alloc, hC]; exact Nat.le_succ _
  have DK0 := Lib.hid (HDK.out.kept ((Below.refl _ _).alloc (Nat.le_refl _) (.cells #[.pointer (some ⟨b, 0, none⟩), .int .i64 0] 62)))
  go_enter Tryz.func10, Tryz.ntmps10
  go_wp2_with fail
  refine HDD.out.mono ?_
  rintro e w1 ⟨rfl, rfl⟩
  clear HDD
  go_wp2_with fail
  generalize (w1.alloc (.cells #[.pointer (some ⟨b, 0, none⟩), .int .i64 0] 62)) = W1 at *
  have HS1 := Lib.hid (HSG.out _ DK0.out)
  clear HSG hC
  refine HS1.out.mono ?_
  rintro e w2 ⟨v, rfl, ov, b2⟩
  obtain ⟨ao, cap, hv⟩ := own_shape ov
  rw [HNL.out] at hv
  subst hv
  have ov2 := own_base ov z0
  have j2 := j0.kept b2
  have b3 := below_past a0 b2 z0
  have z2 : C ≤ w2.heap.size := Nat.le_trans z0 b2.size
  have ot : OwnStrs w2 C (.slice none 0 0) (textsOf d (ns.take 0)) := World.ownsRow_nil _ _ _ _
  clear HS1 ov b2 a0 z0 j0 DK0
  go_wp2_with fail
  go_loopw [8, 26] (fun u x wr => ∃ i : Nat, i ≤ n ∧ x = .int .i64 i ∧ OwnStrs wr C u (textsOf d (ns.take i)) ∧ wr.ownsRow C 3 1 (.slice ao n cap) (numsI ns).length (intCells (numsI ns)) ∧ JAt C C b (nowOf (ns.take i)) wr ∧ C ≤ wr.heap.size ∧ Below C w1 wr) (fun _ x _ => (n - intOf x).toNat)
  case atStart => exact ⟨0, Nat.zero_le _, rfl, ot, ov2, j2, z2, b3⟩
  case round =>
    obtain ⟨i, hi, rfl, os, oi, ja, zr, bb⟩ := hrel
    clear ot ov2 j2 b3 z2
    by_cases hlt : i < n
    · have hlt' : (i : Int) < n := by omega
      have o2 := oi
      rw [HNL.out] at o2
      obtain ⟨g, rfl, k1, k2⟩ := own_cell o2 i hlt
      rw [HGET.out i hlt] at k1
      obtain ⟨⟨s1, s2⟩, s3, s4, s5⟩ := HST.out i hlt
      have HR1 := Lib.hid (HRD.out i hlt wr (HDK.out.kept (by rw [HC.out]; exact bb)) (HT.out.below (by rw [HC.out]; exact bb)))
      have S1 := Lib.hid s1
      have S2 := Lib.hid s2
      have S3 := Lib.hid s3
      have S4 := Lib.hid s4
      generalize (allR (rdB d (nm (ns.getD i 0)))).1 = T at *
      generalize textsOf d (ns.take i) = L at *
      generalize nowOf (ns.take i) = q at *
      generalize ns.getD i 0 = t at *
      have ht1 : (t : Int) < 100 := by omega
      have ht0 : decide ((t : Int) < 0) = false := decide_eq_false (by omega)
      have OS := Lib.hid os
      have OI := Lib.hid oi
      have JA := Lib.hid ja
      have hb1 : i + 1 ≤ n := hlt
      clear os oi o2 ja s1 s2 s3 s4 s5
      go_wp2_with fail
      refine HR1.out.mono ?_
      rintro e w3 ⟨uv, rfl, ou, b3⟩
      have os3 := OS.out.below b3
      have OI3 := Lib.hid (OwnInts.below (ts := numsI ns) OI.out b3)
      have JA3 := Lib.hid (JA.out.kept b3)
      have b4 := below_past bb b3 zr
      have z3 : C ≤ w3.heap.size := Nat.le_trans zr b3.size
      clear HR1 OS OI JA b3 bb k1 k2 zr
      go_wp2_with (at_builtin; refine wpList_put_rows rfl _ _ rfl C _ u8 uv L T rfl os3 rfl ou z3 S3.out S4.out ?_)
      intro v' w4 o4 g4
      have ja4 := JA3.out.aside os3 jr_ne_str g4
      have oi4 : w4.ownsRow C 3 1 (.slice (some ⟨g, 0, none⟩) n cap) (numsI ns).length (intCells (numsI ns)) := own_other OI3.out os3 (by decide) g4
      have b5 := b4.grown g4 z3 (fun k hk => (World.ownsRow.lt os3 k hk).1)
      have z4 := Nat.le_trans z3 g4.size
      rw [← S1.out] at o4
      have c1 : w4.cell? ⟨C, 1, none⟩ = some (.int .i64 q) := (Lib.cell_of_heap ja4.row 1).trans rfl
      have f1 := Lib.frozen_of_heap ja4.row 1
      have ja5 := ja4.set (nowOf (ns.take (i + 1))) ((t : Int) + 1) (by rw [S2.out]; rfl)
      have o5 : OwnStrs (w4.setCell ⟨C, 1, none⟩ (.int .i64 ((t : Int) + 1))) C v' _ := own_set_aside (j := 1) (u := .int .i64 (t + 1 : Nat)) o4 ja4 jr_ne_str
      have oi5 := own_set_aside (j := 1) (u := .int .i64 (t + 1 : Nat)) oi4 ja4 jr_ne_int
      have b6 := Below.setCell (p := ⟨C, 1, none⟩) b5 (Nat.le_refl C) (.int .i64 ((t : Int) + 1))
      have z5 : C ≤ (w4.setCell ⟨C, 1, none⟩ (.int .i64 ((t : Int) + 1))).heap.size := by simpa [World.setCell] using z4
      have JA5 := Lib.hid ja5
      have O5 := Lib.hid o5
      have OI5 := Lib.hid oi5
      clear os3 ou JA3 OI3 b4 z3 o4 g4 ja4 oi4 b5 ja5 o5 oi5 z4
      go_wp2_with fail
      exact ⟨⟨i + 1, hb1, by go_num, O5.out, OI5.out, JA5.out, z5, b6⟩, by simp [intOf]; omega⟩
    · have hlt' : decide ((i : Int) < n) = false := decide_eq_false (by omega)
      have hlt2 : decide (i < n) = false := decide_eq_false hlt
      obtain rfl : i = n := by omega
      rw [List.take_of_length_le (Nat.le_of_eq HNN.out)] at os ja
      have OS := Lib.hid os
      have JA := Lib.hid ja
      clear os oi ja
      go_wp2_with fail
      go_ret3
      exact ⟨C, _, rfl, JA.out, OS.out, bb⟩
end Go.Proofs.YtlhdnkfnhdkbkaaGreatDoor
