/- Append: bytes go behind a file's, which is made if there is none. Conditions: none. -/
import Derived.Test.YtlhdnkfnhdkbkaaGreatDoorDisk3
import Derived.Maps.OwnSet
import Derived.Test.YtlhdnkfnhdkbkaaGreatDoorWild
namespace Go.Proofs.YtlhdnkfnhdkbkaaGreatDoor
open Go Go.RowKit Go.Maps
attribute [local go_sem] Oper.semAt_some

def dGood (n : List UInt8) : Prop := 0 < n.length ∧ n.length ≤ 100
instance (n : List UInt8) : Decidable (dGood n) := by unfold dGood; infer_instance
def dBytes (l : List DFile) (n : List UInt8) : List UInt8 := match dFind l n with | some f => f.bytes | none => []
def dSure (l : List DFile) (n : List UInt8) : Nat := match dFind l n with | some f => f.sure | none => 0
/-- Why Append isn't done; 0: it is. -/
def aBad (d : DDisk) (n s : List UInt8) : Int :=
  if d.dead then 10 else if ¬ dGood n then 1 else if (s.length : Int) > d.room - dUsed d.files then 9 else if dFind d.files n = none ∧ 4096 ≤ d.files.length then 9 else 0
def aPut (d : DDisk) (n s : List UInt8) : DDisk := { d with files := dPut ⟨n, dBytes d.files n ++ s, dSure d.files n⟩ d.files }
def aE (d : DDisk) (n s : List UInt8) : Int := if aBad d n s = 0 then deedE d else aBad d n s
def aD (d : DDisk) (n s : List UInt8) : DDisk := if aBad d n s = 0 then deedD (aPut d n s) else d
theorem info_u8 : ∃ i : TypeInfo, Tryz.prog.info? 5 = some i ∧ i.zero = some (.int .u8 0) ∧ i.size = 1 ∧ i.bytes = 1 := by
  have h : (Tryz.prog.info? 5).map (fun i => (i.zero, i.size, i.bytes)) = some (some (.int .u8 0), 1, 1) := by kernel_rfl
  cases hq : Tryz.prog.info? 5 with
  | none => rw [hq] at h; cases h
  | some i =>
    rw [hq] at h
    simp only [Option.map_some, Option.some.injEq, Prod.mk.injEq] at h
    exact ⟨i, rfl, h.1, h.2.1, h.2.2⟩
theorem dFind_len {l : List DFile} {n : List UInt8} {f : DFile} (h : dFind l n = some f) : f.bytes.length ≤ dUsed l := by
  obtain ⟨h1, rfl⟩ := dFind_some h
  induction l with
  | nil => cases h1
  | cons x r ih =>
    rw [dUsed_cons]
    rcases List.mem_cons.1 h1 with rfl | h2
    · omega
    · have h3 : dFind r f.name = dFind r f.name := rfl
      by_cases e : x.name = f.name
      · have : dFind (x :: r) f.name = some x := by unfold dFind; rw [List.find?_cons]; simp [e]
        rw [this] at h
        obtain rfl : x = f := by simpa using h
        omega
      · have : dFind (x :: r) f.name = dFind r f.name := by unfold dFind; rw [List.find?_cons]; simp [e]
        rw [this] at h
        have := ih h2 h
        omega
theorem dUsed_aPut (d : DDisk) (n s : List UInt8) (hs : dSorted d.files) : dUsed (aPut d n s).files = dUsed d.files + s.length := by
  have h1 := dUsed_put (f := ⟨n, dBytes d.files n ++ s, dSure d.files n⟩) hs
  have h2 : dLen d.files n = (dBytes d.files n).length := by unfold dLen dBytes; cases dFind d.files n <;> rfl
  simp only [List.length_append] at h1
  show dUsed (dPut ⟨n, dBytes d.files n ++ s, dSure d.files n⟩ d.files) = _
  omega

theorem own_shape {w : World} {B e s n : Nat} {v : Value} {xs : List Value} (h : w.ownsRow B e s v n xs) : ∃ ao cap, v = .slice ao n cap := by
  rcases h.2 with ⟨h1, h2⟩ | ⟨g, cap, cur, h1, _⟩
  · exact ⟨none, 0, by rw [h1, h2]⟩
  · exact ⟨_, _, h1⟩
set_option maxRecDepth 100000 in
set_option maxHeartbeats 1000000 in
theorem dAppend_old (B b : Nat) (d : DDisk) (n s : ByteArray) (w : World) (f : DFile) (h0 : DiskAt B b d w) (hn : n.size ≤ 9223372036854775807) (hu : dUsed d.files + s.size ≤ 1000000000000) (hf : dFind d.files n.data.toList = some f) (hb : aBad d n.data.toList s.data.toList = 0) :
    Calls Tryz.prog 31 #[.pointer (some ⟨b, 0, none⟩), .string n, .string s] w fun e w' => e = .returned (.int .i64 (deedE d)) ∧ DiskAt B b (deedD (aPut d n.data.toList s.data.toList)) w' ∧ Stir B w w' := by
  obtain ⟨m, left, D, G, V, h⟩ := h0
  have c0 : w.cell? ⟨b, 0, none⟩ = some (.map (some m)) := (Lib.cell_of_heap h.row 0).trans rfl
  have c1 : w.cell? ⟨b, 1, none⟩ = some (.int .i64 d.room) := (Lib.cell_of_heap h.row 1).trans rfl
  have c2 : w.cell? ⟨b, 2, none⟩ = some (.int .i64 (dUsed d.files)) := (Lib.cell_of_heap h.row 2).trans rfl
  have c4 : w.cell? ⟨b, 4, none⟩ = some (.bool d.dead) := (Lib.cell_of_heap h.row 4).trans rfl
  have hl := look_file h.map h.is n hn
  unfold dPtrV at hl
  rw [hf] at hl
  simp only at hl
  unfold aBad at hb
  have hd : d.dead = false := by
    cases hq : d.dead with
    | false => rfl
    | true => rw [hq] at hb; simp at hb
  rw [hd] at hb c4
  simp only [Bool.false_eq_true, if_false] at hb
  have hg : dGood n.data.toList := by
    by_cases hq : dGood n.data.toList
    · exact hq
    · rw [if_pos hq] at hb; cases hb
  rw [if_neg (fun q => q hg)] at hb
  have hroom : ¬ (s.data.toList.length : Int) > d.room - dUsed d.files := by
    intro hq
    rw [if_pos hq] at hb
    cases hb
  have hN := Lib.hid (dnamed_any n w hn)
  rw [show decide (0 < n.size ∧ n.size ≤ 100) = true from decide_eq_true hg] at hN
  have hsz : s.data.toList.length = s.size := rfl
  have hr1 := h.room.1
  have hr2 := h.room.2
  have q1 : decide (d.room - (dUsed d.files : Int) < (s.size : Int)) = false := decide_eq_false (by omega)
  have hui : (dUsed d.files : Int) + (s.size : Int) ≤ 1000000000000 := by omega
  have hui0 : (0 : Int) ≤ (dUsed d.files : Int) := by omega
  have hfl := dFind_len hf
  obtain ⟨hm, hfn⟩ := dFind_some hf
  have hk := h.file f hm
  rw [hfn] at hk
  have e0 := (Lib.cell_of_heap hk.row 0).trans rfl
  obtain ⟨ao, cap, hv⟩ : ∃ ao cap, V n.data.toList = .slice ao f.bytes.length cap := by
    rcases hk.own.2 with ⟨hv, h0⟩ | ⟨g, cap, cur, hv, _⟩
    · exact ⟨none, 0, by rw [hv, h0]⟩
    · exact ⟨_, _, hv⟩
  have hA : ∀ W v' w2, DiskIs B b m left D G V d W → w2.ownsRow B 5 1 v' (f.bytes ++ s.data.toList).length (Lib.byteCells (f.bytes ++ s.data.toList)) → W.grownBy w2 (V n.data.toList).ownBlock → (v'.ownBlock = (V n.data.toList).ownBlock ∨ v'.ownBlock = some W.heap.size) → DiskIs B b m left D G (upd V n.data.toList v') (aPut d n.data.toList s.data.toList) ((w2.setCell ⟨G n.data.toList, 0, none⟩ v').setCell ⟨b, 2, none⟩ (.int .i64 ((dUsed d.files : Int) + s.size))) ∧ Stir B W ((w2.setCell ⟨G n.data.toList, 0, none⟩ v').setCell ⟨b, 2, none⟩ (.int .i64 ((dUsed d.files : Int) + s.size))) ∧
    (w2.setCell ⟨G n.data.toList, 0, none⟩ v').heap[b]? = some (.cells #[.map (some m), .int .i64 d.room, .int .i64 (dUsed d.files), .int .i64 left, .bool d.dead] 60 (0, 0)) ∧
    w2.heap[G n.data.toList]? = some (.cells #[V n.data.toList, .int .i64 f.sure] 71 (0, 0)) := fun W v' w2 h0 h1 h2 h3 => by
      have := h0.appended hf s.data.toList h1 h2 h3 ((dUsed d.files : Int) + s.size) rfl
      have e1 : aPut d n.data.toList s.data.toList = { d with files := dPut ⟨n.data.toList, f.bytes ++ s.data.toList, f.sure⟩ d.files } := by
        unfold aPut dBytes dSure
        rw [hf]
      rw [e1]
      exact this
  have hL : (f.bytes ++ s.data.toList).length = f.bytes.length + s.size := by rw [List.length_append]; rfl
  have hC : Lib.byteCells f.bytes ++ Lib.strCells s = Lib.byteCells (f.bytes ++ s.data.toList) := by simp [Lib.strCells, Lib.byteCells]
  have hDE : deedE (aPut d n.data.toList s.data.toList) = deedE d := rfl
  have hDD : (aPut d n.data.toList s.data.toList).dead = false := hd
  have h2 := h.kept (w' := w.drew) ((Below.refl _ _).drew)
  have hown : w.drew.ownsRow _ _ _ _ _ _ := (by have := (h2.file f hm).own; rwa [hfn] at this)
  obtain ⟨i0, hi, hz0, hz1, hz2⟩ := info_u8
  have hB : B ≤ w.drew.heap.size := h2.bB
  have HA := fun v' w2 h1 h3 h4 => Lib.hid (hA _ v' w2 h2 h1 h3 h4)
  have hS : Stir B w w.drew := Below.stir ((Below.refl _ _).drew) h.bB
  rw [hv] at hown HA e0
  rw [← hDE]
  rw [← hC, hL] at HA
  generalize aPut d n.data.toList s.data.toList = d' at *
  generalize hg2 : G n.data.toList = g at *
  generalize dUsed d.files = used at *
  obtain ⟨fl, hfl2⟩ : ∃ fl, f.bytes.length = fl := ⟨_, rfl⟩
  rw [hfl2] at hown HA e0 hfl
  have hlen1 : fl + s.size ≤ maxLen := by unfold maxLen; omega
  have hlen2 : fl + s.size ≤ 140737488355328 := by omega
  clear hb hg hroom hsz hk hf hm hfn h hDE h2 hA hC hL
  go_enter Tryz.func31, Tryz.ntmps31
  go_wp2_with fail
  refine hN.out.mono ?_
  rintro e w1 ⟨rfl, rfl⟩
  go_wp2_with fail
  go_region
  go_wp2_with (at_builtin; refine wpList_app_at _ rfl _ _ 51 9 rfl B 5 i0 Tryz.underlying51 Tryz.underlying9 hi hz0 hz1 hz2 _ _ _ rfl hown s rfl hlen1 hlen2 hB ?_)
  intro v' w2 o1 g1 at1
  obtain ⟨ao2, cap2, rfl⟩ := own_shape o1
  have HH := HA _ w2 o1 g1 at1
  have hg3 := HH.out.2.2.2
  have hb3 := HH.out.2.2.1
  have d0 := (Lib.cell_of_heap hg3 0).trans (rfl : _ = some (Value.slice ao fl cap))
  have df := Lib.frozen_of_heap hg3 0
  have k2 : (w2.setCell ⟨g, 0, none⟩ (.slice ao2 (fl + s.size) cap2)).cell? ⟨b, 2, none⟩ = some (.int .i64 used) := (Lib.cell_of_heap hb3 2).trans rfl
  have kf := Lib.frozen_of_heap hb3 2
  have HD := Lib.hid (ddeed_is B b m left D G _ d' _ HH.out.1 hDD)
  have HS := Lib.hid (hS.trans HH.out.2.1)
  clear c0 c1 c2 c4 e0 hl hN hown o1 g1 at1 HA hg3 hb3
  go_wp2_with fail
  refine HD.out.mono ?_
  rintro e w4 ⟨rfl, ⟨left', i4⟩, s4⟩
  go_wp2_with fail
  go_ret
  exact ⟨rfl, ⟨_, _, _, _, _, i4⟩, HS.out.trans s4⟩
theorem len_map {w : World} {m n : Nat} {D : DW} (h : w.ownsMap Tryz.prog 9 ptrElem m n D) (hn : size D = n) (ty : TypeId) : (Builtin.len_ #[58] ty #[.map (some m)]).run Tryz.prog w = .ok (.int .i64 n) w := by
  rw [← hn]
  exact h.len Tryz.underlying58 ty
set_option maxRecDepth 100000 in
set_option maxHeartbeats 1000000 in
theorem dAppend_new (B b : Nat) (d : DDisk) (n s : ByteArray) (w : World) (h0 : DiskAt B b d w) (hn : n.size ≤ 9223372036854775807) (hu : dUsed d.files + s.size ≤ 1000000000000) (hf : dFind d.files n.data.toList = none) (hb : aBad d n.data.toList s.data.toList = 0) :
    Calls Tryz.prog 31 #[.pointer (some ⟨b, 0, none⟩), .string n, .string s] w fun e w' => e = .returned (.int .i64 (deedE d)) ∧ DiskAt B b (deedD (aPut d n.data.toList s.data.toList)) w' ∧ Stir B w w' := by
  obtain ⟨m, left, D, G, V, h⟩ := h0
  have c0 : w.cell? ⟨b, 0, none⟩ = some (.map (some m)) := (Lib.cell_of_heap h.row 0).trans rfl
  have c1 : w.cell? ⟨b, 1, none⟩ = some (.int .i64 d.room) := (Lib.cell_of_heap h.row 1).trans rfl
  have c2 : w.cell? ⟨b, 2, none⟩ = some (.int .i64 (dUsed d.files)) := (Lib.cell_of_heap h.row 2).trans rfl
  have c4 : w.cell? ⟨b, 4, none⟩ = some (.bool d.dead) := (Lib.cell_of_heap h.row 4).trans rfl
  have hl := look_file h.map h.is n hn
  unfold dPtrV at hl
  rw [hf] at hl
  simp only at hl
  unfold aBad at hb
  have hd : d.dead = false := by
    cases hq : d.dead with
    | false => rfl
    | true => rw [hq] at hb; simp at hb
  rw [hd] at hb c4
  simp only [Bool.false_eq_true, if_false] at hb
  have hg : dGood n.data.toList := by
    by_cases hq : dGood n.data.toList
    · exact hq
    · rw [if_pos hq] at hb; cases hb
  rw [if_neg (fun q => q hg)] at hb
  have hroom : ¬ (s.data.toList.length : Int) > d.room - dUsed d.files := by
    intro hq
    rw [if_pos hq] at hb
    cases hb
  have hN := Lib.hid (dnamed_any n w hn)
  rw [show decide (0 < n.size ∧ n.size ≤ 100) = true from decide_eq_true hg] at hN
  have hsz : s.data.toList.length = s.size := rfl
  have hr1 := h.room.1
  have hr2 := h.room.2
  have q1 : decide (d.room - (dUsed d.files : Int) < (s.size : Int)) = false := decide_eq_false (by omega)
  have hui : (dUsed d.files : Int) + (s.size : Int) ≤ 1000000000000 := by omega
  have hui0 : (0 : Int) ≤ (dUsed d.files : Int) := by omega
  rw [if_neg hroom] at hb
  have hcount : ¬ 4096 ≤ d.files.length := fun q => by
    rw [if_pos ⟨hf, q⟩] at hb
    cases hb
  have q2 : decide (4096 ≤ d.files.length) = false := decide_eq_false hcount
  have q2i : decide ((4096 : Int) ≤ d.files.length) = false := decide_eq_false (by omega)
  have hln := len_map (h.kept (w' := w.drew) ((Below.refl _ _).drew)).map h.is.size_
  obtain ⟨i0, hi, hz0, hz1, hz2⟩ := info_u8
  have b3 : Below w.heap.size w (w.alloc (.cells #[.slice none 0 0, .int .i64 0] 71)).drew := ((Below.refl _ _).alloc (Nat.le_refl _) _).drew
  have x3 : (w.alloc (.cells #[.slice none 0 0, .int .i64 0] 71)).drew.heap[w.heap.size]? = some (.cells #[.slice none 0 0, .int .i64 0] 71 (0, 0)) := heap_alloc_new w _
  have h3 := h.kept b3
  have HB := Lib.hid h.bB
  have HFR : Hid (∀ f ∈ d.files, G f.name ≠ w.heap.size) := Lib.hid fun f hf e => by
    have := dHeap_lt (h.file f hf).row
    omega
  have HS0 := Lib.hid (Below.stir b3 h.bB)
  have HN100 : Hid (n.size ≤ 281474976710656) := Lib.hid (by have := hg.2; have e : n.data.toList.length = n.size := rfl; omega)
  have HF := Lib.hid hf
  have hPA : aPut d n.data.toList s.data.toList = { d with files := dPut ⟨n.data.toList, s.data.toList, 0⟩ d.files } := by
    unfold aPut dBytes dSure
    rw [hf]
    rfl
  have HPA := Lib.hid hPA
  have HDE : Hid (deedE (aPut d n.data.toList s.data.toList) = deedE d) := Lib.hid rfl
  have HDD : Hid ((aPut d n.data.toList s.data.toList).dead = false) := Lib.hid hd
  have hsl : s.data.toList.length = s.size := rfl
  have hlen1 : 0 + s.size ≤ maxLen := by unfold maxLen; omega
  have hlen2 : 0 + s.size ≤ 140737488355328 := by omega
  have hdl4 : d.files.length < maxLen := by unfold maxLen; omega
  have HDL := Lib.hid hdl4
  generalize hdl : d.files.length = dl at *
  have HDLE := Lib.hid hdl
  generalize hus : dUsed d.files = used at *
  have HUS := Lib.hid hus
  clear hb hg hroom hsz h hf hcount hPA hdl hus
  go_enter Tryz.func31, Tryz.ntmps31
  go_wp2_with fail
  refine hN.out.mono ?_
  rintro e w1 ⟨rfl, rfl⟩
  go_wp2_with fail
  go_region
  go_wp2_with fail
  generalize (w1.alloc (.cells #[.slice none 0 0, .int .i64 0] 71)).drew = W3 at *
  generalize hg : w1.heap.size = g at *
  have HG := Lib.hid hg
  have cx : ∀ y : Past W3, y.w.cell? ⟨b, 0, none⟩ = some (.map (some m)) := fun y => (Lib.cell_of_heap ((y.h.block b (dHeap_lt h3.row)).trans h3.row) 0).trans rfl
  have HCL : ∀ W, Hid (Calls Tryz.prog 48 #[.string n] W fun r w' => r = .returned (.string n) ∧ Below W.heap.size W w') := fun W => Lib.hid (sClone_any n W HN100.out)
  clear c0 c1 c2 c4 hl hN hln q1 q2 q2i hg
  refine wp_region_wildL [] 7 (by kernel_rfl) (by kernel_rfl) ?_
  simp only [List.take_succ_cons, List.take_zero]
  iterate 5 (refine wildL_val (by decide) (by kernel_rfl) rfl ?_; intro K hK; go_big_quiet_op; go_big_quiet_on)
  refine wildL_call (by decide) (by kernel_rfl) (by kernel_rfl) ?_
  apply Exists.intro
  refine And.intro ?_ ?_
  focus
    intro x K hK
    go_big_quiet_op
    go_big_quiet_call (exact call_back (HCL _).out)
    rfl
  iterate 1 (refine wildL_val (by decide) (by kernel_rfl) rfl ?_; intro K hK; go_big_quiet_op; go_big_quiet_on)
  refine wildL_nil ?_
  simp only [List.drop_succ_cons, List.drop_zero]
  rintro ⟨z, hz⟩
  change wpList _ _ _ _ _ z
  have h4 := h3.kept hz
  have x4 := (hz.block _ (dHeap_lt x3)).trans x3
  have HSz : Hid (Stir B w1 z) := Lib.hid (HS0.out.trans (Below.stir hz (Nat.le_trans HB.out (Nat.le_of_lt (dHeap_lt x3)))))
  have m4 := h4.map
  rw [HDLE.out] at m4
  clear cx HCL hz x3 h3 HS0
  go_wp2_with (at_mapUpdate; refine wpList_mapUpdate_own _ rfl _ _ _ 58 rfl 9 69 dLaw Tryz.underlying58 ptrElem m dl D rfl m4 HDL.out _ _ _ rfl rfl (key_str n hn) (dPtr g) [] rfl ?_)
  intro wm hm gm
  have x5 := (gm.block _ (dHeap_lt x4) (fun e => by
    obtain ⟨es, c, hq⟩ := h4.mapB
    exact blk_ne_map x4 hq (by simpa using e))).trans x4
  have d0 : wm.cell? ⟨g, 0, none⟩ = some (.slice none 0 0) := (Lib.cell_of_heap x5 0).trans rfl
  have hB5 : B ≤ wm.heap.size := Nat.le_trans h4.bB gm.size
  have H4 := Lib.hid h4
  have X4 := Lib.hid x4
  have HM := Lib.hid hm
  have GM := Lib.hid gm
  clear h4 x4 m4 hm gm b3
  go_wp2_with (at_builtin; refine wpList_app_at _ rfl _ _ 51 9 rfl B 5 i0 Tryz.underlying51 Tryz.underlying9 hi hz0 hz1 hz2 _ _ _ rfl (World.ownsRow_nil wm B 5 1) s rfl hlen1 hlen2 hB5 ?_)
  intro v' wa o1 g1 at1
  rw [show Lib.strCells s = Lib.byteCells s.data.toList by simp [Lib.strCells, Lib.byteCells]] at o1
  obtain ⟨ao2, cap2, rfl⟩ := own_shape o1
  have HH := Lib.hid (H4.out.added HF.out (Nat.le_trans HB.out (Nat.le_refl _)) X4.out HFR.out HM.out GM.out s.data.toList o1 g1 (by simpa [Value.ownBlock] using at1) ((used : Int) + s.size) (by rw [HUS.out]; rfl))
  have hg3 := HH.out.2.2.2
  have hb3 := HH.out.2.2.1
  rw [HUS.out] at hb3
  have e0 := (Lib.cell_of_heap hg3 0).trans (rfl : _ = some (Value.slice none 0 0))
  have df := Lib.frozen_of_heap hg3 0
  have k2 : (wa.setCell ⟨g, 0, none⟩ (.slice ao2 s.size cap2)).cell? ⟨b, 2, none⟩ = some (.int .i64 used) := (Lib.cell_of_heap hb3 2).trans rfl
  have kf := Lib.frozen_of_heap hb3 2
  rw [← HPA.out] at HH
  have HD := Lib.hid (ddeed_is B b m left _ _ _ _ _ HH.out.1 HDD.out)
  rw [HDE.out] at HD
  have HS := Lib.hid (HSz.out.trans HH.out.2.1)
  clear d0 o1 g1 at1 hg3 hb3 HH H4 X4 HM GM HPA
  go_wp2_with fail
  refine HD.out.mono ?_
  rintro e w4 ⟨rfl, ⟨left', i4⟩, s4⟩
  go_wp2_with fail
  go_ret
  exact ⟨rfl, ⟨_, _, _, _, _, i4⟩, HS.out.trans s4⟩
set_option maxRecDepth 100000 in
theorem dAppend_bad (B b : Nat) (d : DDisk) (n s : ByteArray) (w : World) (h0 : DiskAt B b d w) (hn : n.size ≤ 9223372036854775807) (hu : dUsed d.files + s.size ≤ 1000000000000) (hb : aBad d n.data.toList s.data.toList ≠ 0) :
    Calls Tryz.prog 31 #[.pointer (some ⟨b, 0, none⟩), .string n, .string s] w fun e w' => e = .returned (.int .i64 (aBad d n.data.toList s.data.toList)) ∧ Below w.heap.size w w' := by
  obtain ⟨m, left, D, G, V, h⟩ := h0
  have c0 : w.cell? ⟨b, 0, none⟩ = some (.map (some m)) := (Lib.cell_of_heap h.row 0).trans rfl
  have c1 : w.cell? ⟨b, 1, none⟩ = some (.int .i64 d.room) := (Lib.cell_of_heap h.row 1).trans rfl
  have c2 : w.cell? ⟨b, 2, none⟩ = some (.int .i64 (dUsed d.files)) := (Lib.cell_of_heap h.row 2).trans rfl
  have c4 : w.cell? ⟨b, 4, none⟩ = some (.bool d.dead) := (Lib.cell_of_heap h.row 4).trans rfl
  have hl := look_file h.map h.is n hn
  have hN := Lib.hid (dnamed_any n w hn)
  have hsz : s.data.toList.length = s.size := rfl
  have hr1 := h.room.1
  have hr2 := h.room.2
  have hui : (dUsed d.files : Int) + (s.size : Int) ≤ 1000000000000 := by omega
  have hui0 : (0 : Int) ≤ (dUsed d.files : Int) := by omega
  obtain ⟨E, hE⟩ : ∃ E, aBad d n.data.toList s.data.toList = E := ⟨_, rfl⟩
  rw [hE] at hb ⊢
  unfold aBad at hE
  cases hd : d.dead with
  | true =>
    rw [hd] at c4 hE
    simp only [if_true] at hE
    subst hE
    generalize dPtrV G d.files n.data.toList = pv at *
    clear h hb hN hsz
    go_enter Tryz.func31, Tryz.ntmps31
    go_wp2_with fail
    go_ret
    exact ⟨rfl, Below.refl _ _⟩
  | false =>
    rw [hd] at c4 hE
    simp only [Bool.false_eq_true, if_false] at hE
    by_cases hg : dGood n.data.toList
    · rw [if_neg (fun q => q hg)] at hE
      rw [show decide (0 < n.size ∧ n.size ≤ 100) = true from decide_eq_true hg] at hN
      by_cases hroom : (s.data.toList.length : Int) > d.room - dUsed d.files
      · rw [if_pos hroom] at hE
        subst hE
        have q1 : decide (d.room - (dUsed d.files : Int) < (s.size : Int)) = true := decide_eq_true (by omega)
        generalize dPtrV G d.files n.data.toList = pv at *
        generalize dUsed d.files = used at *
        clear h hb hsz hg hroom
        go_enter Tryz.func31, Tryz.ntmps31
        go_wp2_with fail
        refine hN.out.mono ?_
        rintro e w1 ⟨rfl, rfl⟩
        go_wp2_with fail
        go_region
        go_wp2_with fail
        go_ret
        exact ⟨rfl, (Below.refl _ _).drew⟩
      · rw [if_neg hroom] at hE
        by_cases hf : dFind d.files n.data.toList = none ∧ 4096 ≤ d.files.length
        · rw [if_pos hf] at hE
          subst hE
          obtain ⟨hf1, hf2⟩ := hf
          unfold dPtrV at hl
          rw [hf1] at hl
          simp only at hl
          have q1 : decide (d.room - (dUsed d.files : Int) < (s.size : Int)) = false := decide_eq_false (by omega)
          have q2 : decide (4096 ≤ d.files.length) = true := decide_eq_true hf2
          have q2i : decide ((4096 : Int) ≤ d.files.length) = true := decide_eq_true (by omega)
          have hln := len_map (h.kept (w' := w.drew) ((Below.refl _ _).drew)).map h.is.size_
          generalize d.files.length = dl at *
          generalize dUsed d.files = used at *
          clear h hb hsz hg hroom hf1 hf2
          go_enter Tryz.func31, Tryz.ntmps31
          go_wp2_with fail
          refine hN.out.mono ?_
          rintro e w1 ⟨rfl, rfl⟩
          go_wp2_with fail
          go_region
          go_wp2_with fail
          go_ret
          exact ⟨rfl, (Below.refl _ _).drew⟩
        · rw [if_neg hf] at hE
          exact absurd hE.symm hb
    · rw [if_pos hg] at hE
      subst hE
      rw [show decide (0 < n.size ∧ n.size ≤ 100) = false from decide_eq_false hg] at hN
      generalize dPtrV G d.files n.data.toList = pv at *
      clear h hb hsz hg
      go_enter Tryz.func31, Tryz.ntmps31
      go_wp2_with fail
      refine hN.out.mono ?_
      rintro e w1 ⟨rfl, rfl⟩
      go_wp2_with fail
      go_ret
      exact ⟨rfl, Below.refl _ _⟩
theorem dAppend_any (B b : Nat) (d : DDisk) (n s : ByteArray) (w : World) (h0 : DiskAt B b d w) (hn : n.size ≤ 9223372036854775807) (hu : dUsed d.files + s.size ≤ 1000000000000) :
    Calls Tryz.prog 31 #[.pointer (some ⟨b, 0, none⟩), .string n, .string s] w fun e w' => e = .returned (.int .i64 (aE d n.data.toList s.data.toList)) ∧ DiskAt B b (aD d n.data.toList s.data.toList) w' ∧ Stir B w w' := by
  unfold aE aD
  by_cases hb : aBad d n.data.toList s.data.toList = 0
  · rw [if_pos hb, if_pos hb]
    cases hf : dFind d.files n.data.toList with
    | none => exact dAppend_new B b d n s w h0 hn hu hf hb
    | some f => exact dAppend_old B b d n s w f h0 hn hu hf hb
  · rw [if_neg hb, if_neg hb]
    have h1 := h0.low
    exact (dAppend_bad B b d n s w h0 hn hu hb).mono fun e w' ⟨he, hw⟩ => ⟨he, h0.kept hw, Below.stir hw (by omega)⟩
end Go.Proofs.YtlhdnkfnhdkbkaaGreatDoor