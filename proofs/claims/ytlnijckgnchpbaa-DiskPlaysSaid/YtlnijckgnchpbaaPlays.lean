/- Behind any calls the files are those of the document's disk: DiskPlays. Conditions: none. -/
import Derived.Test.YtlnijckgnchpbaaPlays15
import Derived.Test.YtlnijckgnchpbaaActs
import Derived.Test.YtlnijckgnchpbaaRow
import Derived.Test.YtlnijckgnchpbaaWildO
import Derived.Test.YtlnijckgnchpbaaLists
import Derived.ChangeMaps5
namespace Go.Proofs.Ytlnijckgnchpbaa.plays
open Go Go.ChangeShapes Go.WideShapes Go.ChangeAt Go.ChangeMaps Go.RowKit Go.Proofs.Ytlnijckgnchpbaa
attribute [local go_sem] Oper.semAt_some

/-- Both disks. -/
structure PAt (B q X : Nat) (w0 : World) (i : Nat) (d : DDisk) (v : Value) (wr : World) : Prop where
  disk : DiskAt B q d wr
  files : RFiles wr v d.files
  box : wr.heap[X]? = some (.cells (diskC d v) 27 (0, 0))
  inv : PInv i d
  below_ : Below B w0 wr
  low : B ≤ X
theorem PAt.below {B q X : Nat} {w0 : World} {i : Nat} {d : DDisk} {v : Value} {wr w' : World} (h : PAt B q X w0 i d v wr) (k : Below wr.heap.size wr w') : PAt B q X w0 i d v w' :=
  ⟨h.disk.kept k, h.files.below k, (k.block _ (dHeap_lt h.box)).trans h.box, h.inv, below_past h.below_ k (by have := h.disk.low; omega), h.low⟩
theorem disk_grown {B b : Nat} {d : DDisk} {w w' : World} {row : Option Nat} (h : DiskAt B b d w) (hg : w.grownBy w' row) (hr : ∀ k, row = some k → ∃ cs T fr, w.heap[k]? = some (.cells cs T fr) ∧ T ≠ 5 ∧ T ≠ 50 ∧ T ≠ 70) : DiskAt B b d w' := by
  obtain ⟨m, left, D, G, V, h⟩ := h
  obtain ⟨es, c, hm⟩ := mapBlk h.map
  refine ⟨m, left, D, G, V, ⟨(hg.block b (dHeap_lt h.row) (fun e => ?_)).trans h.row, h.fuse, h.map.kept hg (fun e => ?_), h.is, h.sorted, fun f hf => (h.file f hf).kept hg (fun e => ?_) ?_, h.apart, h.low, h.room, h.left_⟩⟩
  · obtain ⟨cs, T, fr, hk, hT⟩ := hr _ e.symm
    exact blk_ne hk h.row hT.2.1 rfl
  · obtain ⟨cs, T, fr, hk, hT⟩ := hr _ e.symm
    exact blk_ne_map hk hm rfl
  · obtain ⟨cs, T, fr, hk, hT⟩ := hr _ e.symm
    exact blk_ne hk (h.file f hf).row hT.2.2 rfl
  · cases hv : (V f.name).ownBlock with
    | none => exact .inl rfl
    | some k =>
      refine .inr fun e => ?_
      obtain ⟨cs, T, fr, hk, hT⟩ := hr _ e.symm
      exact own_ne (h.file f hf).own hk hT.1.symm hv
theorem files_grown {w w' : World} {row : Option Nat} {v : Value} {fs : List DFile} (h : RFiles w v fs) (hg : w.grownBy w' row) (hr : ∀ k, row = some k → ∃ cs T fr, w.heap[k]? = some (.cells cs T fr) ∧ T ≠ 37) : RFiles w' v fs := by
  obtain ⟨⟨ao, cap, rfl, h2⟩, hty⟩ := h
  have hk : ∀ g, ao = some ⟨g, 0, none⟩ → fs ≠ [] → ∃ cs fr, w.heap[g]? = some (.cells cs 37 fr) ∧ w'.heap[g]? = some (.cells cs 37 fr) := fun g hgo hn => by
    subst hgo
    obtain ⟨cs, fr, e⟩ := hty g _ _ rfl hn
    refine ⟨cs, fr, e, (hg.block g (dHeap_lt e) (fun e2 => ?_)).trans e⟩
    obtain ⟨cs', T, fr', hk, hT⟩ := hr _ e2.symm
    exact blk_ne hk e hT rfl
  refine ⟨⟨ao, cap, rfl, fun i f hi => ?_⟩, fun g n c hv hn => ?_⟩
  · obtain ⟨g, h3, h4, h5, h6⟩ := h2 i f hi
    obtain ⟨cs, fr, e1, e2⟩ := hk g h3 (fun e => by rw [e] at hi; simp at hi)
    have s : ∀ j, w'.cell? ⟨g, j, none⟩ = w.cell? ⟨g, j, none⟩ := fun j => (Lib.cell_of_heap e2 j).trans (Lib.cell_of_heap e1 j).symm
    exact ⟨g, h3, (s _).trans h4, (s _).trans h5, (s _).trans h6⟩
  · injection hv with e1 _ _
    obtain ⟨cs, fr, _, e2⟩ := hk g e1 hn
    exact ⟨cs, fr, e2⟩
theorem PAt.grown {B q X : Nat} {w0 : World} {i : Nat} {d : DDisk} {v u : Value} {wr w' : World} {ts : List (List UInt8)} (h : PAt B q X w0 i d v wr) (o : OwnStrs wr B u ts) (hg : wr.grownBy w' u.ownBlock) : PAt B q X w0 i d v w' := by
  have hr : ∀ k, u.ownBlock = some k → ∃ cs, wr.heap[k]? = some (.cells cs 9 (0, 0)) := fun k hk => by
    obtain ⟨cs, e, _⟩ := own_blk o hk
    exact ⟨cs, e⟩
  refine ⟨disk_grown h.disk hg fun k hk => ?_, files_grown h.files hg fun k hk => ?_, (hg.block _ (dHeap_lt h.box) (fun e => ?_)).trans h.box, h.inv, o.grown hg h.below_ (by have := h.disk.low; omega), h.low⟩
  · obtain ⟨cs, e⟩ := hr k hk
    exact ⟨cs, _, _, e, by decide⟩
  · obtain ⟨cs, e⟩ := hr k hk
    exact ⟨cs, _, _, e, by decide⟩
  · obtain ⟨cs, e1⟩ := hr _ e.symm
    exact blk_ne e1 h.box (by decide) rfl
theorem names_succ (fs : List DFile) (j : Nat) (f : DFile) (h : fs[j]? = some f) : dNames (fs.take (j + 1)) = dNames (fs.take j) ++ [f.name] := by
  unfold dNames
  rw [List.take_add_one, h, List.map_append]
  rfl
theorem after (B q X ga : Nat) (w0 w7 : World) (i : Nat) (rm7 fu7 : Int) (dd7 : Bool) (fs7 : List DFile) (ao7 : Option Addr) (n7 cap7 : Nat) (c0 cA : Array Value) (hd : DiskAt B q ⟨rm7, fu7, dd7, fs7⟩ w7) (hr : RFiles w7 (.slice ao7 n7 cap7) fs7) (hI : PInv i ⟨rm7, fu7, dd7, fs7⟩) (hn : c0.size = 4)
    (hx : w7.heap[X]? = some (.cells c0 27 (0, 0))) (ha : w7.heap[ga]? = some (.cells cA 32 (0, 0))) (hb : Below B w0 w7) (hBX : B ≤ X) (r1 : ∃ x a b c, c0 = #[.int .i64 x, a, b, c]) :
    ∃ W, (((((w7.alloc (.cells #[.int .i64 rm7, .int .i64 fu7, .bool dd7, .slice ao7 n7 cap7] 27)).setCell ⟨X, 0, none⟩ (.int .i64 rm7)).setCell ⟨X, 1, none⟩ (.int .i64 fu7)).setCell ⟨X, 2, none⟩ (.bool dd7)).setCell ⟨X, 3, none⟩ (.slice ao7 n7 cap7)).alloc (.cells #[] 9) = W ∧
      PAt B q X w0 i ⟨rm7, fu7, dd7, fs7⟩ (.slice ao7 n7 cap7) W ∧ W.heap[ga]? = some (.cells cA 32 (0, 0)) ∧ OwnStrs W B (.slice (some ⟨w7.heap.size + 1, 0, none⟩) 0 0) [] := by
  refine ⟨_, rfl, ?_⟩
  obtain ⟨x, a, b, c, rfl⟩ := r1
  have ba : Below w7.heap.size w7 (w7.alloc (.cells #[.int .i64 rm7, .int .i64 fu7, .bool dd7, .slice ao7 n7 cap7] 27)) := (Below.refl _ _).alloc (Nat.le_refl _) _
  have hBw : B ≤ w7.heap.size := by have := hd.low; omega
  have hx1 := (ba.block _ (dHeap_lt hx)).trans hx
  have ha1 := (ba.block _ (dHeap_lt ha)).trans ha
  have hd1 := hd.kept ba
  have hr1 := hr.below ba
  have hb1 := below_past hb ba hBw
  have hs1 : (w7.alloc (.cells #[.int .i64 rm7, .int .i64 fu7, .bool dd7, .slice ao7 n7 cap7] 27)).heap.size = w7.heap.size + 1 := by simp only [World.size_alloc]
  generalize w7.alloc (.cells #[.int .i64 rm7, .int .i64 fu7, .bool dd7, .slice ao7 n7 cap7] 27) = w8 at *
  have hne := blk_ne ha1 hx1 (by decide)
  have ha2 := (heap_other4 hne (.int .i64 rm7) (.int .i64 fu7) (.bool dd7) (.slice ao7 n7 cap7)).trans ha1
  have hd2 := hd1.aside4 hx1 (by decide) (.int .i64 rm7) (.int .i64 fu7) (.bool dd7) (.slice ao7 n7 cap7)
  have hr2 := RFiles.set4 (z := rm7) hr1 (rowAt_of_heap hx1) (.int .i64 fu7) (.bool dd7) (.slice ao7 n7 cap7)
  have hx2 := dHeap_put (j := 3) (dHeap_put (j := 2) (dHeap_put (j := 1) (dHeap_put (j := 0) hx1 (.int .i64 rm7)) (.int .i64 fu7)) (.bool dd7)) (.slice ao7 n7 cap7)
  have hb2 := (((hb1.setCell (p := ⟨X, 0, none⟩) hBX (.int .i64 rm7)).setCell (p := ⟨X, 1, none⟩) hBX (.int .i64 fu7)).setCell (p := ⟨X, 2, none⟩) hBX (.bool dd7)).setCell (p := ⟨X, 3, none⟩) hBX (.slice ao7 n7 cap7)
  have hs2 : ((((w8.setCell ⟨X, 0, none⟩ (.int .i64 rm7)).setCell ⟨X, 1, none⟩ (.int .i64 fu7)).setCell ⟨X, 2, none⟩ (.bool dd7)).setCell ⟨X, 3, none⟩ (.slice ao7 n7 cap7)).heap.size = w7.heap.size + 1 := by rw [← hs1]; simp [World.setCell]
  generalize (((w8.setCell ⟨X, 0, none⟩ (.int .i64 rm7)).setCell ⟨X, 1, none⟩ (.int .i64 fu7)).setCell ⟨X, 2, none⟩ (.bool dd7)).setCell ⟨X, 3, none⟩ (.slice ao7 n7 cap7) = w9 at *
  have bz : Below w9.heap.size w9 (w9.alloc (.cells #[] 9)) := (Below.refl _ _).alloc (Nat.le_refl _) _
  exact ⟨PAt.below ⟨hd2, hr2, hx2, hI, hb2, hBX⟩ bz, (bz.block _ (dHeap_lt ha2)).trans ha2, ownStrs_new _ _ _ hs2.symm (by omega)⟩
set_option maxRecDepth 100000 in
set_option maxHeartbeats 4000000 in
theorem walk (room : Int) (av : Value) (alen : Nat) (A : Nat → DAct) (w : World) (hroom : -9223372036854775808 ≤ room ∧ room ≤ 9223372036854775807) (hA : InActs w av alen A) : Calls Try.prog 3 #[.int .i64 room, av] w fun e w' => e = .returned (.bool true) ∧ Below w.heap.size w w' := by
  have H0 := Lib.hid (dNew_any room w hroom)
  have HAW : ∀ w, Hid (Calls Try.prog 6 #[] w fun e w' => e = .returned (.bool true) ∧ Below w.heap.size w w') := fun w => Lib.hid (awake5 w)
  have HAA := Lib.hid hA
  obtain ⟨aao, acap, rfl, _⟩ := hA
  clear hroom
  go_enter Try.func3, Try.ntmps3
  go_wp2_with fail
  refine H0.out.mono ?_
  rintro e w1 ⟨q, rfl, hq, d0, b0⟩
  obtain ⟨B, hB⟩ : ∃ B, w.heap.size = B := ⟨_, rfl⟩
  have HB := Lib.hid hB
  rw [hB] at hq d0 b0
  clear H0 hB
  go_wp2_with fail
  refine (r5New_any room w1).mono ?_
  rintro e w2 ⟨v2, rfl, R2, b2⟩
  obtain ⟨ao2, cap2, hv2⟩ := id R2.1
  obtain ⟨rfl, -⟩ := hv2
  have P0 : PAt B q w2.heap.size w 0 ⟨max room 0, -1, false, []⟩ (.slice ao2 0 cap2) (w2.alloc (.cells #[.int .i64 (max room 0), .int .i64 (-1), .bool false, .slice ao2 0 cap2] 27)) := by
    have bz : Below w2.heap.size w2 (w2.alloc (.cells #[.int .i64 (max room 0), .int .i64 (-1), .bool false, .slice ao2 0 cap2] 27)) := (Below.refl _ _).alloc (Nat.le_refl _) _
    have hz1 : B ≤ w1.heap.size := by have := d0.low; omega
    have hz2 : B ≤ w2.heap.size := Nat.le_trans hz1 b2.size
    exact ⟨(d0.kept b2).kept bz, R2.below bz, heap_alloc_new w2 _, ⟨List.Pairwise.nil, by simp [dUsed], Nat.le_refl _, fun f hf => (by cases hf), by show (-1 : Int) ≤ -1 ∧ (-1 : Int) ≤ _; omega⟩, below_past (below_past b0 b2 hz1) bz hz2, hz2⟩
  clear d0 b0 b2 R2
  unfold diskC
  dsimp only [List.length_nil]
  obtain ⟨mr, hmr⟩ : ∃ mr, max room 0 = mr := ⟨_, rfl⟩
  rw [hmr] at P0 ⊢
  clear hmr
  go_wp2_with fail
  generalize w2.alloc (.cells #[.int .i64 mr, .int .i64 (-1), .bool false, .slice ao2 0 cap2] 27) = W2 at *
  generalize w2.heap.size = X at *
  refine (HAW W2).out.mono ?_
  rintro e w3 ⟨rfl, b3⟩
  have P1 := Lib.hid (P0.below b3)
  clear P0 b3 HAW
  go_wp2_with fail
  go_loopw [7] (fun y wr => ∃ (i : Nat) (d : DDisk) (v : Value), i ≤ alen ∧ i ≤ 60 ∧ y = .int .i64 i ∧ Hid (PAt B q X w i d v wr)) (fun y _ => (60 - intOf y).toNat)
  case atStart => exact ⟨0, _, _, Nat.zero_le _, Nat.zero_le _, rfl, P1⟩
  case round =>
    obtain ⟨i, d, v, hi1, hi2, rfl, HP⟩ := hrel
    clear P1
    by_cases hgo : i < alen ∧ i < 60
    · obtain ⟨hlt1, hlt2⟩ := hgo
      have g1 : decide (i < alen) = true := decide_eq_true hlt1
      have g1i : (i : Int) < alen := by omega
      have g2 : decide (i < 60) = true := decide_eq_true hlt2
      have g2i : (i : Int) < 60 := by omega
      obtain ⟨aao', acap', hv, hS⟩ := HAA.out
      obtain ⟨⟨aa, hmao, hc⟩, hik, hnn, hnt, hnb⟩ := hS i hlt1
      obtain ⟨rfl, rfl⟩ : aao = aao' ∧ acap = acap' := by simpa using hv
      subst hmao
      obtain ⟨X0, hX⟩ : ∃ X, A i = X := ⟨_, rfl⟩
      rw [hX] at hc hik hnn hnt hnb
      obtain ⟨kind, name, to, sb, m, kv, ks⟩ := X0
      simp only at hik hnn hnt hnb
      obtain ⟨nm, rfl⟩ := stx_of name
      obtain ⟨tl, rfl⟩ := stx_of to
      obtain ⟨sl, rfl⟩ := stx_of sb
      have BA := HP.out.below_
      have hblk : (aa.add (i * 6)).block < B := by
        rw [addB, ← HB.out]
        have h0 := hc 0 (by decide)
        have := cellLt (v := .int .i64 kind) (by rw [h0]; rfl)
        rwa [addB] at this
      have cc : ∀ j, j < 6 → wr.cell? ((aa.add (i * 6)).add j) = (cellsA ⟨kind, stx nm, stx tl, stx sl, m, kv, ks⟩)[j]? := fun j hj => by
        rw [BA.cell (p := (aa.add (i * 6)).add j) (by rw [addB]; exact hblk), add_two]
        exact hc j hj
      have k0 : wr.cell? (aa.add (i * 6)) = some (.int .i64 kind) := by
        have := cc 0 (by decide)
        rw [show (aa.add (i * 6)).add 0 = aa.add (i * 6) from rfl] at this
        exact this
      obtain ⟨kao, kcap, hkv, hkr⟩ := hik
      have k1 : wr.cell? ⟨(aa.add (i * 6)).block, (aa.add (i * 6)).off + 1, none⟩ = some (.string (stx nm)) := cc 1 (by decide)
      have k2 : wr.cell? ⟨(aa.add (i * 6)).block, (aa.add (i * 6)).off + 2, none⟩ = some (.string (stx tl)) := cc 2 (by decide)
      have k3 : wr.cell? ⟨(aa.add (i * 6)).block, (aa.add (i * 6)).off + 3, none⟩ = some (.string (stx sl)) := cc 3 (by decide)
      have k4 : wr.cell? ⟨(aa.add (i * 6)).block, (aa.add (i * 6)).off + 4, none⟩ = some (.int .i64 m) := cc 4 (by decide)
      have k5 : wr.cell? ⟨(aa.add (i * 6)).block, (aa.add (i * 6)).off + 5, none⟩ = some kv := cc 5 (by decide)
      have HIK : Hid (InInts w kv ks) := Lib.hid ⟨kao, kcap, hkv, hkr⟩
      rw [hkv] at k5 HIK
      clear hv hS hc cc hX hkr hkv BA hblk
      have b6 : Below wr.heap.size wr (wr.alloc (.cells #[.int .i64 kind, .string (stx nm), .string (stx tl), .string (stx sl), .int .i64 m, .slice kao ks.length kcap] 32)) := (Below.refl _ _).alloc (Nat.le_refl _) _
      have x6 := heap_alloc_new wr (.cells #[.int .i64 kind, .string (stx nm), .string (stx tl), .string (stx sl), .int .i64 m, .slice kao ks.length kcap] 32)
      have P6 := Lib.hid (HP.out.below b6)
      obtain ⟨ao, cap, hvv⟩ := id HP.out.files.1
      obtain ⟨rfl, -⟩ := hvv
      obtain ⟨rm, fu, dd, fs⟩ := d
      have y0 := (Lib.cell_of_heap P6.out.box 0).trans (rfl : _ = some (Value.int .i64 rm))
      have y1 := (Lib.cell_of_heap P6.out.box 1).trans (rfl : _ = some (Value.int .i64 fu))
      have y2 := (Lib.cell_of_heap P6.out.box 2).trans (rfl : _ = some (Value.bool dd))
      have y3 := (Lib.cell_of_heap P6.out.box 3).trans (rfl : _ = some (Value.slice ao fs.length cap))
      have hXl := dHeap_lt HP.out.box
      clear HP
      go_wp2_with fail
      clear k0 k1 k2 k3 k4 k5 b6 y0 y1 y2 y3
      generalize wr.alloc (.cells #[.int .i64 kind, .string (stx nm), .string (stx tl), .string (stx sl), .int .i64 m, .slice kao ks.length kcap] 32) = W6 at *
      generalize wr.heap.size = ga at *
      refine (does5_any B q ⟨rm, fu, dd, fs⟩ (.slice ao fs.length cap) kind nm tl sl m (.slice kao ks.length kcap) ks i W6 P6.out.disk P6.out.files P6.out.inv (by omega) hnn hnt hnb (fun W' k => HIK.out.below (by rw [HB.out]; exact P6.out.below_.trans k))).mono ?_
      rintro e w7 ⟨v7, d7, rfl, D7, R7, I7, S7⟩
      obtain ⟨ao7, cap7, hv7⟩ := id R7.1
      obtain ⟨rfl, -⟩ := hv7
      obtain ⟨rm7, fu7, dd7, fs7⟩ := d7
      have x7 := S7.keep x6 (by decide)
      have bx7 := S7.keep P6.out.box (by decide)
      have B7 := Lib.hid (P6.out.below_.trans S7.below)
      have HLX := Lib.hid P6.out.low
      have HX6 := Lib.hid x7
      have HBX := Lib.hid bx7
      have r7 := rowAt_of_heap bx7
      have hga := dHeap_lt x7
      have hgx := dHeap_lt bx7
      have HD7 := Lib.hid D7
      have HR7 := Lib.hid R7
      have HI7 := Lib.hid I7
      dsimp only at HR7
      obtain ⟨n7, hn7⟩ : ∃ n7, fs7.length = n7 := ⟨_, rfl⟩
      have HN7 := Lib.hid hn7
      unfold diskC
      dsimp only
      rw [hn7]
      have r8 := (rowAt_alloc_past w7 (.cells #[.int .i64 rm7, .int .i64 fu7, .bool dd7, .slice ao7 n7 cap7] 27) _ (lt_of_rowAt r7)).trans r7
      have y0 := (cell_of_rowAt r7 0).trans (rfl : _ = some (Value.int .i64 rm))
      have y1 := (cell_of_rowAt r7 1).trans (rfl : _ = some (Value.int .i64 fu))
      have y2 := (cell_of_rowAt r7 2).trans (rfl : _ = some (Value.bool dd))
      have y3 := (cell_of_rowAt r7 3).trans (rfl : _ = some (Value.slice ao fs.length cap))
      have z0 := (cell_of_rowAt r8 0).trans (rfl : _ = some (Value.int .i64 rm))
      have z1 := (cell_of_rowAt r8 1).trans (rfl : _ = some (Value.int .i64 fu))
      have z2 := (cell_of_rowAt r8 2).trans (rfl : _ = some (Value.bool dd))
      have z3 := (cell_of_rowAt r8 3).trans (rfl : _ = some (Value.slice ao fs.length cap))
      have o0 := frozen_of_rowAt r7 0
      have o1 := frozen_of_rowAt r7 1
      have o2 := frozen_of_rowAt r7 2
      have o3 := frozen_of_rowAt r7 3
      have q0 := frozen_of_rowAt r8 0
      have q1 := frozen_of_rowAt r8 1
      have q2 := frozen_of_rowAt r8 2
      have q3 := frozen_of_rowAt r8 3
      clear D7 R7 I7 S7 x7 bx7 P6 x6 hn7 r7 r8 hXl hga hgx
      have HWW := Lib.hid (after B q X ga w w7 (i + 1) rm7 fu7 dd7 fs7 ao7 n7 cap7 _ _ HD7.out (by rw [← HN7.out]; exact HR7.out) HI7.out rfl HBX.out HX6.out B7.out HLX.out ⟨_, _, _, _, rfl⟩)
      go_upto_region 11 with fail
      obtain ⟨W8, hW8, P8, A8, O8⟩ := HWW.out
      rw [hW8]
      clear hW8 HWW y0 y1 y2 y3 z0 z1 z2 z3 o0 o1 o2 o3 q0 q1 q2 q3 HD7 HR7 HI7 HBX HX6 B7
      generalize w7.heap.size = g9 at *
      have HP8 := Lib.hid P8
      have HA8 := Lib.hid A8
      have HO8 : Hid (OwnStrs W8 B (.slice (some ⟨g9 + 1, 0, none⟩) 0 0) (dNames (fs7.take 0))) := Lib.hid O8
      have y3 := (Lib.cell_of_heap P8.box 3).trans (rfl : _ = some (Value.slice ao7 n7 cap7))
      have hn7 : n7 ≤ 61 := by
        have h1 := P8.inv.len
        have h2 := HN7.out
        dsimp only at h1
        omega
      have hn7i : (n7 : Int) ≤ 61 := by omega
      clear P8 A8 O8
      go_wp2_with fail
      go_loopw [11, 55] (fun u x wr => ∃ j : Nat, j ≤ n7 ∧ x = .int .i64 j ∧ Hid (PAt B q X w (i + 1) ⟨rm7, fu7, dd7, fs7⟩ (.slice ao7 n7 cap7) wr) ∧ Hid (wr.heap[ga]? = some (.cells #[.int .i64 kind, .string (stx nm), .string (stx tl), .string (stx sl), .int .i64 m, .slice kao ks.length kcap] 32 (0, 0))) ∧ Hid (OwnStrs wr B u (dNames (fs7.take j)))) (fun _ x _ => (n7 - intOf x).toNat)
      case atStart => exact ⟨0, Nat.zero_le _, rfl, HP8, HA8, HO8⟩
      case round =>
        obtain ⟨j, hj, rfl, HPj, HAj, HOj⟩ := hrel
        clear HP8 HA8 HO8 y3
        by_cases hlt : j < n7
        · as_aux_lemma =>
          have hlt' : (j : Int) < n7 := by omega
          obtain ⟨f, hf⟩ : ∃ f, fs7[j]? = some f := ⟨_, List.getElem?_eq_getElem (by rw [HN7.out]; exact hlt)⟩
          obtain ⟨ao', cap', hv, hc⟩ := HPj.out.files.1
          obtain ⟨g, hg, k1, k2, k3⟩ := hc j f hf
          obtain ⟨e1, e2, e3⟩ : ao7 = ao' ∧ n7 = fs7.length ∧ cap7 = cap' := by simpa using hv
          subst e1
          subst hg
          clear hv hc e2 e3
          have HNS := Lib.hid (names_succ fs7 j f hf)
          have hlen : (dNames (fs7.take j)).length ≤ 1000000 := by unfold dNames; rw [List.length_map, List.length_take]; omega
          have b1 : Below wr.heap.size wr ((wr.alloc (.cells #[.string (stx f.name), .string (stx f.bytes), .int .i64 f.sure] 37)).alloc (.cells #[.string (stx f.name)] 9)) := ((Below.refl _ _).alloc (Nat.le_refl _) _).alloc (by simp only [World.size_alloc]; omega) _
          have HP1 := Lib.hid (HPj.out.below b1)
          have HA1 := Lib.hid ((b1.block _ (dHeap_lt HAj.out)).trans HAj.out)
          have ow2 := HOj.out.below b1
          have HOW := Lib.hid ow2
          have hcell := cell_of_rowAt (rowAt_alloc_at (wr.alloc (.cells #[.string (stx f.name), .string (stx f.bytes), .int .i64 f.sure] 37)) #[.string (stx f.name)] 9 (wr.heap.size + 1) (by simp only [World.size_alloc])) 0
          have HBz := Lib.hid (show B ≤ ((wr.alloc (.cells #[.string (stx f.name), .string (stx f.bytes), .int .i64 f.sure] 37)).alloc (.cells #[.string (stx f.name)] 9)).heap.size from by have := HP1.out.disk.low; omega)
          have HCL := Lib.hid hcell
          clear b1 HPj HAj HOj hf ow2 hcell
          go_wp2_with (at_builtin; refine wpList_put_text rfl _ _ rfl B _ _ rfl HOW.out f.name ⟨wr.heap.size + 1, 0, none⟩ 1 rfl HCL.out HBz.out hlen ?_)
          intro v' w' hown hgrow hat
          have HP2 := Lib.hid (HP1.out.grown HOW.out hgrow)
          have HA2 := Lib.hid ((hgrow.block _ (dHeap_lt HA1.out) (fun e => by
            obtain ⟨cs, e1, _⟩ := own_blk HOW.out e.symm
            exact blk_ne e1 HA1.out (by decide) rfl)).trans HA1.out)
          rw [← HNS.out] at hown
          have HO2 := Lib.hid hown
          clear hown hgrow hat HP1 HA1 HOW HCL HBz
          go_wp2_with fail
          exact ⟨⟨j + 1, hlt, by go_num, HP2, HA2, HO2⟩, by simp [intOf]; omega⟩
        · obtain rfl : j = n7 := by omega
          have HO : Hid (OwnStrs wr B u11 (dNames fs7)) := Lib.hid (by have := HOj.out; rwa [List.take_of_length_le (Nat.le_of_eq HN7.out)] at this)
          have y0 := (Lib.cell_of_heap HPj.out.box 0).trans (rfl : _ = some (Value.int .i64 rm7))
          have y1 := (Lib.cell_of_heap HPj.out.box 1).trans (rfl : _ = some (Value.int .i64 fu7))
          have y2 := (Lib.cell_of_heap HPj.out.box 2).trans (rfl : _ = some (Value.bool dd7))
          have y3 := (Lib.cell_of_heap HPj.out.box 3).trans (rfl : _ = some (Value.slice ao7 j cap7))
          have a1 := (Lib.cell_of_heap HAj.out 1).trans (rfl : _ = some (Value.string (stx nm)))
          have HRD := Lib.hid (dRead_any B q ⟨rm7, fu7, dd7, fs7⟩ (stx nm) wr HPj.out.disk hnn)
          rw [show (stx nm).data.toList = nm from rfl] at HRD
          have HFD := Lib.hid (r5Find_any ⟨rm7, fu7, dd7, fs7⟩ (.slice ao7 j cap7) nm wr HPj.out.files (by show fs7.length ≤ _; rw [HN7.out]; omega))
          rw [foundV_eq] at HFD
          unfold diskC at HFD
          dsimp only at HFD
          clear HAj HOj
          cases dd7 with
          | true =>
            rw [show rdB ⟨rm7, fu7, true, fs7⟩ nm = [] from by unfold rdB findE; simp, show findE ⟨rm7, fu7, true, fs7⟩ nm = 10 from by unfold findE; simp, show stx [] = ⟨#[]⟩ from rfl] at HRD
            have HLL : Hid (listL ⟨rm7, fu7, true, fs7⟩ = []) := Lib.hid rfl
            generalize fileD (dFind fs7 nm) = F at *
            generalize (dFind fs7 nm).isSome = tb at *
            go_wp2_with fail
            refine HRD.out.mono ?_
            rintro e wz ⟨rfl, hz⟩
            rw [hz]
            clear hz HRD
            go_wp2_with fail
            refine HFD.out.mono ?_
            rintro e wf ⟨rfl, bf⟩
            clear HFD a1
            have HBF := Lib.hid bf
            have HSS : Hid (∀ y, Below wf.heap.size wf y → StrsAt y (.slice none 0 0) []) := Lib.hid fun y _ => ⟨none, 0, rfl, fun i hi => absurd hi (Nat.not_lt_zero i)⟩
            have y2q := (Lib.cell_of_heap (((HBF.out.alloc HBF.out.size (.cells #[.string (stx F.name), .string (stx F.bytes), .int .i64 F.sure] 37)).block _ (dHeap_lt HPj.out.box)).trans HPj.out.box) 2).trans (rfl : _ = some (Value.bool true))
            have b9 := HBF.out.alloc HBF.out.size (.cells #[.string (stx F.name), .string ⟨#[]⟩, .int .i64 F.sure] 37)
            have P9 := Lib.hid (HPj.out.below b9)
            have x9 := heap_alloc_new wf (.cells #[.string (stx F.name), .string ⟨#[]⟩, .int .i64 F.sure] 37)
            have bz9 : Below wf.heap.size wf (wf.alloc (.cells #[.string (stx F.name), .string ⟨#[]⟩, .int .i64 F.sure] 37)) := (Below.refl _ _).alloc (Nat.le_refl _) _
            have HS9 : Hid (∀ y : Past (wf.alloc (.cells #[.string (stx F.name), .string ⟨#[]⟩, .int .i64 F.sure] 37)), StrsAt y.w (.slice none 0 0) (listL ⟨rm7, fu7, true, fs7⟩)) := Lib.hid fun y => by rw [HLL.out]; exact HSS.out _ (below_past bz9 y.h bz9.size)
            have HX9 := Lib.hid x9
            have y2' := (Lib.cell_of_heap P9.out.box 2).trans (rfl : _ = some (Value.bool true))
            clear b9 bz9 bf x9 HBF HSS HPj y0 y1 y2 y3
            go_wp2_with fail
            generalize wf.alloc (.cells #[.string (stx F.name), .string ⟨#[]⟩, .int .i64 F.sure] 37) = W9 at *
            generalize wf.heap.size = gf at *
            clear y2'
            have hlen9 : fs7.length ≤ 61 := by rw [HN7.out]; exact hn7
            have hus9 : dUsed fs7 ≤ 1000000 := by have := P9.out.inv.used_; dsimp only at this; omega
            have hnm9 : ∀ f ∈ fs7, f.name.length ≤ 281474976710656 := fun f hf => by have := P9.out.inv.names f hf; omega
            have HDead : Hid (∀ y, Below W9.heap.size W9 y → Calls Try.prog 10 #[.pointer (some ⟨q, 0, none⟩)] y fun e w' => e = .returned (.bool true) ∧ Below y.heap.size y w') := Lib.hid fun y hy => (dDead_any B q ⟨rm7, fu7, true, fs7⟩ y (P9.out.disk.kept hy)).mono fun e w' ⟨h1, h2⟩ => ⟨h1, by rw [h2]; exact Below.refl _ _⟩
            obtain ⟨U, hU⟩ : ∃ U : Int, (dUsed fs7 : Int) = U := ⟨_, rfl⟩
            have HUsed : Hid (∀ y, Below W9.heap.size W9 y → Calls Try.prog 11 #[.pointer (some ⟨q, 0, none⟩)] y fun e w' => e = .returned (.int .i64 U) ∧ Below y.heap.size y w') := Lib.hid fun y hy => by rw [← hU]; exact (dUsed_any B q ⟨rm7, fu7, true, fs7⟩ y (P9.out.disk.kept hy)).mono fun e w' ⟨h1, h2⟩ => ⟨h1, by rw [h2]; exact Below.refl _ _⟩
            have HRUsed : Hid (∀ y, Below W9.heap.size W9 y → Calls Try.prog 12 #[.agg #[.int .i64 rm7, .int .i64 fu7, .bool true, .slice ao7 j cap7]] y fun e w' => e = .returned (.int .i64 U) ∧ Below y.heap.size y w') := Lib.hid fun y hy => by rw [← hU]; exact r5Used_any ⟨rm7, fu7, true, fs7⟩ (.slice ao7 j cap7) y (P9.out.files.below hy) (by show fs7.length ≤ _; omega) (by show dUsed fs7 ≤ _; omega)
            have HList : Hid (∀ y, Below W9.heap.size W9 y → Calls Try.prog 14 #[.pointer (some ⟨q, 0, none⟩)] y fun e w' => ∃ v, e = .returned v ∧ OwnStrs w' y.heap.size v (listL ⟨rm7, fu7, true, fs7⟩) ∧ Below y.heap.size y w') := Lib.hid fun y hy => dList_any B q ⟨rm7, fu7, true, fs7⟩ y (P9.out.disk.kept hy) (by show fs7.length ≤ _; omega) hnm9
            have HSame : Hid (∀ (y : World) (v : Value), Below W9.heap.size W9 y → StrsAt y v (listL ⟨rm7, fu7, true, fs7⟩) → Calls Try.prog 13 #[v, .slice none 0 0] y fun e w' => e = .returned (.bool true) ∧ Below y.heap.size y w') := Lib.hid fun y v hy h => by
              have := law5same_any v (.slice none 0 0) _ _ y h (HS9.out ⟨y, hy⟩) (by rw [HLL.out]; first | exact Nat.zero_le _ | (unfold dNames; rw [List.length_map]; omega))
              rwa [decide_eq_true rfl] at this
            have c0 := fun y : Past W9 => (Lib.cell_of_heap ((y.h.block _ (dHeap_lt P9.out.box)).trans P9.out.box) 0).trans (rfl : _ = some (Value.int .i64 rm7))
            have c1 := fun y : Past W9 => (Lib.cell_of_heap ((y.h.block _ (dHeap_lt P9.out.box)).trans P9.out.box) 1).trans (rfl : _ = some (Value.int .i64 fu7))
            have c2 := fun y : Past W9 => (Lib.cell_of_heap ((y.h.block _ (dHeap_lt P9.out.box)).trans P9.out.box) 2).trans (rfl : _ = some (Value.bool true))
            have c3 := fun y : Past W9 => (Lib.cell_of_heap ((y.h.block _ (dHeap_lt P9.out.box)).trans P9.out.box) 3).trans (rfl : _ = some (Value.slice ao7 j cap7))
            have f1 := fun y : Past W9 => (Lib.cell_of_heap ((y.h.block _ (dHeap_lt HX9.out)).trans HX9.out) 1).trans (rfl : _ = some (Value.string (⟨#[]⟩)))
            clear hlen9 hus9 hnm9 hU HS9
            refine wp_region_wildM [18] [0, 1, 2, 3, 4, 5, 6, 7, 8, 9, 10, 11, 12, 13, 14, 15, 16, 17, 19, 18, 20, 21, 22, 23, 24, 25, 26, 27, 28, 29, 30, 31, 32, 33] (by kernel_rfl) (by kernel_rfl) ?_
            simp only [pickO, List.getElem?_cons_zero, List.getElem?_cons_succ]
            iterate 4 (refine wildO_val (by decide) (by kernel_rfl) rfl ?_; intro K hK; go_big_quiet_op; go_big_quiet_on)
            refine wildO_call (by decide) (by kernel_rfl) (by kernel_rfl) ?_
            apply Exists.intro
            refine And.intro ?_ ?_
            focus
              intro x K hK
              go_big_quiet_op
              go_big_quiet_call (exact call_back (HDead.out _ (Past.two _)))
              rfl
            iterate 6 (refine wildO_val (by decide) (by kernel_rfl) rfl ?_; intro K hK; go_big_quiet_op; go_big_quiet_on)
            refine wildO_call (by decide) (by kernel_rfl) (by kernel_rfl) ?_
            apply Exists.intro
            refine And.intro ?_ ?_
            focus
              intro x K hK
              go_big_quiet_op
              go_big_quiet_call (exact call_back (HUsed.out _ (Past.two _)))
              rfl
            iterate 1 (refine wildO_val (by decide) (by kernel_rfl) rfl ?_; intro K hK; go_big_quiet_op; go_big_quiet_on)
            refine wildO_call (by decide) (by kernel_rfl) (by kernel_rfl) ?_
            apply Exists.intro
            refine And.intro ?_ ?_
            focus
              intro x K hK
              go_big_quiet_op
              go_big_quiet_call (exact call_back (HRUsed.out _ (Past.two _)))
              rfl
            iterate 5 (refine wildO_val (by decide) (by kernel_rfl) rfl ?_; intro K hK; go_big_quiet_op; go_big_quiet_on)
            refine wildO_wild (by decide) (by kernel_rfl) ?_
            intro x K hK
            unfold wildAt
            go_simp
            refine (HList.out _ x.h).mono ?_
            rintro e w14 ⟨v14, rfl, o14, hb⟩
            refine ⟨_, rfl, hb, hK _ _ ?_⟩
            simp only [Act.put, List.setIfInBounds_toArray, List.set_cons_succ, List.set_cons_zero]
            have hbx := Below.step x.h hb
            have HL14 := Lib.hid o14.lie
            have f2 : ∀ y : Past w14, y.w.cell? ⟨gf, 1, none⟩ = some (.string (⟨#[]⟩)) := fun y => f1 ⟨y.w, Below.step hbx y.h⟩
            refine wildO_call (by decide) (by kernel_rfl) (by kernel_rfl) ?_
            apply Exists.intro
            refine And.intro ?_ ?_
            focus
              intro x K hK
              go_big_quiet_op
              go_big_quiet_call (exact call_back (HSame.out _ _ (Below.step hbx (Past.two _)) (HL14.out.below (Past.two _))))
              rfl
            iterate 13 (refine wildO_val (by decide) (by kernel_rfl) rfl ?_; intro K hK; go_big_quiet_op; go_big_quiet_on)
            refine wildO_nil ?_
            rintro ⟨z, hz⟩
            dsimp only
            have PZ := Lib.hid ((P9.out.below hbx).below hz)
            clear hbx hz hb o14 HL14 c0 c1 c2 c3 f1 f2 HDead HUsed HRUsed HList HSame P9 HX9
            go_wp2_with fail
            exact ⟨⟨i + 1, _, _, hlt1, hlt2, by go_num, PZ⟩, by simp [intOf]; omega⟩
          | false =>
            have HLL : Hid (listL ⟨rm7, fu7, false, fs7⟩ = dNames fs7) := Lib.hid rfl
            rcases hq : dFind fs7 nm with _ | f
            · rw [show rdB ⟨rm7, fu7, false, fs7⟩ nm = [] from by unfold rdB findE; simp [hq], show findE ⟨rm7, fu7, false, fs7⟩ nm = 7 from by unfold findE; simp [hq], show stx [] = ⟨#[]⟩ from rfl] at HRD
              rw [hq] at HFD
              rw [show fileD none = ⟨[], [], 0⟩ from rfl, show (none : Option DFile).isSome = false from rfl] at HFD
              dsimp only at HFD
              rw [show stx [] = ⟨#[]⟩ from rfl] at HFD
              clear hq
              go_wp2_with fail
              refine HRD.out.mono ?_
              rintro e wz ⟨rfl, hz⟩
              rw [hz]
              clear hz HRD
              go_wp2_with fail
              refine HFD.out.mono ?_
              rintro e wf ⟨rfl, bf⟩
              clear HFD a1
              have HBF := Lib.hid bf
              have HSS : Hid (∀ y, Below wf.heap.size wf y → StrsAt y u11 (dNames fs7)) := Lib.hid fun y h => ((HO.out.below bf).below h).lie
              have b9 := HBF.out.alloc HBF.out.size (.cells #[.string ⟨#[]⟩, .string ⟨#[]⟩, .int .i64 0] 37)
              have P9 := Lib.hid (HPj.out.below b9)
              have x9 := heap_alloc_new wf (.cells #[.string ⟨#[]⟩, .string ⟨#[]⟩, .int .i64 0] 37)
              have bz9 : Below wf.heap.size wf (wf.alloc (.cells #[.string ⟨#[]⟩, .string ⟨#[]⟩, .int .i64 0] 37)) := (Below.refl _ _).alloc (Nat.le_refl _) _
              have HS9 : Hid (∀ y : Past (wf.alloc (.cells #[.string ⟨#[]⟩, .string ⟨#[]⟩, .int .i64 0] 37)), StrsAt y.w (u11) (listL ⟨rm7, fu7, false, fs7⟩)) := Lib.hid fun y => by rw [HLL.out]; exact HSS.out _ (below_past bz9 y.h bz9.size)
              have HX9 := Lib.hid x9
              have y2' := (Lib.cell_of_heap P9.out.box 2).trans (rfl : _ = some (Value.bool false))
              clear b9 bz9 bf x9 HBF HSS HPj y0 y1 y2 y3
              go_wp2_with fail
              generalize wf.alloc (.cells #[.string ⟨#[]⟩, .string ⟨#[]⟩, .int .i64 0] 37) = W9 at *
              generalize wf.heap.size = gf at *
              clear y2'
              have hlen9 : fs7.length ≤ 61 := by rw [HN7.out]; exact hn7
              have hus9 : dUsed fs7 ≤ 1000000 := by have := P9.out.inv.used_; dsimp only at this; omega
              have hnm9 : ∀ f ∈ fs7, f.name.length ≤ 281474976710656 := fun f hf => by have := P9.out.inv.names f hf; omega
              have HDead : Hid (∀ y, Below W9.heap.size W9 y → Calls Try.prog 10 #[.pointer (some ⟨q, 0, none⟩)] y fun e w' => e = .returned (.bool false) ∧ Below y.heap.size y w') := Lib.hid fun y hy => (dDead_any B q ⟨rm7, fu7, false, fs7⟩ y (P9.out.disk.kept hy)).mono fun e w' ⟨h1, h2⟩ => ⟨h1, by rw [h2]; exact Below.refl _ _⟩
              obtain ⟨U, hU⟩ : ∃ U : Int, (dUsed fs7 : Int) = U := ⟨_, rfl⟩
              have HUsed : Hid (∀ y, Below W9.heap.size W9 y → Calls Try.prog 11 #[.pointer (some ⟨q, 0, none⟩)] y fun e w' => e = .returned (.int .i64 U) ∧ Below y.heap.size y w') := Lib.hid fun y hy => by rw [← hU]; exact (dUsed_any B q ⟨rm7, fu7, false, fs7⟩ y (P9.out.disk.kept hy)).mono fun e w' ⟨h1, h2⟩ => ⟨h1, by rw [h2]; exact Below.refl _ _⟩
              have HRUsed : Hid (∀ y, Below W9.heap.size W9 y → Calls Try.prog 12 #[.agg #[.int .i64 rm7, .int .i64 fu7, .bool false, .slice ao7 j cap7]] y fun e w' => e = .returned (.int .i64 U) ∧ Below y.heap.size y w') := Lib.hid fun y hy => by rw [← hU]; exact r5Used_any ⟨rm7, fu7, false, fs7⟩ (.slice ao7 j cap7) y (P9.out.files.below hy) (by show fs7.length ≤ _; omega) (by show dUsed fs7 ≤ _; omega)
              have HList : Hid (∀ y, Below W9.heap.size W9 y → Calls Try.prog 14 #[.pointer (some ⟨q, 0, none⟩)] y fun e w' => ∃ v, e = .returned v ∧ OwnStrs w' y.heap.size v (listL ⟨rm7, fu7, false, fs7⟩) ∧ Below y.heap.size y w') := Lib.hid fun y hy => dList_any B q ⟨rm7, fu7, false, fs7⟩ y (P9.out.disk.kept hy) (by show fs7.length ≤ _; omega) hnm9
              have HSame : Hid (∀ (y : World) (v : Value), Below W9.heap.size W9 y → StrsAt y v (listL ⟨rm7, fu7, false, fs7⟩) → Calls Try.prog 13 #[v, u11] y fun e w' => e = .returned (.bool true) ∧ Below y.heap.size y w') := Lib.hid fun y v hy h => by
                have := law5same_any v (u11) _ _ y h (HS9.out ⟨y, hy⟩) (by rw [HLL.out]; first | exact Nat.zero_le _ | (unfold dNames; rw [List.length_map]; omega))
                rwa [decide_eq_true rfl] at this
              have c0 := fun y : Past W9 => (Lib.cell_of_heap ((y.h.block _ (dHeap_lt P9.out.box)).trans P9.out.box) 0).trans (rfl : _ = some (Value.int .i64 rm7))
              have c1 := fun y : Past W9 => (Lib.cell_of_heap ((y.h.block _ (dHeap_lt P9.out.box)).trans P9.out.box) 1).trans (rfl : _ = some (Value.int .i64 fu7))
              have c2 := fun y : Past W9 => (Lib.cell_of_heap ((y.h.block _ (dHeap_lt P9.out.box)).trans P9.out.box) 2).trans (rfl : _ = some (Value.bool false))
              have c3 := fun y : Past W9 => (Lib.cell_of_heap ((y.h.block _ (dHeap_lt P9.out.box)).trans P9.out.box) 3).trans (rfl : _ = some (Value.slice ao7 j cap7))
              have f1 := fun y : Past W9 => (Lib.cell_of_heap ((y.h.block _ (dHeap_lt HX9.out)).trans HX9.out) 1).trans (rfl : _ = some (Value.string (⟨#[]⟩)))
              clear hlen9 hus9 hnm9 hU HS9
              refine wp_region_wildM [18] [0, 1, 2, 3, 4, 5, 6, 7, 8, 9, 10, 11, 12, 13, 14, 15, 16, 17, 19, 18, 20, 21, 22, 23, 24, 25, 26, 27, 28, 29, 30, 31, 32, 33] (by kernel_rfl) (by kernel_rfl) ?_
              simp only [pickO, List.getElem?_cons_zero, List.getElem?_cons_succ]
              iterate 4 (refine wildO_val (by decide) (by kernel_rfl) rfl ?_; intro K hK; go_big_quiet_op; go_big_quiet_on)
              refine wildO_call (by decide) (by kernel_rfl) (by kernel_rfl) ?_
              apply Exists.intro
              refine And.intro ?_ ?_
              focus
                intro x K hK
                go_big_quiet_op
                go_big_quiet_call (exact call_back (HDead.out _ (Past.two _)))
                rfl
              iterate 6 (refine wildO_val (by decide) (by kernel_rfl) rfl ?_; intro K hK; go_big_quiet_op; go_big_quiet_on)
              refine wildO_call (by decide) (by kernel_rfl) (by kernel_rfl) ?_
              apply Exists.intro
              refine And.intro ?_ ?_
              focus
                intro x K hK
                go_big_quiet_op
                go_big_quiet_call (exact call_back (HUsed.out _ (Past.two _)))
                rfl
              iterate 1 (refine wildO_val (by decide) (by kernel_rfl) rfl ?_; intro K hK; go_big_quiet_op; go_big_quiet_on)
              refine wildO_call (by decide) (by kernel_rfl) (by kernel_rfl) ?_
              apply Exists.intro
              refine And.intro ?_ ?_
              focus
                intro x K hK
                go_big_quiet_op
                go_big_quiet_call (exact call_back (HRUsed.out _ (Past.two _)))
                rfl
              iterate 5 (refine wildO_val (by decide) (by kernel_rfl) rfl ?_; intro K hK; go_big_quiet_op; go_big_quiet_on)
              refine wildO_wild (by decide) (by kernel_rfl) ?_
              intro x K hK
              unfold wildAt
              go_simp
              refine (HList.out _ x.h).mono ?_
              rintro e w14 ⟨v14, rfl, o14, hb⟩
              refine ⟨_, rfl, hb, hK _ _ ?_⟩
              simp only [Act.put, List.setIfInBounds_toArray, List.set_cons_succ, List.set_cons_zero]
              have hbx := Below.step x.h hb
              have HL14 := Lib.hid o14.lie
              have f2 : ∀ y : Past w14, y.w.cell? ⟨gf, 1, none⟩ = some (.string (⟨#[]⟩)) := fun y => f1 ⟨y.w, Below.step hbx y.h⟩
              refine wildO_call (by decide) (by kernel_rfl) (by kernel_rfl) ?_
              apply Exists.intro
              refine And.intro ?_ ?_
              focus
                intro x K hK
                go_big_quiet_op
                go_big_quiet_call (exact call_back (HSame.out _ _ (Below.step hbx (Past.two _)) (HL14.out.below (Past.two _))))
                rfl
              iterate 13 (refine wildO_val (by decide) (by kernel_rfl) rfl ?_; intro K hK; go_big_quiet_op; go_big_quiet_on)
              refine wildO_nil ?_
              rintro ⟨z, hz⟩
              dsimp only
              have PZ := Lib.hid ((P9.out.below hbx).below hz)
              clear hbx hz hb o14 HL14 c0 c1 c2 c3 f1 f2 HDead HUsed HRUsed HList HSame P9 HX9
              go_wp2_with fail
              exact ⟨⟨i + 1, _, _, hlt1, hlt2, by go_num, PZ⟩, by simp [intOf]; omega⟩
            · rw [show rdB ⟨rm7, fu7, false, fs7⟩ nm = f.bytes from by unfold rdB findE; simp [hq, dBytes_some hq], show findE ⟨rm7, fu7, false, fs7⟩ nm = 0 from by unfold findE; simp [hq]] at HRD
              rw [hq] at HFD
              rw [show fileD (some f) = f from rfl, show (some f).isSome = true from rfl] at HFD
              clear hq
              go_wp2_with fail
              refine HRD.out.mono ?_
              rintro e wz ⟨rfl, hz⟩
              rw [hz]
              clear hz HRD
              go_wp2_with fail
              refine HFD.out.mono ?_
              rintro e wf ⟨rfl, bf⟩
              clear HFD a1
              have HBF := Lib.hid bf
              have HSS : Hid (∀ y, Below wf.heap.size wf y → StrsAt y u11 (dNames fs7)) := Lib.hid fun y h => ((HO.out.below bf).below h).lie
              have b9 := HBF.out.alloc HBF.out.size (.cells #[.string (stx f.name), .string (stx f.bytes), .int .i64 f.sure] 37)
              have P9 := Lib.hid (HPj.out.below b9)
              have x9 := heap_alloc_new wf (.cells #[.string (stx f.name), .string (stx f.bytes), .int .i64 f.sure] 37)
              have bz9 : Below wf.heap.size wf (wf.alloc (.cells #[.string (stx f.name), .string (stx f.bytes), .int .i64 f.sure] 37)) := (Below.refl _ _).alloc (Nat.le_refl _) _
              have HS9 : Hid (∀ y : Past (wf.alloc (.cells #[.string (stx f.name), .string (stx f.bytes), .int .i64 f.sure] 37)), StrsAt y.w (u11) (listL ⟨rm7, fu7, false, fs7⟩)) := Lib.hid fun y => by rw [HLL.out]; exact HSS.out _ (below_past bz9 y.h bz9.size)
              have HX9 := Lib.hid x9
              have y2' := (Lib.cell_of_heap P9.out.box 2).trans (rfl : _ = some (Value.bool false))
              clear b9 bz9 bf x9 HBF HSS HPj y0 y1 y2 y3
              go_wp2_with fail
              generalize wf.alloc (.cells #[.string (stx f.name), .string (stx f.bytes), .int .i64 f.sure] 37) = W9 at *
              generalize wf.heap.size = gf at *
              clear y2'
              have hlen9 : fs7.length ≤ 61 := by rw [HN7.out]; exact hn7
              have hus9 : dUsed fs7 ≤ 1000000 := by have := P9.out.inv.used_; dsimp only at this; omega
              have hnm9 : ∀ f ∈ fs7, f.name.length ≤ 281474976710656 := fun f hf => by have := P9.out.inv.names f hf; omega
              have HDead : Hid (∀ y, Below W9.heap.size W9 y → Calls Try.prog 10 #[.pointer (some ⟨q, 0, none⟩)] y fun e w' => e = .returned (.bool false) ∧ Below y.heap.size y w') := Lib.hid fun y hy => (dDead_any B q ⟨rm7, fu7, false, fs7⟩ y (P9.out.disk.kept hy)).mono fun e w' ⟨h1, h2⟩ => ⟨h1, by rw [h2]; exact Below.refl _ _⟩
              obtain ⟨U, hU⟩ : ∃ U : Int, (dUsed fs7 : Int) = U := ⟨_, rfl⟩
              have HUsed : Hid (∀ y, Below W9.heap.size W9 y → Calls Try.prog 11 #[.pointer (some ⟨q, 0, none⟩)] y fun e w' => e = .returned (.int .i64 U) ∧ Below y.heap.size y w') := Lib.hid fun y hy => by rw [← hU]; exact (dUsed_any B q ⟨rm7, fu7, false, fs7⟩ y (P9.out.disk.kept hy)).mono fun e w' ⟨h1, h2⟩ => ⟨h1, by rw [h2]; exact Below.refl _ _⟩
              have HRUsed : Hid (∀ y, Below W9.heap.size W9 y → Calls Try.prog 12 #[.agg #[.int .i64 rm7, .int .i64 fu7, .bool false, .slice ao7 j cap7]] y fun e w' => e = .returned (.int .i64 U) ∧ Below y.heap.size y w') := Lib.hid fun y hy => by rw [← hU]; exact r5Used_any ⟨rm7, fu7, false, fs7⟩ (.slice ao7 j cap7) y (P9.out.files.below hy) (by show fs7.length ≤ _; omega) (by show dUsed fs7 ≤ _; omega)
              have HList : Hid (∀ y, Below W9.heap.size W9 y → Calls Try.prog 14 #[.pointer (some ⟨q, 0, none⟩)] y fun e w' => ∃ v, e = .returned v ∧ OwnStrs w' y.heap.size v (listL ⟨rm7, fu7, false, fs7⟩) ∧ Below y.heap.size y w') := Lib.hid fun y hy => dList_any B q ⟨rm7, fu7, false, fs7⟩ y (P9.out.disk.kept hy) (by show fs7.length ≤ _; omega) hnm9
              have HSame : Hid (∀ (y : World) (v : Value), Below W9.heap.size W9 y → StrsAt y v (listL ⟨rm7, fu7, false, fs7⟩) → Calls Try.prog 13 #[v, u11] y fun e w' => e = .returned (.bool true) ∧ Below y.heap.size y w') := Lib.hid fun y v hy h => by
                have := law5same_any v (u11) _ _ y h (HS9.out ⟨y, hy⟩) (by rw [HLL.out]; first | exact Nat.zero_le _ | (unfold dNames; rw [List.length_map]; omega))
                rwa [decide_eq_true rfl] at this
              have c0 := fun y : Past W9 => (Lib.cell_of_heap ((y.h.block _ (dHeap_lt P9.out.box)).trans P9.out.box) 0).trans (rfl : _ = some (Value.int .i64 rm7))
              have c1 := fun y : Past W9 => (Lib.cell_of_heap ((y.h.block _ (dHeap_lt P9.out.box)).trans P9.out.box) 1).trans (rfl : _ = some (Value.int .i64 fu7))
              have c2 := fun y : Past W9 => (Lib.cell_of_heap ((y.h.block _ (dHeap_lt P9.out.box)).trans P9.out.box) 2).trans (rfl : _ = some (Value.bool false))
              have c3 := fun y : Past W9 => (Lib.cell_of_heap ((y.h.block _ (dHeap_lt P9.out.box)).trans P9.out.box) 3).trans (rfl : _ = some (Value.slice ao7 j cap7))
              have f1 := fun y : Past W9 => (Lib.cell_of_heap ((y.h.block _ (dHeap_lt HX9.out)).trans HX9.out) 1).trans (rfl : _ = some (Value.string (stx f.bytes)))
              clear hlen9 hus9 hnm9 hU HS9
              refine wp_region_wildM [18] [0, 1, 2, 3, 4, 5, 6, 7, 8, 9, 10, 11, 12, 13, 14, 15, 16, 17, 19, 18, 20, 21, 22, 23, 24, 25, 26, 27, 28, 29, 30, 31, 32, 33] (by kernel_rfl) (by kernel_rfl) ?_
              simp only [pickO, List.getElem?_cons_zero, List.getElem?_cons_succ]
              iterate 4 (refine wildO_val (by decide) (by kernel_rfl) rfl ?_; intro K hK; go_big_quiet_op; go_big_quiet_on)
              refine wildO_call (by decide) (by kernel_rfl) (by kernel_rfl) ?_
              apply Exists.intro
              refine And.intro ?_ ?_
              focus
                intro x K hK
                go_big_quiet_op
                go_big_quiet_call (exact call_back (HDead.out _ (Past.two _)))
                rfl
              iterate 6 (refine wildO_val (by decide) (by kernel_rfl) rfl ?_; intro K hK; go_big_quiet_op; go_big_quiet_on)
              refine wildO_call (by decide) (by kernel_rfl) (by kernel_rfl) ?_
              apply Exists.intro
              refine And.intro ?_ ?_
              focus
                intro x K hK
                go_big_quiet_op
                go_big_quiet_call (exact call_back (HUsed.out _ (Past.two _)))
                rfl
              iterate 1 (refine wildO_val (by decide) (by kernel_rfl) rfl ?_; intro K hK; go_big_quiet_op; go_big_quiet_on)
              refine wildO_call (by decide) (by kernel_rfl) (by kernel_rfl) ?_
              apply Exists.intro
              refine And.intro ?_ ?_
              focus
                intro x K hK
                go_big_quiet_op
                go_big_quiet_call (exact call_back (HRUsed.out _ (Past.two _)))
                rfl
              iterate 5 (refine wildO_val (by decide) (by kernel_rfl) rfl ?_; intro K hK; go_big_quiet_op; go_big_quiet_on)
              refine wildO_wild (by decide) (by kernel_rfl) ?_
              intro x K hK
              unfold wildAt
              go_simp
              refine (HList.out _ x.h).mono ?_
              rintro e w14 ⟨v14, rfl, o14, hb⟩
              refine ⟨_, rfl, hb, hK _ _ ?_⟩
              simp only [Act.put, List.setIfInBounds_toArray, List.set_cons_succ, List.set_cons_zero]
              have hbx := Below.step x.h hb
              have HL14 := Lib.hid o14.lie
              have f2 : ∀ y : Past w14, y.w.cell? ⟨gf, 1, none⟩ = some (.string (stx f.bytes)) := fun y => f1 ⟨y.w, Below.step hbx y.h⟩
              refine wildO_call (by decide) (by kernel_rfl) (by kernel_rfl) ?_
              apply Exists.intro
              refine And.intro ?_ ?_
              focus
                intro x K hK
                go_big_quiet_op
                go_big_quiet_call (exact call_back (HSame.out _ _ (Below.step hbx (Past.two _)) (HL14.out.below (Past.two _))))
                rfl
              iterate 13 (refine wildO_val (by decide) (by kernel_rfl) rfl ?_; intro K hK; go_big_quiet_op; go_big_quiet_on)
              refine wildO_nil ?_
              rintro ⟨z, hz⟩
              dsimp only
              have PZ := Lib.hid ((P9.out.below hbx).below hz)
              clear hbx hz hb o14 HL14 c0 c1 c2 c3 f1 f2 HDead HUsed HRUsed HList HSame P9 HX9
              go_wp2_with fail
              exact ⟨⟨i + 1, _, _, hlt1, hlt2, by go_num, PZ⟩, by simp [intOf]; omega⟩
    · have HBB := Lib.hid (show Below w.heap.size w wr from by rw [HB.out]; exact HP.out.below_)
      by_cases hg1 : i < alen
      · have g1' : decide (i < alen) = true := decide_eq_true hg1
        have g1n : (i : Int) < alen := by omega
        obtain rfl : i = 60 := by omega
        rw [show ((60 : Nat) : Int) = 60 from rfl]
        rw [show ((60 : Nat) : Int) = 60 from rfl] at g1n
        clear hgo hg1 hi1 HP
        go_wp2_with fail
        go_ret
        exact ⟨rfl, HBB.out⟩
      · obtain rfl : i = alen := by omega
        have g1' : decide (i < i) = false := decide_eq_false hg1
        clear hgo hg1 hi1 HP
        go_wp2_with fail
        go_ret
        exact ⟨rfl, HBB.out⟩
set_option maxRecDepth 100000 in
theorem lifted (os : Os) (started : os.Started) (H : Type) (enc : TypeId × Value → H) :
    ReturnsInHanded {} Try.checked os 3 .any (Rows.diskPlaysSpec.pre6 enc Try.prog Try.f3 Rows.diskPlaysRow.domain false) (Rows.diskPlaysSpec.post enc Try.prog Try.f3 false true false false) := by
  refine returnsInHanded_of_change (C := Try.checked) own started (by kernel_rfl) Try.func3
    (ChangeSpec.witness6 (enc := enc) (C := Try.checked) false ⟨#[], #[.int .i64 0, .slice none 0 0], []⟩ 8 (by kernel_rfl) (by kernel_rfl) (by kernel_rfl) (by kernel_rfl)) ?_
  intro W base args ds gs before hval0 hW _ _
  have hval : ∀ (j : Nat) t v, Try.f3.params[j]? = some t → args[j]? = some v → Value.okWide Try.prog W .any base t v := hval0
  clear hval0
  have hW' := hW
  obtain ⟨p, q, hA0, hV, rfl, hfz, hnd⟩ := hW
  have hA : DataW.TrodAll enc Try.prog W 0 (fun _ => true) true Try.f3.params.toList args.toList ds p := hA0
  rw [Try.params3] at hA hval
  clear hA0 hfz hnd hV
  have hr : Readable Try.f3.params.toList := by
    rw [Try.params3]
    exact readable_of_all (by kernel_rfl)
  have fin : ∀ W', Below W.heap.size W W' → Rows.diskPlaysSpec.post enc Try.prog Try.f3 false true false false W args (.bool true) W' := fun W' hb =>
    law_post rfl hW' hr (fun l hl => by
      rw [Try.params3] at hl
      match l, hl with
      | [d1, d2], _ => rfl) (by kernel_rfl) hb
  clear hW' hr
  obtain ⟨v0, v1, d0, d1, p0, p1, rfl, rfl, rfl, h0, h1⟩ := trodAll_two hA; obtain ⟨n, rfl, _, _, w0⟩ := open_int Try.underlying3 (hval 0 3 v0 rfl rfl) h0; obtain ⟨l1, S1, hs1⟩ := in_acts (hval 1 22 v1 rfl rfl) h1
  exact (walk n v1 l1 S1 W (by have := wf_i64 w0; omega) hs1).mono fun e W' ⟨he, hb⟩ => ⟨_, he, fin W' hb⟩
theorem proved : Rows.DiskPlaysSaid :=
  OpenClaim.holds_of_wide 3 Try.f3 rfl rfl rfl rfl rfl rfl rfl ⟨rfl, rfl, rfl, rfl, rfl⟩ rfl rfl rfl rfl rfl (by kernel_rfl) Try.func3 (by kernel_rfl)
    (of_decide_eq_true (by kernel_rfl)) (by unfold Func.isWrapper; first | (rw [if_pos (by decide +kernel)]; kernel_rfl) | (rw [if_neg (by decide +kernel)]; exact ⟨rfl, rfl⟩))
    (fun os started H enc _ => lifted os started H enc)
end Go.Proofs.Ytlnijckgnchpbaa.plays
