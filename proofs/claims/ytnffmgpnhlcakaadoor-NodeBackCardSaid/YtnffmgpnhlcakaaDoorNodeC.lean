/- Nodes as leaves and as inner ones, their bytes, the program's and the document's, == of them; the calls whose answers the document fixes. Conditions: the table of the rounds' constants lies where the program lays it. -/
import Derived.Test.YtnffmgpnhlcakaaDoorNodeB
import Derived.Test.YtnffmgpnhlcakaaDoorCode8
import Derived.Test.YtnffmgpnhlcakaaDoorRef2a
namespace Go.Proofs.YtnffmgpnhlcakaaDoor
open Go Go.RowKit

def Nd.lf : Nd → Lf
  | .leaf x => x
  | _ => zeroLf
def Nd.isLf : Nd → Bool
  | .leaf _ => true
  | _ => false
def Nd.fst : Nd → Itm
  | .inner x _ => x
  | _ => zeroItm
def Nd.snd : Nd → Itm
  | .inner _ y => y
  | _ => zeroItm
def Nd.isIn : Nd → Bool
  | .inner _ _ => true
  | _ => false

theorem row_ret_leafT {fn : Func} {p q : Tmp} (h : fn.results = #[.cell p 37, .tmp q]) {R : Ending → World → Prop} {a : Act} {w : World} {b : Nat} {l : Lf} {v : Value} (hp : a.tmps.getD p undef = .pointer (some ⟨b, 0, none⟩)) (hq : a.tmps.getD q undef = v) (hd : a.defers = [])
    (hr : rowAt w b = some (cellsF l)) (hR : R (.returned (.tuple #[.agg (cellsF l), v])) w) : bodyPost Tryd.prog fn R .ret a w := by
  subst hq
  exact bodyPost_ret (results_row_tmp h a.tmps w b _ _ hp hr Tryd.underlying37 rfl (by rw [size_cellsF]; kernel_rfl)) hd hR
theorem row_ret_innerT {fn : Func} {p q : Tmp} (h : fn.results = #[.cell p 45, .tmp q]) {R : Ending → World → Prop} {a : Act} {w : World} {b : Nat} {x y : Itm} {v : Value} (hp : a.tmps.getD p undef = .pointer (some ⟨b, 0, none⟩)) (hq : a.tmps.getD q undef = v) (hd : a.defers = [])
    (hr : rowAt w b = some (cellsN x y)) (hR : R (.returned (.tuple #[.agg (cellsN x y), v])) w) : bodyPost Tryd.prog fn R .ret a w := by
  subst hq
  exact bodyPost_ret (results_row_tmp h a.tmps w b _ _ hp hr Tryd.underlying45 rfl (by rw [size_cellsN]; kernel_rfl)) hd hR

set_option maxRecDepth 100000 in
set_option maxHeartbeats 1000000 in
theorem nleafOf_leaf (x : Lf) (w : World) : Calls Tryd.prog 38 #[.iface 37 (.agg (cellsF x))] w fun e w' => e = .returned (.tuple #[.agg (cellsF x), .bool true]) ∧ Below w.heap.size w w' := by
  have b0 : Below w.heap.size w (((w.alloc (.cells (cellsF x) 37)).alloc (.cells (cellsF x) 37))) := ((Below.refl _ _).alloc (Nat.le_refl _) _).alloc (by simp only [World.size_alloc]; omega) _
  have r0 : rowAt (((w.alloc (.cells (cellsF x) 37)).alloc (.cells (cellsF x) 37))) w.heap.size = some (cellsF x) := (rowAt_alloc_past _ _ _ (by simp only [World.size_alloc]; omega)).trans (rowAt_alloc_at _ _ _ _ rfl)
  go_enter Tryd.func38, Tryd.ntmps38
  go_wp2_with fail
  exact row_ret_leafT rfl rfl rfl rfl r0 ⟨rfl, b0⟩
set_option maxRecDepth 100000 in
set_option maxHeartbeats 1000000 in
theorem nleafOf_inner (x y : Itm) (w : World) : Calls Tryd.prog 38 #[.iface 45 (.agg (cellsN x y))] w fun e w' => e = .returned (.tuple #[.agg (cellsF zeroLf), .bool false]) ∧ Below w.heap.size w w' := by
  have b0 : Below w.heap.size w (((w.alloc (.cells (cellsF zeroLf) 37)).alloc (.cells (cellsF zeroLf) 37))) := ((Below.refl _ _).alloc (Nat.le_refl _) _).alloc (by simp only [World.size_alloc]; omega) _
  have r0 : rowAt (((w.alloc (.cells (cellsF zeroLf) 37)).alloc (.cells (cellsF zeroLf) 37))) w.heap.size = some (cellsF zeroLf) := (rowAt_alloc_past _ _ _ (by simp only [World.size_alloc]; omega)).trans (rowAt_alloc_at _ _ _ _ rfl)
  go_enter Tryd.func38, Tryd.ntmps38
  go_wp2_with fail
  exact row_ret_leafT rfl rfl rfl rfl r0 ⟨rfl, b0⟩
set_option maxRecDepth 100000 in
set_option maxHeartbeats 1000000 in
theorem nleafOf_none  (w : World) : Calls Tryd.prog 38 #[.nilIface] w fun e w' => e = .returned (.tuple #[.agg (cellsF zeroLf), .bool false]) ∧ Below w.heap.size w w' := by
  have b0 : Below w.heap.size w (((w.alloc (.cells (cellsF zeroLf) 37)).alloc (.cells (cellsF zeroLf) 37))) := ((Below.refl _ _).alloc (Nat.le_refl _) _).alloc (by simp only [World.size_alloc]; omega) _
  have r0 : rowAt (((w.alloc (.cells (cellsF zeroLf) 37)).alloc (.cells (cellsF zeroLf) 37))) w.heap.size = some (cellsF zeroLf) := (rowAt_alloc_past _ _ _ (by simp only [World.size_alloc]; omega)).trans (rowAt_alloc_at _ _ _ _ rfl)
  go_enter Tryd.func38, Tryd.ntmps38
  go_wp2_with fail
  exact row_ret_leafT rfl rfl rfl rfl r0 ⟨rfl, b0⟩
set_option maxRecDepth 100000 in
set_option maxHeartbeats 1000000 in
theorem ninnerOf_leaf (x : Lf) (w : World) : Calls Tryd.prog 39 #[.iface 37 (.agg (cellsF x))] w fun e w' => e = .returned (.tuple #[.agg (cellsN zeroItm zeroItm), .bool false]) ∧ Below w.heap.size w w' := by
  have b0 : Below w.heap.size w (((w.alloc (.cells (cellsN zeroItm zeroItm) 45)).alloc (.cells (cellsN zeroItm zeroItm) 45))) := ((Below.refl _ _).alloc (Nat.le_refl _) _).alloc (by simp only [World.size_alloc]; omega) _
  have r0 : rowAt (((w.alloc (.cells (cellsN zeroItm zeroItm) 45)).alloc (.cells (cellsN zeroItm zeroItm) 45))) w.heap.size = some (cellsN zeroItm zeroItm) := (rowAt_alloc_past _ _ _ (by simp only [World.size_alloc]; omega)).trans (rowAt_alloc_at _ _ _ _ rfl)
  go_enter Tryd.func39, Tryd.ntmps39
  go_wp2_with fail
  exact row_ret_innerT rfl rfl rfl rfl r0 ⟨rfl, b0⟩
set_option maxRecDepth 100000 in
set_option maxHeartbeats 1000000 in
theorem ninnerOf_inner (x y : Itm) (w : World) : Calls Tryd.prog 39 #[.iface 45 (.agg (cellsN x y))] w fun e w' => e = .returned (.tuple #[.agg (cellsN x y), .bool true]) ∧ Below w.heap.size w w' := by
  have b0 : Below w.heap.size w (((w.alloc (.cells (cellsN x y) 45)).alloc (.cells (cellsN x y) 45))) := ((Below.refl _ _).alloc (Nat.le_refl _) _).alloc (by simp only [World.size_alloc]; omega) _
  have r0 : rowAt (((w.alloc (.cells (cellsN x y) 45)).alloc (.cells (cellsN x y) 45))) w.heap.size = some (cellsN x y) := (rowAt_alloc_past _ _ _ (by simp only [World.size_alloc]; omega)).trans (rowAt_alloc_at _ _ _ _ rfl)
  go_enter Tryd.func39, Tryd.ntmps39
  go_wp2_with fail
  exact row_ret_innerT rfl rfl rfl rfl r0 ⟨rfl, b0⟩
set_option maxRecDepth 100000 in
set_option maxHeartbeats 1000000 in
theorem ninnerOf_none  (w : World) : Calls Tryd.prog 39 #[.nilIface] w fun e w' => e = .returned (.tuple #[.agg (cellsN zeroItm zeroItm), .bool false]) ∧ Below w.heap.size w w' := by
  have b0 : Below w.heap.size w (((w.alloc (.cells (cellsN zeroItm zeroItm) 45)).alloc (.cells (cellsN zeroItm zeroItm) 45))) := ((Below.refl _ _).alloc (Nat.le_refl _) _).alloc (by simp only [World.size_alloc]; omega) _
  have r0 : rowAt (((w.alloc (.cells (cellsN zeroItm zeroItm) 45)).alloc (.cells (cellsN zeroItm zeroItm) 45))) w.heap.size = some (cellsN zeroItm zeroItm) := (rowAt_alloc_past _ _ _ (by simp only [World.size_alloc]; omega)).trans (rowAt_alloc_at _ _ _ _ rfl)
  go_enter Tryd.func39, Tryd.ntmps39
  go_wp2_with fail
  exact row_ret_innerT rfl rfl rfl rfl r0 ⟨rfl, b0⟩
theorem nleafOf_any (d : Nd) (w : World) : Calls Tryd.prog 38 #[d.val] w fun e w' => e = .returned (.tuple #[.agg (cellsF d.lf), .bool d.isLf]) ∧ Below w.heap.size w w' := by
  cases d with
  | leaf x => exact nleafOf_leaf x w
  | inner x y => exact nleafOf_inner x y w
  | none => exact nleafOf_none w
theorem ninnerOf_any (d : Nd) (w : World) : Calls Tryd.prog 39 #[d.val] w fun e w' => e = .returned (.tuple #[.agg (cellsN d.fst d.snd), .bool d.isIn]) ∧ Below w.heap.size w w' := by
  cases d with
  | leaf x => exact ninnerOf_leaf x w
  | inner x y => exact ninnerOf_inner x y w
  | none => exact ninnerOf_none w
set_option maxRecDepth 100000 in
theorem nAsLeaf_any (d : Nd) (w : World) : Calls Tryd.prog 12 #[d.val] w fun e w' => e = .returned (.tuple #[.agg (cellsF d.lf), .bool d.isLf]) ∧ Below w.heap.size w w' := by
  have H := Lib.hid (fun w => nleafOf_any d w)
  have b0 : Below w.heap.size w (w.alloc (.cells (cellsF zeroLf) 37)) := (Below.refl _ _).alloc (Nat.le_refl _) _
  have r0 : rowAt (w.alloc (.cells (cellsF zeroLf) 37)) w.heap.size = some (cellsF zeroLf) := rowAt_alloc_at _ _ _ _ rfl
  generalize d.val = v at *
  generalize d.lf = x at *
  generalize d.isLf = p at *
  go_enter Tryd.func12, Tryd.ntmps12
  go_wp2_with fail
  generalize w.alloc (.cells (cellsF zeroLf) 37) = W at *
  refine (H.out _).mono ?_
  rintro e w1 ⟨rfl, b1⟩
  have r1 := rowAt_past b1 r0
  have b2 := below_past b0 b1 b0.size
  clear b0 b1 r0 H
  go_wp2_with fail
  exact row_ret_leafT rfl rfl rfl rfl (rowAt_setRow_same r1 _) ⟨rfl, Below.setRow b2 (Nat.le_refl _) _⟩
set_option maxRecDepth 100000 in
theorem nAsInner_any (d : Nd) (w : World) : Calls Tryd.prog 13 #[d.val] w fun e w' => e = .returned (.tuple #[.agg (cellsN d.fst d.snd), .bool d.isIn]) ∧ Below w.heap.size w w' := by
  have H := Lib.hid (fun w => ninnerOf_any d w)
  have b0 : Below w.heap.size w (w.alloc (.cells (cellsN zeroItm zeroItm) 45)) := (Below.refl _ _).alloc (Nat.le_refl _) _
  have r0 : rowAt (w.alloc (.cells (cellsN zeroItm zeroItm) 45)) w.heap.size = some (cellsN zeroItm zeroItm) := rowAt_alloc_at _ _ _ _ rfl
  generalize d.val = v at *
  generalize d.fst = x at *
  generalize d.snd = y at *
  generalize d.isIn = p at *
  go_enter Tryd.func13, Tryd.ntmps13
  go_wp2_with fail
  generalize w.alloc (.cells (cellsN zeroItm zeroItm) 45) = W at *
  refine (H.out _).mono ?_
  rintro e w1 ⟨rfl, b1⟩
  have r1 := rowAt_past b1 r0
  have b2 := below_past b0 b1 b0.size
  clear b0 b1 r0 H
  go_wp2_with fail
  exact row_ret_innerT rfl rfl rfl rfl (rowAt_setRow_same r1 _) ⟨rfl, Below.setRow b2 (Nat.le_refl _) _⟩
end Go.Proofs.YtnffmgpnhlcakaaDoor
namespace Go.Proofs.YtnffmgpnhlcakaaDoor
open Go Go.RowKit

/-- What holds no bytes stays where a writer is told. -/
theorem near_stays {B b k : Nat} {w w' : World} {cs : Array Value} {T : TypeId} {fr : Nat × Nat} (n : Near B b w w') (h : w.heap[k]? = some (.cells cs T fr)) (hT : T ≠ 5) (hk : k ≠ b) : w'.heap[k]? = some (.cells cs T fr) :=
  (n.far k (heap_lt h) hk fun cs2 fr2 q => by
    rw [h] at q
    simp only [Option.some.injEq, Obj.cells.injEq] at q
    exact hT q.2.1).trans h
theorem item_ne_u8 : (43 : TypeId) ≠ 5 := by decide
theorem inner_ne_u8 : (45 : TypeId) ≠ 5 := by decide
theorem leaf_ne_u8 : (37 : TypeId) ≠ 5 := by decide
theorem added_is (bs s : List UInt8) (h : bs.length ≤ 65536) : added bs 0 s = bs ++ s := if_pos ⟨rfl, h⟩

/-- The bytes of an item that is good. -/
def itW (x : Itm) : List UInt8 := numBytes x.n.toNat ++ x.b.l ++ x.s.l ++ numBytes x.e.toNat
theorem numBytes_9 (n : Nat) (h : n < 9223372036854775808) : (numBytes n).length ≤ 9 := by
  rw [numBytes_length]
  have := numLen_le n h
  omega
theorem good_nums {x : Itm} (h : goodI x = true) : (∃ n : Nat, x.n = n ∧ n ≤ 256) ∧ ∃ e : Nat, x.e = e ∧ e ≤ 1073741824 := by
  unfold goodI epB at h
  rw [Bool.and_eq_true, Bool.and_eq_true] at h
  obtain ⟨h1, h2, h3⟩ := h
  obtain ⟨n, hn, hn2, _⟩ := good_nat h1
  have h2 := of_decide_eq_true h2
  have h3 := of_decide_eq_true h3
  exact ⟨⟨n, hn, hn2⟩, x.e.toNat, by omega, by omega⟩
theorem itW_len {x : Itm} (h : goodI x = true) : (itW x).length ≤ 82 := by
  obtain ⟨⟨n, hn, hn2⟩, e, he, he2⟩ := good_nums h
  have h1 := numBytes_9 n (by omega)
  have h2 := numBytes_9 e (by omega)
  unfold itW
  rw [hn, he, Int.toNat_natCast, Int.toNat_natCast]
  simp only [List.length_append, x.b.h, x.s.h]
  omega

set_option maxRecDepth 100000 in
set_option maxHeartbeats 2000000 in
theorem nwriteItem_any (B b : Nat) (bs : List UInt8) (x : Itm) (w : World) (h : WriterAt B b bs 0 w) (hx : goodI x = true) (hl : bs.length ≤ 1000) (hBw : B ≤ w.heap.size) :
    Calls Tryd.prog 41 #[.pointer (some ⟨b, 0, none⟩), .agg (cellsI x)] w fun r w' => r = .returned (.tuple #[]) ∧ WriterAt B b (bs ++ itW x) 0 w' ∧ Near B b w w' := by
  obtain ⟨⟨n, hn, hn2⟩, m, hm, hm2⟩ := good_nums hx
  have b0 : Below w.heap.size w (w.alloc (.cells (cellsI x) 43)) := (Below.refl _ _).alloc (Nat.le_refl _) _
  have hr0 : (w.alloc (.cells (cellsI x) 43)).heap[w.heap.size]? = some (.cells (cellsI x) 43 (0, 0)) := heap_alloc_new w _
  obtain ⟨ao, cap, hrow, _⟩ := id h
  have hne : w.heap.size ≠ b := Nat.ne_of_gt (heap_lt hrow)
  clear hrow
  have K0 := h.below b0
  have N0 : Near B b w (w.alloc (.cells (cellsI x) 43)) := b0.near hBw
  have g0 := get_I0 x
  have g65 := get_I65 x
  rw [hn] at g0
  rw [hm] at g65
  have h9 := numBytes_9 n (by omega)
  have HN1 := Lib.hid (fun w h hBw => Number_any B b bs 0 n w h (by omega) hBw)
  rw [added_is _ _ (by omega)] at HN1
  have HL1 := Lib.hid (fun w h hBw => Label_any B b (bs ++ numBytes n) 0 x.b w h hBw)
  rw [added_is _ _ (by rw [List.length_append]; omega)] at HL1
  have HL2 := Lib.hid (fun w h hBw => Label_any B b (bs ++ numBytes n ++ x.b.l) 0 x.s w h hBw)
  rw [added_is _ _ (by rw [List.length_append, List.length_append, x.b.h]; omega)] at HL2
  have HN2 := Lib.hid (fun w h hBw => Number_any B b (bs ++ numBytes n ++ x.b.l ++ x.s.l) 0 m w h (by omega) hBw)
  rw [added_is _ _ (by rw [List.length_append, List.length_append, List.length_append, x.b.h, x.s.h]; omega)] at HN2
  have HW : Hid (bs ++ itW x = bs ++ numBytes n ++ x.b.l ++ x.s.l ++ numBytes m) := Lib.hid (by
    unfold itW
    rw [hn, hm, Int.toNat_natCast, Int.toNat_natCast]
    simp only [List.append_assoc])
  rw [HW.out]
  have c0 := (cell_of_rowAt (rowAt_of_heap hr0) 0).trans g0
  clear hn hm hx h hl h9 HW hn2 hm2
  generalize bs ++ numBytes n ++ x.b.l ++ x.s.l ++ numBytes m = l4 at *
  generalize bs ++ numBytes n ++ x.b.l ++ x.s.l = l3 at *
  generalize bs ++ numBytes n ++ x.b.l = l2 at *
  generalize bs ++ numBytes n = l1 at *
  go_enter Tryd.func41, Tryd.ntmps41
  go_wp2_with fail
  generalize hW : w.alloc (.cells (cellsI x) 43) = W at *
  generalize hg : w.heap.size = g at *
  have hBW : B ≤ W.heap.size := Nat.le_trans hBw (by rw [← hg]; exact N0.size)
  refine (HN1.out _ K0 hBW).mono ?_
  rintro e w1 ⟨rfl, k1, n1⟩
  have hr1 := near_stays n1 hr0 item_ne_u8 hne
  have r1 := rowAt_of_heap hr1
  have N1 := N0.trans n1
  have hB1 : B ≤ w1.heap.size := Nat.le_trans hBW n1.size
  clear K0 N0 hBW n1 hr0 c0 HN1 hW
  go_wp2_with fail
  refine (HL1.out _ k1 hB1).mono ?_
  rintro e w2 ⟨rfl, k2, n2⟩
  have hr2 := near_stays n2 hr1 item_ne_u8 hne
  have r2 := rowAt_of_heap hr2
  have N2 := N1.trans n2
  have hB2 : B ≤ w2.heap.size := Nat.le_trans hB1 n2.size
  clear k1 N1 hB1 n2 hr1 r1 HL1
  go_wp2_with fail
  refine (HL2.out _ k2 hB2).mono ?_
  rintro e w3 ⟨rfl, k3, n3⟩
  have hr3 := near_stays n3 hr2 item_ne_u8 hne
  have c3 := (cell_of_rowAt (rowAt_of_heap hr3) 65).trans g65
  have N3 := N2.trans n3
  have hB3 : B ≤ w3.heap.size := Nat.le_trans hB2 n3.size
  clear k2 N2 hB2 n3 hr2 r2 HL2
  go_wp2_with fail
  refine (HN2.out _ k3 hB3).mono ?_
  rintro e w4 ⟨rfl, k4, n4⟩
  have N4 := N3.trans n4
  clear k3 N3 hB3 n4 hr3 c3 HN2
  go_wp2_with fail
  go_end0
  exact ⟨rfl, k4, N4⟩

/-- The bytes of a node that is right. -/
def ndW : Nd → List UInt8
  | .leaf x => 0 :: (x.a.l ++ x.v.l ++ numBytes x.e.toNat)
  | .inner x y => 1 :: (itW x ++ itW y)
  | .none => []
/-- What Bytes answers. -/
def BytesR (d : Nd) : Value := if chkN d = 0 then .tuple #[.string (stx (ndW d)), .int .i64 0] else .tuple #[.string ⟨#[]⟩, .int .i64 (chkN d)]

set_option maxRecDepth 100000 in
set_option maxHeartbeats 2000000 in
theorem nBytes_bad (d : Nd) (w : World) (hd : chkN d ≠ 0) : Calls Tryd.prog 15 #[d.val] w fun e w' => e = .returned (BytesR d) ∧ Below w.heap.size w w' := by
  have H := Lib.hid (fun w => ndCheck_any d w)
  rw [BytesR, if_neg hd]
  generalize d.val = v at *
  generalize chkN d = E at *
  have hE : (E != 0) = true := by rw [bne_iff_ne]; exact hd
  clear hd
  go_enter Tryd.func15, Tryd.ntmps15
  go_wp2_with fail
  refine (H.out _).mono ?_
  rintro e w1 ⟨rfl, b1⟩
  go_wp2_with fail
  go_ret2
  exact ⟨rfl, b1⟩
theorem writer_new (w : World) : WriterAt w.heap.size w.heap.size [] 0 (w.alloc (.cells #[.slice none 0 0, .int .i64 0] 80)) :=
  ⟨none, 0, heap_alloc_new w _, World.ownsRow_nil _ _ _ _, by simp [Value.ownBlock]⟩

set_option maxRecDepth 100000 in
set_option maxHeartbeats 4000000 in
theorem nBytes_inner (x y : Itm) (w : World) (hd : chkI x y = 0) : Calls Tryd.prog 15 #[.iface 45 (.agg (cellsN x y))] w fun e w' => e = .returned (.tuple #[.string (stx (ndW (.inner x y))), .int .i64 0]) ∧ Below w.heap.size w w' := by
  have H : Hid (∀ w, Calls Tryd.prog 29 #[.iface 45 (.agg (cellsN x y))] w fun e w' => e = .returned (.int .i64 0) ∧ Below w.heap.size w w') := Lib.hid (fun w => by
    have := ndCheck_any (.inner x y) w
    rwa [show chkN (.inner x y) = 0 from hd] at this)
  have HI : Hid (∀ w, Calls Tryd.prog 13 #[.iface 45 (.agg (cellsN x y))] w fun e w' => e = .returned (.tuple #[.agg (cellsN x y), .bool true]) ∧ Below w.heap.size w w') := Lib.hid (fun w => nAsInner_any (.inner x y) w)
  have hg : goodI x = true ∧ goodI y = true := by
    unfold chkI at hd
    split at hd
    · rename_i h; rwa [Bool.and_eq_true] at h
    · cases hd
  have hx := itW_len hg.1
  have HF := Lib.hid (fun b w h (hBw : b ≤ w.heap.size) => Flag_any b b [] 0 true w h hBw)
  rw [added_is _ _ (by simp), show ([] : List UInt8) ++ [if true = true then 1 else 0] = [1] from rfl] at HF
  have HX := Lib.hid (fun b w h (hBw : b ≤ w.heap.size) => nwriteItem_any b b [1] x w h hg.1 (by simp) hBw)
  have HY := Lib.hid (fun b w h (hBw : b ≤ w.heap.size) => nwriteItem_any b b ([1] ++ itW x) y w h hg.2 (by simp; omega) hBw)
  have HD := Lib.hid (fun b w h => Done_any b b ([1] ++ itW x ++ itW y) 0 w h)
  have hy := itW_len hg.2
  rw [if_neg (by decide), if_neg (by simp; omega)] at HD
  have HN : Hid ((⟨([1] ++ itW x ++ itW y).toArray⟩ : ByteArray) = stx (ndW (.inner x y))) := Lib.hid (by simp [ndW])
  rw [HN.out] at HD
  generalize stx (ndW (.inner x y)) = S at *
  clear hd hx hy hg HN
  generalize [1] ++ itW x ++ itW y = l3 at *
  generalize [1] ++ itW x = l2 at *
  have b0 : ∀ w : World, Below w.heap.size w (w.alloc (.cells #[.slice none 0 0, .int .i64 0] 80)) := fun w => (Below.refl _ _).alloc (Nat.le_refl _) _
  have HK := writer_new
  go_enter Tryd.func15, Tryd.ntmps15
  go_wp2_with fail
  refine (H.out _).mono ?_
  rintro e w1 ⟨rfl, b1⟩
  clear H
  have k1 := HK w1
  have a1 := b0 w1
  have a0 := b1.size
  have b2 := below_past b1 a1 b1.size
  clear HK b0 b1 a1
  go_wp2_with fail
  generalize w1.alloc (.cells #[.slice none 0 0, .int .i64 0] 80) = W at *
  generalize hb : w1.heap.size = b at *
  have hwb : w.heap.size ≤ b := a0
  refine (HI.out _).mono ?_
  rintro e w2 ⟨rfl, b3⟩
  have k2 := k1.below b3
  have b4 := below_past b2 b3 b2.size
  have hbW : b ≤ w2.heap.size := by
    obtain ⟨ao, cap, hrow, _⟩ := k2
    exact Nat.le_of_lt (heap_lt hrow)
  clear HI b2 b3 k1
  have b5 := (Below.refl w2.heap.size w2).alloc (Nat.le_refl _) (.cells (cellsN x y) 45)
  have k3 := k2.below b5
  have hr0 : (w2.alloc (.cells (cellsN x y) 45)).heap[w2.heap.size]? = some (.cells (cellsN x y) 45 (0, 0)) := heap_alloc_new w2 _
  have hne : w2.heap.size ≠ b := by
    obtain ⟨ao, cap, hrow, _⟩ := k2
    exact Nat.ne_of_gt (heap_lt hrow)
  have hB3 := Nat.le_trans hbW b5.size
  have N3 := Below.near (b := b) b5 hbW
  clear k2 b5 hbW
  go_wp2_with fail
  generalize w2.alloc (.cells (cellsN x y) 45) = W3 at *
  generalize w2.heap.size = g at *
  refine (HF.out _ _ k3 hB3).mono ?_
  rintro e w3 ⟨rfl, k4, n4⟩
  have hr1 := near_stays n4 hr0 inner_ne_u8 hne
  have r1 := rowAt_of_heap hr1
  have N4 := N3.trans n4
  have hB4 := Nat.le_trans hB3 n4.size
  clear k3 hB3 n4 hr0 HF N3
  go_wp2_with fail
  refine (HX.out _ _ k4 hB4).mono ?_
  rintro e w4 ⟨rfl, k5, n5⟩
  have hr2 := near_stays n5 hr1 inner_ne_u8 hne
  have r2 := rowAt_of_heap hr2
  have N5 := N4.trans n5
  have hB5 := Nat.le_trans hB4 n5.size
  clear k4 hB4 n5 hr1 r1 HX N4
  go_wp2_with fail
  refine (HY.out _ _ k5 hB5).mono ?_
  rintro e w5 ⟨rfl, k6, n6⟩
  have N6 := N5.trans n6
  clear k5 hB5 n6 hr2 r2 HY N5
  go_wp2_with fail
  refine (HD.out _ _ k6).mono ?_
  rintro e w6 ⟨rfl, b7⟩
  have b8 := below_past (b4.trans (N6.below hwb hwb)) b7 (b4.trans (N6.below hwb hwb)).size
  clear k6 HD N6 b7
  go_wp2_with fail
  go_ret2
  exact ⟨rfl, b8⟩
set_option maxRecDepth 100000 in
set_option maxHeartbeats 4000000 in
theorem nBytes_leaf (x : Lf) (w : World) (hd : chkF x = 0) : Calls Tryd.prog 15 #[.iface 37 (.agg (cellsF x))] w fun e w' => e = .returned (.tuple #[.string (stx (ndW (.leaf x))), .int .i64 0]) ∧ Below w.heap.size w w' := by
  have H : Hid (∀ w, Calls Tryd.prog 29 #[.iface 37 (.agg (cellsF x))] w fun e w' => e = .returned (.int .i64 0) ∧ Below w.heap.size w w') := Lib.hid (fun w => by
    have := ndCheck_any (.leaf x) w
    rwa [show chkN (.leaf x) = 0 from hd] at this)
  have HI : Hid (∀ w, Calls Tryd.prog 13 #[.iface 37 (.agg (cellsF x))] w fun e w' => e = .returned (.tuple #[.agg (cellsN zeroItm zeroItm), .bool false]) ∧ Below w.heap.size w w') := Lib.hid (fun w => nAsInner_any (.leaf x) w)
  have HL : Hid (∀ w, Calls Tryd.prog 12 #[.iface 37 (.agg (cellsF x))] w fun e w' => e = .returned (.tuple #[.agg (cellsF x), .bool true]) ∧ Below w.heap.size w w') := Lib.hid (fun w => nAsLeaf_any (.leaf x) w)
  obtain ⟨m, hm, hm2⟩ : ∃ m : Nat, x.e = m ∧ m ≤ 1073741824 := by
    unfold chkF epB at hd
    split at hd
    · rename_i h
      rw [Bool.and_eq_true] at h
      have h2 := of_decide_eq_true h.1
      have h3 := of_decide_eq_true h.2
      exact ⟨x.e.toNat, by omega, by omega⟩
    · cases hd
  have h9 := numBytes_9 m (by omega)
  have g64 := get_F64 x
  rw [hm] at g64
  have HF := Lib.hid (fun b w h (hBw : b ≤ w.heap.size) => Flag_any b b [] 0 false w h hBw)
  rw [added_is _ _ (by simp), show ([] : List UInt8) ++ [if false = true then 1 else 0] = [0] from rfl] at HF
  have HX := Lib.hid (fun b w h (hBw : b ≤ w.heap.size) => Label_any b b [0] 0 x.a w h hBw)
  rw [added_is _ _ (by simp)] at HX
  have HY := Lib.hid (fun b w h (hBw : b ≤ w.heap.size) => Label_any b b ([0] ++ x.a.l) 0 x.v w h hBw)
  rw [added_is _ _ (by simp [x.a.h])] at HY
  have HZ := Lib.hid (fun b w h (hBw : b ≤ w.heap.size) => Number_any b b ([0] ++ x.a.l ++ x.v.l) 0 m w h (by omega) hBw)
  rw [added_is _ _ (by simp [x.a.h, x.v.h])] at HZ
  have HD := Lib.hid (fun b w h => Done_any b b ([0] ++ x.a.l ++ x.v.l ++ numBytes m) 0 w h)
  rw [if_neg (by decide), if_neg (by simp [x.a.h, x.v.h]; omega)] at HD
  have HN : Hid ((⟨([0] ++ x.a.l ++ x.v.l ++ numBytes m).toArray⟩ : ByteArray) = stx (ndW (.leaf x))) := Lib.hid (by simp [ndW, hm])
  rw [HN.out] at HD
  generalize stx (ndW (.leaf x)) = S at *
  clear hd h9 hm hm2 HN
  generalize [0] ++ x.a.l ++ x.v.l ++ numBytes m = l4 at *
  generalize [0] ++ x.a.l ++ x.v.l = l3 at *
  generalize [0] ++ x.a.l = l2 at *
  have b0 : ∀ w : World, Below w.heap.size w (w.alloc (.cells #[.slice none 0 0, .int .i64 0] 80)) := fun w => (Below.refl _ _).alloc (Nat.le_refl _) _
  have HK := writer_new
  go_enter Tryd.func15, Tryd.ntmps15
  go_wp2_with fail
  refine (H.out _).mono ?_
  rintro e w1 ⟨rfl, b1⟩
  clear H
  have k1 := HK w1
  have a1 := b0 w1
  have a0 := b1.size
  have b2 := below_past b1 a1 b1.size
  clear HK b0 b1 a1
  go_wp2_with fail
  generalize w1.alloc (.cells #[.slice none 0 0, .int .i64 0] 80) = W at *
  generalize hb : w1.heap.size = b at *
  have hwb : w.heap.size ≤ b := a0
  refine (HI.out _).mono ?_
  rintro e w2 ⟨rfl, b3⟩
  have k2 := k1.below b3
  have b4 := below_past b2 b3 b2.size
  have hbW : b ≤ w2.heap.size := by
    obtain ⟨ao, cap, hrow, _⟩ := k2
    exact Nat.le_of_lt (heap_lt hrow)
  clear HI b2 b3 k1
  have b5 := (Below.refl w2.heap.size w2).alloc (Nat.le_refl _) (.cells (cellsN zeroItm zeroItm) 45)
  have k3 := k2.below b5
  have hB3 := Nat.le_trans hbW b5.size
  have N3 := Below.near (b := b) b5 hbW
  clear k2 b5 hbW
  go_wp2_with fail
  generalize w2.alloc (.cells (cellsN zeroItm zeroItm) 45) = W3 at *
  refine (HF.out _ _ k3 hB3).mono ?_
  rintro e w3 ⟨rfl, k4, n4⟩
  have N4 := N3.trans n4
  have hB4 := Nat.le_trans hB3 n4.size
  clear k3 hB3 n4 HF N3
  go_wp2_with fail
  refine (HL.out _).mono ?_
  rintro e w4 ⟨rfl, b3⟩
  have k5 := k4.below b3
  have N5 := N4.trans (Below.near (b := b) b3 hB4)
  have hB5 := Nat.le_trans hB4 b3.size
  clear k4 hB4 b3 HL N4
  have b5 := (Below.refl w4.heap.size w4).alloc (Nat.le_refl _) (.cells (cellsF x) 37)
  have k6 := k5.below b5
  have hr0 : (w4.alloc (.cells (cellsF x) 37)).heap[w4.heap.size]? = some (.cells (cellsF x) 37 (0, 0)) := heap_alloc_new w4 _
  have hne : w4.heap.size ≠ b := by
    obtain ⟨ao, cap, hrow, _⟩ := k5
    exact Nat.ne_of_gt (heap_lt hrow)
  have hB6 := Nat.le_trans hB5 b5.size
  have N6 := N5.trans (Below.near (b := b) b5 hB5)
  clear k5 b5 hB5 N5
  go_wp2_with fail
  generalize w4.alloc (.cells (cellsF x) 37) = W4 at *
  generalize w4.heap.size = g at *
  refine (HX.out _ _ k6 hB6).mono ?_
  rintro e w5 ⟨rfl, k7, n5⟩
  have hr1 := near_stays n5 hr0 leaf_ne_u8 hne
  have r1 := rowAt_of_heap hr1
  have N7 := N6.trans n5
  have hB7 := Nat.le_trans hB6 n5.size
  clear k6 hB6 n5 hr0 HX N6
  go_wp2_with fail
  refine (HY.out _ _ k7 hB7).mono ?_
  rintro e w6 ⟨rfl, k8, n6⟩
  have hr2 := near_stays n6 hr1 leaf_ne_u8 hne
  have c2 := (cell_of_rowAt (rowAt_of_heap hr2) 64).trans g64
  have N8 := N7.trans n6
  have hB8 := Nat.le_trans hB7 n6.size
  clear k7 hB7 n6 hr1 r1 HY N7
  go_wp2_with fail
  refine (HZ.out _ _ k8 hB8).mono ?_
  rintro e w7 ⟨rfl, k9, n7⟩
  have N9 := N8.trans n7
  clear k8 hB8 n7 hr2 c2 HZ N8
  go_wp2_with fail
  refine (HD.out _ _ k9).mono ?_
  rintro e w8 ⟨rfl, b7⟩
  have b8 := below_past (b4.trans (N9.below hwb hwb)) b7 (b4.trans (N9.below hwb hwb)).size
  clear k9 HD N9 b7
  go_wp2_with fail
  go_ret2
  exact ⟨rfl, b8⟩
theorem nBytes_any (d : Nd) (w : World) : Calls Tryd.prog 15 #[d.val] w fun e w' => e = .returned (BytesR d) ∧ Below w.heap.size w w' := by
  by_cases hd : chkN d = 0
  · rw [BytesR, if_pos hd]
    cases d with
    | leaf x => exact nBytes_leaf x w hd
    | inner x y => exact nBytes_inner x y w hd
    | none => cases hd
  · exact nBytes_bad d w hd
end Go.Proofs.YtnffmgpnhlcakaaDoor
namespace Go.Proofs.YtnffmgpnhlcakaaDoor
open Go Go.RowKit

theorem part_agg {P : Program} {t : TypeId} {n : Nat} (cs : Array Value) (off : Nat) (w : World) (h1 : (isAgg t).run P w = .ok true w) (h2 : (sizeOf t).run P w = .ok n w) : (part t cs off).run P w = .ok (.agg (cs.extract off (off + n))) w := by
  simp only [part, Sem.run_bind, h1, h2, Result.andThen_ok, if_true, Sem.run_pure]
theorem part_one {P : Program} {t : TypeId} {v : Value} (cs : Array Value) (off : Nat) (w : World) (h1 : (isAgg t).run P w = .ok false w) (hc : cs[off]? = some v) : (part t cs off).run P w = .ok v w := by
  simp only [part, Sem.run_bind, h1, Result.andThen_ok, Bool.false_eq_true, if_false, hc, Sem.run_pure]
theorem agg_lab (w : World) : (isAgg 29).run Tryd.prog w = .ok true w := by kernel_rfl
theorem agg_pre (w : World) : (isAgg 41).run Tryd.prog w = .ok true w := by kernel_rfl
theorem agg_item (w : World) : (isAgg 43).run Tryd.prog w = .ok true w := by kernel_rfl
theorem agg_int (w : World) : (isAgg 3).run Tryd.prog w = .ok false w := by kernel_rfl
theorem siz_lab (w : World) : (sizeOf 29).run Tryd.prog w = .ok 32 w := by kernel_rfl
theorem siz_pre (w : World) : (sizeOf 41).run Tryd.prog w = .ok 33 w := by kernel_rfl
theorem siz_item (w : World) : (sizeOf 43).run Tryd.prog w = .ok 66 w := by kernel_rfl
theorem p_I_pre (x : Itm) (w : World) : (part 41 (cellsI x) 0).run Tryd.prog w = .ok (.agg (cellsP x.n x.b)) w := by
  rw [part_agg _ _ w (agg_pre w) (siz_pre w), Nat.zero_add, extract_I0]
theorem p_I_sum (x : Itm) (w : World) : (part 29 (cellsI x) 33).run Tryd.prog w = .ok (.agg (cellsL x.s)) w := by
  rw [part_agg _ _ w (agg_lab w) (siz_lab w), extract_I2]
theorem p_I_at (x : Itm) (w : World) : (part 3 (cellsI x) 65).run Tryd.prog w = .ok (.int .i64 x.e) w := part_one _ _ w (agg_int w) (get_I65 x)
theorem p_I_len (x : Itm) (w : World) : (part 3 (cellsI x) 0).run Tryd.prog w = .ok (.int .i64 x.n) w := part_one _ _ w (agg_int w) (get_I0 x)
theorem p_I_bits (x : Itm) (w : World) : (part 29 (cellsI x) 1).run Tryd.prog w = .ok (.agg (cellsL x.b)) w := by
  rw [part_agg _ _ w (agg_lab w) (siz_lab w), extract_I1]
theorem p_F_lab (x : Lf) (w : World) : (part 29 (cellsF x) 0).run Tryd.prog w = .ok (.agg (cellsL x.a)) w := by
  rw [part_agg _ _ w (agg_lab w) (siz_lab w), Nat.zero_add, extract_F0]
theorem p_F_val (x : Lf) (w : World) : (part 29 (cellsF x) 32).run Tryd.prog w = .ok (.agg (cellsL x.v)) w := by
  rw [part_agg _ _ w (agg_lab w) (siz_lab w), extract_F1]
theorem p_F_at (x : Lf) (w : World) : (part 3 (cellsF x) 64).run Tryd.prog w = .ok (.int .i64 x.e) w := part_one _ _ w (agg_int w) (get_F64 x)
theorem p_N_fst (x y : Itm) (w : World) : (part 43 (cellsN x y) 0).run Tryd.prog w = .ok (.agg (cellsI x)) w := by
  rw [part_agg _ _ w (agg_item w) (siz_item w), Nat.zero_add, extract_N0]
theorem p_N_snd (x y : Itm) (w : World) : (part 43 (cellsN x y) 66).run Tryd.prog w = .ok (.agg (cellsI y)) w := by
  rw [part_agg _ _ w (agg_item w) (siz_item w), extract_N1]

def fieldOf (ty : TypeId) (v : Value) (k : Nat) : Sem Value := Instr.field ty v k
@[go_sem ↓] theorem field_item (v : Value) (k : Nat) : Instr.field 43 v k = fieldOf 43 v k := rfl
@[go_sem ↓] theorem field_pre (v : Value) (k : Nat) : Instr.field 41 v k = fieldOf 41 v k := rfl
theorem run_field {P : Program} {t : TypeId} {fs : Array Field} {f : Field} {k : Nat} (cs : Array Value) (w : World) (hu : P.underlying t = some (.struct fs)) (hf : fs[k]? = some f) : (fieldOf t (.agg cs) k).run P w = (part f.type cs f.offset).run P w := by
  simp only [fieldOf, Instr.field, Sem.run_bind, run_underlying hu, Result.andThen_ok, hf, asAgg, Sem.run_pure]
set_option maxRecDepth 100000 in
@[go_sem] theorem field_item0 (x : Itm) (w : World) : (fieldOf 43 (.agg (cellsI x)) 0).run Tryd.prog w = .ok (.agg (cellsP x.n x.b)) w :=
  (run_field _ w Tryd.underlying43 rfl).trans (p_I_pre x w)
set_option maxRecDepth 100000 in
@[go_sem] theorem field_item2 (x : Itm) (w : World) : (fieldOf 43 (.agg (cellsI x)) 2).run Tryd.prog w = .ok (.int .i64 x.e) w :=
  (run_field _ w Tryd.underlying43 rfl).trans (p_I_at x w)
set_option maxRecDepth 100000 in
@[go_sem] theorem field_pre0 (n : Int) (a : Lab) (w : World) : (fieldOf 41 (.agg (cellsP n a)) 0).run Tryd.prog w = .ok (.int .i64 n) w :=
  (run_field _ w Tryd.underlying41 rfl).trans (part_one _ _ w (agg_int w) (get_cellsP0 n a))

theorem itm_eq (x y : Itm) : x = y ↔ (x.n = y.n ∧ x.b = y.b) ∧ x.s = y.s ∧ x.e = y.e := by
  obtain ⟨n, b, s, e⟩ := x
  obtain ⟨m, c, t, f⟩ := y
  simp only [Itm.mk.injEq]
  exact ⟨fun ⟨h1, h2, h3, h4⟩ => ⟨⟨h1, h2⟩, h3, h4⟩, fun ⟨⟨h1, h2⟩, h3, h4⟩ => ⟨h1, h2, h3, h4⟩⟩
theorem equalIn_item (w : World) (d : Nat) (x y : Itm) : (Op.equalIn (d + 4) 43 (.agg (cellsI x)) (.agg (cellsI y))).run Tryd.prog w = .ok (decide (x = y)) w := by
  rw [run_equalIn_struct w (d + 3) 43 _ _ (by kernel_rfl) (by kernel_rfl)]
  rw [show (Program.fieldsOf Tryd.prog 43) = #[{ name := "Prefix", type := 41, offset := 0, embedded := false, tag := "", pkgPath := "", byteOffset := 0 }, { name := "Sum", type := 29, offset := 33, embedded := false, tag := "", pkgPath := "", byteOffset := 40 }, { name := "At", type := 3, offset := 65, embedded := false, tag := "", pkgPath := "", byteOffset := 72 }] from by kernel_rfl]
  simp only [Op.eqFields, ne_eq, String.reduceEq, not_false_eq_true, if_true, Sem.run_bind, p_I_pre, Result.andThen_ok, equalIn_pre w d]
  have e := itm_eq x y
  by_cases h1 : x.n = y.n ∧ x.b = y.b
  · by_cases h2 : x.s = y.s
    · by_cases h3 : x.e = y.e
      · have h : x = y := e.2 ⟨h1, h2, h3⟩
        subst h
        simp [equalIn_lab w (d + 1), run_equalIn_int w (d + 2) 3 .i64 .i64 _ _ Tryd.underlying3, p_I_sum, p_I_at]
      · have h : ¬ x = y := fun k => h3 (e.1 k).2.2
        simp [h1, h2, h3, h, equalIn_lab w (d + 1), run_equalIn_int w (d + 2) 3 .i64 .i64 _ _ Tryd.underlying3, p_I_sum, p_I_at]
    · have h : ¬ x = y := fun k => h2 (e.1 k).2.1
      simp [h1, h2, h, equalIn_lab w (d + 1), p_I_sum]
  · have h : ¬ x = y := fun k => h1 (e.1 k).1
    simp [h1, h]
@[go_sem high] theorem eql_item (w : World) (x y : Itm) : (binOp .eql 43 (.agg (cellsI x)) (.agg (cellsI y))).run Tryd.prog w = .ok (.bool (decide (x = y))) w := by
  rw [run_eql_struct, equalIn_item w 9996]
  rfl
theorem equalIn_ritem (w : World) (d : Nat) (x y : Itm) : (Op.equalIn (d + 4) 33 (.agg (cellsI x)) (.agg (cellsI y))).run Tryd.prog w = .ok (decide (x = y)) w := by
  rw [run_equalIn_struct w (d + 3) 33 _ _ (by kernel_rfl) (by kernel_rfl)]
  rw [show (Program.fieldsOf Tryd.prog 33) = #[{ name := "Len", type := 3, offset := 0, embedded := false, tag := "", pkgPath := "", byteOffset := 0 }, { name := "Bits", type := 29, offset := 1, embedded := false, tag := "", pkgPath := "", byteOffset := 8 }, { name := "Sum", type := 29, offset := 33, embedded := false, tag := "", pkgPath := "", byteOffset := 40 }, { name := "At", type := 3, offset := 65, embedded := false, tag := "", pkgPath := "", byteOffset := 72 }] from by kernel_rfl]
  have ei := fun a b => run_equalIn_int (P := Tryd.prog) w (d + 2) 3 .i64 .i64 a b Tryd.underlying3
  have el := equalIn_lab w (d + 1)
  simp only [Op.eqFields, ne_eq, String.reduceEq, not_false_eq_true, if_true, Sem.run_bind, p_I_len, Result.andThen_ok, ei]
  have e := itm_eq x y
  by_cases h0 : x.n = y.n
  · by_cases h1 : x.b = y.b
    · by_cases h2 : x.s = y.s
      · by_cases h3 : x.e = y.e
        · have h : x = y := e.2 ⟨⟨h0, h1⟩, h2, h3⟩
          subst h
          simp [el, ei, p_I_bits, p_I_sum, p_I_at]
        · have h : ¬ x = y := fun k => h3 (e.1 k).2.2
          simp [h0, h1, h2, h3, h, el, ei, p_I_bits, p_I_sum, p_I_at]
      · have h : ¬ x = y := fun k => h2 (e.1 k).2.1
        simp [h0, h1, h2, h, el, p_I_bits, p_I_sum]
    · have h : ¬ x = y := fun k => h1 (e.1 k).1.2
      simp [h0, h1, h, el, p_I_bits]
  · have h : ¬ x = y := fun k => h0 (e.1 k).1.1
    have h0' : (x.n == y.n) = false := by rw [beq_eq_false_iff_ne]; exact h0
    simp [h0', h]
@[go_sem high] theorem eql_ritem (w : World) (x y : Itm) : (binOp .eql 33 (.agg (cellsI x)) (.agg (cellsI y))).run Tryd.prog w = .ok (.bool (decide (x = y))) w := by
  rw [run_eql_struct, equalIn_ritem w 9996]
  rfl
theorem lf_eq (x y : Lf) : x = y ↔ x.a = y.a ∧ x.v = y.v ∧ x.e = y.e := by
  obtain ⟨a, v, e⟩ := x
  obtain ⟨b, u, f⟩ := y
  simp only [Lf.mk.injEq]
theorem equalIn_leaf (w : World) (d : Nat) (x y : Lf) : (Op.equalIn (d + 3) 37 (.agg (cellsF x)) (.agg (cellsF y))).run Tryd.prog w = .ok (decide (x = y)) w := by
  rw [run_equalIn_struct w (d + 2) 37 _ _ (by kernel_rfl) (by kernel_rfl)]
  rw [show (Program.fieldsOf Tryd.prog 37) = #[{ name := "Label", type := 29, offset := 0, embedded := false, tag := "", pkgPath := "", byteOffset := 0 }, { name := "Value", type := 29, offset := 32, embedded := false, tag := "", pkgPath := "", byteOffset := 32 }, { name := "At", type := 3, offset := 64, embedded := false, tag := "", pkgPath := "", byteOffset := 64 }] from by kernel_rfl]
  have ei := fun a b => run_equalIn_int (P := Tryd.prog) w (d + 1) 3 .i64 .i64 a b Tryd.underlying3
  have el := equalIn_lab w d
  simp only [Op.eqFields, ne_eq, String.reduceEq, not_false_eq_true, if_true, Sem.run_bind, p_F_lab, Result.andThen_ok, el]
  have e := lf_eq x y
  by_cases h1 : x.a = y.a
  · by_cases h2 : x.v = y.v
    · by_cases h3 : x.e = y.e
      · have h : x = y := e.2 ⟨h1, h2, h3⟩
        subst h
        simp [el, ei, p_F_val, p_F_at]
      · have h : ¬ x = y := fun k => h3 (e.1 k).2.2
        simp [h1, h2, h3, h, el, ei, p_F_val, p_F_at]
    · have h : ¬ x = y := fun k => h2 (e.1 k).2.1
      simp [h1, h2, h, el, p_F_val]
  · have h : ¬ x = y := fun k => h1 (e.1 k).1
    simp [h1, h]
@[go_sem high] theorem eql_leaf (w : World) (x y : Lf) : (binOp .eql 37 (.agg (cellsF x)) (.agg (cellsF y))).run Tryd.prog w = .ok (.bool (decide (x = y))) w := by
  rw [run_eql_struct, equalIn_leaf w 9997]
  rfl
@[go_sem high] theorem neq_leaf (w : World) (x y : Lf) : (binOp .neq 37 (.agg (cellsF x)) (.agg (cellsF y))).run Tryd.prog w = .ok (.bool (!decide (x = y))) w := by
  rw [run_neq_struct, equalIn_leaf w 9997]
  rfl
theorem equalIn_rleaf (w : World) (d : Nat) (x y : Lf) : (Op.equalIn (d + 3) 31 (.agg (cellsF x)) (.agg (cellsF y))).run Tryd.prog w = .ok (decide (x = y)) w := by
  rw [run_equalIn_struct w (d + 2) 31 _ _ (by kernel_rfl) (by kernel_rfl)]
  rw [show (Program.fieldsOf Tryd.prog 31) = #[{ name := "Label", type := 29, offset := 0, embedded := false, tag := "", pkgPath := "", byteOffset := 0 }, { name := "Value", type := 29, offset := 32, embedded := false, tag := "", pkgPath := "", byteOffset := 32 }, { name := "At", type := 3, offset := 64, embedded := false, tag := "", pkgPath := "", byteOffset := 64 }] from by kernel_rfl]
  have ei := fun a b => run_equalIn_int (P := Tryd.prog) w (d + 1) 3 .i64 .i64 a b Tryd.underlying3
  have el := equalIn_lab w d
  simp only [Op.eqFields, ne_eq, String.reduceEq, not_false_eq_true, if_true, Sem.run_bind, p_F_lab, Result.andThen_ok, el]
  have e := lf_eq x y
  by_cases h1 : x.a = y.a
  · by_cases h2 : x.v = y.v
    · by_cases h3 : x.e = y.e
      · have h : x = y := e.2 ⟨h1, h2, h3⟩
        subst h
        simp [el, ei, p_F_val, p_F_at]
      · have h : ¬ x = y := fun k => h3 (e.1 k).2.2
        simp [h1, h2, h3, h, el, ei, p_F_val, p_F_at]
    · have h : ¬ x = y := fun k => h2 (e.1 k).2.1
      simp [h1, h2, h, el, p_F_val]
  · have h : ¬ x = y := fun k => h1 (e.1 k).1
    simp [h1, h]
@[go_sem high] theorem eql_rleaf (w : World) (x y : Lf) : (binOp .eql 31 (.agg (cellsF x)) (.agg (cellsF y))).run Tryd.prog w = .ok (.bool (decide (x = y))) w := by
  rw [run_eql_struct, equalIn_rleaf w 9997]
  rfl
@[go_sem high] theorem neq_rleaf (w : World) (x y : Lf) : (binOp .neq 31 (.agg (cellsF x)) (.agg (cellsF y))).run Tryd.prog w = .ok (.bool (!decide (x = y))) w := by
  rw [run_neq_struct, equalIn_rleaf w 9997]
  rfl
theorem equalIn_inner (w : World) (d : Nat) (x y z u : Itm) : (Op.equalIn (d + 5) 45 (.agg (cellsN x y)) (.agg (cellsN z u))).run Tryd.prog w = .ok (decide (x = z ∧ y = u)) w := by
  rw [run_equalIn_struct w (d + 4) 45 _ _ (by kernel_rfl) (by kernel_rfl)]
  rw [show (Program.fieldsOf Tryd.prog 45) = #[{ name := "Left", type := 43, offset := 0, embedded := false, tag := "", pkgPath := "", byteOffset := 0 }, { name := "Right", type := 43, offset := 66, embedded := false, tag := "", pkgPath := "", byteOffset := 80 }] from by kernel_rfl]
  have ei := equalIn_item w d
  simp only [Op.eqFields, ne_eq, String.reduceEq, not_false_eq_true, if_true, Sem.run_bind, p_N_fst, Result.andThen_ok, ei]
  by_cases h1 : x = z
  · by_cases h2 : y = u
    · simp [h1, h2, ei, p_N_snd]
    · simp [h1, h2, ei, p_N_snd]
  · simp [h1]
@[go_sem high] theorem eql_inner (w : World) (x y z u : Itm) : (binOp .eql 45 (.agg (cellsN x y)) (.agg (cellsN z u))).run Tryd.prog w = .ok (.bool (decide (x = z) && decide (y = u))) w := by
  rw [run_eql_struct, equalIn_inner w 9995, Bool.decide_and]
  rfl
end Go.Proofs.YtnffmgpnhlcakaaDoor
namespace Go.Proofs.YtnffmgpnhlcakaaDoor
open Go Go.RowKit

set_option maxRecDepth 100000 in
theorem Told_any (x : Itm) (w : World) : Calls Tryd.prog 14 #[.agg (cellsI x)] w fun e w' => e = .returned (.agg (cellsI x)) ∧ Below w.heap.size w w' := by
  have b0 : Below w.heap.size w ((w.alloc (.cells (cellsI x) 43)).alloc (.cells (cellsI zeroItm) 33)) := ((Below.refl _ _).alloc (Nat.le_refl _) _).alloc (by simp only [World.size_alloc]; omega) _
  have r0 : rowAt ((w.alloc (.cells (cellsI x) 43)).alloc (.cells (cellsI zeroItm) 33)) w.heap.size = some (cellsI x) := (rowAt_alloc_past _ _ _ (by simp only [World.size_alloc]; omega)).trans (rowAt_alloc_at _ _ _ _ rfl)
  have r1 : rowAt ((w.alloc (.cells (cellsI x) 43)).alloc (.cells (cellsI zeroItm) 33)) (w.heap.size + 1) = some (cellsI zeroItm) := rowAt_alloc_at _ _ _ _ (by simp only [World.size_alloc])
  have c0 := (cell_of_rowAt r0 0).trans (get_I0 x)
  have c1 := (cell_of_rowAt r0 65).trans (get_I65 x)
  go_enter Tryd.func14, Tryd.ntmps14
  go_wp2_with fail
  exact row_ret_ritem rfl rfl rfl (rowAt_alloc_at _ _ _ _ (by simp only [World.size_alloc])) ⟨rfl, ((Below.refl _ _).alloc (Nat.le_refl _) _).alloc (by simp only [World.size_alloc]; omega) _⟩

set_option maxRecDepth 100000 in
set_option maxHeartbeats 1000000 in
theorem r15Write_any (x : Itm) (w : World) (hx : goodI x = true) : Calls Tryd.prog 18 #[.agg (cellsI x)] w fun e w' => e = .returned (.string (stx (itW x))) ∧ Below w.heap.size w w' := by
  obtain ⟨⟨n, hn, hn2⟩, m, hm, hm2⟩ := good_nums hx
  have b0 : Below w.heap.size w (w.alloc (.cells (cellsI x) 33)) := (Below.refl _ _).alloc (Nat.le_refl _) _
  have r0 : rowAt (w.alloc (.cells (cellsI x) 33)) w.heap.size = some (cellsI x) := rowAt_alloc_at _ _ _ _ rfl
  have HN1 := Lib.hid (fun w => r2Number_any n w (by omega))
  have HN2 := Lib.hid (fun w => r2Number_any m w (by omega))
  have HL1 := Lib.hid (fun w => r2Label_any x.b w)
  have HL2 := Lib.hid (fun w => r2Label_any x.s w)
  have fa := fun y : Past (w.alloc (.cells (cellsI x) 33)) => rowAt_past y.h r0
  have g0 := get_I0 x
  have g65 := get_I65 x
  rw [hn] at g0
  rw [hm] at g65
  have c0 := fun y : Past (w.alloc (.cells (cellsI x) 33)) => (cell_of_rowAt (rowAt_past y.h r0) 0).trans g0
  have c1 := fun y : Past (w.alloc (.cells (cellsI x) 33)) => (cell_of_rowAt (rowAt_past y.h r0) 65).trans g65
  have HS : Hid (txt (numBytes n) ++ txt x.b.l ++ txt x.s.l ++ txt (numBytes m) = stx (itW x)) := Lib.hid (by rw [txt_append, txt_append, txt_append, itW, hn, hm]; rfl)
  have h1 := numBytes_9 n (by omega)
  have h2 := numBytes_9 m (by omega)
  have z1 : (txt (numBytes n)).size ≤ 9 := h1
  have z2 : (txt x.b.l).size = 32 := x.b.h
  have z3 : (txt x.s.l).size = 32 := x.s.h
  have z4 : (txt (numBytes m)).size ≤ 9 := h2
  clear h1 h2 hn hm hn2 hm2 hx g0 g65
  generalize stx (itW x) = R at *
  generalize txt (numBytes n) = A at *
  generalize txt (numBytes m) = D at *
  generalize txt x.b.l = B at *
  generalize txt x.s.l = C at *
  have y1 : (A ++ B).size ≤ 41 := by rw [ByteArray.size_append]; omega
  have y2 : (A ++ B ++ C).size ≤ 73 := by rw [ByteArray.size_append]; omega
  go_enter Tryd.func18, Tryd.ntmps18
  go_wp2_with fail
  generalize w.alloc (.cells (cellsI x) 33) = W at *
  refine wp_region_past (by kernel_rfl) (by kernel_rfl) ?_
  iterate 2 go_big_quiet_step (fail)
  go_big_quiet_step (exact Past.call (HN1.out _))
  iterate 2 go_big_quiet_step (fail)
  go_big_quiet_step (exact Past.call (HL1.out _))
  iterate 3 go_big_quiet_step (fail)
  go_big_quiet_step (exact Past.call (HL2.out _))
  iterate 3 go_big_quiet_step (fail)
  go_big_quiet_step (exact Past.call (HN2.out _))
  iterate 2 go_big_quiet_step (fail)
  refine wpQuiet_nil ?_
  rintro _ ⟨⟨wn, hn⟩, rfl⟩
  go_wp2_with fail
  rw [HS.out]
  go_ret
  exact ⟨rfl, below_past b0 hn b0.size⟩

theorem chkF_num {x : Lf} (hd : chkF x = 0) : ∃ m : Nat, x.e = m ∧ m ≤ 1073741824 := by
  unfold chkF epB at hd
  split at hd
  · rename_i h
    rw [Bool.and_eq_true] at h
    have h2 := of_decide_eq_true h.1
    have h3 := of_decide_eq_true h.2
    exact ⟨x.e.toNat, by omega, by omega⟩
  · cases hd
set_option maxRecDepth 100000 in
set_option maxHeartbeats 1000000 in
theorem r15LeafText_any (x : Lf) (w : World) (hx : chkF x = 0) : Calls Tryd.prog 19 #[.agg (cellsF x)] w fun e w' => e = .returned (.string (stx (ndW (.leaf x)))) ∧ Below w.heap.size w w' := by
  obtain ⟨m, hm, hm2⟩ := chkF_num hx
  have b0 : Below w.heap.size w (w.alloc (.cells (cellsF x) 31)) := (Below.refl _ _).alloc (Nat.le_refl _) _
  have r0 : rowAt (w.alloc (.cells (cellsF x) 31)) w.heap.size = some (cellsF x) := rowAt_alloc_at _ _ _ _ rfl
  have HF := Lib.hid (fun w => r2Flag_any false w)
  rw [show [if false = true then (1 : UInt8) else 0] = [0] from rfl] at HF
  have HN2 := Lib.hid (fun w => r2Number_any m w (by omega))
  have HL1 := Lib.hid (fun w => r2Label_any x.a w)
  have HL2 := Lib.hid (fun w => r2Label_any x.v w)
  have fa := fun y : Past (w.alloc (.cells (cellsF x) 31)) => rowAt_past y.h r0
  have g64 := get_F64 x
  rw [hm] at g64
  have c1 := fun y : Past (w.alloc (.cells (cellsF x) 31)) => (cell_of_rowAt (rowAt_past y.h r0) 64).trans g64
  have HS : Hid (txt [0] ++ txt x.a.l ++ txt x.v.l ++ txt (numBytes m) = stx (ndW (.leaf x))) := Lib.hid (by rw [txt_append, txt_append, txt_append, ndW, hm, Int.toNat_natCast, List.append_assoc, List.append_assoc, List.append_assoc]; rfl)
  have z1 : (txt [0]).size = 1 := rfl
  have z2 : (txt x.a.l).size = 32 := x.a.h
  have z3 : (txt x.v.l).size = 32 := x.v.h
  have z4 : (txt (numBytes m)).size ≤ 9 := numBytes_9 m (by omega)
  clear hm hm2 hx g64
  generalize stx (ndW (.leaf x)) = R at *
  generalize txt [0] = A at *
  generalize txt (numBytes m) = D at *
  generalize txt x.a.l = B at *
  generalize txt x.v.l = C at *
  have y1 : (A ++ B).size = 33 := by rw [ByteArray.size_append, z1, z2]
  have y2 : (A ++ B ++ C).size = 65 := by rw [ByteArray.size_append, y1, z3]
  go_enter Tryd.func19, Tryd.ntmps19
  go_wp2_with fail
  generalize w.alloc (.cells (cellsF x) 31) = W at *
  refine wp_region_past (by kernel_rfl) (by kernel_rfl) ?_
  go_big_quiet_step (exact Past.call (HF.out _))
  iterate 2 go_big_quiet_step (fail)
  go_big_quiet_step (exact Past.call (HL1.out _))
  iterate 3 go_big_quiet_step (fail)
  go_big_quiet_step (exact Past.call (HL2.out _))
  iterate 3 go_big_quiet_step (fail)
  go_big_quiet_step (exact Past.call (HN2.out _))
  iterate 2 go_big_quiet_step (fail)
  refine wpQuiet_nil ?_
  rintro _ ⟨⟨wn, hn⟩, rfl⟩
  go_wp2_with fail
  rw [HS.out]
  go_ret
  exact ⟨rfl, below_past b0 hn b0.size⟩

/-- The two leaves of the call at the head. -/
def awB : Lf := ⟨zeroLab.set 0 128, zeroLab, 3⟩
theorem aw_chk : chkI (leafI zeroLf) (leafI awB) = 0 := by decide +kernel
theorem aw_com : common (leafI zeroLf).b (leafI awB).b = 0 := by decide +kernel
theorem aw_len : (ndW (.leaf zeroLf)).length = 66 := by decide +kernel
set_option maxRecDepth 100000 in
set_option maxHeartbeats 2000000 in
theorem awake15 (w : World) (ht : Cubes w) : Calls Tryd.prog 11 #[] w fun e w' => e = .returned (.bool true) ∧ Below w.heap.size w w' := by
  have HT := Lib.hid ht
  have HA := Lib.hid (fun w (h : Cubes w) => nLeafItem_any zeroLf w h)
  have HB := Lib.hid (fun w (h : Cubes w) => nLeafItem_any awB w h)
  have HY : Hid (∀ w, Calls Tryd.prog 15 #[.iface 37 (.agg (cellsF zeroLf))] w fun e w' => e = .returned (.tuple #[.string (stx (ndW (.leaf zeroLf))), .int .i64 0]) ∧ Below w.heap.size w w') := Lib.hid fun w => nBytes_leaf zeroLf w (by decide +kernel)
  have HC : Hid (∀ w, Calls Tryd.prog 29 #[.iface 45 (.agg (cellsN (leafI zeroLf) (leafI awB)))] w fun e w' => e = .returned (.int .i64 0) ∧ Below w.heap.size w w') := Lib.hid (fun w => by
    have := ndCheck_any (.inner (leafI zeroLf) (leafI awB)) w
    rwa [show chkN (.inner (leafI zeroLf) (leafI awB)) = 0 from aw_chk] at this)
  have HI := Lib.hid (fun w (h : Cubes w) => nInnerItem_any (leafI zeroLf) (leafI awB) w h)
  have hn : (innerI (leafI zeroLf) (leafI awB)).n = 0 := by
    show ((common (leafI zeroLf).b (leafI awB).b : Nat) : Int) = 0
    rw [aw_com]
    rfl
  have he : (innerI (leafI zeroLf) (leafI awB)).e = 3 := by
    show max (leafI zeroLf).e (leafI awB).e = 3
    rfl
  have HE := Lib.hid (fun w (h : Cubes w) => nEmpty_any w h)
  have HSM : Hid (∀ w, Cubes w → Calls Tryd.prog 37 #[.string ⟨#[18]⟩] w fun e w' => e = .returned (.agg (cellsL (shaLab [18]))) ∧ Below w.heap.size w w') := Lib.hid fun w h => Sum_any ⟨#[18]⟩ w h (by decide)
  have hz : (stx (ndW (.leaf zeroLf))).size = 66 := by rw [stx_size, aw_len]
  have hset : (cellsL zeroLab).setIfInBounds 0 (.int .u8 128) = cellsL (zeroLab.set 0 128) := set_cellsL zeroLab 0 128 (by decide) (by decide)
  have hq : decide (shaLab [18] = shaLab [18]) = true := decide_eq_true rfl
  generalize shaLab [18] = L18 at *
  generalize stx (ndW (.leaf zeroLf)) = SY at *
  generalize innerI (leafI zeroLf) (leafI awB) = X at *
  generalize leafI zeroLf = XA at *
  generalize leafI awB = XB at *
  unfold awB at HB
  generalize zeroLab.set 0 128 = L80 at *
  have b0 : Below w.heap.size w ((w.alloc (.cells (cellsF zeroLf) 37)).alloc (.cells (cellsF ⟨L80, zeroLab, 3⟩) 37)) := ((Below.refl _ _).alloc (Nat.le_refl _) _).alloc (by simp only [World.size_alloc]; omega) _
  have r0 : rowAt ((w.alloc (.cells (cellsF zeroLf) 37)).alloc (.cells (cellsF ⟨L80, zeroLab, 3⟩) 37)) w.heap.size = some (cellsF zeroLf) := (rowAt_alloc_past _ _ _ (by simp only [World.size_alloc]; omega)).trans (rowAt_alloc_at _ _ _ _ rfl)
  have r1 : rowAt ((w.alloc (.cells (cellsF zeroLf) 37)).alloc (.cells (cellsF ⟨L80, zeroLab, 3⟩) 37)) (w.heap.size + 1) = some (cellsF ⟨L80, zeroLab, 3⟩) := rowAt_alloc_at _ _ _ _ (by simp only [World.size_alloc])
  clear ht
  go_enter Tryd.func11, Tryd.ntmps11
  go_wp2_with fail
  generalize (w.alloc (.cells (cellsF zeroLf) 37)).alloc (.cells (cellsF ⟨L80, zeroLab, 3⟩) 37) = W at *
  have T0 := Lib.hid (HT.out.below b0)
  have fa := fun y : Past W => rowAt_past y.h r0
  have fb := fun y : Past W => rowAt_past y.h r1
  refine wp_region_free (n := 5) (m := 6) (z := fun _ => cellsN zeroItm zeroItm) (atS ?lit [some 3]) (by kernel_rfl) (by kernel_rfl) ?hal ?hh ?hT
  case hal =>
    intro j h1 h2
    obtain rfl : j = 5 := by omega
    exact ⟨_, _, 45, rfl, rfl, rfl, by simp, fun a w => by go_simp⟩
  case hh =>
    show wpHead _ _ _ _ [0, 1, 2, 3, 4] _
    refine wpHead_step rfl (fun K hK => ?_); go_simp; refine hK _ ?_; clear hK K
    refine wpHead_step rfl (fun K hK => ?_); go_simp; apply Exists.intro; refine ⟨fun x => ?_, hK _ ?_⟩
    · exact call_yields (HA.out _ (T0.out.below x.h))
    clear hK K
    refine wpHead_step rfl (fun K hK => ?_); go_simp; refine hK _ ?_; clear hK K
    refine wpHead_step rfl (fun K hK => ?_); go_simp; apply Exists.intro; refine ⟨fun x => ?_, hK _ ?_⟩
    · exact call_yields (HB.out _ (T0.out.below x.h))
    clear hK K
    refine wpHead_step rfl (fun K hK => ?_); go_simp; refine hK _ ?_; clear hK K
    exact slots_atS _ _
  intro a' w' bs hb hv hq
  clear fa fb
  obtain ⟨v6, rfl⟩ := hq
  obtain ⟨o6, ho6, d6, hd6, s6⟩ := hv.slot 5 (by decide) (by decide) (by simp)
  cases ho6
  cases hd6
  obtain ⟨t6, u6⟩ := hv.row 5 (by decide) (by decide) (by simp)
  clear hv
  simp [Act.put] at s6
  subst s6
  generalize bs 5 = g at *
  have r2 := rowAt_past hb r0
  have b1 := below_past b0 hb b0.size
  have l0 := lt_of_rowAt r0
  have b1s := b0.size
  show wpList _ _ _ [_] _ _
  dsimp only [Act.put, List.setIfInBounds_toArray, List.set_cons_succ, List.set_cons_zero, List.drop_succ_cons, List.drop_zero]
  have r4 := rowAt_setRow_same t6 (cellsN XA XB)
  have r3 := (rowAt_setRow_other w' g w.heap.size (cellsN XA XB) (Nat.ne_of_lt (Nat.lt_of_lt_of_le l0 u6))).trans r2
  have b2 := Below.setRow b1 (Nat.le_trans b1s u6) (cellsN XA XB)
  have T1 := Lib.hid (HT.out.below b2)
  clear r1 b0 T0 HA HB hb r2 b1 u6 b1s l0 r0
  go_wp2_with fail
  generalize w'.setRow g (cellsN XA XB) = W2 at *
  refine (HY.out _).mono ?_
  rintro e w1 ⟨rfl, b1⟩
  have r5 := rowAt_past b1 r4
  have T2 := Lib.hid (T1.out.below b1)
  have b3 := below_past b2 b1 b2.size
  clear r3 r4 T1 b1 b2 HY
  go_wp2_with fail
  refine (HC.out _).mono ?_
  rintro e w2 ⟨rfl, b1⟩
  have r4 := rowAt_past b1 r5
  have T1 := Lib.hid (T2.out.below b1)
  have b2 := below_past b3 b1 b3.size
  clear r5 T2 b1 b3 HC
  go_wp2_with fail
  refine (HI.out _ T1.out).mono ?_
  rintro e w3 ⟨rfl, b1⟩
  have r5 := rowAt_past b1 r4
  have T2 := Lib.hid (T1.out.below b1)
  have b3 := below_past b2 b1 b2.size
  clear r4 T1 b1 b2
  go_wp2_with fail
  refine (HI.out _ T2.out).mono ?_
  rintro e w4 ⟨rfl, b1⟩
  have T1 := Lib.hid (T2.out.below b1)
  have b2 := below_past b3 b1 b3.size
  clear r5 T2 b1 b3 HI
  go_wp2_with fail
  refine (HE.out _ T1.out).mono ?_
  rintro e w5 ⟨rfl, b1⟩
  have T2 := Lib.hid (T1.out.below b1)
  have b3 := below_past b2 b1 b2.size
  clear T1 b1 b2 HE
  go_wp2_with fail
  refine (HSM.out _ T2.out).mono ?_
  rintro e w6 ⟨rfl, b1⟩
  have b2 := below_past b3 b1 b3.size
  clear T2 b1 b3 HSM
  go_wp2_with fail
  go_ret
  exact ⟨rfl, b2⟩
end Go.Proofs.YtnffmgpnhlcakaaDoor
