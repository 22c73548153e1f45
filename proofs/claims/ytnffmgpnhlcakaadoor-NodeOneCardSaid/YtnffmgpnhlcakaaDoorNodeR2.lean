/- The document's reading of nodes. Conditions: texts of at most 400 bytes. -/
import Derived.Test.YtnffmgpnhlcakaaDoorNodeR1
namespace Go.Proofs.YtnffmgpnhlcakaaDoor
open Go Go.RowKit

/-- What is read of a text as a node. -/
def rdF (s : ByteArray) : Bool := flagV s 0
def rdR (s : ByteArray) : ByteArray := takeR s 0 1
def rdE (s : ByteArray) : Int := octE s 0 1
def doneV (R : ByteArray) (e : Int) : Int := if e = 0 ∧ R.size ≠ 0 then 3 else e
def rdN (s : ByteArray) : Nd := if rdF s = true then .inner (iX (rdR s) (rdE s)) (iX (iR4 (rdR s) (rdE s)) (iE4 (rdR s) (rdE s))) else .leaf (lX (rdR s) (rdE s))
def rdD (s : ByteArray) : Int := if rdF s = true then doneV (iR4 (iR4 (rdR s) (rdE s)) (iE4 (rdR s) (rdE s))) (iE4 (iR4 (rdR s) (rdE s)) (iE4 (rdR s) (rdE s))) else doneV (lR3 (rdR s) (rdE s)) (lE3 (rdR s) (rdE s))
def rdErr (s : ByteArray) : Int := if rdD s ≠ 0 then rdD s else chkN (rdN s)
def rdNd (s : ByteArray) : Nd := if rdErr s = 0 then rdN s else .none

theorem results_five {P : Program} {fn : Func} {p q r u v : Tmp} {ty ty2 ty3 : TypeId} (h : fn.results = #[.cell p ty, .cell q ty2, .cell r ty3, .tmp u, .tmp v]) (tmps : Array Value) (w : World) (b b2 b3 : Nat) (c c2 c3 : Array Value) (d d2 d3 : TypeDesc) (x y : Value)
    (hp : tmps.getD p undef = .pointer (some ⟨b, 0, none⟩)) (hr : rowAt w b = some c) (hu : P.underlying ty = some d) (hd : (match d with | .struct _ | .array _ _ => true | _ => false) = true) (hi : (P.info? ty).map (·.size) = some c.size)
    (hq : tmps.getD q undef = .pointer (some ⟨b2, 0, none⟩)) (hr2 : rowAt w b2 = some c2) (hu2 : P.underlying ty2 = some d2) (hd2 : (match d2 with | .struct _ | .array _ _ => true | _ => false) = true) (hi2 : (P.info? ty2).map (·.size) = some c2.size)
    (hq3 : tmps.getD r undef = .pointer (some ⟨b3, 0, none⟩)) (hr3 : rowAt w b3 = some c3) (hu3 : P.underlying ty3 = some d3) (hd3 : (match d3 with | .struct _ | .array _ _ => true | _ => false) = true) (hi3 : (P.info? ty3).map (·.size) = some c3.size)
    (hx : tmps.getD u undef = x) (hy : tmps.getD v undef = y) :
    (results fn tmps).run P w = .ok (.tuple #[.agg c, .agg c2, .agg c3, x, y]) w := by
  obtain ⟨t, ht⟩ := heap_of_rowAt hr
  obtain ⟨t2, ht2⟩ := heap_of_rowAt hr2
  obtain ⟨t3, ht3⟩ := heap_of_rowAt hr3
  have hp' : tmps[p]?.getD undef = .pointer (some ⟨b, 0, none⟩) := by simpa using hp
  have hq' : tmps[q]?.getD undef = .pointer (some ⟨b2, 0, none⟩) := by simpa using hq
  have hq3' : tmps[r]?.getD undef = .pointer (some ⟨b3, 0, none⟩) := by simpa using hq3
  have hx' : tmps[u]?.getD undef = x := by simpa using hx
  have hy' : tmps[v]?.getD undef = y := by simpa using hy
  simp [results, h, hp', hq', hq3', hx', hy', asAddr, run_loadVar_row w b t ty c _ d ht hu hd hi, run_loadVar_row w b2 t2 ty2 c2 _ d2 ht2 hu2 hd2 hi2, run_loadVar_row w b3 t3 ty3 c3 _ d3 ht3 hu3 hd3 hi3]

/-- Where the document's reader of nodes stands. -/
structure RS (w0 : World) (g : Nat) (s : ByteArray) (A : Nat) (E : Int) (f : Lf) (x y : Itm) (W : World) : Prop where
  below : Below w0.heap.size w0 W
  r0 : rowAt W w0.heap.size = some (cellsF zeroLf)
  r1 : rowAt W (w0.heap.size + 1) = some (cellsI zeroItm)
  r2 : rowAt W (w0.heap.size + 1 + 1) = some (cellsI zeroItm)
  c : rowAt W g = some (cellsC s A E)
  f : rowAt W (g + 1) = some (cellsF f)
  x : rowAt W (g + 1 + 1) = some (cellsI x)
  y : rowAt W (g + 1 + 1 + 1) = some (cellsI y)
  lt : w0.heap.size + 1 + 1 < g
section
variable {w0 W W' : World} {g : Nat} {s : ByteArray} {A : Nat} {E : Int} {f : Lf} {x y : Itm}
theorem RS.past (h : RS w0 g s A E f x y W) (k : Below W.heap.size W W') : RS w0 g s A E f x y W' :=
  ⟨below_past h.below k h.below.size, rowAt_past k h.r0, rowAt_past k h.r1, rowAt_past k h.r2, rowAt_past k h.c, rowAt_past k h.f, rowAt_past k h.x, rowAt_past k h.y, h.lt⟩
theorem RS.putC (h : RS w0 g s A E f x y W) (A' : Nat) (E' : Int) : RS w0 g s A' E' f x y (W.setRow g (cellsC s A' E')) := by
  have := h.lt
  exact ⟨Below.setRow h.below (by omega) _, (rowAt_setRow_other _ _ _ _ (by omega)).trans h.r0, (rowAt_setRow_other _ _ _ _ (by omega)).trans h.r1, (rowAt_setRow_other _ _ _ _ (by omega)).trans h.r2, rowAt_setRow_same h.c _, (rowAt_setRow_other _ _ _ _ (by omega)).trans h.f, (rowAt_setRow_other _ _ _ _ (by omega)).trans h.x, (rowAt_setRow_other _ _ _ _ (by omega)).trans h.y, h.lt⟩
theorem RS.putF (h : RS w0 g s A E f x y W) (f' : Lf) : RS w0 g s A E f' x y (W.setRow (g + 1) (cellsF f')) := by
  have := h.lt
  exact ⟨Below.setRow h.below (by omega) _, (rowAt_setRow_other _ _ _ _ (by omega)).trans h.r0, (rowAt_setRow_other _ _ _ _ (by omega)).trans h.r1, (rowAt_setRow_other _ _ _ _ (by omega)).trans h.r2, (rowAt_setRow_other _ _ _ _ (by omega)).trans h.c, rowAt_setRow_same h.f _, (rowAt_setRow_other _ _ _ _ (by omega)).trans h.x, (rowAt_setRow_other _ _ _ _ (by omega)).trans h.y, h.lt⟩
theorem RS.putX (h : RS w0 g s A E f x y W) (x' : Itm) : RS w0 g s A E f x' y (W.setRow (g + 1 + 1) (cellsI x')) := by
  have := h.lt
  exact ⟨Below.setRow h.below (by omega) _, (rowAt_setRow_other _ _ _ _ (by omega)).trans h.r0, (rowAt_setRow_other _ _ _ _ (by omega)).trans h.r1, (rowAt_setRow_other _ _ _ _ (by omega)).trans h.r2, (rowAt_setRow_other _ _ _ _ (by omega)).trans h.c, (rowAt_setRow_other _ _ _ _ (by omega)).trans h.f, rowAt_setRow_same h.x _, (rowAt_setRow_other _ _ _ _ (by omega)).trans h.y, h.lt⟩
theorem RS.putY (h : RS w0 g s A E f x y W) (y' : Itm) : RS w0 g s A E f x y' (W.setRow (g + 1 + 1 + 1) (cellsI y')) := by
  have := h.lt
  exact ⟨Below.setRow h.below (by omega) _, (rowAt_setRow_other _ _ _ _ (by omega)).trans h.r0, (rowAt_setRow_other _ _ _ _ (by omega)).trans h.r1, (rowAt_setRow_other _ _ _ _ (by omega)).trans h.r2, (rowAt_setRow_other _ _ _ _ (by omega)).trans h.c, (rowAt_setRow_other _ _ _ _ (by omega)).trans h.f, (rowAt_setRow_other _ _ _ _ (by omega)).trans h.x, rowAt_setRow_same h.y _, h.lt⟩
/-- The three results laid. -/
theorem RS.ends (h : RS w0 g s A E f x y W) (f' : Lf) (x' y' : Itm) (V : World) (hV : V = ((W.setRow w0.heap.size (cellsF f')).setRow (w0.heap.size + 1) (cellsI x')).setRow (w0.heap.size + 1 + 1) (cellsI y')) :
    rowAt V w0.heap.size = some (cellsF f') ∧ rowAt V (w0.heap.size + 1) = some (cellsI x') ∧ rowAt V (w0.heap.size + 1 + 1) = some (cellsI y') ∧ Below w0.heap.size w0 V := by
  subst hV
  refine ⟨?_, ?_, ?_, ?_⟩
  · rw [rowAt_setRow_other _ _ _ _ (by omega), rowAt_setRow_other _ _ _ _ (by omega)]
    exact rowAt_setRow_same h.r0 _
  · rw [rowAt_setRow_other _ _ _ _ (by omega)]
    exact rowAt_setRow_same ((rowAt_setRow_other _ _ _ _ (by omega)).trans h.r1) _
  · exact rowAt_setRow_same ((rowAt_setRow_other _ _ _ _ (by omega)).trans ((rowAt_setRow_other _ _ _ _ (by omega)).trans h.r2)) _
  · exact Below.setRow (Below.setRow (Below.setRow h.below (Nat.le_refl _) _) (by omega) _) (by omega) _
end
set_option maxRecDepth 100000 in
set_option maxHeartbeats 4000000 in
theorem r15Read_in (s : ByteArray) (w : World) (hs : s.size ≤ 400) (hF : rdF s = true) :
    Calls Tryd.prog 10 #[.string s] w fun e w' => e = .returned (.tuple #[.agg (cellsF (rdNd s).lf), .agg (cellsI (rdNd s).fst), .agg (cellsI (rdNd s).snd), .bool (rdNd s).isIn, .int .i64 (rdErr s)]) ∧ Below w.heap.size w w' := by
  have h0 := suf_self s
  have h1 : Suf s (rdR s) := suf_take h0 _ _
  have h2 : Suf s (iR4 (rdR s) (rdE s)) := suf_num (suf_take (suf_take (suf_num h1 _) _ _) _ _) _
  have h3 : Suf s (iR4 (iR4 (rdR s) (rdE s)) (iE4 (rdR s) (rdE s))) := suf_num (suf_take (suf_take (suf_num h2 _) _ _) _ _) _
  have HO : Hid (∀ w, Calls Tryd.prog 31 #[.string s] w fun e w' => e = .returned (.agg (cellsC s (atOf s s) 0)) ∧ Below w.heap.size w w') := Lib.hid fun w => by
    have := r2Open_any s w
    rwa [if_pos (by omega)] at this
  have HFL : Hid (∀ w, Calls Tryd.prog 30 #[.agg (cellsC s (atOf s s) 0)] w fun e w' => e = .returned (.tuple #[.agg (cellsC s (atOf s (rdR s)) (rdE s)), .bool true]) ∧ Below w.heap.size w w') := Lib.hid fun w => by
    have := r2Flag_all s s 0 w h0 (fun _ => by omega)
    rw [show flagV s 0 = true from hF] at this
    exact this
  have H1 := Lib.hid (fun w => r15ReadItem_any s (rdR s) (rdE s) w h1 (by omega))
  have H2 := Lib.hid (fun w => r15ReadItem_any s _ (iE4 (rdR s) (rdE s)) w h2 (by omega))
  have HD : Hid (∀ w, Calls Tryd.prog 34 #[.agg (cellsC s (atOf s (iR4 (iR4 (rdR s) (rdE s)) (iE4 (rdR s) (rdE s)))) (iE4 (iR4 (rdR s) (rdE s)) (iE4 (rdR s) (rdE s))))] w fun e w' => e = .returned (.int .i64 (rdD s)) ∧ Below w.heap.size w w') := Lib.hid fun w => by
    rw [rdD, if_pos hF]
    exact r2Done_any s _ _ w h3
  have HC := Lib.hid (fun w => r15Check_any (iX (rdR s) (rdE s)) (iX (iR4 (rdR s) (rdE s)) (iE4 (rdR s) (rdE s))) w)
  have hN : rdN s = .inner (iX (rdR s) (rdE s)) (iX (iR4 (rdR s) (rdE s)) (iE4 (rdR s) (rdE s))) := if_pos hF
  have HEQ : Hid (rdErr s = if rdD s ≠ 0 then rdD s else chkI (iX (rdR s) (rdE s)) (iX (iR4 (rdR s) (rdE s)) (iE4 (rdR s) (rdE s)))) := Lib.hid (by rw [rdErr, hN]; rfl)
  have HND : Hid (rdNd s = if rdErr s = 0 then .inner (iX (rdR s) (rdE s)) (iX (iR4 (rdR s) (rdE s)) (iE4 (rdR s) (rdE s))) else .none) := Lib.hid (by rw [rdNd, hN])
  clear h0 h1 h2 h3 hN hF hs
  generalize chkI (iX (rdR s) (rdE s)) (iX (iR4 (rdR s) (rdE s)) (iE4 (rdR s) (rdE s))) = CK at *
  generalize rdNd s = ND at *
  generalize rdErr s = ER at *
  generalize rdD s = DN at *
  generalize iX (iR4 (rdR s) (rdE s)) (iE4 (rdR s) (rdE s)) = Y at *
  generalize iX (rdR s) (rdE s) = X at *
  generalize atOf s (iR4 (iR4 (rdR s) (rdE s)) (iE4 (rdR s) (rdE s))) = A3 at *
  generalize iE4 (iR4 (rdR s) (rdE s)) (iE4 (rdR s) (rdE s)) = E3 at *
  generalize atOf s (iR4 (rdR s) (rdE s)) = A2 at *
  generalize iE4 (rdR s) (rdE s) = E2 at *
  generalize atOf s (rdR s) = A1 at *
  generalize rdE s = E1 at *
  generalize atOf s s = A0 at *
  have b0 : Below w.heap.size w (((w.alloc (.cells (cellsF zeroLf) 31)).alloc (.cells (cellsI zeroItm) 33)).alloc (.cells (cellsI zeroItm) 33)) := (((Below.refl _ _).alloc (Nat.le_refl _) _).alloc (by simp only [World.size_alloc]; omega) _).alloc (by simp only [World.size_alloc]; omega) _
  have r0 : rowAt (((w.alloc (.cells (cellsF zeroLf) 31)).alloc (.cells (cellsI zeroItm) 33)).alloc (.cells (cellsI zeroItm) 33)) w.heap.size = some (cellsF zeroLf) := (rowAt_alloc_past _ _ _ (by simp only [World.size_alloc]; omega)).trans ((rowAt_alloc_past _ _ _ (by simp only [World.size_alloc]; omega)).trans (rowAt_alloc_at _ _ _ _ rfl))
  have r1 : rowAt (((w.alloc (.cells (cellsF zeroLf) 31)).alloc (.cells (cellsI zeroItm) 33)).alloc (.cells (cellsI zeroItm) 33)) (w.heap.size + 1) = some (cellsI zeroItm) := (rowAt_alloc_past _ _ _ (by simp only [World.size_alloc]; omega)).trans (rowAt_alloc_at _ _ _ _ (by simp only [World.size_alloc]))
  have r2 : rowAt (((w.alloc (.cells (cellsF zeroLf) 31)).alloc (.cells (cellsI zeroItm) 33)).alloc (.cells (cellsI zeroItm) 33)) (w.heap.size + 1 + 1) = some (cellsI zeroItm) := rowAt_alloc_at _ _ _ _ (by simp only [World.size_alloc])
  go_enter Tryd.func10, Tryd.ntmps10
  go_wp2_with fail
  generalize ((w.alloc (.cells (cellsF zeroLf) 31)).alloc (.cells (cellsI zeroItm) 33)).alloc (.cells (cellsI zeroItm) 33) = W at *
  refine (HO.out _).mono ?_
  rintro e w1 ⟨rfl, c1⟩
  have k0 := rowAt_past c1 r0
  have k1 := rowAt_past c1 r1
  have k2 := rowAt_past c1 r2
  have b1 := below_past b0 c1 b0.size
  clear b0 r0 r1 r2 c1 HO
  go_wp2_with fail
  refine (HFL.out _).mono ?_
  rintro e w2 ⟨rfl, c1⟩
  have l2 := lt_of_rowAt (rowAt_past c1 k2)
  have bq := ((((Below.refl w2.heap.size w2).alloc (Nat.le_refl _) (.cells (cellsC s A1 E1) 68)).alloc (by simp only [World.size_alloc]; omega) (.cells (cellsF zeroLf) 31)).alloc (by simp only [World.size_alloc]; omega) (.cells (cellsI zeroItm) 33)).alloc (by simp only [World.size_alloc]; omega) (.cells (cellsI zeroItm) 33)
  have q0 : Hid (RS w w2.heap.size s A1 E1 zeroLf zeroItm zeroItm ((((w2.alloc (.cells (cellsC s A1 E1) 68)).alloc (.cells (cellsF zeroLf) 31)).alloc (.cells (cellsI zeroItm) 33)).alloc (.cells (cellsI zeroItm) 33))) := Lib.hid ⟨below_past (below_past b1 c1 b1.size) bq (below_past b1 c1 b1.size).size, rowAt_past bq (rowAt_past c1 k0), rowAt_past bq (rowAt_past c1 k1), rowAt_past bq (rowAt_past c1 k2),
    (rowAt_alloc_past _ _ _ (by simp only [World.size_alloc]; omega)).trans ((rowAt_alloc_past _ _ _ (by simp only [World.size_alloc]; omega)).trans ((rowAt_alloc_past _ _ _ (by simp only [World.size_alloc]; omega)).trans (rowAt_alloc_at _ _ _ _ rfl))),
    (rowAt_alloc_past _ _ _ (by simp only [World.size_alloc]; omega)).trans ((rowAt_alloc_past _ _ _ (by simp only [World.size_alloc]; omega)).trans (rowAt_alloc_at _ _ _ _ (by simp only [World.size_alloc]))),
    (rowAt_alloc_past _ _ _ (by simp only [World.size_alloc]; omega)).trans (rowAt_alloc_at _ _ _ _ (by simp only [World.size_alloc])),
    rowAt_alloc_at _ _ _ _ (by simp only [World.size_alloc]), l2⟩
  clear k0 k1 k2 b1 c1 l2 bq HFL
  go_wp2_with fail
  generalize (((w2.alloc (.cells (cellsC s A1 E1) 68)).alloc (.cells (cellsF zeroLf) 31)).alloc (.cells (cellsI zeroItm) 33)).alloc (.cells (cellsI zeroItm) 33) = W2 at *
  generalize w2.heap.size = g at *
  refine (H1.out _).mono ?_
  rintro e w3 ⟨rfl, c1⟩
  have S3 := q0.out.past c1
  have k3 := S3.c
  have k5 := (S3.putC A2 E2).x
  have S4 := Lib.hid ((S3.putC A2 E2).putX X)
  have m3 := S4.out.c
  clear q0 c1 H1 S3
  go_wp2_with fail
  generalize (w3.setRow g (cellsC s A2 E2)).setRow (g + 1 + 1) (cellsI X) = W3 at *
  clear k3 k5 m3
  refine (H2.out _).mono ?_
  rintro e w4 ⟨rfl, c1⟩
  have S3 := S4.out.past c1
  have k3 := S3.c
  have k5 := (S3.putC A3 E3).y
  have S5 := Lib.hid ((S3.putC A3 E3).putY Y)
  have m3 := S5.out.c
  clear S4 c1 H2 S3
  go_wp2_with fail
  generalize (w4.setRow g (cellsC s A3 E3)).setRow (g + 1 + 1 + 1) (cellsI Y) = W4 at *
  clear k3 k5 m3
  refine (HD.out _).mono ?_
  rintro e w5 ⟨rfl, c1⟩
  have S6 := Lib.hid (S5.out.past c1)
  clear S5 c1 HD
  by_cases hd : DN = 0
  · subst hd
    have e1 := S6.out.x
    have e2 := S6.out.y
    go_wp2_with fail
    refine (HC.out _).mono ?_
    rintro e w6 ⟨rfl, c1⟩
    have S7 := Lib.hid (S6.out.past c1)
    clear S6 c1 HC e1 e2
    obtain rfl : ER = CK := by rw [HEQ.out]; simp
    by_cases hc : ER = 0
    · subst hc
      obtain rfl : ND = .inner X Y := by rw [HND.out, if_pos rfl]
      clear HND HEQ
      have k0 := S7.out.r0
      have k1 := S7.out.r1
      have k2 := S7.out.r2
      have k4 := S7.out.f
      have k5 := S7.out.x
      have k6 := S7.out.y
      have hlt := S7.out.lt
      go_wp2_with fail
      have n01 : ∀ (V : World) (c : Array Value), rowAt (V.setRow (w.heap.size) c) (w.heap.size + 1) = rowAt V (w.heap.size + 1) := fun V c => rowAt_setRow_other V _ _ c (by omega)
      have n02 : ∀ (V : World) (c : Array Value), rowAt (V.setRow (w.heap.size) c) (w.heap.size + 1 + 1) = rowAt V (w.heap.size + 1 + 1) := fun V c => rowAt_setRow_other V _ _ c (by omega)
      have n03 : ∀ (V : World) (c : Array Value), rowAt (V.setRow (w.heap.size) c) (g + 1) = rowAt V (g + 1) := fun V c => rowAt_setRow_other V _ _ c (by omega)
      have n04 : ∀ (V : World) (c : Array Value), rowAt (V.setRow (w.heap.size) c) (g + 1 + 1) = rowAt V (g + 1 + 1) := fun V c => rowAt_setRow_other V _ _ c (by omega)
      have n05 : ∀ (V : World) (c : Array Value), rowAt (V.setRow (w.heap.size) c) (g + 1 + 1 + 1) = rowAt V (g + 1 + 1 + 1) := fun V c => rowAt_setRow_other V _ _ c (by omega)
      have n10 : ∀ (V : World) (c : Array Value), rowAt (V.setRow (w.heap.size + 1) c) (w.heap.size) = rowAt V (w.heap.size) := fun V c => rowAt_setRow_other V _ _ c (by omega)
      have n12 : ∀ (V : World) (c : Array Value), rowAt (V.setRow (w.heap.size + 1) c) (w.heap.size + 1 + 1) = rowAt V (w.heap.size + 1 + 1) := fun V c => rowAt_setRow_other V _ _ c (by omega)
      have n13 : ∀ (V : World) (c : Array Value), rowAt (V.setRow (w.heap.size + 1) c) (g + 1) = rowAt V (g + 1) := fun V c => rowAt_setRow_other V _ _ c (by omega)
      have n14 : ∀ (V : World) (c : Array Value), rowAt (V.setRow (w.heap.size + 1) c) (g + 1 + 1) = rowAt V (g + 1 + 1) := fun V c => rowAt_setRow_other V _ _ c (by omega)
      have n15 : ∀ (V : World) (c : Array Value), rowAt (V.setRow (w.heap.size + 1) c) (g + 1 + 1 + 1) = rowAt V (g + 1 + 1 + 1) := fun V c => rowAt_setRow_other V _ _ c (by omega)
      have n20 : ∀ (V : World) (c : Array Value), rowAt (V.setRow (w.heap.size + 1 + 1) c) (w.heap.size) = rowAt V (w.heap.size) := fun V c => rowAt_setRow_other V _ _ c (by omega)
      have n21 : ∀ (V : World) (c : Array Value), rowAt (V.setRow (w.heap.size + 1 + 1) c) (w.heap.size + 1) = rowAt V (w.heap.size + 1) := fun V c => rowAt_setRow_other V _ _ c (by omega)
      have n23 : ∀ (V : World) (c : Array Value), rowAt (V.setRow (w.heap.size + 1 + 1) c) (g + 1) = rowAt V (g + 1) := fun V c => rowAt_setRow_other V _ _ c (by omega)
      have n24 : ∀ (V : World) (c : Array Value), rowAt (V.setRow (w.heap.size + 1 + 1) c) (g + 1 + 1) = rowAt V (g + 1 + 1) := fun V c => rowAt_setRow_other V _ _ c (by omega)
      have n25 : ∀ (V : World) (c : Array Value), rowAt (V.setRow (w.heap.size + 1 + 1) c) (g + 1 + 1 + 1) = rowAt V (g + 1 + 1 + 1) := fun V c => rowAt_setRow_other V _ _ c (by omega)
      go_region
      all_goals
        go_wp2_with fail
        obtain ⟨y1, y2, y3, b5⟩ := S7.out.ends zeroLf X Y _ rfl
        exact bodyPost_ret (results_five rfl _ _ _ _ _ _ _ _ _ _ _ _ _ rfl (by rw [rowAt_drew]; exact y1) Tryd.underlying31 rfl (by rw [size_cellsF]; kernel_rfl) rfl (by rw [rowAt_drew]; exact y2) Tryd.underlying33 rfl (by rw [size_cellsI]; kernel_rfl) rfl (by rw [rowAt_drew]; exact y3) Tryd.underlying33 rfl (by rw [size_cellsI]; kernel_rfl) rfl rfl) rfl ⟨rfl, b5.drew⟩
    · obtain rfl : ND = .none := by rw [HND.out, if_neg hc]
      have hc1 : (ER != 0) = true := by rw [bne_iff_ne]; exact hc
      clear HND HEQ
      have k0 := S7.out.r0
      have k1 := S7.out.r1
      have k2 := S7.out.r2
      have u1 := (rowAt_setRow_other w6 w.heap.size (w.heap.size + 1) (cellsF zeroLf) (by omega)).trans k1
      have u2 := (rowAt_setRow_other (w6.setRow w.heap.size (cellsF zeroLf)) (w.heap.size + 1) (w.heap.size + 1 + 1) (cellsI zeroItm) (by omega)).trans ((rowAt_setRow_other w6 w.heap.size (w.heap.size + 1 + 1) (cellsF zeroLf) (by omega)).trans k2)
      go_wp2_with fail
      obtain ⟨y1, y2, y3, b5⟩ := S7.out.ends zeroLf zeroItm zeroItm _ rfl
      exact bodyPost_ret (results_five rfl _ _ _ _ _ _ _ _ _ _ _ _ _ rfl y1 Tryd.underlying31 rfl (by rw [size_cellsF]; kernel_rfl) rfl y2 Tryd.underlying33 rfl (by rw [size_cellsI]; kernel_rfl) rfl y3 Tryd.underlying33 rfl (by rw [size_cellsI]; kernel_rfl) rfl rfl) rfl ⟨rfl, b5⟩
  · obtain rfl : ER = DN := by rw [HEQ.out, if_pos hd]
    obtain rfl : ND = .none := by rw [HND.out, if_neg hd]
    have hc1 : (ER != 0) = true := by rw [bne_iff_ne]; exact hd
    clear HND HEQ
    have k0 := S6.out.r0
    have k1 := S6.out.r1
    have k2 := S6.out.r2
    have u1 := (rowAt_setRow_other w5 w.heap.size (w.heap.size + 1) (cellsF zeroLf) (by omega)).trans k1
    have u2 := (rowAt_setRow_other (w5.setRow w.heap.size (cellsF zeroLf)) (w.heap.size + 1) (w.heap.size + 1 + 1) (cellsI zeroItm) (by omega)).trans ((rowAt_setRow_other w5 w.heap.size (w.heap.size + 1 + 1) (cellsF zeroLf) (by omega)).trans k2)
    go_wp2_with fail
    obtain ⟨y1, y2, y3, b5⟩ := S6.out.ends zeroLf zeroItm zeroItm _ rfl
    exact bodyPost_ret (results_five rfl _ _ _ _ _ _ _ _ _ _ _ _ _ rfl y1 Tryd.underlying31 rfl (by rw [size_cellsF]; kernel_rfl) rfl y2 Tryd.underlying33 rfl (by rw [size_cellsI]; kernel_rfl) rfl y3 Tryd.underlying33 rfl (by rw [size_cellsI]; kernel_rfl) rfl rfl) rfl ⟨rfl, b5⟩
set_option maxRecDepth 100000 in
set_option maxHeartbeats 4000000 in
theorem r15Read_leaf (s : ByteArray) (w : World) (hs : s.size ≤ 400) (hF : rdF s = false) :
    Calls Tryd.prog 10 #[.string s] w fun e w' => e = .returned (.tuple #[.agg (cellsF (rdNd s).lf), .agg (cellsI (rdNd s).fst), .agg (cellsI (rdNd s).snd), .bool (rdNd s).isIn, .int .i64 (rdErr s)]) ∧ Below w.heap.size w w' := by
  have h0 := suf_self s
  have h1 : Suf s (rdR s) := suf_take h0 _ _
  have h2 : Suf s (lR3 (rdR s) (rdE s)) := suf_num (suf_take (suf_take h1 _ _) _ _) _
  have HO : Hid (∀ w, Calls Tryd.prog 31 #[.string s] w fun e w' => e = .returned (.agg (cellsC s (atOf s s) 0)) ∧ Below w.heap.size w w') := Lib.hid fun w => by
    have := r2Open_any s w
    rwa [if_pos (by omega)] at this
  have HFL : Hid (∀ w, Calls Tryd.prog 30 #[.agg (cellsC s (atOf s s) 0)] w fun e w' => e = .returned (.tuple #[.agg (cellsC s (atOf s (rdR s)) (rdE s)), .bool false]) ∧ Below w.heap.size w w') := Lib.hid fun w => by
    have := r2Flag_all s s 0 w h0 (fun _ => by omega)
    rw [show flagV s 0 = false from hF] at this
    exact this
  have hFn : ¬ rdF s = true := by rw [hF]; decide
  have H1 := Lib.hid (fun w => r15ReadLeaf_any s (rdR s) (rdE s) w h1 (by omega))
  have HD : Hid (∀ w, Calls Tryd.prog 34 #[.agg (cellsC s (atOf s (lR3 (rdR s) (rdE s))) (lE3 (rdR s) (rdE s)))] w fun e w' => e = .returned (.int .i64 (rdD s)) ∧ Below w.heap.size w w') := Lib.hid fun w => by
    rw [rdD, if_neg hFn]
    exact r2Done_any s _ _ w h2
  have hN : rdN s = .leaf (lX (rdR s) (rdE s)) := if_neg hFn
  have HEQ : Hid (rdErr s = if rdD s ≠ 0 then rdD s else chkF (lX (rdR s) (rdE s))) := Lib.hid (by rw [rdErr, hN]; rfl)
  have HND : Hid (rdNd s = if rdErr s = 0 then .leaf (lX (rdR s) (rdE s)) else .none) := Lib.hid (by rw [rdNd, hN])
  have hv : 0 ≤ (lX (rdR s) (rdE s)).e := numV_nonneg _ _
  have HCK : Hid (chkF (lX (rdR s) (rdE s)) = if 1073741824 < (lX (rdR s) (rdE s)).e then 1 else 0) := Lib.hid (by
    rw [chkF, epB, decide_eq_true hv, Bool.true_and]
    by_cases h : (lX (rdR s) (rdE s)).e ≤ 1073741824
    · rw [decide_eq_true h, if_pos rfl, if_neg (by omega)]
    · rw [decide_eq_false h, if_neg (by decide), if_pos (by omega)])
  have g64 := get_F64 (lX (rdR s) (rdE s))
  clear h0 h1 h2 hN hF hFn hs hv
  generalize chkF (lX (rdR s) (rdE s)) = CK at *
  generalize rdNd s = ND at *
  generalize rdErr s = ER at *
  generalize rdD s = DN at *
  generalize lX (rdR s) (rdE s) = X at *
  generalize atOf s (lR3 (rdR s) (rdE s)) = A2 at *
  generalize lE3 (rdR s) (rdE s) = E2 at *
  generalize atOf s (rdR s) = A1 at *
  generalize rdE s = E1 at *
  generalize atOf s s = A0 at *
  obtain ⟨m, hm⟩ : ∃ m, X.e = m := ⟨_, rfl⟩
  rw [hm] at g64 HCK
  clear hm
  have b0 : Below w.heap.size w (((w.alloc (.cells (cellsF zeroLf) 31)).alloc (.cells (cellsI zeroItm) 33)).alloc (.cells (cellsI zeroItm) 33)) := (((Below.refl _ _).alloc (Nat.le_refl _) _).alloc (by simp only [World.size_alloc]; omega) _).alloc (by simp only [World.size_alloc]; omega) _
  have r0 : rowAt (((w.alloc (.cells (cellsF zeroLf) 31)).alloc (.cells (cellsI zeroItm) 33)).alloc (.cells (cellsI zeroItm) 33)) w.heap.size = some (cellsF zeroLf) := (rowAt_alloc_past _ _ _ (by simp only [World.size_alloc]; omega)).trans ((rowAt_alloc_past _ _ _ (by simp only [World.size_alloc]; omega)).trans (rowAt_alloc_at _ _ _ _ rfl))
  have r1 : rowAt (((w.alloc (.cells (cellsF zeroLf) 31)).alloc (.cells (cellsI zeroItm) 33)).alloc (.cells (cellsI zeroItm) 33)) (w.heap.size + 1) = some (cellsI zeroItm) := (rowAt_alloc_past _ _ _ (by simp only [World.size_alloc]; omega)).trans (rowAt_alloc_at _ _ _ _ (by simp only [World.size_alloc]))
  have r2 : rowAt (((w.alloc (.cells (cellsF zeroLf) 31)).alloc (.cells (cellsI zeroItm) 33)).alloc (.cells (cellsI zeroItm) 33)) (w.heap.size + 1 + 1) = some (cellsI zeroItm) := rowAt_alloc_at _ _ _ _ (by simp only [World.size_alloc])
  go_enter Tryd.func10, Tryd.ntmps10
  go_wp2_with fail
  generalize ((w.alloc (.cells (cellsF zeroLf) 31)).alloc (.cells (cellsI zeroItm) 33)).alloc (.cells (cellsI zeroItm) 33) = W at *
  refine (HO.out _).mono ?_
  rintro e w1 ⟨rfl, c1⟩
  have k0 := rowAt_past c1 r0
  have k1 := rowAt_past c1 r1
  have k2 := rowAt_past c1 r2
  have b1 := below_past b0 c1 b0.size
  clear b0 r0 r1 r2 c1 HO
  go_wp2_with fail
  refine (HFL.out _).mono ?_
  rintro e w2 ⟨rfl, c1⟩
  have l2 := lt_of_rowAt (rowAt_past c1 k2)
  have bq := ((((Below.refl w2.heap.size w2).alloc (Nat.le_refl _) (.cells (cellsC s A1 E1) 68)).alloc (by simp only [World.size_alloc]; omega) (.cells (cellsF zeroLf) 31)).alloc (by simp only [World.size_alloc]; omega) (.cells (cellsI zeroItm) 33)).alloc (by simp only [World.size_alloc]; omega) (.cells (cellsI zeroItm) 33)
  have q0 : Hid (RS w w2.heap.size s A1 E1 zeroLf zeroItm zeroItm ((((w2.alloc (.cells (cellsC s A1 E1) 68)).alloc (.cells (cellsF zeroLf) 31)).alloc (.cells (cellsI zeroItm) 33)).alloc (.cells (cellsI zeroItm) 33))) := Lib.hid ⟨below_past (below_past b1 c1 b1.size) bq (below_past b1 c1 b1.size).size, rowAt_past bq (rowAt_past c1 k0), rowAt_past bq (rowAt_past c1 k1), rowAt_past bq (rowAt_past c1 k2),
    (rowAt_alloc_past _ _ _ (by simp only [World.size_alloc]; omega)).trans ((rowAt_alloc_past _ _ _ (by simp only [World.size_alloc]; omega)).trans ((rowAt_alloc_past _ _ _ (by simp only [World.size_alloc]; omega)).trans (rowAt_alloc_at _ _ _ _ rfl))),
    (rowAt_alloc_past _ _ _ (by simp only [World.size_alloc]; omega)).trans ((rowAt_alloc_past _ _ _ (by simp only [World.size_alloc]; omega)).trans (rowAt_alloc_at _ _ _ _ (by simp only [World.size_alloc]))),
    (rowAt_alloc_past _ _ _ (by simp only [World.size_alloc]; omega)).trans (rowAt_alloc_at _ _ _ _ (by simp only [World.size_alloc])),
    rowAt_alloc_at _ _ _ _ (by simp only [World.size_alloc]), l2⟩
  clear k0 k1 k2 b1 c1 l2 bq HFL
  go_wp2_with fail
  generalize (((w2.alloc (.cells (cellsC s A1 E1) 68)).alloc (.cells (cellsF zeroLf) 31)).alloc (.cells (cellsI zeroItm) 33)).alloc (.cells (cellsI zeroItm) 33) = W2 at *
  generalize w2.heap.size = g at *
  refine (H1.out _).mono ?_
  rintro e w3 ⟨rfl, c1⟩
  have S3 := q0.out.past c1
  have k3 := S3.c
  have k5 := (S3.putC A2 E2).f
  have S4 := Lib.hid ((S3.putC A2 E2).putF X)
  have m3 := S4.out.c
  clear q0 c1 H1 S3
  go_wp2_with fail
  generalize (w3.setRow g (cellsC s A2 E2)).setRow (g + 1) (cellsF X) = W3 at *
  clear k3 k5 m3
  refine (HD.out _).mono ?_
  rintro e w5 ⟨rfl, c1⟩
  have S6 := Lib.hid (S4.out.past c1)
  clear S4 c1 HD
  by_cases hd : DN = 0
  · subst hd
    have c64 := (cell_of_rowAt S6.out.f 64).trans g64
    obtain rfl : ER = CK := by rw [HEQ.out]; simp
    by_cases hc : m ≤ 1073741824
    · have hc' : decide (1073741824 < m) = false := decide_eq_false (by omega)
      obtain rfl : ER = 0 := by rw [HCK.out, if_neg (by omega)]
      obtain rfl : ND = .leaf X := by rw [HND.out, if_pos rfl]
      clear HND HEQ HCK
      have k0 := S6.out.r0
      have k1 := S6.out.r1
      have k2 := S6.out.r2
      have k4 := S6.out.f
      have k5 := S6.out.x
      have k6 := S6.out.y
      have hlt := S6.out.lt
      go_wp2_with fail
      have n01 : ∀ (V : World) (c : Array Value), rowAt (V.setRow (w.heap.size) c) (w.heap.size + 1) = rowAt V (w.heap.size + 1) := fun V c => rowAt_setRow_other V _ _ c (by omega)
      have n02 : ∀ (V : World) (c : Array Value), rowAt (V.setRow (w.heap.size) c) (w.heap.size + 1 + 1) = rowAt V (w.heap.size + 1 + 1) := fun V c => rowAt_setRow_other V _ _ c (by omega)
      have n03 : ∀ (V : World) (c : Array Value), rowAt (V.setRow (w.heap.size) c) (g + 1) = rowAt V (g + 1) := fun V c => rowAt_setRow_other V _ _ c (by omega)
      have n04 : ∀ (V : World) (c : Array Value), rowAt (V.setRow (w.heap.size) c) (g + 1 + 1) = rowAt V (g + 1 + 1) := fun V c => rowAt_setRow_other V _ _ c (by omega)
      have n05 : ∀ (V : World) (c : Array Value), rowAt (V.setRow (w.heap.size) c) (g + 1 + 1 + 1) = rowAt V (g + 1 + 1 + 1) := fun V c => rowAt_setRow_other V _ _ c (by omega)
      have n10 : ∀ (V : World) (c : Array Value), rowAt (V.setRow (w.heap.size + 1) c) (w.heap.size) = rowAt V (w.heap.size) := fun V c => rowAt_setRow_other V _ _ c (by omega)
      have n12 : ∀ (V : World) (c : Array Value), rowAt (V.setRow (w.heap.size + 1) c) (w.heap.size + 1 + 1) = rowAt V (w.heap.size + 1 + 1) := fun V c => rowAt_setRow_other V _ _ c (by omega)
      have n13 : ∀ (V : World) (c : Array Value), rowAt (V.setRow (w.heap.size + 1) c) (g + 1) = rowAt V (g + 1) := fun V c => rowAt_setRow_other V _ _ c (by omega)
      have n14 : ∀ (V : World) (c : Array Value), rowAt (V.setRow (w.heap.size + 1) c) (g + 1 + 1) = rowAt V (g + 1 + 1) := fun V c => rowAt_setRow_other V _ _ c (by omega)
      have n15 : ∀ (V : World) (c : Array Value), rowAt (V.setRow (w.heap.size + 1) c) (g + 1 + 1 + 1) = rowAt V (g + 1 + 1 + 1) := fun V c => rowAt_setRow_other V _ _ c (by omega)
      have n20 : ∀ (V : World) (c : Array Value), rowAt (V.setRow (w.heap.size + 1 + 1) c) (w.heap.size) = rowAt V (w.heap.size) := fun V c => rowAt_setRow_other V _ _ c (by omega)
      have n21 : ∀ (V : World) (c : Array Value), rowAt (V.setRow (w.heap.size + 1 + 1) c) (w.heap.size + 1) = rowAt V (w.heap.size + 1) := fun V c => rowAt_setRow_other V _ _ c (by omega)
      have n23 : ∀ (V : World) (c : Array Value), rowAt (V.setRow (w.heap.size + 1 + 1) c) (g + 1) = rowAt V (g + 1) := fun V c => rowAt_setRow_other V _ _ c (by omega)
      have n24 : ∀ (V : World) (c : Array Value), rowAt (V.setRow (w.heap.size + 1 + 1) c) (g + 1 + 1) = rowAt V (g + 1 + 1) := fun V c => rowAt_setRow_other V _ _ c (by omega)
      have n25 : ∀ (V : World) (c : Array Value), rowAt (V.setRow (w.heap.size + 1 + 1) c) (g + 1 + 1 + 1) = rowAt V (g + 1 + 1 + 1) := fun V c => rowAt_setRow_other V _ _ c (by omega)
      go_region
      all_goals
        go_wp2_with fail
        obtain ⟨y1, y2, y3, b5⟩ := S6.out.ends X zeroItm zeroItm _ rfl
        exact bodyPost_ret (results_five rfl _ _ _ _ _ _ _ _ _ _ _ _ _ rfl (by rw [rowAt_drew]; exact y1) Tryd.underlying31 rfl (by rw [size_cellsF]; kernel_rfl) rfl (by rw [rowAt_drew]; exact y2) Tryd.underlying33 rfl (by rw [size_cellsI]; kernel_rfl) rfl (by rw [rowAt_drew]; exact y3) Tryd.underlying33 rfl (by rw [size_cellsI]; kernel_rfl) rfl rfl) rfl ⟨rfl, b5.drew⟩
    · have hc' : decide (1073741824 < m) = true := decide_eq_true (by omega)
      obtain rfl : ER = 1 := by rw [HCK.out, if_pos (by omega)]
      obtain rfl : ND = .none := by rw [HND.out, if_neg (by decide)]
      clear HND HEQ HCK
      have k0 := S6.out.r0
      have k1 := S6.out.r1
      have k2 := S6.out.r2
      have u1 := (rowAt_setRow_other w5 w.heap.size (w.heap.size + 1) (cellsF zeroLf) (by omega)).trans k1
      have u2 := (rowAt_setRow_other (w5.setRow w.heap.size (cellsF zeroLf)) (w.heap.size + 1) (w.heap.size + 1 + 1) (cellsI zeroItm) (by omega)).trans ((rowAt_setRow_other w5 w.heap.size (w.heap.size + 1 + 1) (cellsF zeroLf) (by omega)).trans k2)
      go_wp2_with fail
      obtain ⟨y1, y2, y3, b5⟩ := S6.out.ends zeroLf zeroItm zeroItm _ rfl
      exact bodyPost_ret (results_five rfl _ _ _ _ _ _ _ _ _ _ _ _ _ rfl y1 Tryd.underlying31 rfl (by rw [size_cellsF]; kernel_rfl) rfl y2 Tryd.underlying33 rfl (by rw [size_cellsI]; kernel_rfl) rfl y3 Tryd.underlying33 rfl (by rw [size_cellsI]; kernel_rfl) rfl rfl) rfl ⟨rfl, b5⟩
  · obtain rfl : ER = DN := by rw [HEQ.out, if_pos hd]
    obtain rfl : ND = .none := by rw [HND.out, if_neg hd]
    have hc1 : (ER != 0) = true := by rw [bne_iff_ne]; exact hd
    clear HND HEQ HCK
    have k0 := S6.out.r0
    have k1 := S6.out.r1
    have k2 := S6.out.r2
    have u1 := (rowAt_setRow_other w5 w.heap.size (w.heap.size + 1) (cellsF zeroLf) (by omega)).trans k1
    have u2 := (rowAt_setRow_other (w5.setRow w.heap.size (cellsF zeroLf)) (w.heap.size + 1) (w.heap.size + 1 + 1) (cellsI zeroItm) (by omega)).trans ((rowAt_setRow_other w5 w.heap.size (w.heap.size + 1 + 1) (cellsF zeroLf) (by omega)).trans k2)
    go_wp2_with fail
    obtain ⟨y1, y2, y3, b5⟩ := S6.out.ends zeroLf zeroItm zeroItm _ rfl
    exact bodyPost_ret (results_five rfl _ _ _ _ _ _ _ _ _ _ _ _ _ rfl y1 Tryd.underlying31 rfl (by rw [size_cellsF]; kernel_rfl) rfl y2 Tryd.underlying33 rfl (by rw [size_cellsI]; kernel_rfl) rfl y3 Tryd.underlying33 rfl (by rw [size_cellsI]; kernel_rfl) rfl rfl) rfl ⟨rfl, b5⟩
theorem r15Read_any (s : ByteArray) (w : World) (hs : s.size ≤ 400) :
    Calls Tryd.prog 10 #[.string s] w fun e w' => e = .returned (.tuple #[.agg (cellsF (rdNd s).lf), .agg (cellsI (rdNd s).fst), .agg (cellsI (rdNd s).snd), .bool (rdNd s).isIn, .int .i64 (rdErr s)]) ∧ Below w.heap.size w w' := by
  cases hF : rdF s
  · exact r15Read_leaf s w hs hF
  · exact r15Read_in s w hs hF
end Go.Proofs.YtnffmgpnhlcakaaDoor
