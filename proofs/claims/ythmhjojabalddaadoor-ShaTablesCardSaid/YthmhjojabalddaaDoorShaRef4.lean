/- The document's sum of a text. Conditions: none. -/
import Derived.Test.YthmhjojabalddaaDoorShaRef3
import Derived.Test.YthmhjojabalddaaDoorShaMac
namespace Go.Proofs.YthmhjojabalddaaDoor
open Go Go.RowKit

/-- The constants of the rounds. -/
def stepsK : W64 := ⟨(List.range 64).map cubeT, by simp⟩
theorem stepsK_get (i : Nat) (h : i < 64) : stepsK.get i = cubeT i := by
  unfold W64.get stepsK
  rw [List.getD_eq_getElem?_getD, List.getElem?_map, List.getElem?_range h]
  rfl
theorem stepsK_cells : cellsK stepsK = #[.int .u32 1116352408, .int .u32 1899447441, .int .u32 3049323471, .int .u32 3921009573, .int .u32 961987163, .int .u32 1508970993, .int .u32 2453635748, .int .u32 2870763221, .int .u32 3624381080, .int .u32 310598401, .int .u32 607225278, .int .u32 1426881987, .int .u32 1925078388, .int .u32 2162078206, .int .u32 2614888103, .int .u32 3248222580, .int .u32 3835390401, .int .u32 4022224774, .int .u32 264347078, .int .u32 604807628, .int .u32 770255983, .int .u32 1249150122, .int .u32 1555081692, .int .u32 1996064986, .int .u32 2554220882, .int .u32 2821834349, .int .u32 2952996808, .int .u32 3210313671, .int .u32 3336571891, .int .u32 3584528711, .int .u32 113926993, .int .u32 338241895, .int .u32 666307205, .int .u32 773529912, .int .u32 1294757372, .int .u32 1396182291, .int .u32 1695183700, .int .u32 1986661051, .int .u32 2177026350, .int .u32 2456956037, .int .u32 2730485921, .int .u32 2820302411, .int .u32 3259730800, .int .u32 3345764771, .int .u32 3516065817, .int .u32 3600352804, .int .u32 4094571909, .int .u32 275423344, .int .u32 430227734, .int .u32 506948616, .int .u32 659060556, .int .u32 883997877, .int .u32 958139571, .int .u32 1322822218, .int .u32 1537002063, .int .u32 1747873779, .int .u32 1955562222, .int .u32 2024104815, .int .u32 2227730452, .int .u32 2361852424, .int .u32 2428436474, .int .u32 2756734187, .int .u32 3204031479, .int .u32 3329325298] := by kernel_rfl
@[go_sem] theorem build_steps (w : World) : (buildOf 41 #[(0, .int .u32 1116352408), (1, .int .u32 1899447441), (2, .int .u32 3049323471), (3, .int .u32 3921009573), (4, .int .u32 961987163), (5, .int .u32 1508970993), (6, .int .u32 2453635748), (7, .int .u32 2870763221), (8, .int .u32 3624381080), (9, .int .u32 310598401), (10, .int .u32 607225278), (11, .int .u32 1426881987), (12, .int .u32 1925078388), (13, .int .u32 2162078206), (14, .int .u32 2614888103), (15, .int .u32 3248222580), (16, .int .u32 3835390401), (17, .int .u32 4022224774), (18, .int .u32 264347078), (19, .int .u32 604807628), (20, .int .u32 770255983), (21, .int .u32 1249150122), (22, .int .u32 1555081692), (23, .int .u32 1996064986), (24, .int .u32 2554220882), (25, .int .u32 2821834349), (26, .int .u32 2952996808), (27, .int .u32 3210313671), (28, .int .u32 3336571891), (29, .int .u32 3584528711), (30, .int .u32 113926993), (31, .int .u32 338241895), (32, .int .u32 666307205), (33, .int .u32 773529912), (34, .int .u32 1294757372), (35, .int .u32 1396182291), (36, .int .u32 1695183700), (37, .int .u32 1986661051), (38, .int .u32 2177026350), (39, .int .u32 2456956037), (40, .int .u32 2730485921), (41, .int .u32 2820302411), (42, .int .u32 3259730800), (43, .int .u32 3345764771), (44, .int .u32 3516065817), (45, .int .u32 3600352804), (46, .int .u32 4094571909), (47, .int .u32 275423344), (48, .int .u32 430227734), (49, .int .u32 506948616), (50, .int .u32 659060556), (51, .int .u32 883997877), (52, .int .u32 958139571), (53, .int .u32 1322822218), (54, .int .u32 1537002063), (55, .int .u32 1747873779), (56, .int .u32 1955562222), (57, .int .u32 2024104815), (58, .int .u32 2227730452), (59, .int .u32 2361852424), (60, .int .u32 2428436474), (61, .int .u32 2756734187), (62, .int .u32 3204031479), (63, .int .u32 3329325298)]).run Tryd.prog w = .ok (.agg (cellsK stepsK)) w := by
  rw [stepsK_cells]
  kernel_rfl
theorem row_ret_w8 {ops : Func} {p : Tmp} {a : Act} {w : World} {b : Nat} {x : Ws} {Q : Ending → World → Prop} (h : ops.results = #[.cell p 39]) (hp : a.tmps.getD p undef = .pointer (some ⟨b, 0, none⟩)) (hd : a.defers = []) (hr : rowAt w b = some (cellsW x)) (hQ : Q (.returned (.agg (cellsW x))) w) : bodyPost Tryd.prog ops Q .ret a w :=
  bodyPost_ret (results_row h a.tmps w b _ _ hp hr Tryd.underlying39 rfl (by rw [size_cellsW]; kernel_rfl)) hd hQ
set_option maxRecDepth 100000 in
theorem r3Begin_any (w : World) : Calls Tryd.prog 20 #[] w fun e w' => e = .returned (.agg (cellsW ivW)) ∧ Below w.heap.size w w' := by
  go_enter Tryd.func20, Tryd.ntmps20
  go_wp2_with fail
  exact row_ret_w8 rfl rfl rfl (rowAt_alloc_at _ _ _ _ rfl) ⟨rfl, (Below.refl _ _).alloc (Nat.le_refl _) _⟩
set_option maxRecDepth 100000 in
theorem r3Steps_any (w : World) : Calls Tryd.prog 21 #[] w fun e w' => e = .returned (.agg (cellsK stepsK)) ∧ Below w.heap.size w w' := by
  go_enter Tryd.func21, Tryd.ntmps21
  go_wp2_with fail
  exact row_ret_w64 rfl rfl rfl (rowAt_alloc_at _ _ _ _ rfl) ⟨rfl, (Below.refl _ _).alloc (Nat.le_refl _) _⟩

theorem w_subnot (x : UInt32) : 4294967295 - wv x = wv (~~~x) := by
  have := x.toNat_lt
  unfold wv
  rw [UInt32.toNat_not]
  show (4294967295 : Int) - (x.toNat : Int) = (((4294967296 - 1 - x.toNat : Nat) : Nat) : Int)
  omega
theorem ch_or (e f g : UInt32) : (e &&& f) ||| (~~~e &&& g) = (e &&& f) ^^^ (~~~e &&& g) := by
  apply UInt32.toBitVec_inj.1
  apply BitVec.eq_of_getLsbD_eq
  intro i hi
  simp only [UInt32.toBitVec_or, UInt32.toBitVec_and, UInt32.toBitVec_not, UInt32.toBitVec_xor, BitVec.getLsbD_or, BitVec.getLsbD_and, BitVec.getLsbD_not, BitVec.getLsbD_xor, hi, decide_true, Bool.true_and]
  cases e.toBitVec.getLsbD i <;> cases f.toBitVec.getLsbD i <;> cases g.toBitVec.getLsbD i <;> rfl
theorem maj_or (a b c : UInt32) : (a &&& b) ||| (a &&& c) ||| (b &&& c) = (a &&& b) ^^^ (a &&& c) ^^^ (b &&& c) := by
  apply UInt32.toBitVec_inj.1
  apply BitVec.eq_of_getLsbD_eq
  intro i hi
  simp only [UInt32.toBitVec_or, UInt32.toBitVec_and, UInt32.toBitVec_xor, BitVec.getLsbD_or, BitVec.getLsbD_and, BitVec.getLsbD_xor]
  cases a.toBitVec.getLsbD i <;> cases b.toBitVec.getLsbD i <;> cases c.toBitVec.getLsbD i <;> rfl
def chW (e f g : UInt32) : UInt32 := (e &&& f) ^^^ (~~~e &&& g)
def majW (a b c : UInt32) : UInt32 := (a &&& b) ^^^ (a &&& c) ^^^ (b &&& c)
theorem vcells {w : World} {b : Nat} {T : Hs} (h : rowAt w b = some (cellsW (wsOf T))) : w.cell? ⟨b, 0, none⟩ = some (.int .u32 (wv T.a)) ∧ w.cell? ⟨b, 1, none⟩ = some (.int .u32 (wv T.b)) ∧ w.cell? ⟨b, 2, none⟩ = some (.int .u32 (wv T.c)) ∧ w.cell? ⟨b, 3, none⟩ = some (.int .u32 (wv T.d)) ∧ w.cell? ⟨b, 4, none⟩ = some (.int .u32 (wv T.e)) ∧ w.cell? ⟨b, 5, none⟩ = some (.int .u32 (wv T.f)) ∧ w.cell? ⟨b, 6, none⟩ = some (.int .u32 (wv T.g)) ∧ w.cell? ⟨b, 7, none⟩ = some (.int .u32 (wv T.h)) := by
  refine ⟨?_, ?_, ?_, ?_, ?_, ?_, ?_, ?_⟩ <;> rw [cell_of_rowAt h, get_cellsW _ _ (by decide)] <;> rfl
theorem But.cell {b : Nat} {w w1 : World} (h : But b w w1) {g i : Nat} {v : Value} (hc : w.cell? ⟨g, i, none⟩ = some v) (hne : g ≠ b) : w1.cell? ⟨g, i, none⟩ = some v := by
  rw [← hc]
  unfold World.cell?
  simp only
  rw [h.block g (by have := cellLt hc; exact this) hne]
theorem But.past {b : Nat} {w w1 w2 : World} (h : But b w w1) (k : Below w1.heap.size w1 w2) : But b w w2 := h.trans (But.of k)
theorem wsOf_get (T : Hs) : ∀ i, i < 8 → (wsOf T).get i = (wsOf T).l.getD i 0 := fun _ _ => rfl
end Go.Proofs.YthmhjojabalddaaDoor
