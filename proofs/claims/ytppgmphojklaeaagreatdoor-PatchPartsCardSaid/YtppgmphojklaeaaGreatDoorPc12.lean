/- Texts that the next ones stand on: ShaMac, ShaRef4, ShaRef5, Ref16a, AppNone, Itms2. -/
import Derived.Test.YtppgmphojklaeaaGreatDoorPc11
import Derived.Laws.AppendOwnNone
namespace Go.Proofs.YtppgmphojklaeaaGreatDoor
open Go Go.RowKit

/-- A key filled up to a block. -/
def fillB (key : List UInt8) : Blk := ⟨(key ++ List.replicate 64 0).take 64, by rw [List.length_take, List.length_append, List.length_replicate]; omega⟩
/-- Its first i bytes turned. -/
def turnB (b : Blk) (x : UInt8) (i : Nat) : Blk := ⟨(b.l.take i).map (· ^^^ x) ++ b.l.drop i, by rw [List.length_append, List.length_map, List.length_take, List.length_drop, b.h]; omega⟩
/-- What a key is turned to. -/
def keyL (key : List UInt8) (x : UInt8) : List UInt8 := (fillB key).l.map (· ^^^ x)
theorem keyL_len (key : List UInt8) (x : UInt8) : (keyL key x).length = 64 := by rw [keyL, List.length_map, (fillB key).h]
theorem turnB_0 (b : Blk) (x : UInt8) : turnB b x 0 = b := by
  obtain ⟨l, h⟩ := b
  rfl
theorem turnB_64 (b : Blk) (x : UInt8) : (turnB b x 64).l = b.l.map (· ^^^ x) := by
  unfold turnB
  simp only
  rw [List.take_of_length_le (Nat.le_of_eq b.h), List.drop_eq_nil_of_le (Nat.le_of_eq b.h), List.append_nil]
theorem turnB_get (b : Blk) (x : UInt8) (i : Nat) (h : i < 64) : (turnB b x i).get i = b.get i := by
  unfold turnB Blk.get
  have hb := b.h
  simp only
  rw [List.getD_eq_getElem?_getD, List.getD_eq_getElem?_getD, List.getElem?_append_right (by rw [List.length_map, List.length_take]; omega), List.getElem?_drop, List.length_map, List.length_take]
  congr 2
  omega
theorem turnB_set (b : Blk) (x : UInt8) (i : Nat) (h : i < 64) : (cellsB (turnB b x i)).setIfInBounds i (.int .u8 ((b.get i ^^^ x).toNat : Int)) = cellsB (turnB b x (i + 1)) := by
  have hb := b.h
  have hg : b.l[i]? = some (b.get i) := by
    unfold Blk.get
    rw [List.getD_eq_getElem?_getD, List.getElem?_eq_getElem (by omega)]
    rfl
  simp only [cellsB, bcells, turnB]
  rw [List.setIfInBounds_toArray]
  congr 1
  rw [show Value.int .u8 ((b.get i ^^^ x).toNat : Int) = Extern.Stop.cell (b.get i ^^^ x) from rfl, ← List.map_set]
  congr 1
  rw [List.set_append_right _ _ (by rw [List.length_map, List.length_take]; omega), List.length_map, List.length_take, show i - min i b.l.length = 0 by omega]
  rw [show b.l.drop i = b.get i :: b.l.drop (i + 1) from by
    rw [List.drop_eq_getElem_cons (by omega)]
    congr 1
    rw [List.getElem?_eq_getElem (by omega)] at hg
    exact Option.some.inj hg]
  rw [List.set_cons_zero, List.take_add_one, hg]
  simp
theorem get_cellsB (a : Blk) (i : Nat) (h : i < 64) : (cellsB a)[i]? = some (.int .u8 ((a.get i).toNat : Int)) := by
  have := getD_some (d := 0) (show i < a.l.length by rw [a.h]; exact h)
  simp only [cellsB, bcells, List.getElem?_toArray]
  rw [List.getElem?_map, this]
  rfl
theorem splice_fill (t : List UInt8) (h : t.length ≤ 64) : splice (cellsB zeroB) 0 (t.map Extern.Stop.cell) = cellsB (fillB t) := by
  simp only [splice, cellsB, bcells, zeroB, fillB, List.toList_toArray, List.take_zero, List.nil_append, List.length_map, Nat.zero_add]
  congr 1
  rw [← List.map_drop, ← List.map_append]
  congr 1
  rw [List.drop_replicate, List.take_append, List.take_of_length_le h, List.take_replicate]
  congr 2
  omega
theorem copy_key (w : World) (ty : TypeId) (b : Nat) (t : List UInt8) (h : rowAt w b = some (cellsB zeroB)) (hlen : t.length ≤ 64) :
    (Builtin.copy_ #[164, 9] ty #[.slice (some ⟨b, 0, none⟩) 64 64, .string (stx t)]).run Tryz.prog w = .ok (goInt t.length) (w.setRow b (cellsB (fillB t))) := by
  have hsz : (sizeOf 5).run Tryz.prog w = .ok 1 w := by
    have : (Tryz.prog.info? 5).map (·.size) = some 1 := by kernel_rfl
    cases hq : Tryz.prog.info? 5 with
    | none => simp [hq] at this
    | some i => simp [sizeOf, typeInfo, hq] at this ⊢; exact this
  have hmin : (stx t).size.min 64 = t.length := by
    rw [stx_size]
    exact Nat.min_eq_left hlen
  have hext : ((stx t).extract 0 t.length).data.map (fun b => Value.int .u8 b.toNat) = (t.map Extern.Stop.cell).toArray := by
    rw [show (stx t).extract 0 t.length = stx t from by have := stx_extract t 0 t.length; rwa [List.drop_zero, List.take_of_length_le (Nat.le_refl _)] at this]
    simp only [List.map_toArray]
    rfl
  have hst := run_storeCells_cells (P := Tryz.prog) b 0 (t.map Extern.Stop.cell) 0 w (fun j hj => by rw [cell_of_rowAt h]; simp; simp at hj; omega) (fun j hj => frozen_of_rowAt h _) (fun v hv => by
    obtain ⟨x, _, rfl⟩ := List.mem_map.1 hv
    rfl)
  rw [Nat.add_zero, setCells_eq_setRow b _ 0 w _ h (by simp; omega), splice_fill _ hlen] at hst
  simp only [Builtin.copy_, Sem.run_bind, run_underlying Tryz.underlying164, Result.andThen_ok, Builtin.lenOf, Sem.run_pure, hmin, hsz, Builtin.firstCells, hext, hst, List.getElem?_toArray, List.getElem?_cons_zero, List.getElem?_cons_succ]
theorem conv_blk (x : Blk) (w : World) (b : Nat) (h : rowAt w b = some (cellsB x)) : (convert 164 9 (.slice (some ⟨b, 0, none⟩) 64 64)).run Tryz.prog w = .ok (.string (stx x.l)) w := by
  have hl := x.h
  have q := run_convert_bytes_back (P := Tryz.prog) w 164 9 5 ⟨b, 0, none⟩ 64 x.l Tryz.underlying164 Tryz.underlying5 Tryz.underlying9 ?_
  · rw [hl] at q
    exact q
  intro j hj
  rw [show (⟨b, 0, none⟩ : Addr).add j = ⟨b, j, none⟩ by simp [Addr.add]; exact fun e => e.symm, cell_of_rowAt h]
  simp only [cellsB, bcells, List.getElem?_toArray]
  rw [List.getElem?_map, List.getElem?_eq_getElem hj]
  rfl
theorem conv_lab (x : Lab) (w : World) (b : Nat) (h : rowAt w b = some (cellsL x)) : (convert 164 9 (.slice (some ⟨b, 0, none⟩) 32 32)).run Tryz.prog w = .ok (.string (stx x.l)) w := by
  have hl := x.h
  have q := run_convert_bytes_back (P := Tryz.prog) w 164 9 5 ⟨b, 0, none⟩ 32 x.l Tryz.underlying164 Tryz.underlying5 Tryz.underlying9 ?_
  · rw [hl] at q
    exact q
  intro j hj
  rw [show (⟨b, 0, none⟩ : Addr).add j = ⟨b, j, none⟩ by simp [Addr.add]; exact fun e => e.symm, cell_of_rowAt h]
  simp only [cellsL, List.getElem?_toArray]
  rw [List.getElem?_map, List.getElem?_eq_getElem hj]
  rfl
theorem xor_u8 (a b : UInt8) : bits .xor .u8 (a.toNat : Int) (b.toNat : Int) = ((a ^^^ b).toNat : Int) := by
  rw [u8_xor_nat _ _ a.toNat_lt b.toNat_lt, UInt8.toNat_xor]

/-- A sum by a key. -/
def macK (key : List UInt8) : List UInt8 := if 64 < key.length then shaL key else key
def macL (key t : List UInt8) : Lab := shaLab (keyL (macK key) 92 ++ (shaLab (keyL (macK key) 54 ++ t)).l)
theorem macK_len (key : List UInt8) : (macK key).length ≤ 64 := by
  unfold macK
  split
  · rw [← shaLab_l, (shaLab key).h]; omega
  · omega
theorem macK_long (key : List UInt8) (h : 64 < key.length) : macK key = (shaLab key).l := by rw [macK, if_pos h, shaLab_l]
theorem macK_short (key : List UInt8) (h : ¬ 64 < key.length) : macK key = key := by rw [macK, if_neg h]
end Go.Proofs.YtppgmphojklaeaaGreatDoor
namespace Go.Proofs.YtppgmphojklaeaaGreatDoor
open Go Go.RowKit

/-- The constants of the rounds. -/
def stepsK : W64 := ⟨(List.range 64).map cubeT, by simp⟩
theorem stepsK_get (i : Nat) (h : i < 64) : stepsK.get i = cubeT i := by
  unfold W64.get stepsK
  rw [List.getD_eq_getElem?_getD, List.getElem?_map, List.getElem?_range h]
  rfl
theorem stepsK_cells : cellsK stepsK = #[.int .u32 1116352408, .int .u32 1899447441, .int .u32 3049323471, .int .u32 3921009573, .int .u32 961987163, .int .u32 1508970993, .int .u32 2453635748, .int .u32 2870763221, .int .u32 3624381080, .int .u32 310598401, .int .u32 607225278, .int .u32 1426881987, .int .u32 1925078388, .int .u32 2162078206, .int .u32 2614888103, .int .u32 3248222580, .int .u32 3835390401, .int .u32 4022224774, .int .u32 264347078, .int .u32 604807628, .int .u32 770255983, .int .u32 1249150122, .int .u32 1555081692, .int .u32 1996064986, .int .u32 2554220882, .int .u32 2821834349, .int .u32 2952996808, .int .u32 3210313671, .int .u32 3336571891, .int .u32 3584528711, .int .u32 113926993, .int .u32 338241895, .int .u32 666307205, .int .u32 773529912, .int .u32 1294757372, .int .u32 1396182291, .int .u32 1695183700, .int .u32 1986661051, .int .u32 2177026350, .int .u32 2456956037, .int .u32 2730485921, .int .u32 2820302411, .int .u32 3259730800, .int .u32 3345764771, .int .u32 3516065817, .int .u32 3600352804, .int .u32 4094571909, .int .u32 275423344, .int .u32 430227734, .int .u32 506948616, .int .u32 659060556, .int .u32 883997877, .int .u32 958139571, .int .u32 1322822218, .int .u32 1537002063, .int .u32 1747873779, .int .u32 1955562222, .int .u32 2024104815, .int .u32 2227730452, .int .u32 2361852424, .int .u32 2428436474, .int .u32 2756734187, .int .u32 3204031479, .int .u32 3329325298] := by kernel_rfl
@[go_sem] theorem build_steps (w : World) : (buildOf 187 #[(0, .int .u32 1116352408), (1, .int .u32 1899447441), (2, .int .u32 3049323471), (3, .int .u32 3921009573), (4, .int .u32 961987163), (5, .int .u32 1508970993), (6, .int .u32 2453635748), (7, .int .u32 2870763221), (8, .int .u32 3624381080), (9, .int .u32 310598401), (10, .int .u32 607225278), (11, .int .u32 1426881987), (12, .int .u32 1925078388), (13, .int .u32 2162078206), (14, .int .u32 2614888103), (15, .int .u32 3248222580), (16, .int .u32 3835390401), (17, .int .u32 4022224774), (18, .int .u32 264347078), (19, .int .u32 604807628), (20, .int .u32 770255983), (21, .int .u32 1249150122), (22, .int .u32 1555081692), (23, .int .u32 1996064986), (24, .int .u32 2554220882), (25, .int .u32 2821834349), (26, .int .u32 2952996808), (27, .int .u32 3210313671), (28, .int .u32 3336571891), (29, .int .u32 3584528711), (30, .int .u32 113926993), (31, .int .u32 338241895), (32, .int .u32 666307205), (33, .int .u32 773529912), (34, .int .u32 1294757372), (35, .int .u32 1396182291), (36, .int .u32 1695183700), (37, .int .u32 1986661051), (38, .int .u32 2177026350), (39, .int .u32 2456956037), (40, .int .u32 2730485921), (41, .int .u32 2820302411), (42, .int .u32 3259730800), (43, .int .u32 3345764771), (44, .int .u32 3516065817), (45, .int .u32 3600352804), (46, .int .u32 4094571909), (47, .int .u32 275423344), (48, .int .u32 430227734), (49, .int .u32 506948616), (50, .int .u32 659060556), (51, .int .u32 883997877), (52, .int .u32 958139571), (53, .int .u32 1322822218), (54, .int .u32 1537002063), (55, .int .u32 1747873779), (56, .int .u32 1955562222), (57, .int .u32 2024104815), (58, .int .u32 2227730452), (59, .int .u32 2361852424), (60, .int .u32 2428436474), (61, .int .u32 2756734187), (62, .int .u32 3204031479), (63, .int .u32 3329325298)]).run Tryz.prog w = .ok (.agg (cellsK stepsK)) w := by
  rw [stepsK_cells]
  kernel_rfl
theorem row_ret_w8 {ops : Func} {p : Tmp} {a : Act} {w : World} {b : Nat} {x : Ws} {Q : Ending → World → Prop} (h : ops.results = #[.cell p 178]) (hp : a.tmps.getD p undef = .pointer (some ⟨b, 0, none⟩)) (hd : a.defers = []) (hr : rowAt w b = some (cellsW x)) (hQ : Q (.returned (.agg (cellsW x))) w) : bodyPost Tryz.prog ops Q .ret a w :=
  bodyPost_ret (results_row h a.tmps w b _ _ hp hr Tryz.underlying178 rfl (by rw [size_cellsW]; kernel_rfl)) hd hQ
set_option maxRecDepth 100000 in
theorem r3Begin_any (w : World) : Calls Tryz.prog 122 #[] w fun e w' => e = .returned (.agg (cellsW ivW)) ∧ Below w.heap.size w w' := by
  go_enter Tryz.func122, Tryz.ntmps122
  go_wp2_with fail
  exact row_ret_w8 rfl rfl rfl (rowAt_alloc_at _ _ _ _ rfl) ⟨rfl, (Below.refl _ _).alloc (Nat.le_refl _) _⟩
set_option maxRecDepth 100000 in
theorem r3Steps_any (w : World) : Calls Tryz.prog 123 #[] w fun e w' => e = .returned (.agg (cellsK stepsK)) ∧ Below w.heap.size w w' := by
  go_enter Tryz.func123, Tryz.ntmps123
  go_wp2_with fail
  exact row_ret_w64 rfl rfl rfl (rowAt_alloc_at _ _ _ _ rfl) ⟨rfl, (Below.refl _ _).alloc (Nat.le_refl _) _⟩

theorem w_subnot (x : UInt32) : 4294967295 - wv x = wv (~~~x) := by
  have := x.toNat_lt
  unfold wv
  rw [UInt32.toNat_not]
  show (4294967295 : Int) - (x.toNat : Int) = (((4294967296 - 1 - x.toNat : Nat) : Nat) : Int)
  omega
theorem ch_or (e f g : UInt32) : (e &&& f) ||| (~~~e &&& g) = (e &&& f) ^^^ (~~~e &&& g) := by
  apply UInt32.toBitVec_inj.1
  apply BitVec.eq_of_getLsbD_eq
  intro i hi
  simp only [UInt32.toBitVec_or, UInt32.toBitVec_and, UInt32.toBitVec_not, UInt32.toBitVec_xor, BitVec.getLsbD_or, BitVec.getLsbD_and, BitVec.getLsbD_not, BitVec.getLsbD_xor, hi, decide_true, Bool.true_and]
  cases e.toBitVec.getLsbD i <;> cases f.toBitVec.getLsbD i <;> cases g.toBitVec.getLsbD i <;> rfl
theorem maj_or (a b c : UInt32) : (a &&& b) ||| (a &&& c) ||| (b &&& c) = (a &&& b) ^^^ (a &&& c) ^^^ (b &&& c) := by
  apply UInt32.toBitVec_inj.1
  apply BitVec.eq_of_getLsbD_eq
  intro i hi
  simp only [UInt32.toBitVec_or, UInt32.toBitVec_and, UInt32.toBitVec_xor, BitVec.getLsbD_or, BitVec.getLsbD_and, BitVec.getLsbD_xor]
  cases a.toBitVec.getLsbD i <;> cases b.toBitVec.getLsbD i <;> cases c.toBitVec.getLsbD i <;> rfl
def chW (e f g : UInt32) : UInt32 := (e &&& f) ^^^ (~~~e &&& g)
def majW (a b c : UInt32) : UInt32 := (a &&& b) ^^^ (a &&& c) ^^^ (b &&& c)
theorem vcells {w : World} {b : Nat} {T : Hs} (h : rowAt w b = some (cellsW (wsOf T))) : w.cell? ⟨b, 0, none⟩ = some (.int .u32 (wv T.a)) ∧ w.cell? ⟨b, 1, none⟩ = some (.int .u32 (wv T.b)) ∧ w.cell? ⟨b, 2, none⟩ = some (.int .u32 (wv T.c)) ∧ w.cell? ⟨b, 3, none⟩ = some (.int .u32 (wv T.d)) ∧ w.cell? ⟨b, 4, none⟩ = some (.int .u32 (wv T.e)) ∧ w.cell? ⟨b, 5, none⟩ = some (.int .u32 (wv T.f)) ∧ w.cell? ⟨b, 6, none⟩ = some (.int .u32 (wv T.g)) ∧ w.cell? ⟨b, 7, none⟩ = some (.int .u32 (wv T.h)) := by
  refine ⟨?_, ?_, ?_, ?_, ?_, ?_, ?_, ?_⟩ <;> rw [cell_of_rowAt h, get_cellsW _ _ (by decide)] <;> rfl
theorem But.cell {b : Nat} {w w1 : World} (h : But b w w1) {g i : Nat} {v : Value} (hc : w.cell? ⟨g, i, none⟩ = some v) (hne : g ≠ b) : w1.cell? ⟨g, i, none⟩ = some v := by
  rw [← hc]
  unfold World.cell?
  simp only
  rw [h.block g (by have := cellLt hc; exact this) hne]
theorem But.past {b : Nat} {w w1 w2 : World} (h : But b w w1) (k : Below w1.heap.size w1 w2) : But b w w2 := h.trans (But.of k)
theorem wsOf_get (T : Hs) : ∀ i, i < 8 → (wsOf T).get i = (wsOf T).l.getD i 0 := fun _ _ => rfl
end Go.Proofs.YtppgmphojklaeaaGreatDoor
namespace Go.Proofs.YtppgmphojklaeaaGreatDoor
open Go Go.RowKit

/-- A label's first i bytes. -/
def outI (s : Hs) (i : Nat) : Lab := ⟨((outH s).take i ++ List.replicate 32 0).take 32, by rw [List.length_take, List.length_append, List.length_replicate]; omega⟩
theorem But.but2 {b c : Nat} {w w1 w2 : World} (h : But b w w1) (k : But c w1 w2) (hc : w.heap.size ≤ c) : But b w w2 :=
  ⟨k.os.trans h.os, k.tape.trans h.tape, k.output.trans h.output, Nat.le_trans h.size k.size, fun i hi hb => (k.block i (Nat.lt_of_lt_of_le hi h.size) (by omega)).trans (h.block i hi hb)⟩
theorem outI_0 (s : Hs) : outI s 0 = zeroLab := rfl
theorem outI_32 (s : Hs) : outI s 32 = outK s 8 := rfl
theorem outI_set (s : Hs) (i : Nat) (h : i < 32) : (outI s i).set i ((outH s).getD i 0) = outI s (i + 1) := by
  obtain ⟨l, hl⟩ : ∃ l, outH s = l := ⟨_, rfl⟩
  have hlen : l.length = 32 := by rw [← hl]; rfl
  unfold outI Lab.set
  simp only [Lab.mk.injEq, hl]
  have hg : l[i]? = some (l.getD i 0) := getD_some (by omega)
  generalize l.getD i 0 = b at *
  apply List.ext_getElem?
  intro k
  simp only [List.getElem?_set, List.getElem?_take, List.length_take, List.length_append, List.length_replicate, List.getElem?_append, List.getElem?_replicate, hlen]
  by_cases h1 : i = k
  · subst h1
    rw [if_pos rfl, if_pos (by omega), if_pos h, if_pos (by omega), if_pos (by omega), hg]
  · rw [if_neg h1]
    by_cases h4 : k < 32
    · rw [if_pos h4, if_pos h4]
      by_cases h2 : k < i
      · rw [if_pos (by omega), if_pos (by omega), if_pos (by omega), if_pos (by omega)]
      · rw [if_neg (show ¬ k < min i 32 by omega), if_neg (show ¬ k < min (i + 1) 32 by omega), if_pos (show k - min i 32 < 32 by omega), if_pos (show k - min (i + 1) 32 < 32 by omega)]
    · rw [if_neg h4, if_neg h4]
theorem outH_byte (s : Hs) (q r : Nat) (hq : q < 8) (hr : r < 4) : (((outH s).getD (4 * q + r) 0).toNat : Int) = wv ((wsOf s).get q) / (2 ^ (24 - r * 8) : Nat) % 256 := by
  have hw := outH_word s q hq
  have e : (outH s).getD (4 * q + r) 0 = (oct ((wsOf s).get q)).getD r 0 := by
    rw [← hw, List.getD_eq_getElem?_getD, List.getD_eq_getElem?_getD, List.getElem?_take, if_pos hr, List.getElem?_drop]
  rw [e]
  generalize (wsOf s).get q = x
  have hx := x.toNat_lt
  unfold wv oct
  match r, hr with
  | 0, _ => show ((UInt8.ofNat (x.toNat / 16777216)).toNat : Int) = (x.toNat : Int) / 16777216 % 256; rw [UInt8.toNat_ofNat']; omega
  | 1, _ => show ((UInt8.ofNat (x.toNat / 65536)).toNat : Int) = (x.toNat : Int) / 65536 % 256; rw [UInt8.toNat_ofNat']; omega
  | 2, _ => show ((UInt8.ofNat (x.toNat / 256)).toNat : Int) = (x.toNat : Int) / 256 % 256; rw [UInt8.toNat_ofNat']; omega
  | 3, _ => show ((UInt8.ofNat x.toNat).toNat : Int) = (x.toNat : Int) / 1 % 256; rw [UInt8.toNat_ofNat']; omega

set_option maxRecDepth 100000 in
set_option maxHeartbeats 8000000 in
theorem r3Sum_any (s : ByteArray) (w : World) (hs : s.size ≤ 10000) : Calls Tryz.prog 56 #[.string s] w fun e w' => e = .returned (.agg (cellsL (shaLab s.data.toList))) ∧ Below w.heap.size w w' := by
  have b0 : Below w.heap.size w (w.alloc (.cells (cellsL zeroLab) 27)) := (Below.refl _ _).alloc (Nat.le_refl _) _
  have r0 := rowAt_alloc_at w (cellsL zeroLab) 27 _ rfl
  obtain ⟨P, hP⟩ : ∃ P, padded s.data.toList = P := ⟨_, rfl⟩
  have HPD := Lib.hid (fun w => Padded_any s w hs)
  obtain ⟨M, hM⟩ : ∃ M, P.length / 64 = M := ⟨_, rfl⟩
  have hPM : P.length = 64 * M := by have := padded_mod s.data.toList; rw [hP] at this; omega
  have hM2 : 64 * M ≤ 11000 := by
    have h1 := padL_len s.data.toList.length
    have h2 : P.length = s.data.toList.length + (padL s.data.toList.length).length := by rw [← hP, padded, List.length_append]
    have h3 : s.data.toList.length = s.size := rfl
    omega
  have HSL : Hid (shaLab s.data.toList = outK (pressAll M begH P) 8) := Lib.hid (by unfold shaLab; rw [hP, hM])
  rw [hP] at HPD
  have HPM := Lib.hid hPM
  clear hP hM hPM hs
  generalize shaLab s.data.toList = R at *
  go_enter Tryz.func56, Tryz.ntmps56
  go_wp2_with fail
  refine (r3Begin_any _).mono ?_
  rintro e w1 ⟨rfl, c1⟩
  have b1 := below_past b0 c1 b0.size
  have r1 := rowAt_past c1 r0
  go_wp2_with fail
  refine (r3Steps_any _).mono ?_
  rintro e w2 ⟨rfl, c2⟩
  have b2 := below_past b1 c2 b1.size
  have r2 := rowAt_past c2 r1
  have hz : w.heap.size < w2.heap.size := lt_of_rowAt r2
  have b3 := (b2.alloc b2.size (.cells (cellsW ivW) 178))
  have b4 := b3.alloc b3.size (.cells (cellsK stepsK) 187)
  have bx : Below w2.heap.size w2 ((w2.alloc (.cells (cellsW ivW) 178)).alloc (.cells (cellsK stepsK) 187)) := ((Below.refl _ _).alloc (Nat.le_refl _) _).alloc (by simp) _
  have r3 := rowAt_past bx r2
  have h3 : rowAt ((w2.alloc (.cells (cellsW ivW) 178)).alloc (.cells (cellsK stepsK) 187)) w2.heap.size = some (cellsW ivW) := rowAt_past ((Below.refl _ _).alloc (Nat.le_refl _) _) (rowAt_alloc_at _ _ _ _ rfl)
  have k3 : rowAt ((w2.alloc (.cells (cellsW ivW) 178)).alloc (.cells (cellsK stepsK) 187)) (w2.heap.size + 1) = some (cellsK stepsK) := rowAt_alloc_at _ _ _ _ (by simp)
  clear b0 b1 b2 b3 c1 c2 r0 r1 r2 bx
  go_wp2_with fail
  generalize ((w2.alloc (.cells (cellsW ivW) 178)).alloc (.cells (cellsK stepsK) 187)) = W0 at *
  generalize hHB : w2.heap.size = hB at *
  clear hHB
  refine (HPD.out _).mono ?_
  rintro e w3 ⟨v, rfl, ob, c3⟩
  have b5 := below_past b4 c3 b4.size
  have r4 := Lib.hid (rowAt_past c3 r3)
  have h4 := rowAt_past c3 h3
  have k4 := Lib.hid (rowAt_past c3 k3)
  have hb0 := lt_of_rowAt h3
  have hk0 := lt_of_rowAt k3
  obtain ⟨ao, cp, hv⟩ := ob.shape
  rw [List.length_map, HPM.out] at hv
  have OB : Hid (OwnV w3 W0.heap.size 5 v (P.map Extern.Stop.cell)) := Lib.hid ob
  subst hv
  have h5 : rowAt w3 hB = some (cellsW (wsOf (pressAll 0 begH P))) := h4
  clear b4 c3 r3 h3 k3 h4 ob HPD
  go_wp2_with fail
  go_loopw [6] (fun x wr => ∃ m : Nat, m ≤ M ∧ x = .int .i64 (64 * m : Nat) ∧ rowAt wr hB = some (cellsW (wsOf (pressAll m begH P))) ∧ But hB w3 wr) (fun x _ => (64 * M - intOf x).toNat)
  case atStart => exact ⟨0, Nat.zero_le _, rfl, h5, But.refl _ _⟩
  case round =>
    obtain ⟨m, hm, rfl, h6, k6⟩ := hrel
    clear h5
    by_cases hlt : m < M
    · have hlt' : decide (((64 * m : Nat) : Int) < ((64 * M : Nat) : Int)) = true := decide_eq_true (by omega)
      have b6 := k6.below b5 (Nat.le_of_lt hz) b5.size
      have HK6 := Lib.hid k6
      have H6 := Lib.hid h6
      have hcap : 64 * M ≤ cp := by
        rcases OB.out with ⟨h, _⟩ | ⟨g, cap, cur, fr, h1, _, _, _, h5, _⟩
        · simp only [Value.slice.injEq] at h; omega
        · simp only [Value.slice.injEq] at h1; rw [List.length_map, HPM.out] at h5; omega
      obtain ⟨g, hao, hbt⟩ : ∃ g, ao = some ⟨g, 0, none⟩ ∧ ∀ j, j < 64 * M → wr.cell? ⟨g, j, none⟩ = some (.int .u8 ((P.getD j 0).toNat : Int)) := by
        obtain ⟨g, cap, h1, h2, h3, h4⟩ := OB.out.cell (i := 0) (by rw [List.length_map, HPM.out]; omega)
        simp only [Value.slice.injEq] at h1
        have hge := (OB.out.lt g (by rw [h1.1]; rfl)).1
        refine ⟨g, h1.1, fun j hj => HK6.out.cell ?_ (by omega)⟩
        rw [h4 j (by rw [List.length_map, HPM.out]; exact hj), List.getElem?_map, getD_some (d := 0) (by rw [HPM.out]; exact hj)]
        rfl
      subst hao
      have HBT := Lib.hid hbt
      have q1 : ((64 * m : Nat) : Int) + 64 ≤ cp := by omega
      have q2 : ((64 * m : Nat) : Int) + 64 ≤ 11000 := by omega
      have q0 : (0 : Int) ≤ ((64 * m : Nat) : Int) := by omega
      clear h6 k6 hbt
      obtain ⟨bs, hbs⟩ : ∃ bs, (P.drop (64 * m)).take 64 = bs := ⟨_, rfl⟩
      have HW := Lib.hid (Words_any g (64 * m) (cp - 64 * m) bs wr (fun j hj => by
        rw [HBT.out (64 * m + j) (by omega), ← hbs, List.getD_eq_getElem?_getD, List.getD_eq_getElem?_getD, List.getElem?_take, if_pos hj, List.getElem?_drop]))
      have HPA : Hid (pressAll (m + 1) begH P = pressH (pressAll m begH P) bs) := Lib.hid (by rw [pressAll_succ, hbs])
      clear hbs HBT
      generalize pressAll m begH P = H at *
      go_wp2_with fail
      refine HW.out.mono ?_
      rintro e w4 ⟨rfl, c4⟩
      have h7 := rowAt_past c4 H6.out
      have K7 := Lib.hid (HK6.out.past c4)
      have k7 := Lib.hid ((HK6.out.past c4).row k4.out (by omega))
      have b7 := below_past b6 c4 b6.size
      have h8 : rowAt (w4.alloc (.cells (cellsK (schedK bs 64)) 187)) hB = some (cellsW (wsOf H)) := rowAt_past ((Below.refl _ _).alloc (Nat.le_refl _) _) h7
      have hB4 : hB < w4.heap.size := lt_of_rowAt h7
      have hs3 : w3.heap.size ≤ w4.heap.size := K7.out.size
      have bx : Below w4.heap.size w4 ((w4.alloc (.cells (cellsK (schedK bs 64)) 187)).alloc (.cells (cellsW (wsOf H)) 178)) := ((Below.refl _ _).alloc (Nat.le_refl _) _).alloc (by simp) _
      have s9 : rowAt ((w4.alloc (.cells (cellsK (schedK bs 64)) 187)).alloc (.cells (cellsW (wsOf H)) 178)) w4.heap.size = some (cellsK (schedK bs 64)) := rowAt_past ((Below.refl _ _).alloc (Nat.le_refl _) _) (rowAt_alloc_at _ _ _ _ rfl)
      have v9 : rowAt ((w4.alloc (.cells (cellsK (schedK bs 64)) 187)).alloc (.cells (cellsW (wsOf H)) 178)) (w4.heap.size + 1) = some (cellsW (wsOf H)) := rowAt_alloc_at _ _ _ _ (by simp)
      have h9 := rowAt_past bx h7
      have K9 := Lib.hid (K7.out.past bx)
      have k9 := Lib.hid (rowAt_past bx k7.out)
      clear HW c4 h7 K7 k7 HK6 H6 b6 q1 q2 q0 hcap bx
      go_wp2_with fail
      generalize ((w4.alloc (.cells (cellsK (schedK bs 64)) 187)).alloc (.cells (cellsW (wsOf H)) 178)) = W1 at *
      generalize hvB : w4.heap.size = sB at *
      clear hvB h8
      obtain ⟨F, hF⟩ : ∃ F : Nat → UInt32, F = fun i => (sched bs 64).getD i 0 := ⟨_, rfl⟩
      have HF := Lib.hid hF
      clear hF
      have V9 := Lib.hid v9
      go_loopw [9, 10, 11, 12, 13, 14] (fun x _ _ _ _ _ wr => ∃ i : Nat, i ≤ 64 ∧ x = .int .i64 i ∧ rowAt wr (sB + 1) = some (cellsW (wsOf (rounds F H i))) ∧ But (sB + 1) W1 wr) (fun x _ _ _ _ _ _ => (64 - intOf x).toNat)
      case atStart => exact ⟨0, by omega, rfl, V9.out, But.refl _ _⟩
      case round =>
        obtain ⟨w6, rfl⟩ : ∃ w6 : World, w6 = wr := ⟨_, rfl⟩
        obtain ⟨i, hi, rfl, vr, k6⟩ := hrel
        clear v9 V9
        by_cases hi64 : i < 64
        · have hi64' : (i : Int) < 64 := by omega
          have i0 : (0 : Int) ≤ i := by omega
          have kr := k6.row k9.out (by omega)
          have sr := k6.row s9 (by omega)
          have ck : ∀ x : Past w6, x.w.cell? ⟨hB + 1, i, none⟩ = some (.int .u32 (wv (cubeT i))) := fun x => by rw [cell_of_rowAt (rowAt_past x.h kr), get_cellsK _ _ hi64, stepsK_get _ hi64]
          have cs : ∀ x : Past w6, x.w.cell? ⟨sB, i, none⟩ = some (.int .u32 (wv (F i))) := fun x => by rw [cell_of_rowAt (rowAt_past x.h sr), get_cellsK _ _ hi64, schedK_get _ _ _ (Nat.le_refl _) hi64, HF.out]
          have HRD : Hid (rounds F H (i + 1) = round (rounds F H i) (cubeT i) (F i)) := Lib.hid rfl
          have VR := Lib.hid vr
          have K6 := Lib.hid k6
          clear vr k6 kr sr
          generalize rounds F H i = T at *
          generalize cubeT i = k at *
          generalize F i = x at *
          as_aux_lemma =>
            have v4 : ∀ x : Past w6, x.w.cell? ⟨sB + 1, 4, none⟩ = some (.int .u32 (wv T.e)) := fun x => (vcells (rowAt_past x.h VR.out)).2.2.2.2.1
            go_wp2_with fail
            refine wp_region_wildL [] 12 (by kernel_rfl) (by kernel_rfl) ?_
            simp only [List.take_succ_cons, List.take_nil]
            iterate 2 (refine wildL_val (by decide) (by kernel_rfl) rfl ?_; intro K hK; go_big_quiet_op; go_big_quiet_on)
            refine wildL_call (by decide) (by kernel_rfl) (by kernel_rfl) ?_
            apply Exists.intro
            refine And.intro ?_ ?_
            focus
              intro x K hK
              go_big_quiet_op
              go_big_quiet_call (exact call_back (right_6 _ _))
              rfl
            iterate 2 (refine wildL_val (by decide) (by kernel_rfl) rfl ?_; intro K hK; go_big_quiet_op; go_big_quiet_on)
            refine wildL_call (by decide) (by kernel_rfl) (by kernel_rfl) ?_
            apply Exists.intro
            refine And.intro ?_ ?_
            focus
              intro x K hK
              go_big_quiet_op
              go_big_quiet_call (exact call_back (right_11 _ _))
              rfl
            iterate 3 (refine wildL_val (by decide) (by kernel_rfl) rfl ?_; intro K hK; go_big_quiet_op; go_big_quiet_on)
            refine wildL_call (by decide) (by kernel_rfl) (by kernel_rfl) ?_
            apply Exists.intro
            refine And.intro ?_ ?_
            focus
              intro x K hK
              go_big_quiet_op
              go_big_quiet_call (exact call_back (right_25 _ _))
              rfl
            iterate 2 (refine wildL_val (by decide) (by kernel_rfl) rfl ?_; intro K hK; go_big_quiet_op; go_big_quiet_on)
            refine wildL_nil ?_
            simp only [List.drop_succ_cons, List.drop_nil]
            rintro ⟨z, hz⟩
            change wpList _ _ _ _ _ z
            rw [w_xor, w_xor, show rotr T.e 6 ^^^ rotr T.e 11 ^^^ rotr T.e 25 = sum1 T.e from rfl]
            have V1 := Lib.hid (rowAt_past hz VR.out)
            obtain ⟨_, _, _, _, f4, f5, f6, _⟩ := vcells V1.out
            have K1 := Lib.hid (K6.out.past hz)
            have ck1 : ∀ x : Past z, x.w.cell? ⟨hB + 1, i, none⟩ = some (.int .u32 (wv k)) := fun x => ck ⟨x.w, Below.step hz x.h⟩
            have cs1 : ∀ y : Past z, y.w.cell? ⟨sB, i, none⟩ = some (.int .u32 (wv x)) := fun y => cs ⟨y.w, Below.step hz y.h⟩
            have HCH : Hid (bits .or .u32 (bits .and .u32 (wv T.e) (wv T.f)) (bits .and .u32 ((4294967295 - wv T.e) % 4294967296) (wv T.g)) = wv (chW T.e T.f T.g)) := Lib.hid (by
              rw [w_subnot, Int.emod_eq_of_lt (w_ge _) (w_lt _), w_and, w_and, w_or, ch_or]
              rfl)
            have v7 : ∀ x : Past z, x.w.cell? ⟨sB + 1, 7, none⟩ = some (.int .u32 (wv T.h)) := fun x => (vcells (rowAt_past x.h V1.out)).2.2.2.2.2.2.2
            clear v4 VR K6 ck cs hz
            go_wp2_with fail
            rw [HCH.out]
            clear HCH f4 f5 f6
            refine wp_region_wildL [] 15 (by kernel_rfl) (by kernel_rfl) ?_
            simp only [List.take_succ_cons, List.take_nil]
            iterate 15 (refine wildL_val (by decide) (by kernel_rfl) rfl ?_; intro K hK; go_big_quiet_op; go_big_quiet_on)
            refine wildL_nil ?_
            simp only [List.drop_succ_cons, List.drop_nil]
            rintro ⟨z2, hz2⟩
            change wpList _ _ _ _ _ z2
            have V2 := Lib.hid (rowAt_past hz2 V1.out)
            have K2 := Lib.hid (K1.out.past hz2)
            have v0 : ∀ x : Past z2, x.w.cell? ⟨sB + 1, 0, none⟩ = some (.int .u32 (wv T.a)) := fun x => (vcells (rowAt_past x.h V2.out)).1
            have HP : Hid (((wv T.h + wv (sum1 T.e) + wv (chW T.e T.f T.g) + wv k) % 4294967296 + wv x) % 4294967296 = wv (roundP T k x)) := Lib.hid (by
              rw [w_add4, w_add2]
              rfl)
            clear ck1 cs1 v7 V1 K1 hz2
            rw [HP.out]
            clear HP
            go_wp2_with fail
            refine wp_region_wildL [] 12 (by kernel_rfl) (by kernel_rfl) ?_
            simp only [List.take_succ_cons, List.take_nil]
            iterate 2 (refine wildL_val (by decide) (by kernel_rfl) rfl ?_; intro K hK; go_big_quiet_op; go_big_quiet_on)
            refine wildL_call (by decide) (by kernel_rfl) (by kernel_rfl) ?_
            apply Exists.intro
            refine And.intro ?_ ?_
            focus
              intro x K hK
              go_big_quiet_op
              go_big_quiet_call (exact call_back (right_2 _ _))
              rfl
            iterate 2 (refine wildL_val (by decide) (by kernel_rfl) rfl ?_; intro K hK; go_big_quiet_op; go_big_quiet_on)
            refine wildL_call (by decide) (by kernel_rfl) (by kernel_rfl) ?_
            apply Exists.intro
            refine And.intro ?_ ?_
            focus
              intro x K hK
              go_big_quiet_op
              go_big_quiet_call (exact call_back (right_13 _ _))
              rfl
            iterate 3 (refine wildL_val (by decide) (by kernel_rfl) rfl ?_; intro K hK; go_big_quiet_op; go_big_quiet_on)
            refine wildL_call (by decide) (by kernel_rfl) (by kernel_rfl) ?_
            apply Exists.intro
            refine And.intro ?_ ?_
            focus
              intro x K hK
              go_big_quiet_op
              go_big_quiet_call (exact call_back (right_22 _ _))
              rfl
            iterate 2 (refine wildL_val (by decide) (by kernel_rfl) rfl ?_; intro K hK; go_big_quiet_op; go_big_quiet_on)
            refine wildL_nil ?_
            simp only [List.drop_succ_cons, List.drop_nil]
            rintro ⟨z3, hz3⟩
            change wpList _ _ _ _ _ z3
            rw [w_xor, w_xor, show rotr T.a 2 ^^^ rotr T.a 13 ^^^ rotr T.a 22 = sum0 T.a from rfl]
            have V3 := Lib.hid (rowAt_past hz3 V2.out)
            have K3 := Lib.hid (K2.out.past hz3)
            obtain ⟨f0, f1, f2, f3, f4, f5, f6, f7⟩ := vcells V3.out
            have hmj : bits .or .u32 (bits .or .u32 (bits .and .u32 (wv T.a) (wv T.b)) (bits .and .u32 (wv T.a) (wv T.c))) (bits .and .u32 (wv T.b) (wv T.c)) = wv (majW T.a T.b T.c) := by
              rw [w_and, w_and, w_and, w_or, w_or, maj_or]
              rfl
            have hA1 : (wv (roundP T k x) + wv (sum0 T.a) + wv (majW T.a T.b T.c)) % 4294967296 = wv (round T k x).a := by
              rw [show (round T k x).a = roundP T k x + sum0 T.a + majW T.a T.b T.c from (UInt32.add_assoc _ _ _).symm, ← w_add2, ← w_add2]
              omega
            have hA2 : ((wv (roundP T k x) + wv (sum0 T.a)) % 4294967296 + wv (majW T.a T.b T.c)) % 4294967296 = wv (round T k x).a := by
              rw [← hA1]
              omega
            have hD : (wv T.d + wv (roundP T k x)) % 4294967296 = wv (round T k x).e := w_add2 _ _
            have HWS : Hid (∀ h, cellsW ⟨[(round T k x).a, T.a, T.b, T.c, (round T k x).e, T.e, T.f, T.g], h⟩ = cellsW (wsOf (round T k x))) := Lib.hid fun _ => rfl
            clear v0 V2 K2 hz3
            have vr3 := V3.out
            generalize majW T.a T.b T.c = mj at *
            generalize sum0 T.a = s0 at *
            generalize roundP T k x = p at *
            generalize round T k x = RR at *
            go_wp2_with fail
            rw [HWS.out]
            exact ⟨⟨i + 1, hi64, by go_num, by rw [HRD.out]; exact rowAt_setRow_same V3.out _, K3.out.trans (But.setRow _ _ _)⟩, by simp [intOf]; omega⟩
        · obtain rfl : i = 64 := by omega
          rw [show ((64 : Nat) : Int) = 64 from rfl]
          have HE : Hid (addW (wsOf H) (wsOf (rounds F H 64)) 8 = wsOf (pressH H bs)) := Lib.hid (by
            have := addW_8 (wsOf H) bs
            rw [hsOf_wsOf, ← HF.out] at this
            exact this)
          generalize rounds F H 64 = E at *
          have h10 := Lib.hid (k6.row h9 (by omega))
          have vr10 := Lib.hid vr
          have K10 := Lib.hid (K9.out.but2 k6 (by omega))
          clear vr k6 h9 s9 k9 K9 HF
          as_aux_lemma =>
            go_wp2_with fail
            go_loopw [126, 15] (fun x _ wr => ∃ j : Nat, j ≤ 8 ∧ x = .int .i64 j ∧ rowAt wr hB = some (cellsW (addW (wsOf H) (wsOf E) j)) ∧ rowAt wr (sB + 1) = some (cellsW (wsOf E)) ∧ But hB w3 wr) (fun x _ _ => (8 - intOf x).toNat)
            case atStart => exact ⟨0, by omega, rfl, h10.out, vr10.out, K10.out⟩
            case round =>
              obtain ⟨j, hj, rfl, hr, vr, k7⟩ := hrel
              by_cases hj8 : j < 8
              · have hj8' : (j : Int) < 8 := by omega
                have cx : ∀ x : Past wr, x.w.cell? ⟨hB, j, none⟩ = some (.int .u32 (wv ((addW (wsOf H) (wsOf E) j).get j))) := fun x => by rw [cell_of_rowAt (rowAt_past x.h hr), get_cellsW _ _ hj8]
                have cv : ∀ x : Past wr, x.w.cell? ⟨sB + 1, j, none⟩ = some (.int .u32 (wv ((wsOf E).get j))) := fun x => by rw [cell_of_rowAt (rowAt_past x.h vr), get_cellsW _ _ hj8]
                have HSET : Hid ((cellsW (addW (wsOf H) (wsOf E) j)).setIfInBounds j (.int .u32 (wv ((addW (wsOf H) (wsOf E) j).get j + (wsOf E).get j))) = cellsW (addW (wsOf H) (wsOf E) (j + 1))) := Lib.hid (by
                  rw [addW]
                  simp [cellsW, wcells, Ws.set, List.map_set, wcell])
                have HRr := Lib.hid hr
                have VRr := Lib.hid vr
                have K7 := Lib.hid k7
                have HAD := Lib.hid (w_add2 ((addW (wsOf H) (wsOf E) j).get j) ((wsOf E).get j))
                clear hr vr k7
                generalize (addW (wsOf H) (wsOf E) j).get j = xa at *
                generalize (wsOf E).get j = xb at *
                as_aux_lemma =>
                  go_wp2_with fail
                  refine wp_region_wildL [] 8 (by kernel_rfl) (by kernel_rfl) ?_
                  simp only [List.take_succ_cons, List.take_zero]
                  iterate 8 (refine wildL_val (by decide) (by kernel_rfl) rfl ?_; intro K hK; go_big_quiet_op; go_big_quiet_on)
                  refine wildL_nil ?_
                  simp only [List.drop_succ_cons, List.drop_zero]
                  rintro ⟨z, hz⟩
                  change wpList _ _ _ _ _ z
                  have hrz := Lib.hid (rowAt_past hz HRr.out)
                  have vrz := rowAt_past hz VRr.out
                  have kz := K7.out.past hz
                  have c0 : z.cell? ⟨hB, j, none⟩ = some (.int .u32 (wv xa)) := cx ⟨z, hz⟩
                  have f0 := frozen_of_rowAt hrz.out j
                  have VZ := Lib.hid vrz
                  have KZ := Lib.hid kz
                  clear cx cv HRr VRr K7 hz vrz kz
                  go_wp2_with fail
                  rw [HAD.out]
                  exact ⟨⟨j + 1, hj8, by go_num, by rw [rowAt_setCell_same hrz.out, HSET.out], by rw [rowAt_setCell_other _ _ _ _ (by simp; omega)]; exact VZ.out, KZ.out.trans (But.setCell _ _ _ _)⟩, by simp [intOf]; omega⟩
              · obtain rfl : j = 8 := by omega
                rw [show ((8 : Nat) : Int) = 8 from rfl]
                rw [HE.out, ← HPA.out] at hr
                have hr2 := Lib.hid hr
                clear hr vr
                go_wp2_with fail
                exact ⟨⟨m + 1, hlt, congrArg (Value.int .i64) (by omega), hr2.out, k7⟩, by simp [intOf]; omega⟩
    · obtain rfl : m = M := by omega
      have hq : decide (((64 * m : Nat) : Int) < ((64 * m : Nat) : Int)) = false := decide_eq_false (by omega)
      have b6 := k6.below b5 (Nat.le_of_lt hz) b5.size
      have r6 := k6.row r4.out (Nat.ne_of_lt hz)
      have H6 := Lib.hid h6
      clear h6 k6
      obtain ⟨w5, rfl⟩ : ∃ w5 : World, w5 = wr := ⟨_, rfl⟩
      obtain ⟨S, hS⟩ : ∃ S, pressAll m begH P = S := ⟨_, rfl⟩
      rw [hS] at H6 HSL
      have z0 : rowAt (w5.alloc (.cells (cellsL zeroLab) 27)) w5.heap.size = some (cellsL (outI S 0)) := rowAt_alloc_at _ _ _ _ rfl
      have bz : Below w5.heap.size w5 (w5.alloc (.cells (cellsL zeroLab) 27)) := (Below.refl _ _).alloc (Nat.le_refl _) _
      clear hS
      go_wp2_with fail
      generalize w5.alloc (.cells (cellsL zeroLab) 27) = W1 at *
      go_loopw [139] (fun x wr => ∃ i : Nat, i ≤ 32 ∧ x = .int .i64 i ∧ rowAt wr w5.heap.size = some (cellsL (outI S i)) ∧ Below w5.heap.size w5 wr) (fun x _ => (32 - intOf x).toNat)
      case atStart => exact ⟨0, by omega, rfl, z0, bz⟩
      case round =>
        obtain ⟨i, hi, rfl, z2, b7⟩ := hrel
        clear z0 bz
        by_cases hi32 : i < 32
        · obtain ⟨q, r, hqr, hr⟩ : ∃ q r, i = 4 * q + r ∧ r < 4 := ⟨i / 4, i % 4, by omega, by omega⟩
          have hq8 : q < 8 := by omega
          have i0 : (0 : Int) ≤ i := by omega
          have i32 : (i : Int) < 32 := by omega
          have d4 : (i : Int) / 4 = (q : Int) := by omega
          have m4 : (i : Int) % 4 = (r : Int) := by omega
          have h7 := rowAt_past b7 H6.out
          have cq : wr.cell? ⟨hB, q, none⟩ = some (.int .u32 (wv ((wsOf S).get q))) := by rw [cell_of_rowAt h7, get_cellsW _ _ hq8]
          have ci : wr.cell? ⟨w5.heap.size, i, none⟩ = some (.int .u8 (((outI S i).get i).toNat : Int)) := by rw [cell_of_rowAt z2, get_cellsL _ _ hi32]
          have fi := frozen_of_rowAt z2 i
          have hby := outH_byte S q r hq8 hr
          rw [← hqr] at hby
          have HSET := Lib.hid (outI_set S i hi32)
          have hx0 := w_ge ((wsOf S).get q)
          have hx1 := w_lt ((wsOf S).get q)
          have Z2 := Lib.hid z2
          have b0' : (0 : Int) ≤ ((outH S).getD i 0).toNat := by omega
          have b1' : (((outH S).getD i 0).toNat : Int) < 256 := by have := ((outH S).getD i 0).toNat_lt; omega
          have hsc := set_cellsL (outI S i) i (((outH S).getD i 0).toNat : Int) b0' b1'
          rw [show UInt8.ofNat (((outH S).getD i 0).toNat : Int).toNat = (outH S).getD i 0 from by simp, HSET.out] at hsc
          have HSC := Lib.hid hsc
          generalize (outH S).getD i 0 = bb at *
          generalize wv ((wsOf S).get q) = xq at *
          generalize ((outI S i).get i).toNat = old at *
          have HQ1 : Hid (rowAt (wr.setCell ⟨w5.heap.size, i, none⟩ (.int .u8 (bb.toNat : Int))) w5.heap.size = some (cellsL (outI S (i + 1)))) := Lib.hid (by rw [rowAt_setCell_same Z2.out, HSC.out])
          have HB7 : Hid (Below w5.heap.size w5 (wr.setCell ⟨w5.heap.size, i, none⟩ (.int .u8 (bb.toNat : Int)))) := Lib.hid (b7.setCell (Nat.le_refl _) _)
          have hiq : (i : Int) = 4 * q + r := by omega
          have HIQ := Lib.hid hiq
          clear z2 hsc h7 b7 hiq hqr b0' b1'
          rcases (by omega : r = 0 ∨ r = 1 ∨ r = 2 ∨ r = 3) with rfl | rfl | rfl | rfl
          · rw [show ((2 ^ (24 - 0 * 8) : Nat) : Int) = 16777216 from rfl] at hby
            rw [show ((0 : Nat) : Int) = 0 from rfl] at m4
            have HBYT := Lib.hid hby
            clear hby
            go_wp2_with fail
            rw [show xq / 16777216 = (bb.toNat : Int) from by have := HBYT.out; omega]
            exact ⟨⟨i + 1, hi32, by go_num, HQ1.out, HB7.out⟩, by simp [intOf]; omega⟩
          · rw [show ((2 ^ (24 - 1 * 8) : Nat) : Int) = 65536 from rfl] at hby
            rw [show ((1 : Nat) : Int) = 1 from rfl] at m4
            have HBYT := Lib.hid hby
            clear hby
            go_wp2_with fail
            rw [show xq / 65536 % 256 = (bb.toNat : Int) from by have := HBYT.out; omega]
            exact ⟨⟨i + 1, hi32, by go_num, HQ1.out, HB7.out⟩, by simp [intOf]; omega⟩
          · rw [show ((2 ^ (24 - 2 * 8) : Nat) : Int) = 256 from rfl] at hby
            rw [show ((2 : Nat) : Int) = 2 from rfl] at m4
            have HBYT := Lib.hid hby
            clear hby
            go_wp2_with fail
            rw [show xq / 256 % 256 = (bb.toNat : Int) from by have := HBYT.out; omega]
            exact ⟨⟨i + 1, hi32, by go_num, HQ1.out, HB7.out⟩, by simp [intOf]; omega⟩
          · rw [show ((2 ^ (24 - 3 * 8) : Nat) : Int) = 1 from rfl] at hby
            rw [show ((3 : Nat) : Int) = 3 from rfl] at m4
            have HBYT := Lib.hid hby
            clear hby
            go_wp2_with fail
            rw [show xq % 256 = (bb.toNat : Int) from by have := HBYT.out; omega]
            exact ⟨⟨i + 1, hi32, by go_num, HQ1.out, HB7.out⟩, by simp [intOf]; omega⟩
        · obtain rfl : i = 32 := by omega
          rw [show ((32 : Nat) : Int) = 32 from rfl]
          rw [outI_32] at z2
          have r7 := rowAt_past b7 r6
          have b8 := below_past b6 b7 b6.size
          clear b7 r6 H6
          go_wp2_with fail
          exact row_ret_labS rfl rfl rfl (rowAt_setRow_same r7 _) ⟨by rw [HSL.out], Below.setRow b8 (Nat.le_refl _) _⟩
end Go.Proofs.YtppgmphojklaeaaGreatDoor
namespace Go.Proofs.YtppgmphojklaeaaGreatDoor
open Go Go.RowKit

def overR (x y : Itm) : Bool := decide (x.n ≤ y.n) && decide (x.n ≤ (common x.b y.b : Int))
set_option maxRecDepth 100000 in
set_option maxHeartbeats 1000000 in
theorem r16over_any (x y : Itm) (w : World) : Calls Tryz.prog 49 #[.agg (cellsI x), .agg (cellsI y)] w fun e w' => e = .returned (.bool (overR x y)) ∧ Below w.heap.size w w' := by
  have b0 : Below w.heap.size w ((w.alloc (.cells (cellsI x) 66)).alloc (.cells (cellsI y) 66)) := ((Below.refl _ _).alloc (Nat.le_refl _) _).alloc (by simp only [World.size_alloc]; omega) _
  have r0 : rowAt ((w.alloc (.cells (cellsI x) 66)).alloc (.cells (cellsI y) 66)) w.heap.size = some (cellsI x) := (rowAt_alloc_past _ _ _ (by simp only [World.size_alloc]; omega)).trans (rowAt_alloc_at _ _ _ _ rfl)
  have r1 : rowAt ((w.alloc (.cells (cellsI x) 66)).alloc (.cells (cellsI y) 66)) (w.heap.size + 1) = some (cellsI y) := rowAt_alloc_at _ _ _ _ (by simp only [World.size_alloc])
  have HCO := Lib.hid (fun w => rCommon_any x.b y.b w)
  have gx := get_I0 x
  have gy := get_I0 y
  unfold overR
  obtain ⟨n, hn⟩ : ∃ n, x.n = n := ⟨_, rfl⟩
  obtain ⟨m, hm⟩ : ∃ m, y.n = m := ⟨_, rfl⟩
  rw [hn] at gx ⊢
  rw [hm] at gy ⊢
  clear hn hm
  have p1 := fun z : Past ((w.alloc (.cells (cellsI x) 66)).alloc (.cells (cellsI y) 66)) => rowAt_past z.h r0
  have p2 := fun z : Past ((w.alloc (.cells (cellsI x) 66)).alloc (.cells (cellsI y) 66)) => rowAt_past z.h r1
  have k1 := fun z : Past ((w.alloc (.cells (cellsI x) 66)).alloc (.cells (cellsI y) 66)) => (cell_of_rowAt (rowAt_past z.h r0) 0).trans gx
  have k2 := fun z : Past ((w.alloc (.cells (cellsI x) 66)).alloc (.cells (cellsI y) 66)) => (cell_of_rowAt (rowAt_past z.h r1) 0).trans gy
  clear gx gy r0 r1
  generalize common x.b y.b = c at *
  by_cases h1 : n ≤ m
  · have h1' : decide (n ≤ m) = true := decide_eq_true h1
    go_enter Tryz.func49, Tryz.ntmps49
    go_wp2_with fail
    generalize (w.alloc (.cells (cellsI x) 66)).alloc (.cells (cellsI y) 66) = W at *
    refine wp_region_past (by kernel_rfl) (by kernel_rfl) ?_
    repeat (go_big_quiet_step (first | (go_at_call 117; exact Past.call (HCO.out _))))
    refine wpQuiet_nil ?_
    intro w2 hw2
    obtain ⟨⟨wn, hn⟩, rfl⟩ := hw2
    try dsimp only
    have B2 := below_past b0 hn b0.size
    clear hn p1 p2 k1 k2 HCO b0
    go_wp2
    go_ret
    exact ⟨by first | rfl | (rw [h1']; rfl), B2⟩
  · have h1' : decide (n ≤ m) = false := decide_eq_false h1
    go_enter Tryz.func49, Tryz.ntmps49
    go_wp2_with fail
    generalize (w.alloc (.cells (cellsI x) 66)).alloc (.cells (cellsI y) 66) = W at *
    refine wp_region_past (by kernel_rfl) (by kernel_rfl) ?_
    repeat (go_big_quiet_step (first | (go_at_call 117; exact Past.call (HCO.out _))))
    refine wpQuiet_nil ?_
    intro w2 hw2
    obtain ⟨⟨wn, hn⟩, rfl⟩ := hw2
    try dsimp only
    have B2 := below_past b0 hn b0.size
    clear hn p1 p2 k1 k2 HCO b0
    go_wp2
    go_ret
    exact ⟨by first | rfl | (rw [h1']; rfl), B2⟩
theorem leafB_len (x : Lf) : (leafB x).length ≤ 10000 := by
  unfold leafB leafT joinL
  have h1 := x.a.h
  have h2 := x.v.h
  have h3 := eightL_len x.e
  simp [textL, oct]
  omega
theorem innerB_len (x y : Itm) : (innerB x y).length ≤ 10000 := by
  unfold innerB innerT joinL
  have h1 := itemT_len x
  have h2 := itemT_len y
  simp [textL, oct]
  omega
set_option maxRecDepth 100000 in
set_option maxHeartbeats 1000000 in
theorem r16Leaf_any (x : Lf) (w : World) : Calls Tryz.prog 74 #[.agg (cellsF x)] w fun e w' => e = .returned (.agg (cellsI (leafI x))) ∧ Below w.heap.size w w' := by
  have b0 : Below w.heap.size w ((w.alloc (.cells (cellsF x) 64)).alloc (.cells (cellsI zeroItm) 66)) := ((Below.refl _ _).alloc (Nat.le_refl _) _).alloc (by simp only [World.size_alloc]; omega) _
  have r0 : rowAt ((w.alloc (.cells (cellsF x) 64)).alloc (.cells (cellsI zeroItm) 66)) w.heap.size = some (cellsF x) := (rowAt_alloc_past _ _ _ (by simp only [World.size_alloc]; omega)).trans (rowAt_alloc_at _ _ _ _ rfl)
  have r1 : rowAt ((w.alloc (.cells (cellsF x) 64)).alloc (.cells (cellsI zeroItm) 66)) (w.heap.size + 1) = some (cellsI zeroItm) := rowAt_alloc_at _ _ _ _ (by simp only [World.size_alloc])
  have HL := Lib.hid (fun w => r15LeafBytes_any x w)
  have HS := Lib.hid (fun w => r3Sum_any (stx (leafB x)) w (by rw [stx_size]; exact leafB_len x))
  have hd : (stx (leafB x)).data.toList = leafB x := by simp
  rw [hd] at HS
  have fa := fun y : Past ((w.alloc (.cells (cellsF x) 64)).alloc (.cells (cellsI zeroItm) 66)) => rowAt_past y.h r0
  have c1 := fun y : Past ((w.alloc (.cells (cellsF x) 64)).alloc (.cells (cellsI zeroItm) 66)) => (cell_of_rowAt (rowAt_past y.h r0) 64).trans (get_F64 x)
  unfold leafI
  rw [cut_256 x.a 256 (Nat.le_refl _)]
  generalize shaLab (leafB x) = J at *
  obtain ⟨m, hm⟩ : ∃ m, x.e = m := ⟨_, rfl⟩
  rw [hm] at c1 ⊢
  generalize stx (leafB x) = SB at *
  clear hd hm
  go_enter Tryz.func74, Tryz.ntmps74
  go_wp2_with fail
  generalize (w.alloc (.cells (cellsF x) 64)).alloc (.cells (cellsI zeroItm) 66) = W at *
  refine wp_region_tok [] 8 (fun _ _ _ => True) (by kernel_rfl) (by kernel_rfl) (by intro i hi; cases hi) ?_
  intro τ hτ
  clear hτ
  simp only [List.take_succ_cons, List.take_zero]
  iterate 3 (refine tokL_val (by decide) (by kernel_rfl) rfl ?_; intro K hK; go_big_quiet_op; go_big_quiet_on)
  refine tokL_call (by decide) (by kernel_rfl) (by kernel_rfl) ?_
  apply Exists.intro
  refine And.intro ?_ ?_
  focus
    intro x hg
    unfold Oper.quietAt
    go_simp
    (exact call_yields (HL.out _))
  simp only [Act.put, List.setIfInBounds_toArray, List.set_cons_succ, List.set_cons_zero]
  refine tokL_call (by decide) (by kernel_rfl) (by kernel_rfl) ?_
  apply Exists.intro
  refine And.intro ?_ ?_
  focus
    intro x hg
    unfold Oper.quietAt
    go_simp
    (exact call_yields (HS.out _))
  simp only [Act.put, List.setIfInBounds_toArray, List.set_cons_succ, List.set_cons_zero]
  iterate 3 (refine tokL_val (by decide) (by kernel_rfl) rfl ?_; intro K hK; go_big_quiet_op; go_big_quiet_on)
  refine tokL_nil ?_
  simp only [List.drop_succ_cons, List.drop_zero]
  intro z hz
  have b3 := below_past b0 hz.1 b0.size
  have r3 := rowAt_past hz.1 r1
  clear hz b0 r0 r1 fa c1 HL HS
  go_wp2_with fail
  exact row_ret_ritem rfl rfl rfl (rowAt_setRow_same r3 _) ⟨rfl, Below.setRow b3 (Nat.le_succ _) _⟩
set_option maxRecDepth 100000 in
set_option maxHeartbeats 2000000 in
theorem r16Inner_any (x y : Itm) (w : World) : Calls Tryz.prog 90 #[.agg (cellsI x), .agg (cellsI y)] w fun e w' => e = .returned (.agg (cellsI (innerI x y))) ∧ Below w.heap.size w w' := by
  have b0 : Below w.heap.size w (((w.alloc (.cells (cellsI x) 66)).alloc (.cells (cellsI y) 66)).alloc (.cells (cellsI zeroItm) 66)) := (((Below.refl _ _).alloc (Nat.le_refl _) _).alloc (by simp only [World.size_alloc]; omega) _).alloc (by simp only [World.size_alloc]; omega) _
  have r0 : rowAt (((w.alloc (.cells (cellsI x) 66)).alloc (.cells (cellsI y) 66)).alloc (.cells (cellsI zeroItm) 66)) w.heap.size = some (cellsI x) := (rowAt_alloc_past _ _ _ (by simp only [World.size_alloc]; omega)).trans ((rowAt_alloc_past _ _ _ (by simp only [World.size_alloc]; omega)).trans (rowAt_alloc_at _ _ _ _ rfl))
  have r1 : rowAt (((w.alloc (.cells (cellsI x) 66)).alloc (.cells (cellsI y) 66)).alloc (.cells (cellsI zeroItm) 66)) (w.heap.size + 1) = some (cellsI y) := (rowAt_alloc_past _ _ _ (by simp only [World.size_alloc]; omega)).trans (rowAt_alloc_at _ _ _ _ (by simp only [World.size_alloc]))
  have r2 : rowAt (((w.alloc (.cells (cellsI x) 66)).alloc (.cells (cellsI y) 66)).alloc (.cells (cellsI zeroItm) 66)) (w.heap.size + 1 + 1) = some (cellsI zeroItm) := rowAt_alloc_at _ _ _ _ (by simp only [World.size_alloc])
  have HL := Lib.hid (fun w => r15InnerBytes_any x y w)
  have HS := Lib.hid (fun w => r3Sum_any (stx (innerB x y)) w (by rw [stx_size]; exact innerB_len x y))
  have hd : (stx (innerB x y)).data.toList = innerB x y := by simp
  rw [hd] at HS
  have HCO := Lib.hid (fun w => rCommon_any x.b y.b w)
  have HC := Lib.hid (fun w => rCut_any x.b (common x.b y.b : Nat) w)
  rw [Int.toNat_natCast] at HC
  have g65 := get_I65 x
  have g131 := get_I65 y
  unfold innerI
  generalize shaLab (innerB x y) = J at *
  generalize stx (innerB x y) = SB at *
  generalize cut x.b (common x.b y.b) = CU at *
  generalize common x.b y.b = cn at *
  obtain ⟨m, hm⟩ : ∃ m, x.e = m := ⟨_, rfl⟩
  obtain ⟨k, hk⟩ : ∃ k, y.e = k := ⟨_, rfl⟩
  rw [hm] at g65 ⊢
  rw [hk] at g131 ⊢
  clear hd hm hk
  go_enter Tryz.func90, Tryz.ntmps90
  go_wp2_with fail
  generalize ((w.alloc (.cells (cellsI x) 66)).alloc (.cells (cellsI y) 66)).alloc (.cells (cellsI zeroItm) 66) = W at *
  refine (HCO.out _).mono ?_
  rintro e w1 ⟨rfl, b1⟩
  have b2 := below_past b0 b1 b0.size
  have q0 := rowAt_past b1 r0
  have q1 := rowAt_past b1 r1
  have q2 := rowAt_past b1 r2
  clear b0 b1 r0 r1 r2 HCO
  go_wp2_with fail
  have fa := fun z : Past w1 => rowAt_past z.h q0
  have fb := fun z : Past w1 => rowAt_past z.h q1
  have c1 := fun z : Past w1 => (cell_of_rowAt (rowAt_past z.h q0) 65).trans g65
  have c2 := fun z : Past w1 => (cell_of_rowAt (rowAt_past z.h q1) 65).trans g131
  clear g65 g131
  refine wp_region_tok [] 15 (fun _ _ _ => True) (by kernel_rfl) (by kernel_rfl) (by intro i hi; cases hi) ?_
  intro τ hτ
  clear hτ
  simp only [List.take_succ_cons, List.take_zero]
  iterate 4 (refine tokL_val (by decide) (by kernel_rfl) rfl ?_; intro K hK; go_big_quiet_op; go_big_quiet_on)
  refine tokL_call (by decide) (by kernel_rfl) (by kernel_rfl) ?_
  apply Exists.intro
  refine And.intro ?_ ?_
  focus
    intro x hg
    unfold Oper.quietAt
    go_simp
    (exact call_yields (HC.out _))
  simp only [Act.put, List.setIfInBounds_toArray, List.set_cons_succ, List.set_cons_zero]
  iterate 2 (refine tokL_val (by decide) (by kernel_rfl) rfl ?_; intro K hK; go_big_quiet_op; go_big_quiet_on)
  refine tokL_call (by decide) (by kernel_rfl) (by kernel_rfl) ?_
  apply Exists.intro
  refine And.intro ?_ ?_
  focus
    intro x hg
    unfold Oper.quietAt
    go_simp
    (exact call_yields (HL.out _))
  simp only [Act.put, List.setIfInBounds_toArray, List.set_cons_succ, List.set_cons_zero]
  refine tokL_call (by decide) (by kernel_rfl) (by kernel_rfl) ?_
  apply Exists.intro
  refine And.intro ?_ ?_
  focus
    intro x hg
    unfold Oper.quietAt
    go_simp
    (exact call_yields (HS.out _))
  simp only [Act.put, List.setIfInBounds_toArray, List.set_cons_succ, List.set_cons_zero]
  iterate 4 (refine tokL_val (by decide) (by kernel_rfl) rfl ?_; intro K hK; go_big_quiet_op; go_big_quiet_on)
  refine tokL_sure (.int .i64 (max m k)) (by decide) (by kernel_rfl) (fun x => by go_simp) ?_
  simp only [Act.put, List.setIfInBounds_toArray, List.set_cons_succ, List.set_cons_zero]
  iterate 1 (refine tokL_val (by decide) (by kernel_rfl) rfl ?_; intro K hK; go_big_quiet_op; go_big_quiet_on)
  refine tokL_nil ?_
  simp only [List.drop_succ_cons, List.drop_zero]
  intro z hz
  have b3 := below_past b2 hz.1 b2.size
  have r3 := rowAt_past hz.1 q2
  clear hz q0 q1 q2 fa fb c1 c2 HL HS HC b2
  go_wp2_with fail
  exact row_ret_ritem rfl rfl rfl (rowAt_setRow_same r3 _) ⟨rfl, Below.setRow b3 (by omega) _⟩
end Go.Proofs.YtppgmphojklaeaaGreatDoor
namespace Go.Proofs.YtppgmphojklaeaaGreatDoor
open Go Go.RowKit

theorem run_append_none_len {P : Program} {w : World} {base : Nat} {t e : TypeId} {i : TypeInfo} {size : Nat} (ht : P.underlying t = some (.slice e)) (hi : P.info? e = some i)
    {v : Value} {n : Nat} {xs : List Value} (hown : w.ownsRow base e size v n xs) (cap : Nat) (ty : TypeId) :
    (Builtin.append_ #[t, t] ty #[v, .slice none 0 cap]).run P w = .ok v w := by
  rcases hown.2 with ⟨rfl, rfl⟩ | ⟨g, cap, cur, rfl, _, _, hnc, _⟩
  · simp [Builtin.append_, run_underlying ht, sizeOf, typeInfo, hi, Builtin.lenOf, Builtin.firstCells]
  · simp [Builtin.append_, run_underlying ht, sizeOf, typeInfo, hi, Builtin.lenOf, Builtin.firstCells, hnc, storeCells]
end Go.Proofs.YtppgmphojklaeaaGreatDoor
namespace Go.Proofs.YtppgmphojklaeaaGreatDoor
open Go Go.RowKit

def listJ (L : List Itm) : List Value := L.flatMap fun a => (cellsI a).toList
theorem listJ_length (L : List Itm) : (listJ L).length = L.length * 66 := by
  induction L with
  | nil => rfl
  | cons a L ih =>
    have h : (cellsI a).toList.length = 66 := by rw [Array.length_toList, size_cellsI]
    have e : listJ (a :: L) = (cellsI a).toList ++ listJ L := rfl
    rw [e, List.length_append, h, ih, List.length_cons]
    omega
theorem listJ_put (L : List Itm) (a : Itm) : listJ L ++ (cellsI a).toList = listJ (L ++ [a]) := by simp [listJ]
theorem listJ_at (L : List Itm) : ∀ i, i < L.length → ((listJ L).drop (i * 66)).take 66 = (cellsI (L.getD i zeroItm)).toList := by
  induction L with
  | nil => intro i h; cases h
  | cons a L ih =>
    intro i h
    have hl : (cellsI a).toList.length = 66 := by rw [Array.length_toList, size_cellsI]
    have e : listJ (a :: L) = (cellsI a).toList ++ listJ L := rfl
    rw [e]
    cases i with
    | zero =>
      rw [Nat.zero_mul, List.drop_zero, ← hl, List.take_left]
      rfl
    | succ i =>
      rw [show (i + 1) * 66 = (cellsI a).toList.length + i * 66 by rw [hl]; omega, ← List.drop_drop, List.drop_left]
      exact ih i (by simpa using h)
def OwnJ (w : World) (B : Nat) (v : Value) (L : List Itm) : Prop := w.ownsRow B 66 66 v L.length (listJ L)
theorem OwnJ.below {w w' : World} {B : Nat} {v : Value} {L : List Itm} (h : OwnJ w B v L) (k : Below w.heap.size w w') : OwnJ w' B v L :=
  World.ownsRow.kept h (row := none) ⟨k.os, k.tape, k.output, k.size, fun j hj _ => k.block j hj⟩ (by cases hv : v.ownBlock <;> simp)
theorem OwnJ.base {w : World} {B B' : Nat} {v : Value} {L : List Itm} (h : OwnJ w B v L) (hB : B' ≤ B) : OwnJ w B' v L := by
  refine ⟨h.1, ?_⟩
  rcases h.2 with h1 | ⟨g, cap, cur, h1, h2, h3⟩
  · exact .inl h1
  · exact .inr ⟨g, cap, cur, h1, Nat.le_trans hB h2, h3⟩
theorem OwnJ.shape {w : World} {B : Nat} {v : Value} {L : List Itm} (h : OwnJ w B v L) : ∃ ao cap, v = .slice ao L.length cap := by
  rcases h.2 with ⟨h1, h2⟩ | ⟨g, cap, cur, h1, _⟩
  · have : L = [] := List.eq_nil_of_length_eq_zero h2
    exact ⟨none, 0, by rw [h1, this]; rfl⟩
  · exact ⟨_, _, h1⟩
theorem ownJ_nil (w : World) (B : Nat) : OwnJ w B (.slice none 0 0) [] := World.ownsRow_nil _ _ _ _
theorem rowinfo_ritem : ∃ i : TypeInfo, Tryz.prog.info? 66 = some i ∧ i.zero = some (.agg (cellsI zeroItm)) ∧ i.size = 66 ∧ i.bytes = 80 := by
  have h : (Tryz.prog.info? 66).map (fun i => (i.zero, i.size, i.bytes)) = some (some (.agg (cellsI zeroItm)), 66, 80) := by
    rw [zeroI_cells]
    kernel_rfl
  cases hq : Tryz.prog.info? 66 with
  | none => rw [hq] at h; cases h
  | some i =>
    rw [hq] at h
    simp only [Option.map_some, Option.some.injEq, Prod.mk.injEq] at h
    exact ⟨i, rfl, h.1, h.2.1, h.2.2⟩
theorem one_of_rowJ (a : Itm) : ∀ u ∈ (cellsI a).toList, u.oneCell' = true := one_icells a
/-- One is put behind a list of the call's own. -/
theorem wpList_putJ {ops : Array Oper} {rest : List Oper} {o : Oper} {a : Act} {w : World} {Q : Exit → Act → World → Prop} (hgd : o.guard = none) (s x : Operand)
    (ho : o.op = .call { callee := .builtin .append, args := #[s, x], argTypes := #[23, 23] }) (B : Nat) (v : Value) (L : List Itm) (hs : a.eval s = v) (hown : OwnJ w B v L)
    (t : Itm) (g c : Nat) (hx : a.eval x = .slice (some ⟨g, 0, none⟩) 1 c) (hrow : rowAt w g = some (cellsI t)) (hB : B ≤ w.heap.size) (hl : L.length ≤ 1000000)
    (h : ∀ v' w', OwnJ w' B v' (L ++ [t]) → w.grownBy w' v.ownBlock → (v'.ownBlock = v.ownBlock ∨ v'.ownBlock = some w.heap.size) → wpList Tryz.prog ops Q rest (a.put o.dst v') w') : wpList Tryz.prog ops Q (o :: rest) a w := by
  obtain ⟨i0, hi, hz0, hz1, hz2⟩ := rowinfo_ritem
  refine wpList_append_own_at (P := Tryz.prog) w hgd s x 23 ho B 66 i0 (.agg (cellsI zeroItm)) 66 80 Tryz.underlying23 hi hz0 hz1 hz2 (by simp [Value.cells]) (by decide) v L.length (listJ L) hs hown ⟨g, 0, none⟩ 1 c (cellsI t).toList hx (by rw [Array.length_toList, size_cellsI]) ?_ (one_of_rowJ t) (by unfold maxLen; omega) (by omega) hB ?_
  · intro j u hu
    rw [show (⟨g, 0, none⟩ : Addr).add j = ⟨g, j, none⟩ by simp [Addr.add]; exact fun e => e.symm, cell_of_rowAt hrow]
    rwa [Array.getElem?_toList] at hu
  · intro v' w' h1 h2 _ h4
    refine h v' w' ?_ h2 h4
    show w'.ownsRow B 66 66 v' (L ++ [t]).length (listJ (L ++ [t]))
    rw [List.length_append, ← listJ_put]
    exact h1
theorem wpListIn_putJ {F : Fence} {nF : Nat} {ops : Array Oper} {rest : List Oper} {o : Oper} {a : Act} {w : World} {Q : Exit → Act → World → Prop} (hgd : o.guard = none) (s x : Operand)
    (ho : o.op = .call { callee := .builtin .append, args := #[s, x], argTypes := #[23, 23] }) (B : Nat) (v : Value) (L : List Itm) (hs : a.eval s = v) (hown : OwnJ w B v L)
    (t : Itm) (g c : Nat) (hx : a.eval x = .slice (some ⟨g, 0, none⟩) 1 c) (hrow : rowAt w g = some (cellsI t)) (hB : B ≤ w.heap.size) (hl : L.length ≤ 1000000)
    (h : ∀ v' w', OwnJ w' B v' (L ++ [t]) → w.grownBy w' v.ownBlock → (v'.ownBlock = v.ownBlock ∨ v'.ownBlock = some w.heap.size) → wpListIn F nF Tryz.prog ops Q rest (a.put o.dst v') w') : wpListIn F nF Tryz.prog ops Q (o :: rest) a w := by
  obtain ⟨i0, hi, hz0, hz1, hz2⟩ := rowinfo_ritem
  refine wpListIn_append_own_at (P := Tryz.prog) w hgd s x 23 ho B 66 i0 (.agg (cellsI zeroItm)) 66 80 Tryz.underlying23 hi hz0 hz1 hz2 (by simp [Value.cells]) (by decide) v L.length (listJ L) hs hown ⟨g, 0, none⟩ 1 c (cellsI t).toList hx (by rw [Array.length_toList, size_cellsI]) ?_ (one_of_rowJ t) (by unfold maxLen; omega) (by omega) hB ?_
  · intro j u hu
    rw [show (⟨g, 0, none⟩ : Addr).add j = ⟨g, j, none⟩ by simp [Addr.add]; exact fun e => e.symm, cell_of_rowAt hrow]
    rwa [Array.getElem?_toList] at hu
  · intro v' w' h1 h2 _ h4
    refine h v' w' ?_ h2 h4
    show w'.ownsRow B 66 66 v' (L ++ [t]).length (listJ (L ++ [t]))
    rw [List.length_append, ← listJ_put]
    exact h1
theorem OwnJ.lie {w : World} {B : Nat} {v : Value} {L : List Itm} (h : OwnJ w B v L) (hL : 0 < L.length) : ∃ g cap cur, v = .slice (some ⟨g, 0, none⟩) L.length cap ∧ B ≤ g ∧ L.length ≤ cap ∧ rowAt w g = some cur ∧ L.length * 66 ≤ cur.size ∧ ∀ i, i < L.length → cur.extract (i * 66) (i * 66 + 66) = cellsI (L.getD i zeroItm) := by
  rcases h.2 with ⟨h1, h2⟩ | ⟨g, cap, cur, h1, h2, h3, h4, h5, h6, h7⟩
  · exfalso
    omega
  · have hz : L.length * 66 ≤ cur.size := by rw [h6]; exact Nat.mul_le_mul_right 66 h4
    refine ⟨g, cap, cur, h1, h2, h4, rowAt_of_heap h3, hz, fun i hi => ?_⟩
    apply Array.toList_inj.1
    rw [← listJ_at L i hi, ← h7, Array.toList_extract, List.extract_eq_take_drop, List.drop_take, List.take_take]
    congr 1
    omega
/-- The block of a list of one's own. -/
theorem OwnJ.block {w : World} {B : Nat} {v : Value} {L : List Itm} (h : OwnJ w B v L) {g : Nat} (hg : v.ownBlock = some g) : B ≤ g ∧ g < w.heap.size ∧ ∃ cur, w.heap[g]? = some (.cells cur 66 (0, 0)) := by
  rcases h.2 with ⟨h1, h2⟩ | ⟨g', cap, cur, h1, h2, h3, _⟩
  · rw [h1] at hg
    cases hg
  · rw [h1] at hg
    cases hg
    exact ⟨h2, (Array.getElem?_eq_some_iff.1 h3).1, cur, h3⟩
theorem OwnJ.keep {W W' : World} {B : Nat} {v : Value} {L : List Itm} {row : Option Nat} (h : OwnJ W B v L) (hg : W.grownBy W' row) (hr : ∀ r, row = some r → ∃ o : Obj, W.heap[r]? = some o ∧ o.isCells = false) : OwnJ W' B v L := by
  refine World.ownsRow.kept h hg ?_
  cases hq : v.ownBlock with
  | none => exact .inl rfl
  | some g =>
    refine .inr fun e => ?_
    obtain ⟨o, h1, h2⟩ := hr g e.symm
    obtain ⟨_, _, cur, h3⟩ := OwnJ.block h hq
    rw [h3] at h1
    cases h1
    cases h2
theorem OwnJ.apart {W : World} {B : Nat} {v : Value} {L : List Itm} {b : Nat} {c : Array Value} {t : TypeId} (h : OwnJ W B v L) (hb : W.heap[b]? = some (.cells c t (0, 0))) (hne : t ≠ 66) : v.ownBlock ≠ some b := fun e => by
  obtain ⟨_, _, cur, h3⟩ := OwnJ.block h e
  rw [hb] at h3
  cases h3
  exact hne rfl
/-- Another block may be written. -/
theorem OwnJ.aside {W W' : World} {B : Nat} {v : Value} {L : List Itm} {b : Nat} (h : OwnJ W B v L) (hg : W.grownBy W' (some b)) (hne : v.ownBlock ≠ some b) : OwnJ W' B v L := by
  refine World.ownsRow.kept h hg ?_
  cases hq : v.ownBlock with
  | none => exact .inl rfl
  | some g => exact .inr fun e => hne (by rw [hq]; exact e)
/-- Where a list lies, in blocks below n0, be it empty. -/
def AtJ (n0 : Nat) (w : World) (v : Value) (L : List Itm) : Prop := ∃ ao cap, v = .slice ao L.length cap ∧ ∀ i, i < L.length → ∃ g o cur, ao = some ⟨g, o, none⟩ ∧ g < n0 ∧ rowAt w g = some cur ∧ o + (i * 66 + 66) ≤ cur.size ∧ cur.extract (o + i * 66) (o + i * 66 + 66) = cellsI (L.getD i zeroItm)
theorem OwnJ.at {w : World} {B : Nat} {v : Value} {L : List Itm} (h : OwnJ w B v L) : AtJ w.heap.size w v L := by
  obtain ⟨ao, cap, rfl⟩ := h.shape
  refine ⟨ao, cap, rfl, fun i hi => ?_⟩
  obtain ⟨g, cap', cur, h1, h2, _, h3, h4, h5⟩ := h.lie (by omega)
  injection h1 with h1 _ _
  refine ⟨g, 0, cur, h1, (Array.getElem?_eq_some_iff.1 (heap_of_rowAt h3).choose_spec).1, h3, by have := Nat.mul_le_mul_right 66 hi; omega, ?_⟩
  rw [Nat.zero_add]
  exact h5 i hi
theorem AtJ.below {n0 n1 : Nat} {w w' : World} {v : Value} {L : List Itm} (h : AtJ n0 w v L) (hn : n0 ≤ n1) (k : Below n1 w w') : AtJ n1 w' v L := by
  obtain ⟨ao, cap, h1, h2⟩ := h
  refine ⟨ao, cap, h1, fun i hi => ?_⟩
  obtain ⟨g, o, cur, h3, h0, h4, h5⟩ := h2 i hi
  exact ⟨g, o, cur, h3, by omega, by rw [rowAt_below k (by omega)]; exact h4, h5⟩
theorem build_oneJ (w : World) (a : Itm) : (Instr.buildSlice 23 1 #[(0, .agg (cellsI a))]).run Tryz.prog w = .ok (.slice (some ⟨w.heap.size, 0, none⟩) 1 1) (w.alloc (.cells (cellsI a) 66)) := by
  have hu : (underlying 23).run Tryz.prog w = .ok (.slice 66) w := run_underlying Tryz.underlying23 w
  have hs : (sizeOf 66).run Tryz.prog w = .ok 66 w := by kernel_rfl
  unfold Instr.buildSlice
  simp [Sem.run_bind, hu, hs, Value.cells, newRow]
  rw [fillN_one 66 _ _ (by simp) (by simp)]
  simp
def buildJ (t : TypeId) (n : Nat) (p : Array (Nat × Value)) : Sem Value := Instr.buildSlice t n p
@[go_sem ↓] theorem buildJ_of (n : Nat) (p : Array (Nat × Value)) : Instr.buildSlice 23 n p = buildJ 23 n p := rfl
@[go_sem] theorem run_buildJ (w : World) (a : Itm) : (buildJ 23 1 #[(0, .agg (cellsI a))]).run Tryz.prog w = .ok (.slice (some ⟨w.heap.size, 0, none⟩) 1 1) (w.alloc (.cells (cellsI a) 66)) := build_oneJ w a
def listG (L : List Lf) : List Value := L.flatMap fun a => (cellsF a).toList
theorem listG_length (L : List Lf) : (listG L).length = L.length * 65 := by
  induction L with
  | nil => rfl
  | cons a L ih =>
    have h : (cellsF a).toList.length = 65 := by rw [Array.length_toList, size_cellsF]
    have e : listG (a :: L) = (cellsF a).toList ++ listG L := rfl
    rw [e, List.length_append, h, ih, List.length_cons]
    omega
theorem listG_put (L : List Lf) (a : Lf) : listG L ++ (cellsF a).toList = listG (L ++ [a]) := by simp [listG]
theorem listG_at (L : List Lf) : ∀ i, i < L.length → ((listG L).drop (i * 65)).take 65 = (cellsF (L.getD i zeroLf)).toList := by
  induction L with
  | nil => intro i h; cases h
  | cons a L ih =>
    intro i h
    have hl : (cellsF a).toList.length = 65 := by rw [Array.length_toList, size_cellsF]
    have e : listG (a :: L) = (cellsF a).toList ++ listG L := rfl
    rw [e]
    cases i with
    | zero =>
      rw [Nat.zero_mul, List.drop_zero, ← hl, List.take_left]
      rfl
    | succ i =>
      rw [show (i + 1) * 65 = (cellsF a).toList.length + i * 65 by rw [hl]; omega, ← List.drop_drop, List.drop_left]
      exact ih i (by simpa using h)
def OwnG (w : World) (B : Nat) (v : Value) (L : List Lf) : Prop := w.ownsRow B 64 65 v L.length (listG L)
theorem OwnG.below {w w' : World} {B : Nat} {v : Value} {L : List Lf} (h : OwnG w B v L) (k : Below w.heap.size w w') : OwnG w' B v L :=
  World.ownsRow.kept h (row := none) ⟨k.os, k.tape, k.output, k.size, fun j hj _ => k.block j hj⟩ (by cases hv : v.ownBlock <;> simp)
theorem OwnG.base {w : World} {B B' : Nat} {v : Value} {L : List Lf} (h : OwnG w B v L) (hB : B' ≤ B) : OwnG w B' v L := by
  refine ⟨h.1, ?_⟩
  rcases h.2 with h1 | ⟨g, cap, cur, h1, h2, h3⟩
  · exact .inl h1
  · exact .inr ⟨g, cap, cur, h1, Nat.le_trans hB h2, h3⟩
theorem OwnG.shape {w : World} {B : Nat} {v : Value} {L : List Lf} (h : OwnG w B v L) : ∃ ao cap, v = .slice ao L.length cap := by
  rcases h.2 with ⟨h1, h2⟩ | ⟨g, cap, cur, h1, _⟩
  · have : L = [] := List.eq_nil_of_length_eq_zero h2
    exact ⟨none, 0, by rw [h1, this]; rfl⟩
  · exact ⟨_, _, h1⟩
theorem ownG_nil (w : World) (B : Nat) : OwnG w B (.slice none 0 0) [] := World.ownsRow_nil _ _ _ _
theorem rowinfo_rleaf : ∃ i : TypeInfo, Tryz.prog.info? 64 = some i ∧ i.zero = some (.agg (cellsF zeroLf)) ∧ i.size = 65 ∧ i.bytes = 72 := by
  have h : (Tryz.prog.info? 64).map (fun i => (i.zero, i.size, i.bytes)) = some (some (.agg (cellsF zeroLf)), 65, 72) := by
    rw [zeroF_cells]
    kernel_rfl
  cases hq : Tryz.prog.info? 64 with
  | none => rw [hq] at h; cases h
  | some i =>
    rw [hq] at h
    simp only [Option.map_some, Option.some.injEq, Prod.mk.injEq] at h
    exact ⟨i, rfl, h.1, h.2.1, h.2.2⟩
theorem one_of_rowG (a : Lf) : ∀ u ∈ (cellsF a).toList, u.oneCell' = true := one_fcells a
/-- One is put behind a list of the call's own. -/
theorem wpList_putG {ops : Array Oper} {rest : List Oper} {o : Oper} {a : Act} {w : World} {Q : Exit → Act → World → Prop} (hgd : o.guard = none) (s x : Operand)
    (ho : o.op = .call { callee := .builtin .append, args := #[s, x], argTypes := #[50, 50] }) (B : Nat) (v : Value) (L : List Lf) (hs : a.eval s = v) (hown : OwnG w B v L)
    (t : Lf) (g c : Nat) (hx : a.eval x = .slice (some ⟨g, 0, none⟩) 1 c) (hrow : rowAt w g = some (cellsF t)) (hB : B ≤ w.heap.size) (hl : L.length ≤ 1000000)
    (h : ∀ v' w', OwnG w' B v' (L ++ [t]) → w.grownBy w' v.ownBlock → (v'.ownBlock = v.ownBlock ∨ v'.ownBlock = some w.heap.size) → wpList Tryz.prog ops Q rest (a.put o.dst v') w') : wpList Tryz.prog ops Q (o :: rest) a w := by
  obtain ⟨i0, hi, hz0, hz1, hz2⟩ := rowinfo_rleaf
  refine wpList_append_own_at (P := Tryz.prog) w hgd s x 50 ho B 64 i0 (.agg (cellsF zeroLf)) 65 72 Tryz.underlying50 hi hz0 hz1 hz2 (by simp [Value.cells]) (by decide) v L.length (listG L) hs hown ⟨g, 0, none⟩ 1 c (cellsF t).toList hx (by rw [Array.length_toList, size_cellsF]) ?_ (one_of_rowG t) (by unfold maxLen; omega) (by omega) hB ?_
  · intro j u hu
    rw [show (⟨g, 0, none⟩ : Addr).add j = ⟨g, j, none⟩ by simp [Addr.add]; exact fun e => e.symm, cell_of_rowAt hrow]
    rwa [Array.getElem?_toList] at hu
  · intro v' w' h1 h2 _ h4
    refine h v' w' ?_ h2 h4
    show w'.ownsRow B 64 65 v' (L ++ [t]).length (listG (L ++ [t]))
    rw [List.length_append, ← listG_put]
    exact h1
theorem wpListIn_putG {F : Fence} {nF : Nat} {ops : Array Oper} {rest : List Oper} {o : Oper} {a : Act} {w : World} {Q : Exit → Act → World → Prop} (hgd : o.guard = none) (s x : Operand)
    (ho : o.op = .call { callee := .builtin .append, args := #[s, x], argTypes := #[50, 50] }) (B : Nat) (v : Value) (L : List Lf) (hs : a.eval s = v) (hown : OwnG w B v L)
    (t : Lf) (g c : Nat) (hx : a.eval x = .slice (some ⟨g, 0, none⟩) 1 c) (hrow : rowAt w g = some (cellsF t)) (hB : B ≤ w.heap.size) (hl : L.length ≤ 1000000)
    (h : ∀ v' w', OwnG w' B v' (L ++ [t]) → w.grownBy w' v.ownBlock → (v'.ownBlock = v.ownBlock ∨ v'.ownBlock = some w.heap.size) → wpListIn F nF Tryz.prog ops Q rest (a.put o.dst v') w') : wpListIn F nF Tryz.prog ops Q (o :: rest) a w := by
  obtain ⟨i0, hi, hz0, hz1, hz2⟩ := rowinfo_rleaf
  refine wpListIn_append_own_at (P := Tryz.prog) w hgd s x 50 ho B 64 i0 (.agg (cellsF zeroLf)) 65 72 Tryz.underlying50 hi hz0 hz1 hz2 (by simp [Value.cells]) (by decide) v L.length (listG L) hs hown ⟨g, 0, none⟩ 1 c (cellsF t).toList hx (by rw [Array.length_toList, size_cellsF]) ?_ (one_of_rowG t) (by unfold maxLen; omega) (by omega) hB ?_
  · intro j u hu
    rw [show (⟨g, 0, none⟩ : Addr).add j = ⟨g, j, none⟩ by simp [Addr.add]; exact fun e => e.symm, cell_of_rowAt hrow]
    rwa [Array.getElem?_toList] at hu
  · intro v' w' h1 h2 _ h4
    refine h v' w' ?_ h2 h4
    show w'.ownsRow B 64 65 v' (L ++ [t]).length (listG (L ++ [t]))
    rw [List.length_append, ← listG_put]
    exact h1
theorem OwnG.lie {w : World} {B : Nat} {v : Value} {L : List Lf} (h : OwnG w B v L) (hL : 0 < L.length) : ∃ g cap cur, v = .slice (some ⟨g, 0, none⟩) L.length cap ∧ B ≤ g ∧ L.length ≤ cap ∧ rowAt w g = some cur ∧ L.length * 65 ≤ cur.size ∧ ∀ i, i < L.length → cur.extract (i * 65) (i * 65 + 65) = cellsF (L.getD i zeroLf) := by
  rcases h.2 with ⟨h1, h2⟩ | ⟨g, cap, cur, h1, h2, h3, h4, h5, h6, h7⟩
  · exfalso
    omega
  · have hz : L.length * 65 ≤ cur.size := by rw [h6]; exact Nat.mul_le_mul_right 65 h4
    refine ⟨g, cap, cur, h1, h2, h4, rowAt_of_heap h3, hz, fun i hi => ?_⟩
    apply Array.toList_inj.1
    rw [← listG_at L i hi, ← h7, Array.toList_extract, List.extract_eq_take_drop, List.drop_take, List.take_take]
    congr 1
    omega
/-- The block of a list of one's own. -/
theorem OwnG.block {w : World} {B : Nat} {v : Value} {L : List Lf} (h : OwnG w B v L) {g : Nat} (hg : v.ownBlock = some g) : B ≤ g ∧ g < w.heap.size ∧ ∃ cur, w.heap[g]? = some (.cells cur 64 (0, 0)) := by
  rcases h.2 with ⟨h1, h2⟩ | ⟨g', cap, cur, h1, h2, h3, _⟩
  · rw [h1] at hg
    cases hg
  · rw [h1] at hg
    cases hg
    exact ⟨h2, (Array.getElem?_eq_some_iff.1 h3).1, cur, h3⟩
theorem OwnG.keep {W W' : World} {B : Nat} {v : Value} {L : List Lf} {row : Option Nat} (h : OwnG W B v L) (hg : W.grownBy W' row) (hr : ∀ r, row = some r → ∃ o : Obj, W.heap[r]? = some o ∧ o.isCells = false) : OwnG W' B v L := by
  refine World.ownsRow.kept h hg ?_
  cases hq : v.ownBlock with
  | none => exact .inl rfl
  | some g =>
    refine .inr fun e => ?_
    obtain ⟨o, h1, h2⟩ := hr g e.symm
    obtain ⟨_, _, cur, h3⟩ := OwnG.block h hq
    rw [h3] at h1
    cases h1
    cases h2
theorem OwnG.apart {W : World} {B : Nat} {v : Value} {L : List Lf} {b : Nat} {c : Array Value} {t : TypeId} (h : OwnG W B v L) (hb : W.heap[b]? = some (.cells c t (0, 0))) (hne : t ≠ 64) : v.ownBlock ≠ some b := fun e => by
  obtain ⟨_, _, cur, h3⟩ := OwnG.block h e
  rw [hb] at h3
  cases h3
  exact hne rfl
/-- Another block may be written. -/
theorem OwnG.aside {W W' : World} {B : Nat} {v : Value} {L : List Lf} {b : Nat} (h : OwnG W B v L) (hg : W.grownBy W' (some b)) (hne : v.ownBlock ≠ some b) : OwnG W' B v L := by
  refine World.ownsRow.kept h hg ?_
  cases hq : v.ownBlock with
  | none => exact .inl rfl
  | some g => exact .inr fun e => hne (by rw [hq]; exact e)
/-- Where a list lies, in blocks below n0, be it empty. -/
def AtG (n0 : Nat) (w : World) (v : Value) (L : List Lf) : Prop := ∃ ao cap, v = .slice ao L.length cap ∧ ∀ i, i < L.length → ∃ g o cur, ao = some ⟨g, o, none⟩ ∧ g < n0 ∧ rowAt w g = some cur ∧ o + (i * 65 + 65) ≤ cur.size ∧ cur.extract (o + i * 65) (o + i * 65 + 65) = cellsF (L.getD i zeroLf)
theorem OwnG.at {w : World} {B : Nat} {v : Value} {L : List Lf} (h : OwnG w B v L) : AtG w.heap.size w v L := by
  obtain ⟨ao, cap, rfl⟩ := h.shape
  refine ⟨ao, cap, rfl, fun i hi => ?_⟩
  obtain ⟨g, cap', cur, h1, h2, _, h3, h4, h5⟩ := h.lie (by omega)
  injection h1 with h1 _ _
  refine ⟨g, 0, cur, h1, (Array.getElem?_eq_some_iff.1 (heap_of_rowAt h3).choose_spec).1, h3, by have := Nat.mul_le_mul_right 65 hi; omega, ?_⟩
  rw [Nat.zero_add]
  exact h5 i hi
theorem AtG.below {n0 n1 : Nat} {w w' : World} {v : Value} {L : List Lf} (h : AtG n0 w v L) (hn : n0 ≤ n1) (k : Below n1 w w') : AtG n1 w' v L := by
  obtain ⟨ao, cap, h1, h2⟩ := h
  refine ⟨ao, cap, h1, fun i hi => ?_⟩
  obtain ⟨g, o, cur, h3, h0, h4, h5⟩ := h2 i hi
  exact ⟨g, o, cur, h3, by omega, by rw [rowAt_below k (by omega)]; exact h4, h5⟩
theorem build_oneG (w : World) (a : Lf) : (Instr.buildSlice 50 1 #[(0, .agg (cellsF a))]).run Tryz.prog w = .ok (.slice (some ⟨w.heap.size, 0, none⟩) 1 1) (w.alloc (.cells (cellsF a) 64)) := by
  have hu : (underlying 50).run Tryz.prog w = .ok (.slice 64) w := run_underlying Tryz.underlying50 w
  have hs : (sizeOf 64).run Tryz.prog w = .ok 65 w := by kernel_rfl
  unfold Instr.buildSlice
  simp [Sem.run_bind, hu, hs, Value.cells, newRow]
  rw [fillN_one 65 _ _ (by simp) (by simp)]
  simp
def buildG (t : TypeId) (n : Nat) (p : Array (Nat × Value)) : Sem Value := Instr.buildSlice t n p
@[go_sem ↓] theorem buildG_of (n : Nat) (p : Array (Nat × Value)) : Instr.buildSlice 50 n p = buildG 50 n p := rfl
@[go_sem] theorem run_buildG (w : World) (a : Lf) : (buildG 50 1 #[(0, .agg (cellsF a))]).run Tryz.prog w = .ok (.slice (some ⟨w.heap.size, 0, none⟩) 1 1) (w.alloc (.cells (cellsF a) 64)) := build_oneG w a
theorem ownI_empty (w : World) : OwnI (w.alloc (.cells #[] 55)) w.heap.size (.slice (some ⟨w.heap.size, 0, none⟩) 0 0) [] :=
  ⟨rfl, .inr ⟨w.heap.size, 0, #[], rfl, Nat.le_refl _, heap_alloc_new w _, Nat.le_refl _, Nat.zero_le _, rfl, rfl⟩⟩
theorem build_noneI (w : World) : (Instr.buildSlice 22 0 #[]).run Tryz.prog w = .ok (.slice (some ⟨w.heap.size, 0, none⟩) 0 0) (w.alloc (.cells #[] 55)) := by
  have hu : (underlying 22).run Tryz.prog w = .ok (.slice 55) w := run_underlying Tryz.underlying22 w
  have hs : (sizeOf 55).run Tryz.prog w = .ok 66 w := by kernel_rfl
  unfold Instr.buildSlice
  simp [Sem.run_bind, hu, hs, Instr.fill, newRow]
  exact congrArg (fun c => w.alloc (.cells c 55)) (Array.eq_empty_of_size_eq_zero (by rw [Array.size_map, Array.size_range]))
@[go_sem] theorem run_build_noneI (w : World) : (buildI 22 0 #[]).run Tryz.prog w = .ok (.slice (some ⟨w.heap.size, 0, none⟩) 0 0) (w.alloc (.cells #[] 55)) := build_noneI w
theorem listI_append (L M : List Itm) : listI (L ++ M) = listI L ++ listI M := by simp [listI]
theorem listI_one (L : List Itm) : ∀ u ∈ listI L, u.oneCell' = true := by
  intro u hu
  obtain ⟨a, _, h⟩ := List.mem_flatMap.1 hu
  exact one_of_rowI a u h
theorem listI_get (L : List Itm) (j : Nat) (u : Value) (h : (listI L)[j]? = some u) : j / 66 < L.length ∧ (cellsI (L.getD (j / 66) zeroItm))[j % 66]? = some u := by
  have hj : j < (listI L).length := (List.getElem?_eq_some_iff.1 h).1
  rw [listI_length] at hj
  have hi : j / 66 < L.length := (Nat.div_lt_iff_lt_mul (by decide)).2 hj
  refine ⟨hi, ?_⟩
  have e := listI_at L (j / 66) hi
  have hm : j % 66 < 66 := Nat.mod_lt _ (by decide)
  have q : (((listI L).drop (j / 66 * 66)).take 66)[j % 66]? = some u := by
    rw [List.getElem?_take, if_pos hm, List.getElem?_drop, show j / 66 * 66 + j % 66 = j by omega]
    exact h
  rw [e, Array.getElem?_toList] at q
  exact q
theorem AtI.news {n0 : Nat} {w : World} {g o cap n : Nat} {L : List Itm} (h : AtI n0 w (.slice (some ⟨g, o, none⟩) n cap) L) : ∀ j u, (listI L)[j]? = some u → w.cell? ((⟨g, o, none⟩ : Addr).add j) = some u := by
  intro j u hu
  obtain ⟨hi, hx⟩ := listI_get L j u hu
  obtain ⟨ao, cap', e, h2⟩ := h
  obtain ⟨g', o', cur, h3, _, h4, h5, h6⟩ := h2 _ hi
  injection e with e1 e2 e3
  rw [← e1] at h3
  cases h3
  rw [show (⟨g, o, none⟩ : Addr).add j = ⟨g, o + j, none⟩ by simp [Addr.add], show w.cell? ⟨g, o + j, none⟩ = cur[o + j]? by first | exact cell_of_rowG h4 _ | exact cell_of_rowAt h4 _]
  rw [← h6] at hx
  have hm : j % 66 < 66 := Nat.mod_lt _ (by decide)
  rw [Array.getElem?_extract] at hx
  split at hx
  · rw [← hx]
    congr 1
    omega
  · cases hx
/-- A whole list is put behind a list of the call's own. -/
theorem wpList_putsI {ops : Array Oper} {rest : List Oper} {o : Oper} {a : Act} {w : World} {Q : Exit → Act → World → Prop} (hgd : o.guard = none) (s x : Operand)
    (ho : o.op = .call { callee := .builtin .append, args := #[s, x], argTypes := #[22, 22] }) (B : Nat) (v : Value) (L : List Itm) (hs : a.eval s = v) (hown : OwnI w B v L)
    (n0 : Nat) (u : Value) (M : List Itm) (hx : a.eval x = u) (hu : AtI n0 w u M) (hB : B ≤ w.heap.size) (hl : L.length ≤ 1000000) (hl2 : M.length ≤ 500000)
    (h : ∀ v' w', OwnI w' B v' (L ++ M) → w.grownBy w' v.ownBlock → (v'.ownBlock = v.ownBlock ∨ v'.ownBlock = some w.heap.size) → wpList Tryz.prog ops Q rest (a.put o.dst v') w') : wpList Tryz.prog ops Q (o :: rest) a w := by
  obtain ⟨i0, hi, hz0, hz1, hz2⟩ := rowinfo_item
  obtain ⟨ao, cap, hu1, hu2⟩ := id hu
  have key : ∀ (ad : Addr), (∀ j u, (listI M)[j]? = some u → w.cell? (ad.add j) = some u) → u = .slice (some ad) M.length cap → wpList Tryz.prog ops Q (o :: rest) a w := fun ad hc hv => by
    refine wpList_append_own_at (P := Tryz.prog) w hgd s x 22 ho B 55 i0 (.agg (cellsI zeroItm)) 66 80 Tryz.underlying22 hi hz0 hz1 hz2 (by simp [Value.cells]) (by decide) v L.length (listI L) hs hown ad M.length cap (listI M) (hx.trans hv) (listI_length M) hc (listI_one M) (by unfold maxLen; omega) (by omega) hB ?_
    intro v' w' h1 h2 _ h4
    refine h v' w' ?_ h2 h4
    show w'.ownsRow B 55 66 v' (L ++ M).length (listI (L ++ M))
    rw [List.length_append, listI_append]
    exact h1
  by_cases h0 : M = []
  · subst h0
    cases ao with
    | some ad => exact key ad (fun j u hj => by simp [listI] at hj) hu1
    | none =>
      have hrun := run_append_none_len (w := w) Tryz.underlying22 hi hown cap o.type
      refine wpList_plain hgd fun K hK => ?_
      unfold Oper.wp execOp
      simp only [ho, resolve, invoke, builtin, Sem.run_bind, Sem.run_pure, Result.andThen_ok, List.map_toArray, List.map_cons, List.map_nil, hs, hx.trans hu1, List.length_nil, hrun]
      exact hK _ _ (h v w (by rw [List.append_nil]; exact hown) ⟨rfl, rfl, rfl, Nat.le_refl _, fun _ _ _ => rfl⟩ (.inl rfl))
  · obtain ⟨g, o', cur, h3, _⟩ := hu2 0 (List.length_pos_iff.2 h0)
    subst h3
    subst hu1
    exact key _ (AtI.news hu) rfl
theorem ownF_empty (w : World) : OwnF (w.alloc (.cells #[] 46)) w.heap.size (.slice (some ⟨w.heap.size, 0, none⟩) 0 0) [] :=
  ⟨rfl, .inr ⟨w.heap.size, 0, #[], rfl, Nat.le_refl _, heap_alloc_new w _, Nat.le_refl _, Nat.zero_le _, rfl, rfl⟩⟩
theorem build_noneF (w : World) : (Instr.buildSlice 38 0 #[]).run Tryz.prog w = .ok (.slice (some ⟨w.heap.size, 0, none⟩) 0 0) (w.alloc (.cells #[] 46)) := by
  have hu : (underlying 38).run Tryz.prog w = .ok (.slice 46) w := run_underlying Tryz.underlying38 w
  have hs : (sizeOf 46).run Tryz.prog w = .ok 65 w := by kernel_rfl
  unfold Instr.buildSlice
  simp [Sem.run_bind, hu, hs, Instr.fill, newRow]
  exact congrArg (fun c => w.alloc (.cells c 46)) (Array.eq_empty_of_size_eq_zero (by rw [Array.size_map, Array.size_range]))
@[go_sem] theorem run_build_noneF (w : World) : (buildF 38 0 #[]).run Tryz.prog w = .ok (.slice (some ⟨w.heap.size, 0, none⟩) 0 0) (w.alloc (.cells #[] 46)) := build_noneF w
theorem listF_append (L M : List Lf) : listF (L ++ M) = listF L ++ listF M := by simp [listF]
theorem listF_one (L : List Lf) : ∀ u ∈ listF L, u.oneCell' = true := by
  intro u hu
  obtain ⟨a, _, h⟩ := List.mem_flatMap.1 hu
  exact one_of_rowF a u h
theorem listF_get (L : List Lf) (j : Nat) (u : Value) (h : (listF L)[j]? = some u) : j / 65 < L.length ∧ (cellsF (L.getD (j / 65) zeroLf))[j % 65]? = some u := by
  have hj : j < (listF L).length := (List.getElem?_eq_some_iff.1 h).1
  rw [listF_length] at hj
  have hi : j / 65 < L.length := (Nat.div_lt_iff_lt_mul (by decide)).2 hj
  refine ⟨hi, ?_⟩
  have e := listF_at L (j / 65) hi
  have hm : j % 65 < 65 := Nat.mod_lt _ (by decide)
  have q : (((listF L).drop (j / 65 * 65)).take 65)[j % 65]? = some u := by
    rw [List.getElem?_take, if_pos hm, List.getElem?_drop, show j / 65 * 65 + j % 65 = j by omega]
    exact h
  rw [e, Array.getElem?_toList] at q
  exact q
theorem AtF.news {n0 : Nat} {w : World} {g o cap n : Nat} {L : List Lf} (h : AtF n0 w (.slice (some ⟨g, o, none⟩) n cap) L) : ∀ j u, (listF L)[j]? = some u → w.cell? ((⟨g, o, none⟩ : Addr).add j) = some u := by
  intro j u hu
  obtain ⟨hi, hx⟩ := listF_get L j u hu
  obtain ⟨ao, cap', e, h2⟩ := h
  obtain ⟨g', o', cur, h3, _, h4, h5, h6⟩ := h2 _ hi
  injection e with e1 e2 e3
  rw [← e1] at h3
  cases h3
  rw [show (⟨g, o, none⟩ : Addr).add j = ⟨g, o + j, none⟩ by simp [Addr.add], show w.cell? ⟨g, o + j, none⟩ = cur[o + j]? by first | exact cell_of_rowG h4 _ | exact cell_of_rowAt h4 _]
  rw [← h6] at hx
  have hm : j % 65 < 65 := Nat.mod_lt _ (by decide)
  rw [Array.getElem?_extract] at hx
  split at hx
  · rw [← hx]
    congr 1
    omega
  · cases hx
/-- A whole list is put behind a list of the call's own. -/
theorem wpList_putsF {ops : Array Oper} {rest : List Oper} {o : Oper} {a : Act} {w : World} {Q : Exit → Act → World → Prop} (hgd : o.guard = none) (s x : Operand)
    (ho : o.op = .call { callee := .builtin .append, args := #[s, x], argTypes := #[38, 38] }) (B : Nat) (v : Value) (L : List Lf) (hs : a.eval s = v) (hown : OwnF w B v L)
    (n0 : Nat) (u : Value) (M : List Lf) (hx : a.eval x = u) (hu : AtF n0 w u M) (hB : B ≤ w.heap.size) (hl : L.length ≤ 1000000) (hl2 : M.length ≤ 500000)
    (h : ∀ v' w', OwnF w' B v' (L ++ M) → w.grownBy w' v.ownBlock → (v'.ownBlock = v.ownBlock ∨ v'.ownBlock = some w.heap.size) → wpList Tryz.prog ops Q rest (a.put o.dst v') w') : wpList Tryz.prog ops Q (o :: rest) a w := by
  obtain ⟨i0, hi, hz0, hz1, hz2⟩ := rowinfo_leaf
  obtain ⟨ao, cap, hu1, hu2⟩ := id hu
  have key : ∀ (ad : Addr), (∀ j u, (listF M)[j]? = some u → w.cell? (ad.add j) = some u) → u = .slice (some ad) M.length cap → wpList Tryz.prog ops Q (o :: rest) a w := fun ad hc hv => by
    refine wpList_append_own_at (P := Tryz.prog) w hgd s x 38 ho B 46 i0 (.agg (cellsF zeroLf)) 65 72 Tryz.underlying38 hi hz0 hz1 hz2 (by simp [Value.cells]) (by decide) v L.length (listF L) hs hown ad M.length cap (listF M) (hx.trans hv) (listF_length M) hc (listF_one M) (by unfold maxLen; omega) (by omega) hB ?_
    intro v' w' h1 h2 _ h4
    refine h v' w' ?_ h2 h4
    show w'.ownsRow B 46 65 v' (L ++ M).length (listF (L ++ M))
    rw [List.length_append, listF_append]
    exact h1
  by_cases h0 : M = []
  · subst h0
    cases ao with
    | some ad => exact key ad (fun j u hj => by simp [listF] at hj) hu1
    | none =>
      have hrun := run_append_none_len (w := w) Tryz.underlying38 hi hown cap o.type
      refine wpList_plain hgd fun K hK => ?_
      unfold Oper.wp execOp
      simp only [ho, resolve, invoke, builtin, Sem.run_bind, Sem.run_pure, Result.andThen_ok, List.map_toArray, List.map_cons, List.map_nil, hs, hx.trans hu1, List.length_nil, hrun]
      exact hK _ _ (h v w (by rw [List.append_nil]; exact hown) ⟨rfl, rfl, rfl, Nat.le_refl _, fun _ _ _ => rfl⟩ (.inl rfl))
  · obtain ⟨g, o', cur, h3, _⟩ := hu2 0 (List.length_pos_iff.2 h0)
    subst h3
    subst hu1
    exact key _ (AtF.news hu) rfl
theorem ownL_empty (w : World) : OwnL (w.alloc (.cells #[] 27)) w.heap.size (.slice (some ⟨w.heap.size, 0, none⟩) 0 0) [] :=
  ⟨rfl, .inr ⟨w.heap.size, 0, #[], rfl, Nat.le_refl _, heap_alloc_new w _, Nat.le_refl _, Nat.zero_le _, rfl, rfl⟩⟩
theorem build_noneL (w : World) : (Instr.buildSlice 39 0 #[]).run Tryz.prog w = .ok (.slice (some ⟨w.heap.size, 0, none⟩) 0 0) (w.alloc (.cells #[] 27)) := by
  have hu : (underlying 39).run Tryz.prog w = .ok (.slice 27) w := run_underlying Tryz.underlying39 w
  have hs : (sizeOf 27).run Tryz.prog w = .ok 32 w := by kernel_rfl
  unfold Instr.buildSlice
  simp [Sem.run_bind, hu, hs, Instr.fill, newRow]
  exact congrArg (fun c => w.alloc (.cells c 27)) (Array.eq_empty_of_size_eq_zero (by rw [Array.size_map, Array.size_range]))
@[go_sem] theorem run_build_noneL (w : World) : (buildL 39 0 #[]).run Tryz.prog w = .ok (.slice (some ⟨w.heap.size, 0, none⟩) 0 0) (w.alloc (.cells #[] 27)) := build_noneL w
theorem listL_append (L M : List Lab) : listL (L ++ M) = listL L ++ listL M := by simp [listL]
theorem listL_one (L : List Lab) : ∀ u ∈ listL L, u.oneCell' = true := by
  intro u hu
  obtain ⟨a, _, h⟩ := List.mem_flatMap.1 hu
  exact one_of_rowL a u h
theorem listL_get (L : List Lab) (j : Nat) (u : Value) (h : (listL L)[j]? = some u) : j / 32 < L.length ∧ (cellsL (L.getD (j / 32) zeroLab))[j % 32]? = some u := by
  have hj : j < (listL L).length := (List.getElem?_eq_some_iff.1 h).1
  rw [listL_length] at hj
  have hi : j / 32 < L.length := (Nat.div_lt_iff_lt_mul (by decide)).2 hj
  refine ⟨hi, ?_⟩
  have e := listL_at L (j / 32) hi
  have hm : j % 32 < 32 := Nat.mod_lt _ (by decide)
  have q : (((listL L).drop (j / 32 * 32)).take 32)[j % 32]? = some u := by
    rw [List.getElem?_take, if_pos hm, List.getElem?_drop, show j / 32 * 32 + j % 32 = j by omega]
    exact h
  rw [e, Array.getElem?_toList] at q
  exact q
theorem AtL.news {n0 : Nat} {w : World} {g o cap n : Nat} {L : List Lab} (h : AtL n0 w (.slice (some ⟨g, o, none⟩) n cap) L) : ∀ j u, (listL L)[j]? = some u → w.cell? ((⟨g, o, none⟩ : Addr).add j) = some u := by
  intro j u hu
  obtain ⟨hi, hx⟩ := listL_get L j u hu
  obtain ⟨ao, cap', e, h2⟩ := h
  obtain ⟨g', o', cur, h3, _, h4, h5, h6⟩ := h2 _ hi
  injection e with e1 e2 e3
  rw [← e1] at h3
  cases h3
  rw [show (⟨g, o, none⟩ : Addr).add j = ⟨g, o + j, none⟩ by simp [Addr.add], show w.cell? ⟨g, o + j, none⟩ = cur[o + j]? by first | exact cell_of_rowG h4 _ | exact cell_of_rowAt h4 _]
  rw [← h6] at hx
  have hm : j % 32 < 32 := Nat.mod_lt _ (by decide)
  rw [Array.getElem?_extract] at hx
  split at hx
  · rw [← hx]
    congr 1
    omega
  · cases hx
/-- A whole list is put behind a list of the call's own. -/
theorem wpList_putsL {ops : Array Oper} {rest : List Oper} {o : Oper} {a : Act} {w : World} {Q : Exit → Act → World → Prop} (hgd : o.guard = none) (s x : Operand)
    (ho : o.op = .call { callee := .builtin .append, args := #[s, x], argTypes := #[39, 39] }) (B : Nat) (v : Value) (L : List Lab) (hs : a.eval s = v) (hown : OwnL w B v L)
    (n0 : Nat) (u : Value) (M : List Lab) (hx : a.eval x = u) (hu : AtL n0 w u M) (hB : B ≤ w.heap.size) (hl : L.length ≤ 1000000) (hl2 : M.length ≤ 500000)
    (h : ∀ v' w', OwnL w' B v' (L ++ M) → w.grownBy w' v.ownBlock → (v'.ownBlock = v.ownBlock ∨ v'.ownBlock = some w.heap.size) → wpList Tryz.prog ops Q rest (a.put o.dst v') w') : wpList Tryz.prog ops Q (o :: rest) a w := by
  obtain ⟨i0, hi, hz0, hz1, hz2⟩ := rowinfo_lab
  obtain ⟨ao, cap, hu1, hu2⟩ := id hu
  have key : ∀ (ad : Addr), (∀ j u, (listL M)[j]? = some u → w.cell? (ad.add j) = some u) → u = .slice (some ad) M.length cap → wpList Tryz.prog ops Q (o :: rest) a w := fun ad hc hv => by
    refine wpList_append_own_at (P := Tryz.prog) w hgd s x 39 ho B 27 i0 (.agg (cellsL zeroLab)) 32 32 Tryz.underlying39 hi hz0 hz1 hz2 (by simp [Value.cells]) (by decide) v L.length (listL L) hs hown ad M.length cap (listL M) (hx.trans hv) (listL_length M) hc (listL_one M) (by unfold maxLen; omega) (by omega) hB ?_
    intro v' w' h1 h2 _ h4
    refine h v' w' ?_ h2 h4
    show w'.ownsRow B 27 32 v' (L ++ M).length (listL (L ++ M))
    rw [List.length_append, listL_append]
    exact h1
  by_cases h0 : M = []
  · subst h0
    cases ao with
    | some ad => exact key ad (fun j u hj => by simp [listL] at hj) hu1
    | none =>
      have hrun := run_append_none_len (w := w) Tryz.underlying39 hi hown cap o.type
      refine wpList_plain hgd fun K hK => ?_
      unfold Oper.wp execOp
      simp only [ho, resolve, invoke, builtin, Sem.run_bind, Sem.run_pure, Result.andThen_ok, List.map_toArray, List.map_cons, List.map_nil, hs, hx.trans hu1, List.length_nil, hrun]
      exact hK _ _ (h v w (by rw [List.append_nil]; exact hown) ⟨rfl, rfl, rfl, Nat.le_refl _, fun _ _ _ => rfl⟩ (.inl rfl))
  · obtain ⟨g, o', cur, h3, _⟩ := hu2 0 (List.length_pos_iff.2 h0)
    subst h3
    subst hu1
    exact key _ (AtL.news hu) rfl
theorem ownJ_empty (w : World) : OwnJ (w.alloc (.cells #[] 66)) w.heap.size (.slice (some ⟨w.heap.size, 0, none⟩) 0 0) [] :=
  ⟨rfl, .inr ⟨w.heap.size, 0, #[], rfl, Nat.le_refl _, heap_alloc_new w _, Nat.le_refl _, Nat.zero_le _, rfl, rfl⟩⟩
theorem build_noneJ (w : World) : (Instr.buildSlice 23 0 #[]).run Tryz.prog w = .ok (.slice (some ⟨w.heap.size, 0, none⟩) 0 0) (w.alloc (.cells #[] 66)) := by
  have hu : (underlying 23).run Tryz.prog w = .ok (.slice 66) w := run_underlying Tryz.underlying23 w
  have hs : (sizeOf 66).run Tryz.prog w = .ok 66 w := by kernel_rfl
  unfold Instr.buildSlice
  simp [Sem.run_bind, hu, hs, Instr.fill, newRow]
  exact congrArg (fun c => w.alloc (.cells c 66)) (Array.eq_empty_of_size_eq_zero (by rw [Array.size_map, Array.size_range]))
@[go_sem] theorem run_build_noneJ (w : World) : (buildJ 23 0 #[]).run Tryz.prog w = .ok (.slice (some ⟨w.heap.size, 0, none⟩) 0 0) (w.alloc (.cells #[] 66)) := build_noneJ w
theorem listJ_append (L M : List Itm) : listJ (L ++ M) = listJ L ++ listJ M := by simp [listJ]
theorem listJ_one (L : List Itm) : ∀ u ∈ listJ L, u.oneCell' = true := by
  intro u hu
  obtain ⟨a, _, h⟩ := List.mem_flatMap.1 hu
  exact one_of_rowJ a u h
theorem listJ_get (L : List Itm) (j : Nat) (u : Value) (h : (listJ L)[j]? = some u) : j / 66 < L.length ∧ (cellsI (L.getD (j / 66) zeroItm))[j % 66]? = some u := by
  have hj : j < (listJ L).length := (List.getElem?_eq_some_iff.1 h).1
  rw [listJ_length] at hj
  have hi : j / 66 < L.length := (Nat.div_lt_iff_lt_mul (by decide)).2 hj
  refine ⟨hi, ?_⟩
  have e := listJ_at L (j / 66) hi
  have hm : j % 66 < 66 := Nat.mod_lt _ (by decide)
  have q : (((listJ L).drop (j / 66 * 66)).take 66)[j % 66]? = some u := by
    rw [List.getElem?_take, if_pos hm, List.getElem?_drop, show j / 66 * 66 + j % 66 = j by omega]
    exact h
  rw [e, Array.getElem?_toList] at q
  exact q
theorem AtJ.news {n0 : Nat} {w : World} {g o cap n : Nat} {L : List Itm} (h : AtJ n0 w (.slice (some ⟨g, o, none⟩) n cap) L) : ∀ j u, (listJ L)[j]? = some u → w.cell? ((⟨g, o, none⟩ : Addr).add j) = some u := by
  intro j u hu
  obtain ⟨hi, hx⟩ := listJ_get L j u hu
  obtain ⟨ao, cap', e, h2⟩ := h
  obtain ⟨g', o', cur, h3, _, h4, h5, h6⟩ := h2 _ hi
  injection e with e1 e2 e3
  rw [← e1] at h3
  cases h3
  rw [show (⟨g, o, none⟩ : Addr).add j = ⟨g, o + j, none⟩ by simp [Addr.add], show w.cell? ⟨g, o + j, none⟩ = cur[o + j]? by first | exact cell_of_rowG h4 _ | exact cell_of_rowAt h4 _]
  rw [← h6] at hx
  have hm : j % 66 < 66 := Nat.mod_lt _ (by decide)
  rw [Array.getElem?_extract] at hx
  split at hx
  · rw [← hx]
    congr 1
    omega
  · cases hx
/-- A whole list is put behind a list of the call's own. -/
theorem wpList_putsJ {ops : Array Oper} {rest : List Oper} {o : Oper} {a : Act} {w : World} {Q : Exit → Act → World → Prop} (hgd : o.guard = none) (s x : Operand)
    (ho : o.op = .call { callee := .builtin .append, args := #[s, x], argTypes := #[23, 23] }) (B : Nat) (v : Value) (L : List Itm) (hs : a.eval s = v) (hown : OwnJ w B v L)
    (n0 : Nat) (u : Value) (M : List Itm) (hx : a.eval x = u) (hu : AtJ n0 w u M) (hB : B ≤ w.heap.size) (hl : L.length ≤ 1000000) (hl2 : M.length ≤ 500000)
    (h : ∀ v' w', OwnJ w' B v' (L ++ M) → w.grownBy w' v.ownBlock → (v'.ownBlock = v.ownBlock ∨ v'.ownBlock = some w.heap.size) → wpList Tryz.prog ops Q rest (a.put o.dst v') w') : wpList Tryz.prog ops Q (o :: rest) a w := by
  obtain ⟨i0, hi, hz0, hz1, hz2⟩ := rowinfo_ritem
  obtain ⟨ao, cap, hu1, hu2⟩ := id hu
  have key : ∀ (ad : Addr), (∀ j u, (listJ M)[j]? = some u → w.cell? (ad.add j) = some u) → u = .slice (some ad) M.length cap → wpList Tryz.prog ops Q (o :: rest) a w := fun ad hc hv => by
    refine wpList_append_own_at (P := Tryz.prog) w hgd s x 23 ho B 66 i0 (.agg (cellsI zeroItm)) 66 80 Tryz.underlying23 hi hz0 hz1 hz2 (by simp [Value.cells]) (by decide) v L.length (listJ L) hs hown ad M.length cap (listJ M) (hx.trans hv) (listJ_length M) hc (listJ_one M) (by unfold maxLen; omega) (by omega) hB ?_
    intro v' w' h1 h2 _ h4
    refine h v' w' ?_ h2 h4
    show w'.ownsRow B 66 66 v' (L ++ M).length (listJ (L ++ M))
    rw [List.length_append, listJ_append]
    exact h1
  by_cases h0 : M = []
  · subst h0
    cases ao with
    | some ad => exact key ad (fun j u hj => by simp [listJ] at hj) hu1
    | none =>
      have hrun := run_append_none_len (w := w) Tryz.underlying23 hi hown cap o.type
      refine wpList_plain hgd fun K hK => ?_
      unfold Oper.wp execOp
      simp only [ho, resolve, invoke, builtin, Sem.run_bind, Sem.run_pure, Result.andThen_ok, List.map_toArray, List.map_cons, List.map_nil, hs, hx.trans hu1, List.length_nil, hrun]
      exact hK _ _ (h v w (by rw [List.append_nil]; exact hown) ⟨rfl, rfl, rfl, Nat.le_refl _, fun _ _ _ => rfl⟩ (.inl rfl))
  · obtain ⟨g, o', cur, h3, _⟩ := hu2 0 (List.length_pos_iff.2 h0)
    subst h3
    subst hu1
    exact key _ (AtJ.news hu) rfl
theorem ownG_empty (w : World) : OwnG (w.alloc (.cells #[] 64)) w.heap.size (.slice (some ⟨w.heap.size, 0, none⟩) 0 0) [] :=
  ⟨rfl, .inr ⟨w.heap.size, 0, #[], rfl, Nat.le_refl _, heap_alloc_new w _, Nat.le_refl _, Nat.zero_le _, rfl, rfl⟩⟩
theorem build_noneG (w : World) : (Instr.buildSlice 50 0 #[]).run Tryz.prog w = .ok (.slice (some ⟨w.heap.size, 0, none⟩) 0 0) (w.alloc (.cells #[] 64)) := by
  have hu : (underlying 50).run Tryz.prog w = .ok (.slice 64) w := run_underlying Tryz.underlying50 w
  have hs : (sizeOf 64).run Tryz.prog w = .ok 65 w := by kernel_rfl
  unfold Instr.buildSlice
  simp [Sem.run_bind, hu, hs, Instr.fill, newRow]
  exact congrArg (fun c => w.alloc (.cells c 64)) (Array.eq_empty_of_size_eq_zero (by rw [Array.size_map, Array.size_range]))
@[go_sem] theorem run_build_noneG (w : World) : (buildG 50 0 #[]).run Tryz.prog w = .ok (.slice (some ⟨w.heap.size, 0, none⟩) 0 0) (w.alloc (.cells #[] 64)) := build_noneG w
theorem listG_append (L M : List Lf) : listG (L ++ M) = listG L ++ listG M := by simp [listG]
theorem listG_one (L : List Lf) : ∀ u ∈ listG L, u.oneCell' = true := by
  intro u hu
  obtain ⟨a, _, h⟩ := List.mem_flatMap.1 hu
  exact one_of_rowG a u h
theorem listG_get (L : List Lf) (j : Nat) (u : Value) (h : (listG L)[j]? = some u) : j / 65 < L.length ∧ (cellsF (L.getD (j / 65) zeroLf))[j % 65]? = some u := by
  have hj : j < (listG L).length := (List.getElem?_eq_some_iff.1 h).1
  rw [listG_length] at hj
  have hi : j / 65 < L.length := (Nat.div_lt_iff_lt_mul (by decide)).2 hj
  refine ⟨hi, ?_⟩
  have e := listG_at L (j / 65) hi
  have hm : j % 65 < 65 := Nat.mod_lt _ (by decide)
  have q : (((listG L).drop (j / 65 * 65)).take 65)[j % 65]? = some u := by
    rw [List.getElem?_take, if_pos hm, List.getElem?_drop, show j / 65 * 65 + j % 65 = j by omega]
    exact h
  rw [e, Array.getElem?_toList] at q
  exact q
theorem AtG.news {n0 : Nat} {w : World} {g o cap n : Nat} {L : List Lf} (h : AtG n0 w (.slice (some ⟨g, o, none⟩) n cap) L) : ∀ j u, (listG L)[j]? = some u → w.cell? ((⟨g, o, none⟩ : Addr).add j) = some u := by
  intro j u hu
  obtain ⟨hi, hx⟩ := listG_get L j u hu
  obtain ⟨ao, cap', e, h2⟩ := h
  obtain ⟨g', o', cur, h3, _, h4, h5, h6⟩ := h2 _ hi
  injection e with e1 e2 e3
  rw [← e1] at h3
  cases h3
  rw [show (⟨g, o, none⟩ : Addr).add j = ⟨g, o + j, none⟩ by simp [Addr.add], show w.cell? ⟨g, o + j, none⟩ = cur[o + j]? by first | exact cell_of_rowG h4 _ | exact cell_of_rowAt h4 _]
  rw [← h6] at hx
  have hm : j % 65 < 65 := Nat.mod_lt _ (by decide)
  rw [Array.getElem?_extract] at hx
  split at hx
  · rw [← hx]
    congr 1
    omega
  · cases hx
/-- A whole list is put behind a list of the call's own. -/
theorem wpList_putsG {ops : Array Oper} {rest : List Oper} {o : Oper} {a : Act} {w : World} {Q : Exit → Act → World → Prop} (hgd : o.guard = none) (s x : Operand)
    (ho : o.op = .call { callee := .builtin .append, args := #[s, x], argTypes := #[50, 50] }) (B : Nat) (v : Value) (L : List Lf) (hs : a.eval s = v) (hown : OwnG w B v L)
    (n0 : Nat) (u : Value) (M : List Lf) (hx : a.eval x = u) (hu : AtG n0 w u M) (hB : B ≤ w.heap.size) (hl : L.length ≤ 1000000) (hl2 : M.length ≤ 500000)
    (h : ∀ v' w', OwnG w' B v' (L ++ M) → w.grownBy w' v.ownBlock → (v'.ownBlock = v.ownBlock ∨ v'.ownBlock = some w.heap.size) → wpList Tryz.prog ops Q rest (a.put o.dst v') w') : wpList Tryz.prog ops Q (o :: rest) a w := by
  obtain ⟨i0, hi, hz0, hz1, hz2⟩ := rowinfo_rleaf
  obtain ⟨ao, cap, hu1, hu2⟩ := id hu
  have key : ∀ (ad : Addr), (∀ j u, (listG M)[j]? = some u → w.cell? (ad.add j) = some u) → u = .slice (some ad) M.length cap → wpList Tryz.prog ops Q (o :: rest) a w := fun ad hc hv => by
    refine wpList_append_own_at (P := Tryz.prog) w hgd s x 50 ho B 64 i0 (.agg (cellsF zeroLf)) 65 72 Tryz.underlying50 hi hz0 hz1 hz2 (by simp [Value.cells]) (by decide) v L.length (listG L) hs hown ad M.length cap (listG M) (hx.trans hv) (listG_length M) hc (listG_one M) (by unfold maxLen; omega) (by omega) hB ?_
    intro v' w' h1 h2 _ h4
    refine h v' w' ?_ h2 h4
    show w'.ownsRow B 64 65 v' (L ++ M).length (listG (L ++ M))
    rw [List.length_append, listG_append]
    exact h1
  by_cases h0 : M = []
  · subst h0
    cases ao with
    | some ad => exact key ad (fun j u hj => by simp [listG] at hj) hu1
    | none =>
      have hrun := run_append_none_len (w := w) Tryz.underlying50 hi hown cap o.type
      refine wpList_plain hgd fun K hK => ?_
      unfold Oper.wp execOp
      simp only [ho, resolve, invoke, builtin, Sem.run_bind, Sem.run_pure, Result.andThen_ok, List.map_toArray, List.map_cons, List.map_nil, hs, hx.trans hu1, List.length_nil, hrun]
      exact hK _ _ (h v w (by rw [List.append_nil]; exact hown) ⟨rfl, rfl, rfl, Nat.le_refl _, fun _ _ _ => rfl⟩ (.inl rfl))
  · obtain ⟨g, o', cur, h3, _⟩ := hu2 0 (List.length_pos_iff.2 h0)
    subst h3
    subst hu1
    exact key _ (AtG.news hu) rfl
end Go.Proofs.YtppgmphojklaeaaGreatDoor
