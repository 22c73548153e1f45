/- Texts that the next ones stand on: Lists, ShaRef1, Read, Copy, Builder, Code1, Code2, NumMath, Ref2n, Free, Wild, Math2. -/
import Derived.Test.YtmabigcolabbmaaGreatDoorPa7
import Derived.Deep.Strs
import Derived.Maps.AppendAt
import Derived.BigRegion
import Derived.Deep.DeepCutAuto
import Derived.Laws.CopyOwn
import Derived.Lib.IndexLaws
import Derived.Test.YtmabigcolabbmaaGreatDoorRows
import Derived.WalkLawsBesides
import Derived.Lib.Builder
import Derived.Lib.OthersKept
import Derived.Shelf.Strings.Builder1
import Derived.Laws.IdiomStrings
import Derived.Laws.BytesArg
import Derived.Lib.BitFns
import Derived.StillTail
namespace Go.Proofs.YtmabigcolabbmaaGreatDoor
open Go Go.ChangeShapes Go.WideShapes Go.ChangeAt Go.RowKit

/-- A list of texts that came in. -/
def InStrs (w : World) (v : Value) (len : Nat) (S : Nat → ByteArray) : Prop :=
  ∃ ao cap, v = .slice ao len cap ∧ ∀ i, i < len → ∃ a, ao = some a ∧ w.cell? (a.add i) = some (.string (S i))
theorem in_strs {P : Program} {H : Type} {enc : TypeId × Value → H} {W : World} {sp : Nat → Bool} {held : Bool} {base t e : TypeId} {v : Value} {d : DataW H} {p : List MemPlace} (ht : P.underlying t = some (.slice e)) (he : P.underlying e = some .string) (ce : P.cellsOf e = 1) (hval : Value.okWide P W .any base t v) (hd : DataW.Trod enc P W 0 sp held t v d p) :
    ∃ (len : Nat) (S : Nat → ByteArray), InStrs W v len S := by
  obtain ⟨ao, len, cap, rfl⟩ := okWide_slice ht hval
  obtain ⟨fuel, hf⟩ := hd
  rcases Deep.open_strs ht he ce hf with ⟨h, _⟩ | ⟨a, len', cap', m, S, hcs, _, hl, hm, hmm, _, hx⟩
  · have hc : ao = none ∧ len = 0 ∧ cap = 0 := by simpa [Value.cells] using h
    obtain ⟨rfl, rfl, rfl⟩ := hc
    exact ⟨0, fun _ => ⟨#[]⟩, none, 0, rfl, fun i hi => absurd hi (Nat.not_lt_zero i)⟩
  · have hc : (ao = some a ∧ len = len' ∧ cap = cap') := by simpa [Value.cells] using hcs
    obtain ⟨rfl, rfl, rfl⟩ := hc
    have hlm : len ≤ m := by rw [hmm]; split <;> omega
    exact ⟨len, S, some a, cap, rfl, fun i hi => ⟨a, rfl, (hx i (by omega)).1⟩⟩
/-- A byte that came in. -/
theorem in_byte {P : Program} {H : Type} {enc : TypeId × Value → H} {W : World} {sp : Nat → Bool} {held : Bool} {base t : TypeId} {v : Value} {d : DataW H} {p : List MemPlace} (hu : P.underlying t = some (.int .u8)) (hval : Value.okWide P W .any base t v) (hd : DataW.Trod enc P W 0 sp held t v d p) :
    ∃ c : UInt8, v = .int .u8 (c.toNat : Int) := by
  obtain ⟨n, rfl, _, _, w0⟩ := open_int hu hval hd
  obtain ⟨h0, h1⟩ := wf_u8 w0
  exact ⟨UInt8.ofNat n.toNat, congrArg (Value.int .u8) (byte_of_int h0 (by omega)).symm⟩
theorem cellsOf_string : Tryz.prog.cellsOf 9 = 1 := by kernel_rfl
theorem InStrs.below {w w' : World} {v : Value} {len : Nat} {S : Nat → ByteArray} (h : InStrs w v len S) (k : Below w.heap.size w w') : InStrs w' v len S := by
  obtain ⟨ao, cap, h1, h2⟩ := h
  refine ⟨ao, cap, h1, fun i hi => ?_⟩
  obtain ⟨a, h3, h4⟩ := h2 i hi
  exact ⟨a, h3, (k.cell (p := a.add i) (cellLt h4)).trans h4⟩
theorem one_cell {w : World} {T : TypeId} (x : Value) : ∀ j u, [x][j]? = some u → (w.alloc (.cells #[x] T)).cell? ((⟨w.heap.size, 0, none⟩ : Addr).add j) = some u := by
  intro j u hu
  have hj : j = 0 := by
    have := (List.getElem?_eq_some_iff.1 hu).1
    simpa using this
  subst hj
  have hu2 : x = u := by simpa using hu
  rw [← hu2, show (⟨w.heap.size, 0, none⟩ : Addr).add 0 = ⟨w.heap.size, 0, none⟩ by simp [Addr.add]]
  exact cell_of_rowAt (rowAt_alloc_at w #[x] T _ rfl) 0

/-- The first m texts, cut. -/
def cutsL (S : Nat → ByteArray) (c m : Nat) : List (List UInt8) := (List.range m).map fun i => (S i).data.toList.take c
theorem cutsL_length (S : Nat → ByteArray) (c m : Nat) : (cutsL S c m).length = m := by simp [cutsL]
theorem cutsL_succ (S : Nat → ByteArray) (c m : Nat) : cutsL S c (m + 1) = cutsL S c m ++ [(S m).data.toList.take c] := by simp [cutsL, List.range_succ]
theorem cutsL_short (S : Nat → ByteArray) (c m : Nat) : ∀ t ∈ cutsL S c m, t.length ≤ c := by
  intro t ht
  obtain ⟨i, _, rfl⟩ := List.mem_map.1 ht
  exact List.length_take_le _ _
theorem cutsL_get (S : Nat → ByteArray) (c m i : Nat) (h : i < m) : (cutsL S c m).getD i [] = (S i).data.toList.take c := by
  rw [List.getD_eq_getElem?_getD, cutsL, List.getElem?_map, List.getElem?_range h]
  rfl
/-- An empty list of the call's own, in a block that is behind others. -/
theorem ownStrs_new (w : World) (B n : Nat) (hn : n = w.heap.size) (hB : B ≤ n) : OwnStrs (w.alloc (.cells #[] 9)) B (.slice (some ⟨n, 0, none⟩) 0 0) [] := by
  subst hn
  exact ⟨rfl, .inr ⟨w.heap.size, 0, #[], rfl, hB, heap_alloc_new w _, Nat.le_refl _, Nat.zero_le _, rfl, rfl⟩⟩

/-- A text is put behind a list of the call's own. -/
theorem wpList_put_text {ops : Array Oper} {rest : List Oper} {o : Oper} {a : Act} {w : World} {Q : Exit → Act → World → Prop} (hgd : o.guard = none) (s x : Operand)
    (ho : o.op = .call { callee := .builtin .append, args := #[s, x], argTypes := #[127, 127] }) (B : Nat) (v : Value) (ts : List (List UInt8)) (hs : a.eval s = v) (hown : OwnStrs w B v ts)
    (t : List UInt8) (ad : Addr) (c : Nat) (hx : a.eval x = .slice (some ad) 1 c) (hcell : w.cell? ad = some (.string (stx t))) (hB : B ≤ w.heap.size) (hl : ts.length ≤ 1000000)
    (h : ∀ v' w', OwnStrs w' B v' (ts ++ [t]) → w.grownBy w' v.ownBlock → (v'.ownBlock = v.ownBlock ∨ v'.ownBlock = some w.heap.size) → wpList Tryz.prog ops Q rest (a.put o.dst v') w') : wpList Tryz.prog ops Q (o :: rest) a w := by
  obtain ⟨i0, hi, hz0, hz1, hz2⟩ := info_str
  refine wpList_append_own_at (P := Tryz.prog) w hgd s x 127 ho B 9 i0 (.string ⟨#[]⟩) 1 16 Tryz.underlying127 hi hz0 hz1 hz2 rfl (by decide) v ts.length (strCells ts) hs hown ad 1 c [.string (stx t)] hx rfl ?_ ?_ (by unfold maxLen; omega) (by omega) hB ?_
  · intro j u hu
    have hj : j = 0 := by
      have := (List.getElem?_eq_some_iff.1 hu).1
      simpa using this
    subst hj
    have hu2 : Value.string (stx t) = u := by simpa using hu
    rw [← hu2, show ad.add 0 = ad by simp [Addr.add]]
    exact hcell
  · intro u hu
    have hu2 : u = Value.string (stx t) := by simpa using hu
    rw [hu2]
    rfl
  · intro v' w' h1 h2 _ h4
    refine h v' w' ?_ h2 h4
    show w'.ownsRow B 9 1 v' (ts ++ [t]).length (strCells (ts ++ [t]))
    rw [List.length_append, ← strCells_put]
    exact h1
/-- Two lists lie in two blocks. -/
def Apart (v u : Value) : Prop := ∀ g, v.ownBlock = some g → u.ownBlock ≠ some g
theorem Apart.symm {v u : Value} (h : Apart v u) : Apart u v := fun g h1 h2 => h g h2 h1
theorem Apart.grow {w : World} {B : Nat} {v v' u : Value} {us : List (List UInt8)} {N : Nat} (h : Apart v u) (hu : OwnStrs w B u us) (hat : v'.ownBlock = v.ownBlock ∨ v'.ownBlock = some N) (hN : w.heap.size ≤ N) : Apart v' u := by
  intro g h1 h2
  rcases hat with e | e
  · exact h g (e ▸ h1) h2
  · rw [e] at h1
    have := (World.ownsRow.lt hu g h2).2
    simp only [Option.some.injEq] at h1
    omega
theorem OwnStrs.apart {w w' : World} {B : Nat} {v u : Value} {us : List (List UInt8)} (hu : OwnStrs w B u us) (h : Apart v u) (hg : w.grownBy w' v.ownBlock) : OwnStrs w' B u us := by
  refine World.ownsRow.kept hu hg ?_
  cases hq : u.ownBlock with
  | none => exact .inl rfl
  | some g => exact .inr (fun e => h g e.symm hq)
theorem OwnStrs.grown {w w' : World} {B : Nat} {v : Value} {ts : List (List UInt8)} {a : World} (h : OwnStrs w B v ts) (hg : w.grownBy w' v.ownBlock) (b : Below B a w) (hB : B ≤ w.heap.size) : Below B a w' :=
  b.grown hg hB (fun k hk => (World.ownsRow.lt h k hk).1)

theorem take_alike {ts us : List (List UInt8)} {i : Nat} (h : ts.take i = us.take i) (h1 : i < ts.length) (h2 : i < us.length) (he : ts.getD i [] = us.getD i []) : ts.take (i + 1) = us.take (i + 1) := by
  rw [List.take_succ_eq_append_getElem h1, List.take_succ_eq_append_getElem h2, h]
  congr 2
  rw [List.getD_eq_getElem?_getD, List.getElem?_eq_getElem h1, List.getD_eq_getElem?_getD, List.getElem?_eq_getElem h2] at he
  exact he

end Go.Proofs.YtmabigcolabbmaaGreatDoor
namespace Go.Proofs.YtmabigcolabbmaaGreatDoor
open Go Go.RowKit

theorem wv_byte (x : UInt32) : IntKind.u8.wrap (wv x) = wv x % 256 := rfl
theorem conv_four (x : UInt32) (w : World) (b : Nat) (hb : b = w.heap.size) : (convert 105 9 (.slice (some ⟨b, 0, none⟩) 4 4)).run Tryz.prog (w.alloc (.cells (bcells (oct x)) 5)) = .ok (.string (stx (oct x))) (w.alloc (.cells (bcells (oct x)) 5)) := by
  subst hb
  refine run_convert_bytes_back _ _ _ _ ⟨w.heap.size, 0, none⟩ 4 (oct x) Tryz.underlying105 Tryz.underlying5 Tryz.underlying9 fun j hj => ?_
  rw [show (⟨w.heap.size, 0, none⟩ : Addr).add j = ⟨w.heap.size, j, none⟩ by simp [Addr.add]; exact fun e => e.symm, cell_of_rowAt (rowAt_alloc_at w _ 5 _ rfl)]
  simp only [bcells, List.getElem?_toArray]
  rw [List.getElem?_map, List.getElem?_eq_getElem hj]
  rfl
set_option maxRecDepth 100000 in
set_option maxHeartbeats 2000000 in
theorem r3Bytes_any (c : UInt8) (v : Value) (ts : List (List UInt8)) (w : World) (hv : StrsAt w v ts) (hn : ts.length ≤ 8) (hlen : ∀ t ∈ ts, t.length ≤ 100) :
    Calls Tryz.prog 84 #[.int .u8 (c.toNat : Int), v] w fun e w' => e = .returned (.string (stx (joinL c ts))) ∧ Below w.heap.size w w' := by
  obtain ⟨ao, cap, rfl, hat⟩ := hv
  have HAT := Lib.hid hat
  have HC := conv_one c w _ rfl
  have HLEN := Lib.hid hlen
  obtain ⟨n, hN⟩ : ∃ n, ts.length = n := ⟨_, rfl⟩
  have HN := Lib.hid hN
  rw [hN] at hn ⊢
  have hn8 : (n : Int) ≤ 8 := by omega
  have hc0 : (0 : Int) ≤ c.toNat := by omega
  have hc1 : (c.toNat : Int) < 256 := by have := c.toNat_lt; omega
  have H0 : Hid ([c] = joinL c (ts.take 0)) := Lib.hid rfl
  have b0 : Below w.heap.size w (w.alloc (.cells #[.int .u8 (c.toNat : Int)] 5)) := (Below.refl _ _).alloc (Nat.le_refl _) _
  clear hat hlen hN
  go_enter Tryz.func84, Tryz.ntmps84
  go_wp2_with fail
  clear HC
  generalize w.alloc (.cells #[.int .u8 (c.toNat : Int)] 5) = W at *
  go_loopw [5, 7, 8, 14] (fun s _ _ x wr => ∃ i : Nat, i ≤ n ∧ x = .int .i64 i ∧ s = .string (stx (joinL c (ts.take i))) ∧ Below w.heap.size w wr) (fun _ _ _ x _ => (n - intOf x).toNat)
  case atStart => exact ⟨0, Nat.zero_le _, rfl, by rw [← H0.out], b0⟩
  case round =>
    obtain ⟨i, hi, rfl, rfl, b1⟩ := hrel
    clear b0
    by_cases hlt : i < n
    · have hlt' : (i : Int) < n := by omega
      obtain ⟨g, rfl, hc⟩ := HAT.out i (by rw [HN.out]; exact hlt)
      have c1 := (b1.cell (p := ⟨g, i, none⟩) (cellLt hc)).trans hc
      have HP : Hid (joinL c (ts.take (i + 1)) = joinL c (ts.take i) ++ oct (UInt32.ofNat (ts.getD i []).length) ++ ts.getD i []) := Lib.hid (joinL_put c ts i (by rw [HN.out]; exact hlt))
      have hle : (ts.getD i []).length ≤ 100 := HLEN.out _ (by
        rw [List.getD_eq_getElem?_getD, List.getElem?_eq_getElem (by rw [HN.out]; exact hlt)]
        exact List.getElem_mem _)
      have hjl := joinL_len c (ts.take i) (fun t ht => HLEN.out t (List.mem_of_mem_take ht))
      rw [List.length_take] at hjl
      have hjl2 : (joinL c (ts.take i)).length ≤ 1000 := by have := HN.out; omega
      obtain ⟨J, hJ⟩ : ∃ J, joinL c (ts.take i) = J := ⟨_, rfl⟩
      obtain ⟨T, hT⟩ : ∃ T, ts.getD i [] = T := ⟨_, rfl⟩
      rw [hJ, hT] at HP
      rw [hT] at c1 hle
      rw [hJ] at hjl2 ⊢
      obtain ⟨k, hk⟩ : ∃ k, T.length = k := ⟨_, rfl⟩
      have hz : (stx T).size = k := by rw [stx_size, hk]
      have hzj : (stx J).size ≤ 1000 := by rw [stx_size]; exact hjl2
      have hoc := oct_cells (UInt32.ofNat k)
      have hwv := wv_ofNat k (by omega)
      have hcf := conv_four (UInt32.ofNat k) wr _ rfl
      rw [hoc, hwv, show (k : Int) / 65536 % 256 = (k : Int) / 65536 by omega, show (k : Int) / 256 % 256 = (k : Int) / 256 by omega, show (k : Int) % 256 = (k : Int) by omega] at hcf
      have HS : Hid (stx J ++ (stx (oct (UInt32.ofNat k)) ++ stx T) = stx (joinL c (ts.take (i + 1)))) := Lib.hid (by
        rw [stx_append, stx_append, HP.out, hk, List.append_assoc])
      have hzo : (stx (oct (UInt32.ofNat k))).size = 4 := by rw [stx_size]; rfl
      have hzt : (stx (oct (UInt32.ofNat k)) ++ stx T).size = 4 + k := by rw [ByteArray.size_append, hzo, hz]
      have hk1 : (k : Int) ≤ 100 := by omega
      have hk0 : (0 : Int) ≤ k := by omega
      clear hjl hc hJ hT hk hoc hwv HP hle hjl2
      generalize stx (oct (UInt32.ofNat k)) = O at *
      generalize stx J = SJ at *
      generalize stx T = ST at *
      have b2 := b1.alloc b1.size (.cells #[.int .u8 ((k : Int) / 16777216), .int .u8 ((k : Int) / 65536), .int .u8 ((k : Int) / 256), .int .u8 (k : Int)] 5)
      go_wp2_with fail
      rw [HS.out]
      exact ⟨⟨i + 1, hlt, by go_num, rfl, b2⟩, by simp [intOf]; omega⟩
    · obtain rfl : i = n := by omega
      have HT : Hid (ts.take i = ts) := Lib.hid (List.take_of_length_le (by rw [HN.out]; exact Nat.le_refl _))
      go_wp2_with fail
      go_ret
      exact ⟨by rw [HT.out]; rfl, b1⟩
end Go.Proofs.YtmabigcolabbmaaGreatDoor
namespace Go.Proofs.YtmabigcolabbmaaGreatDoor
open Go Go.RowKit

def hexDigits : List UInt8 := [48, 49, 50, 51, 52, 53, 54, 55, 56, 57, 97, 98, 99, 100, 101, 102]
def dig (c : UInt8) : Int := Lib.indexByte hexDigits c
theorem dig_range : ∀ n : Fin 256, -1 ≤ dig (UInt8.ofNat n.val) ∧ dig (UInt8.ofNat n.val) ≤ 15 := by decide +kernel
theorem dig_lo (c : UInt8) : -1 ≤ dig c := u8_all (p := fun c => -1 ≤ dig c) (fun n => (dig_range n).1) c
theorem dig_hi (c : UInt8) : dig c ≤ 15 := u8_all (p := fun c => dig c ≤ 15) (fun n => (dig_range n).2) c

theorem dig_first (c : UInt8) (k : Nat) (hk : k ≤ 16) (h : ∀ j : Nat, j < k → hexDigits[j]? ≠ some c) : (k = 16 → dig c = -1) ∧ (hexDigits[k]? = some c → dig c = k) := by
  by_cases hd : dig c = -1
  · exact ⟨fun _ => hd, fun e => absurd e (Lib.indexByte_none hd k)⟩
  · have := dig_lo c
    obtain ⟨o, ho⟩ : ∃ o : Nat, dig c = o := ⟨(dig c).toNat, by omega⟩
    obtain ⟨h1, h2⟩ := Lib.indexByte_some ho
    have ho16 : o < 16 := (List.getElem?_eq_some_iff.1 h1).1
    rcases Nat.lt_trichotomy o k with hl | hl | hl
    · exact absurd h1 (h o hl)
    · subst hl
      exact ⟨fun e => absurd e (by omega), fun _ => ho⟩
    · exact ⟨fun e => absurd e (by omega), fun e => absurd e (h2 k hl)⟩

theorem hex_at (i : Nat) (h : i < 16) (h' : i < (⟨#[48, 49, 50, 51, 52, 53, 54, 55, 56, 57, 97, 98, 99, 100, 101, 102]⟩ : ByteArray).size) :
    hexDigits[i]? = some ((⟨#[48, 49, 50, 51, 52, 53, 54, 55, 56, 57, 97, 98, 99, 100, 101, 102]⟩ : ByteArray)[i]'h') := by
  rw [List.getElem?_eq_getElem (show i < hexDigits.length from h)]
  rfl
theorem eq_of_beq_nat {x c : UInt8} (h : ((x.toNat : Int) == (c.toNat : Int)) = true) : c = x := by
  have h1 : (x.toNat : Int) = c.toNat := by simpa using h
  have h2 : x.toNat = c.toNat := by omega
  exact (UInt8.toNat_inj.1 h2).symm

/-- The byte of two digits; how far a text has digits. -/
def at_ (s : ByteArray) (i : Nat) : UInt8 := s.data.toList.getD i 0
def val (s : ByteArray) (j : Nat) : Nat := (16 * dig (at_ s (2 * j)) + dig (at_ s (2 * j + 1))).toNat
def okTo (s : ByteArray) (k : Nat) : Prop := ∀ j, j < k → 0 ≤ dig (at_ s (2 * j)) ∧ 0 ≤ dig (at_ s (2 * j + 1))
def readTo (s : ByteArray) (k : Nat) : Lab := ⟨(List.range 32).map fun j => if j < k then UInt8.ofNat (val s j) else 0, by simp⟩
theorem readTo_zero (s : ByteArray) : readTo s 0 = zeroLab := Lab.ext' fun j hj => by rw [zeroLab_get]; simp [readTo, Lab.get, hj]
theorem readTo_succ (s : ByteArray) (k : Nat) : (readTo s k).set k (UInt8.ofNat (val s k)) = readTo s (k + 1) := Lab.ext' fun j hj => by
  rw [Lab.get_set _ _ _ _ hj]
  have h1 : ∀ q, (readTo s q).get j = if j < q then UInt8.ofNat (val s j) else 0 := fun q => by simp [readTo, Lab.get, hj]
  rw [h1, h1]
  by_cases e : k = j
  · subst e; simp
  · have : (j < k + 1) ↔ (j < k) := by omega
    simp [e, this]
instance (s : ByteArray) (k : Nat) : Decidable (okTo s k) := by unfold okTo; infer_instance
theorem get_at (s : ByteArray) (i : Nat) (h : i < s.size) : s[i] = at_ s i := by
  have h2 : i < s.data.toList.length := by simpa using h
  unfold at_
  rw [List.getD_eq_getElem?_getD, List.getElem?_eq_getElem h2]
  rfl

theorem row_ret_lab2 {fn : Func} {p q : Tmp} (h : fn.results = #[.cell p 27, .tmp q]) {R : Ending → World → Prop} {a : Act} {w : World} {b : Nat} {l : Lab} (hp : a.tmps.getD p undef = .pointer (some ⟨b, 0, none⟩)) (hd : a.defers = [])
    (hr : rowAt w b = some (cellsL l)) (hR : R (.returned (.tuple #[.agg (cellsL l), a.tmps.getD q undef])) w) : bodyPost Tryz.prog fn R .ret a w :=
  bodyPost_ret (results_row_tmp h a.tmps w b _ _ hp hr Tryz.underlying27 rfl (by rw [size_cellsL]; kernel_rfl)) hd hR

theorem or_digits (P Q : Nat) (hP : P ≤ 15) (hQ : Q ≤ 15) : P * 16 ||| Q = 16 * P + Q := by
  have : ∀ (p q : Fin 16), p.val * 16 ||| q.val = 16 * p.val + q.val := by decide +kernel
  exact this ⟨P, by omega⟩ ⟨Q, by omega⟩
end Go.Proofs.YtmabigcolabbmaaGreatDoor
namespace Go.Proofs.YtmabigcolabbmaaGreatDoor
open Go Go.RowKit

end Go.Proofs.YtmabigcolabbmaaGreatDoor
namespace Go.Proofs.YtmabigcolabbmaaGreatDoor
open Go Go.RowKit

theorem info_byte : (Tryz.prog.info? 5).map (fun i => (i.zero, i.size, i.bytes)) = some (some (.int .u8 0), 1, 1) := by kernel_rfl

def hexd (n : Nat) : UInt8 := hexDigits.getD n 0
def hexTo (a : Lab) (k : Nat) : List UInt8 := (List.range k).flatMap fun j => [hexd ((a.get j).toNat / 16), hexd ((a.get j).toNat % 16)]
theorem hexTo_succ (a : Lab) (k : Nat) : hexTo a (k + 1) = hexTo a k ++ [hexd ((a.get k).toNat / 16), hexd ((a.get k).toNat % 16)] := by
  simp [hexTo, List.range_succ]
theorem hexTo_length (a : Lab) (k : Nat) : (hexTo a k).length = 2 * k := by
  induction k with
  | zero => rfl
  | succ k ih => rw [hexTo_succ, List.length_append, ih]; simp; omega

theorem cells_put (l : List UInt8) (c : UInt8) : Lib.byteCells l ++ [.int .u8 c.toNat] = Lib.byteCells (l ++ [c]) := by
  simp [Lib.byteCells]
theorem cells_length (l : List UInt8) : (Lib.byteCells l).length = l.length := by
  simp [Lib.byteCells]

@[go_sem high] theorem run_index_lab (w : World) (a : Lab) (i : Nat) (h : i < 32) : (Instr.index 27 (.agg (cellsL a)) (.int .i64 i)).run Tryz.prog w = .ok (.int .u8 (a.get i).toNat) w := by
  have g := get_cellsL a i h
  simp [Instr.index, run_underlying Tryz.underlying27, asIntOf, go_sem]
  rw [if_pos h, g]
  rfl
theorem run_add (w : World) (s t : ByteArray) (h : s.size + t.size < 1000000) : (Op.stringOp .add s t).run Tryz.prog w = .ok (.string (s ++ t)) w := by
  simp [Op.stringOp, go_sem]
  omega
theorem piece (n : Nat) (h : n < 16) : (⟨#[48, 49, 50, 51, 52, 53, 54, 55, 56, 57, 97, 98, 99, 100, 101, 102]⟩ : ByteArray).extract n (n + 1) = ⟨#[hexd n]⟩ := by
  have : ∀ k : Fin 16, (⟨#[48, 49, 50, 51, 52, 53, 54, 55, 56, 57, 97, 98, 99, 100, 101, 102]⟩ : ByteArray).extract k.val (k.val + 1) = ⟨#[hexd k.val]⟩ := by decide +kernel
  exact this ⟨n, h⟩
theorem pieces (x y : UInt8) : (⟨#[x]⟩ : ByteArray) ++ ⟨#[y]⟩ = ⟨#[x, y]⟩ := rfl
theorem hexTo_put (a : Lab) (i : Nat) : (⟨(hexTo a i).toArray⟩ : ByteArray) ++ ⟨#[hexd ((a.get i).toNat / 16), hexd ((a.get i).toNat % 16)]⟩ = ⟨(hexTo a (i + 1)).toArray⟩ := by
  rw [hexTo_succ]
  exact ByteArray.ext (by simp)
theorem digit_at (n : Nat) (h : n < 16) (h' : n < (⟨#[48, 49, 50, 51, 52, 53, 54, 55, 56, 57, 97, 98, 99, 100, 101, 102]⟩ : ByteArray).size) :
    (⟨#[48, 49, 50, 51, 52, 53, 54, 55, 56, 57, 97, 98, 99, 100, 101, 102]⟩ : ByteArray)[n]'h' = hexd n := by
  have := hex_at n h h'
  unfold hexd
  rw [List.getD_eq_getElem?_getD, this]
  rfl
theorem and_15 : ∀ x : Fin 256, x.val &&& 15 = x.val % 16 := by decide +kernel

end Go.Proofs.YtmabigcolabbmaaGreatDoor
namespace Go.Proofs.YtmabigcolabbmaaGreatDoor
open Go Go.RowKit

/-- Block k holds no bytes. -/
def NoBytes (w : World) (k : Nat) : Prop := ∀ cs fr, w.heap[k]? ≠ some (.cells cs 5 fr)
/-- Below block B the world is as it was, but for block b; and so are all blocks that hold no bytes. -/
structure Near (B b : Nat) (w w' : World) : Prop where
  os : w'.os = w.os
  tape : w'.tape = w.tape
  output : w'.output = w.output
  size : w.heap.size ≤ w'.heap.size
  block : ∀ k, k < B → k ≠ b → w'.heap[k]? = w.heap[k]?
  far : ∀ k, k < w.heap.size → k ≠ b → NoBytes w k → w'.heap[k]? = w.heap[k]?
theorem Near.refl (B b : Nat) (w : World) : Near B b w w := ⟨rfl, rfl, rfl, Nat.le_refl _, fun _ _ _ => rfl, fun _ _ _ _ => rfl⟩
theorem Near.trans {B b : Nat} {a w w' : World} (h : Near B b a w) (k : Near B b w w') : Near B b a w' :=
  ⟨k.os.trans h.os, k.tape.trans h.tape, k.output.trans h.output, Nat.le_trans h.size k.size, fun i hi hn => (k.block i hi hn).trans (h.block i hi hn), fun i hi hn hb => by
    have e := h.far i hi hn hb
    refine (k.far i (Nat.lt_of_lt_of_le hi h.size) hn fun cs fr => ?_).trans e
    rw [e]
    exact hb cs fr⟩
theorem Near.mono {B C b : Nat} {w w' : World} (h : Near B b w w') (hC : C ≤ B) : Near C b w w' := ⟨h.os, h.tape, h.output, h.size, fun k hk => h.block k (Nat.lt_of_lt_of_le hk hC), h.far⟩
theorem _root_.Go.RowKit.Below.near {B b : Nat} {w w' : World} (h : Below w.heap.size w w') (hB : B ≤ w.heap.size) : Near B b w w' := ⟨h.os, h.tape, h.output, h.size, fun k hk _ => h.block k (Nat.lt_of_lt_of_le hk hB), fun k hk _ _ => h.block k hk⟩
theorem Near.setCell {B b : Nat} {a w : World} (h : Near B b a w) {p : Addr} (hp : p.block = b) (u : Value) : Near B b a (w.setCell p u) :=
  h.trans ⟨rfl, rfl, rfl, by simp [World.setCell], fun k _ hn => Below.heap_setCell _ _ _ _ (by omega), fun k _ hn _ => Below.heap_setCell _ _ _ _ (by omega)⟩
theorem Near.setRow {B b : Nat} {a w : World} (h : Near B b a w) {g : Nat} (hg : B ≤ g) (ha : a.heap.size ≤ g) (c : Array Value) : Near B b a (w.setRow g c) :=
  ⟨h.os, h.tape, h.output, by simpa using h.size, fun k hk hn => (setRow_other w g k c (by omega)).trans (h.block k hk hn), fun k hk hn hb => (setRow_other w g k c (by omega)).trans (h.far k hk hn hb)⟩
/-- Below both it is as it was. -/
theorem Near.below {B b C : Nat} {w w' : World} (h : Near B b w w') (hB : C ≤ B) (hb : C ≤ b) : Below C w w' :=
  ⟨h.os, h.tape, h.output, h.size, fun k hk => h.block k (by omega) (by omega)⟩
theorem Near.row {B b k : Nat} {w w' : World} (h : Near B b w w') (hk : k < B) (hn : k ≠ b) : rowAt w' k = rowAt w k := by
  unfold rowAt
  rw [h.block k hk hn]
theorem Near.grown {B b : Nat} {w w' : World} {v : Value} {n : Nat} {xs : List Value} (ho : w.ownsRow B 5 1 v n xs) (hg : w.grownBy w' v.ownBlock) (hB : B ≤ w.heap.size) : Near B b w w' :=
  ⟨hg.os, hg.tape, hg.output, hg.size, fun k hk _ => hg.block k (by omega) (fun e => by have := (ho.lt k e.symm).1; omega), fun k hk _ hb => hg.block k hk (fun e => by
    rcases ho.2 with ⟨h1, _⟩ | ⟨g, cap, cur, h1, _, h3, _⟩
    · rw [h1] at e; cases e
    · rw [h1] at e
      have : k = g := by simpa [Value.ownBlock] using e
      subst this
      exact hb _ _ h3)⟩

theorem heap_put {w : World} {b j : Nat} {cs : Array Value} {T : TypeId} {fr : Nat × Nat} (h : w.heap[b]? = some (.cells cs T fr)) (x : Value) : (w.setCell ⟨b, j, none⟩ x).heap[b]? = some (.cells (cs.setIfInBounds j x) T fr) := by
  simp [World.setCell, Array.getElem?_modify, h]
theorem heap_lt {w : World} {b : Nat} {o : Obj} (h : w.heap[b]? = some o) : b < w.heap.size := (Array.getElem?_eq_some_iff.1 h).1

theorem cells_str (s : ByteArray) : Lib.strCells s = Lib.byteCells s.data.toList := by
  simp [Lib.strCells, Lib.byteCells]
theorem cells_append (l m : List UInt8) : Lib.byteCells (l ++ m) = Lib.byteCells l ++ Lib.byteCells m := by
  simp [Lib.byteCells]

/-- What add makes of the bytes. -/
def added (bs : List UInt8) (err : Int) (s : List UInt8) : List UInt8 := if err = 0 ∧ bs.length ≤ 65536 then bs ++ s else bs
set_option maxRecDepth 100000 in
theorem run_own_string (w : World) (B : Nat) (ao : Option Addr) (cap : Nat) (l : List UInt8) (h : w.ownsRow B 5 1 (.slice ao l.length cap) l.length (Lib.byteCells l)) :
    (convert 105 9 (.slice ao l.length cap)).run Tryz.prog w = .ok (.string ⟨l.toArray⟩) w := by
  rcases h.2 with ⟨hv, h0⟩ | ⟨g, cap', cur, hv, _⟩
  · have : l = [] := List.eq_nil_of_length_eq_zero h0
    subst this
    injection hv with e1 _ e2
    subst e1 e2
    exact run_convert_bytes_nil w _ _ Tryz.underlying105 Tryz.underlying5 _ _ _ Tryz.underlying9
  · injection hv with e1 _ e2
    subst e1 e2
    refine run_convert_bytes_back w _ _ _ ⟨g, 0, none⟩ _ l Tryz.underlying105 Tryz.underlying5 Tryz.underlying9 fun j hj => ?_
    exact h.cells (g := g) rfl j _ (by simp [Lib.byteCells, hj])

def numCell (n k i j : Nat) : Nat := if j < k ∧ k - 1 - j < i then n / 256 ^ (k - 1 - j) % 256 else 0
def numRow (n k i : Nat) : Array Value := (Value.int .u8 k :: (List.range 8).map fun j => Value.int .u8 (numCell n k i j)).toArray
theorem numRow_zero (n k : Nat) : numRow n k 0 = #[.int .u8 k, .int .u8 0, .int .u8 0, .int .u8 0, .int .u8 0, .int .u8 0, .int .u8 0, .int .u8 0, .int .u8 0] := by
  simp [numRow, numCell, List.range_succ]
theorem numRow_put (n k i : Nat) (hk : k ≤ 8) (hi : i < k) : (numRow n k i).setIfInBounds (k - i) (.int .u8 ((n / 256 ^ i % 256 : Nat) : Int)) = numRow n k (i + 1) := by
  apply Array.ext_getElem?
  intro j
  rw [Array.getElem?_setIfInBounds]
  unfold numRow
  by_cases e : k - i = j
  · subst e
    obtain ⟨q, hq⟩ : ∃ q, k - i = q + 1 := ⟨k - i - 1, by omega⟩
    have h1 : q < 8 := by omega
    have h2 : numCell n k (i + 1) q = n / 256 ^ i % 256 := by
      rw [numCell, if_pos (by omega), show k - 1 - q = i by omega]
    simp [hq, h1, h2]
  · rw [if_neg e]
    cases j with
    | zero => simp
    | succ j =>
      by_cases h1 : j < 8
      · have h2 : numCell n k (i + 1) j = numCell n k i j := by
          have h3 : (j < k ∧ k - 1 - j < i + 1) ↔ (j < k ∧ k - 1 - j < i) := by omega
          simp only [numCell, h3]
        simp [h1, h2]
      · simp [h1]
theorem numRow_get (n k i d : Nat) (h0 : 0 < d) (h1 : d < 9) : (numRow n k i)[d]? = some (.int .u8 (numCell n k i (d - 1))) := by
  obtain ⟨q, rfl⟩ : ∃ q, d = q + 1 := ⟨d - 1, by omega⟩
  have : q < 8 := by omega
  simp [numRow, this]
def numLen (n : Nat) : Nat := (Lib.bitLen n + 7) / 8
def numBytes (n : Nat) : List UInt8 := UInt8.ofNat (numLen n) :: (List.range (numLen n)).map fun j => UInt8.ofNat (n / 256 ^ (numLen n - 1 - j))
theorem numLen_le (n : Nat) (h : n < 9223372036854775808) : numLen n ≤ 8 := by
  have := Lib.bitLen_le n 64 (by omega) (by omega)
  unfold numLen
  omega
theorem numBytes_length (n : Nat) : (numBytes n).length = numLen n + 1 := by simp [numBytes]

theorem numRow_bytes (n k : Nat) (hk : numLen n = k) (hk8 : k ≤ 8) (j : Nat) (hj : j < (numBytes n).length) : (numRow n k k)[j]? = some (.int .u8 ((numBytes n)[j].toNat : Int)) := by
  subst hk
  rw [numBytes_length] at hj
  cases j with
  | zero =>
    have : numLen n % 256 = numLen n := by omega
    simp [numRow, numBytes, this]
  | succ j =>
    have h1 : j < 8 := by omega
    have h2 : numCell n (numLen n) (numLen n) j = n / 256 ^ (numLen n - 1 - j) % 256 := by rw [numCell, if_pos (by omega)]
    simp [numRow, numBytes, h1, h2]

end Go.Proofs.YtmabigcolabbmaaGreatDoor
namespace Go.Proofs.YtmabigcolabbmaaGreatDoor
open Go Go.RowKit

end Go.Proofs.YtmabigcolabbmaaGreatDoor
namespace Go.Proofs.YtmabigcolabbmaaGreatDoor
open Go

/-- Bytes as a text. -/
abbrev txt (l : List UInt8) : ByteArray := ⟨l.toArray⟩
theorem txt_size (l : List UInt8) : (txt l).size = l.length := by show l.toArray.size = _; rw [List.size_toArray]
theorem txt_list (s : ByteArray) : txt s.data.toList = s := rfl
/-- The bytes of a number behind the first one. -/
def numTail (n : Nat) : List UInt8 := (List.range (numLen n)).map fun j => UInt8.ofNat (n / 256 ^ (numLen n - 1 - j))
theorem numBytes_eq (n : Nat) : numBytes n = UInt8.ofNat (numLen n) :: numTail n := rfl
theorem numTail_length (n : Nat) : (numTail n).length = numLen n := by simp [numTail]
theorem numLen_zero : numLen 0 = 0 := by decide
theorem bitLen_pow : ∀ (f x : Nat), x < 2 ^ f → f ≤ 64 → x < 2 ^ Lib.bitLenAux f x ∧ (x ≠ 0 → 2 ^ (Lib.bitLenAux f x - 1) ≤ x ∧ 0 < Lib.bitLenAux f x) := by
  intro f
  induction f with
  | zero => intro x h _; have : x = 0 := by simpa using h
            subst this; simp [Lib.bitLenAux]
  | succ f ih =>
    intro x h hf
    by_cases hx : x = 0
    · subst hx; simp [Lib.bitLenAux]
    · rw [Lib.bitLenAux, if_neg hx]
      have h2 : x / 2 < 2 ^ f := by rw [Nat.pow_succ] at h; omega
      obtain ⟨i1, i2⟩ := ih (x / 2) h2 (by omega)
      refine ⟨?_, fun _ => ⟨?_, by omega⟩⟩
      · rw [Nat.add_comm, Nat.pow_succ]; omega
      · by_cases hy : x / 2 = 0
        · have h1 : x = 1 := by omega
          subst h1
          have : Lib.bitLenAux f 0 = 0 := by cases f <;> simp [Lib.bitLenAux]
          simp [this]
        · obtain ⟨j1, j2⟩ := i2 hy
          have : 1 + Lib.bitLenAux f (x / 2) - 1 = (Lib.bitLenAux f (x / 2) - 1) + 1 := by omega
          rw [this, Nat.pow_succ]; omega
theorem numLen_bounds (n : Nat) (h : n < 18446744073709551616) : n < 256 ^ numLen n ∧ (n ≠ 0 → 0 < numLen n ∧ 256 ^ (numLen n - 1) ≤ n) := by
  obtain ⟨h1, h2⟩ := bitLen_pow 64 n (by omega) (by omega)
  have e : Lib.bitLen n = Lib.bitLenAux 64 n := rfl
  rw [← e] at h1 h2
  have q : ∀ k, 256 ^ k = 2 ^ (8 * k) := fun k => by rw [Nat.pow_mul]
  rw [q, q]
  unfold numLen
  refine ⟨Nat.lt_of_lt_of_le h1 (Nat.pow_le_pow_right (by decide) (by omega)), fun hn => ?_⟩
  obtain ⟨h3, h4⟩ := h2 hn
  exact ⟨by omega, Nat.le_trans (Nat.pow_le_pow_right (by decide) (by omega)) h3⟩
def beVal (l : List UInt8) : Nat := l.foldl (fun n c => 256 * n + c.toNat) 0
theorem beVal_append (l m : List UInt8) : beVal (l ++ m) = beVal l * 256 ^ m.length + beVal m := by
  have : ∀ (m : List UInt8) (a : Nat), m.foldl (fun n c => 256 * n + c.toNat) a = a * 256 ^ m.length + beVal m := fun m => by
    unfold beVal
    induction m with
    | nil => intro a; simp
    | cons c m ih =>
      intro a
      rw [List.foldl_cons, List.foldl_cons, ih, ih (256 * 0 + c.toNat), List.length_cons, Nat.pow_succ, Nat.add_mul, Nat.add_mul]
      have : 256 * a * 256 ^ m.length = a * (256 ^ m.length * 256) := by rw [Nat.mul_comm 256 a, Nat.mul_assoc, Nat.mul_comm 256]
      omega
  rw [beVal, List.foldl_append, this m]
  rfl
theorem beVal_digits (n : Nat) : ∀ k, beVal ((List.range k).map fun j => UInt8.ofNat (n / 256 ^ (k - 1 - j))) = n % 256 ^ k := by
  intro k
  induction k generalizing n with
  | zero => simp [beVal, Nat.mod_one]
  | succ k ih =>
    rw [List.range_succ, List.map_append, beVal_append]
    have e : (List.range k).map (fun j => UInt8.ofNat (n / 256 ^ (k + 1 - 1 - j))) = (List.range k).map (fun j => UInt8.ofNat (n / 256 / 256 ^ (k - 1 - j))) := by
      apply List.map_congr_left
      intro j hj
      have hj := List.mem_range.1 hj
      rw [Nat.div_div_eq_div_mul, ← Nat.pow_succ', show k + 1 - 1 - j = k - 1 - j + 1 by omega]
    rw [e, ih (n / 256)]
    have e2 : beVal ((List.map (fun j => UInt8.ofNat (n / 256 ^ (k + 1 - 1 - j))) [k])) = n % 256 := by
      simp [beVal]
    rw [e2, Nat.pow_succ, Nat.mul_comm (256 ^ k) 256, Nat.mod_mul]
    simp
    omega
theorem beVal_numTail (n : Nat) (h : n < 18446744073709551616) : beVal (numTail n) = n := by
  rw [numTail, beVal_digits, Nat.mod_eq_of_lt (numLen_bounds n h).1]
theorem numLen_byte (n : Nat) (h : n < 9223372036854775808) : (UInt8.ofNat (numLen n)).toNat = numLen n := by
  have := numLen_le n h
  simp
  omega
/-- Numbers are told from what stands behind them. -/
theorem numBytes_inj {a b : Nat} {x y : List UInt8} (ha : a < 9223372036854775808) (hb : b < 9223372036854775808) (h : numBytes a ++ x = numBytes b ++ y) : a = b ∧ x = y := by
  rw [numBytes_eq, numBytes_eq, List.cons_append, List.cons_append] at h
  injection h with h1 h2
  have h3 := congrArg UInt8.toNat h1
  rw [numLen_byte a ha, numLen_byte b hb] at h3
  obtain ⟨h4, h5⟩ := List.append_inj h2 (by rw [numTail_length, numTail_length, h3])
  have h6 := congrArg beVal h4
  rw [beVal_numTail a (by omega), beVal_numTail b (by omega)] at h6
  exact ⟨h6, h5⟩
end Go.Proofs.YtmabigcolabbmaaGreatDoor
namespace Go.Proofs.YtmabigcolabbmaaGreatDoor
open Go Go.RowKit

/-- A number's last k digits to the base 256. -/
def lastD (n k : Nat) : List UInt8 := (List.range k).map fun j => UInt8.ofNat (n / 256 ^ (k - 1 - j))
theorem lastD_succ (n k : Nat) : lastD n (k + 1) = UInt8.ofNat (n / 256 ^ k) :: lastD n k := by
  rw [lastD, List.range_succ_eq_map, List.map_cons, List.map_map]
  congr 1
  apply List.map_congr_left
  intro j hj
  show UInt8.ofNat (n / 256 ^ (k + 1 - 1 - (j + 1))) = UInt8.ofNat (n / 256 ^ (k - 1 - j))
  rw [show k + 1 - 1 - (j + 1) = k - 1 - j by omega]
theorem lastD_length (n k : Nat) : (lastD n k).length = k := by simp [lastD]
theorem lastD_end (n k : Nat) (h : n < 9223372036854775808) (h0 : n / 256 ^ k = 0) (hk : k = 0 ∨ n / 256 ^ (k - 1) ≠ 0) : k = numLen n := by
  obtain ⟨b1, b2⟩ := numLen_bounds n (by omega)
  have hp : 0 < 256 ^ k := Nat.pow_pos (by decide)
  have hlt : n < 256 ^ k := by
    rcases Nat.lt_or_ge n (256 ^ k) with e | e
    · exact e
    · have := Nat.div_pos e hp
      omega
  by_cases hn : n = 0
  · subst hn
    rcases hk with rfl | hk
    · rfl
    · rw [Nat.zero_div] at hk
      exact absurd rfl hk
  · obtain ⟨c1, c2⟩ := b2 hn
    have u1 : numLen n - 1 < k := (Nat.pow_lt_pow_iff_right (show 1 < 256 by decide)).1 (Nat.lt_of_le_of_lt c2 hlt)
    rcases hk with rfl | hk
    · omega
    · have hge : 256 ^ (k - 1) ≤ n := by
        rcases Nat.lt_or_ge n (256 ^ (k - 1)) with e | e
        · exact absurd (Nat.div_eq_of_lt e) hk
        · exact e
      have u2 : k - 1 < numLen n := (Nat.pow_lt_pow_iff_right (show 1 < 256 by decide)).1 (Nat.lt_of_le_of_lt hge b1)
      omega
theorem txt_append (l m : List UInt8) : txt l ++ txt m = txt (l ++ m) := by
  apply ByteArray.ext
  rw [ByteArray.data_append]
  apply Array.toList_inj.1
  simp
theorem r2conv_one (w : World) (x : Nat) (h : x < 256) : (convert 105 9 (.slice (some ⟨w.heap.size, 0, none⟩) 1 1)).run Tryz.prog (w.alloc (.cells #[.int .u8 (x : Int)] 5)) = .ok (.string (txt [UInt8.ofNat x])) (w.alloc (.cells #[.int .u8 (x : Int)] 5)) := by
  refine run_convert_bytes_back _ _ _ _ ⟨w.heap.size, 0, none⟩ 1 [UInt8.ofNat x] Tryz.underlying105 Tryz.underlying5 Tryz.underlying9 fun j hj => ?_
  have hj0 : j = 0 := by simpa using hj
  subst hj0
  rw [show (⟨w.heap.size, 0, none⟩ : Addr).add 0 = ⟨w.heap.size, 0, none⟩ by simp [Addr.add], cell_of_rowAt (rowAt_alloc_at w #[.int .u8 (x : Int)] 5 _ rfl)]
  have : (UInt8.ofNat x).toNat = x := by rw [UInt8.toNat_ofNat']; omega
  exact congrArg (fun y : Nat => some (Value.int .u8 (y : Int))) this.symm

end Go.Proofs.YtmabigcolabbmaaGreatDoor
namespace Go.Proofs.YtmabigcolabbmaaGreatDoor
open Go Go.RowKit

section
variable {P : Program} {ops : Array Oper}

/-- ONE VALUE, in every world in which W lies; a callee leaves what it found. -/
def YieldsS (P : Program) (ops : Array Oper) (W : World) (o : Oper) (v : Value) (a : Act) : Prop :=
  (Region.wanted o (yielded ops a.tmps) = true ∧ ∀ x : Past W, o.quietAt P a (fun w' => ∃ y : Past x.w, w' = y.w) x.w v) ∨
  (Region.wanted o (yielded ops a.tmps) = false ∧ v = undef)

theorem YieldsS.put {W : World} {o : Oper} {v u : Value} {a : Act} {dst : Option Tmp} (hs : ∀ cs b, o.op ≠ .select cs b) (hd : ∀ d, dst = some d → d ∉ o.looksAt ops) :
    YieldsS P ops W o v (a.put dst u) ↔ YieldsS P ops W o v a := by
  unfold YieldsS Oper.quietAt
  rw [execOp_put o hs a dst u hd, wanted_put o a dst u hd]
theorem YieldsS.past {W W' : World} {o : Oper} {v : Value} {a : Act} (hb : Below W.heap.size W W') (h : YieldsS P ops W o v a) : YieldsS P ops W' o v a := by
  rcases h with ⟨h1, h2⟩ | h
  · exact .inl ⟨h1, fun x => h2 ⟨x.w, Below.step hb x.h⟩⟩
  · exact .inr h

/-- What is left of the head, in the order of the text. -/
def wpHead (P : Program) (ops : Array Oper) (W : World) (Qh : Act → Prop) : List Nat → Act → Prop
  | [], a => Qh a
  | i :: is, a => ∃ o v, ops[i]? = some o ∧ YieldsS P ops W o v a ∧ wpHead P ops W Qh is (a.put o.dst v)

theorem wpHead_past {W W' : World} {Qh : Act → Prop} (hb : Below W.heap.size W W') : ∀ (is : List Nat) (a : Act), wpHead P ops W Qh is a → wpHead P ops W' Qh is a
  | [], _, h => h
  | _ :: is, _, ⟨o, v, h1, h2, h3⟩ => ⟨o, v, h1, h2.past hb, wpHead_past hb is _ h3⟩

def apartAt (ops : Array Oper) (i j : Nat) : Prop := ∀ oi oj, ops[i]? = some oi → ops[j]? = some oj → oi.apart ops oj = true

theorem wpHead_take {W : World} {Qh : Act → Prop} (hsel : ∀ (j : Nat) (o : Oper) cs b, ops[j]? = some o → o.op ≠ .select cs b) {j : Nat} {oj : Oper} (hj : ops[j]? = some oj) :
    ∀ (is : List Nat) (a : Act), is.Pairwise (· < ·) → j ∈ is → (∀ k ∈ is, k < j → apartAt ops k j) → wpHead P ops W Qh is a →
      ∃ v, YieldsS P ops W oj v a ∧ wpHead P ops W Qh (is.erase j) (a.put oj.dst v)
  | i :: is, a, hp, hm, hap, ⟨o, v, h1, h2, h3⟩ => by
    by_cases hij : i = j
    · subst hij
      obtain rfl : o = oj := Option.some.inj (h1.symm.trans hj)
      exact ⟨v, h2, by simpa using h3⟩
    · have hm' : j ∈ is := by
        rcases List.mem_cons.1 hm with e | e
        · exact absurd e.symm hij
        · exact e
      have hlt : i < j := (List.pairwise_cons.1 hp).1 j hm'
      obtain ⟨u, y1, y2⟩ := wpHead_take hsel hj is (a.put o.dst v) (List.pairwise_cons.1 hp).2 hm' (fun k hk => hap k (List.mem_cons_of_mem _ hk)) h3
      obtain ⟨s1, s2, s3⟩ := Oper.apart_spec (hap i (by simp) hlt o oj h1 hj)
      refine ⟨u, (YieldsS.put (hsel j oj · · hj) s1).1 y1, ?_⟩
      rw [List.erase_cons_tail (by simpa using hij)]
      refine ⟨o, v, h1, (YieldsS.put (hsel i o · · h1) s3).2 h2, ?_⟩
      rw [← Act.put_comm a v u s2]
      exact y2
  | [], _, _, hm, _, _ => by cases hm

theorem wpHead_put {W : World} {Qh : Act → Prop} (hsel : ∀ (j : Nat) (o : Oper) cs b, ops[j]? = some o → o.op ≠ .select cs b) {j : Nat} {oj : Oper} (hj : ops[j]? = some oj) {u : Value}
    (hQ : ∀ a, Qh a → Qh (a.put oj.dst u)) : ∀ (is : List Nat) (a : Act), (∀ k ∈ is, apartAt ops k j) → wpHead P ops W Qh is a → wpHead P ops W Qh is (a.put oj.dst u)
  | [], _, _, h => hQ _ h
  | i :: is, a, hap, ⟨o, v, h1, h2, h3⟩ => by
    obtain ⟨s1, s2, s3⟩ := Oper.apart_spec (hap i (by simp) o oj h1 hj)
    refine ⟨o, v, h1, (YieldsS.put (hsel i o · · h1) s3).2 h2, ?_⟩
    rw [← Act.put_comm a v u s2]
    exact wpHead_put hsel hj hQ is _ (fun k hk => hap k (List.mem_cons_of_mem _ hk)) h3

theorem wpHead_step {W : World} {Qh : Act → Prop} {i : Nat} {is : List Nat} {a : Act} {o : Oper} (ho : ops[i]? = some o)
    (h : ∀ K : Act → Prop, (∀ a, wpHead P ops W Qh is a → K a) → if Region.wanted o (yielded ops a.tmps) then ∃ v, (∀ x : Past W, o.quietAt P a (fun w' => ∃ y : Past x.w, w' = y.w) x.w v) ∧ K (a.put o.dst v) else K (a.put o.dst undef)) : wpHead P ops W Qh (i :: is) a := by
  have h1 := h _ fun _ h => h
  by_cases hw : Region.wanted o (yielded ops a.tmps) = true
  · rw [if_pos hw] at h1
    obtain ⟨v, h2, h3⟩ := h1
    exact ⟨o, v, ho, .inl ⟨hw, h2⟩, h3⟩
  · rw [if_neg hw] at h1
    exact ⟨o, undef, ho, .inr ⟨by simpa using hw, rfl⟩, h1⟩
theorem call_yields {x : World} {f : FuncId} {args : Array Value} {v : Value} (h : Calls P f args x fun e w' => e = .returned v ∧ Below x.heap.size x w') : Calls P f args x fun e w'' => e = .returned v ∧ ∃ y : Past x, w'' = y.w :=
  h.mono fun _ w'' ⟨he, hb⟩ => ⟨he, ⟨w'', hb⟩, rfl⟩
/-- A frame, but for some slots. -/
def atS (lit : Act) : List (Option Tmp) → Act → Prop
  | [], a => a = lit
  | d :: ds, a => ∃ v, atS (lit.put d v) ds a

/-- The head's end, whatever lies in the new variables' slots. -/
def slots (Q1 : Act → Prop) : List (Option Tmp) → Act → Prop
  | [], a => Q1 a
  | d :: ds, a => ∀ v, slots Q1 ds (a.put d v)
theorem put_put (a : Act) (d : Option Tmp) (u v : Value) : (a.put d u).put d v = a.put d v := by
  cases d with
  | none => rfl
  | some d =>
    simp only [Act.put]
    congr 1
    apply Array.ext_getElem?
    intro i
    simp only [Array.getElem?_setIfInBounds, Array.size_setIfInBounds]
    split <;> rfl
theorem put_comm' (a : Act) (d e : Option Tmp) (u v : Value) (h : d ≠ e) : (a.put d u).put e v = (a.put e v).put d u :=
  Act.put_comm a u v (fun _ hx hy => h (hx.trans hy.symm))
theorem slots_put {Q1 : Act → Prop} {d : Option Tmp} (u : Value) : ∀ (ds : List (Option Tmp)) (a : Act), d ∈ ds → slots Q1 ds a → slots Q1 ds (a.put d u)
  | e :: ds, a, hm, h => fun v => by
    by_cases hde : d = e
    · subst hde
      rw [put_put]
      exact h v
    · rw [put_comm' a d e u v hde]
      refine slots_put u ds _ ?_ (h v)
      rcases List.mem_cons.1 hm with e2 | e2
      · exact absurd e2 hde
      · exact e2
  | [], _, hm, _ => by cases hm
theorem put_self (a : Act) (d : Option Tmp) : ∃ v, a.put d v = a := by
  cases d with
  | none => exact ⟨undef, rfl⟩
  | some d =>
    refine ⟨a.tmps.getD d undef, ?_⟩
    have e : a.tmps.setIfInBounds d (a.tmps.getD d undef) = a.tmps := by
      apply Array.ext_getElem?
      intro i
      simp only [Array.getElem?_setIfInBounds]
      split
      · rename_i hi
        subst hi
        split
        · rename_i hlt; simp [hlt]
        · rename_i hlt; simp [hlt]
      · rfl
    show ({ a with tmps := a.tmps.setIfInBounds d (a.tmps.getD d undef) } : Act) = a
    rw [e]
theorem slots_mono {Q1 Q2 : Act → Prop} (h : ∀ a, Q1 a → Q2 a) : ∀ (ds : List (Option Tmp)) (a : Act), slots Q1 ds a → slots Q2 ds a
  | [], _, hs => h _ hs
  | _ :: ds, _, hs => fun v => slots_mono h ds _ (hs v)
theorem slots_atS : ∀ (ds : List (Option Tmp)) (lit : Act), slots (atS lit ds) ds lit
  | [], _ => rfl
  | d :: ds, lit => fun v => slots_mono (fun _ h => ⟨v, h⟩) ds _ (slots_atS ds (lit.put d v))
theorem slots_end {Q1 : Act → Prop} : ∀ (ds : List (Option Tmp)) (a : Act), slots Q1 ds a → Q1 a
  | [], _, h => h
  | d :: ds, a, h => by
    obtain ⟨v, hv⟩ := put_self a d
    have := slots_end ds _ (h v)
    rwa [hv] at this

def waits (ops : Array Oper) (j k : Nat) : Bool := Region.waitsFor .any ops j k
/-- .. or for one that waits for it. -/
def waits2 (ops : Array Oper) (j k : Nat) : Bool := waits ops j k || (List.range ops.size).any fun q => waits ops j q && waits ops q k
/-- What is listed had all it waits for listed. -/
def Closed (ops : Array Oper) (listed : Array Bool) : Prop := ∀ q k, q < ops.size → listed.getD q true = true → waits ops q k = true → listed.getD k false = true
/-- n operations that read or call, then new variables up to m, then a tail. -/
def freeB (ops : Array Oper) (n m : Nat) (l : Nat := ops.size) : Bool :=
  Region.noSelect ops && decide (n ≤ m) && decide (m ≤ ops.size) &&
  ((List.range m).all fun j => match ops[j]? with | some o => o.after.all (fun e => !Region.binds .any e || decide (e.on < j)) | none => false) &&
  ((List.range m).all fun j => (List.range m).all fun k => !decide (k < j) || waits ops j k || (match ops[k]?, ops[j]? with | some x, some y => x.apart ops y | _, _ => false)) &&
  ((List.range ops.size).all fun t => decide (t < m) || (List.range m).all fun k => k == l || waits2 ops t k) &&
  ((List.range m).all fun j => (List.range m).all fun k => k == j || (match ops[k]?, ops[j]? with | some x, some y => x.dst.isNone || x.dst != y.dst | _, _ => false)) &&
  Region.seqB .any ops (ops.size - m) m ((Array.range ops.size).map fun i => decide (i < m)) && (decide (l < n) || decide (ops.size ≤ l))

structure Free (ops : Array Oper) (n m l : Nat) : Prop where
  sel : ∀ (j : Nat) (o : Oper) cs b, ops[j]? = some o → o.op ≠ .select cs b
  nm : n ≤ m
  size : m ≤ ops.size
  deps : ∀ j o, j < m → ops[j]? = some o → ∀ e ∈ o.after, Region.binds .any e = true → e.on < j
  apart : ∀ j k, j < m → k < j → waits ops j k = true ∨ apartAt ops k j
  tail : ∀ t k, m ≤ t → t < ops.size → k < m → k ≠ l → waits2 ops t k = true
  dst : ∀ j k x y d, j < m → k < m → k ≠ j → ops[k]? = some x → ops[j]? = some y → x.dst = some d → y.dst ≠ some d
  seq : Region.seqB .any ops (ops.size - m) m ((Array.range ops.size).map fun i => decide (i < m)) = true
  late : l < n ∨ ops.size ≤ l
theorem Free.of_check {n m l : Nat} (h : freeB ops n m l = true) : Free ops n m l := by
  simp only [freeB, Bool.and_eq_true, decide_eq_true_eq, List.all_eq_true, List.mem_range] at h
  obtain ⟨⟨⟨⟨⟨⟨⟨⟨h1, h2⟩, h3⟩, h4⟩, h5⟩, h6⟩, h7⟩, h8⟩, h9⟩ := h
  refine ⟨Region.noSelect_spec h1, h2, h3, fun j o hj ho e he hb => ?_, fun j k hj hk => ?_, fun t k ht hts hk hkl => ?_, fun j k x y d hj hk hne hx hy hd hy2 => ?_, h8, by simpa using h9⟩
  · have := h4 j hj
    rw [ho] at this
    have := Array.all_eq_true_iff_forall_mem.1 this e he
    simpa [hb] using this
  · have := h5 j hj k (by omega)
    simp only [Bool.or_eq_true, Bool.not_eq_true', decide_eq_false_iff_not] at this
    rcases this with (h | h) | h
    · omega
    · exact .inl h
    · right
      intro oi oj hi hj2
      rw [hi, hj2] at h
      exact h
  · have := h6 t hts
    simp only [Bool.or_eq_true, decide_eq_true_eq, List.all_eq_true, List.mem_range] at this
    rcases this with h | h
    · omega
    · have := h k hk
      simpa [hkl] using this
  · have := h7 j hj k hk
    rw [hx, hy] at this
    simp [hne, hd, hy2] at this
theorem waits_listed {listed : Array Bool} {j k : Nat} (hr : j ∈ Region.ready .any ops listed) (hw : waits ops j k = true) : listed.getD k false = true := by
  obtain ⟨o, ho, e, he, hb, hon⟩ := Region.waitsFor_spec hw
  obtain ⟨_, o2, ho2, hall⟩ := mem_ready.1 hr
  obtain rfl : o = o2 := Option.some.inj (ho.symm.trans ho2)
  rw [← hon]
  exact hall e he hb
theorem waits2_listed {listed : Array Bool} {j k : Nat} (hc : Closed ops listed) (hs : listed.size = ops.size) (hr : j ∈ Region.ready .any ops listed) (hw : waits2 ops j k = true) : listed.getD k false = true := by
  simp only [waits2, Bool.or_eq_true, List.any_eq_true, List.mem_range, Bool.and_eq_true] at hw
  rcases hw with h | ⟨q, hq, h1, h2⟩
  · exact waits_listed hr h
  · refine hc q k hq ?_ h2
    have := waits_listed hr h1
    have hqs : q < listed.size := by omega
    simpa [hqs] using this
theorem Closed.step {listed : Array Bool} {i : Nat} (hc : Closed ops listed) (hr : i ∈ Region.ready .any ops listed) : Closed ops (listed.setIfInBounds i true) := fun q k hq h1 h2 => by
  have : listed.getD k false = true := by
    by_cases e : q = i
    · subst e
      exact waits_listed hr h2
    · rw [getD_set_ne true (Ne.symm e)] at h1
      exact hc q k hq h1 h2
  by_cases e : k = i
  · subst e
    by_cases hk : k < listed.size
    · simp [hk]
    · simp [hk] at this
  · rw [getD_set_ne false (Ne.symm e)]
    exact this
theorem getD_flip {listed : Array Bool} {k : Nat} (hk : k < listed.size) : listed.getD k false = listed.getD k true := by
  simp [hk]

/-- What each new variable is: its slot's block, its cells. -/
structure NewVars (ops : Array Oper) (n m : Nat) (z : Nat → Array Value) (B : Nat) (listed : Array Bool) (bs : Nat → Nat) (a : Act) (w : World) : Prop where
  slot : ∀ j, n ≤ j → j < m → listed.getD j true = true → ∃ o, ops[j]? = some o ∧ ∃ d, o.dst = some d ∧ a.tmps[d]? = some (.pointer (some ⟨bs j, 0, none⟩))
  row : ∀ j, n ≤ j → j < m → listed.getD j true = true → rowAt w (bs j) = some (z j) ∧ B ≤ bs j
  other : ∀ j k, n ≤ j → j < m → listed.getD j true = true → n ≤ k → k < m → listed.getD k true = true → j ≠ k → bs j ≠ bs k

def left (listed : Array Bool) (n : Nat) : List Nat := (List.range n).filter fun i => !listed.getD i true
theorem mem_left {listed : Array Bool} {n i : Nat} : i ∈ left listed n ↔ i < n ∧ listed.getD i true = false := by
  simp [left]
theorem left_sorted (listed : Array Bool) (n : Nat) : (left listed n).Pairwise (· < ·) := List.Pairwise.filter _ List.pairwise_lt_range
theorem left_nodup (listed : Array Bool) (n : Nat) : (left listed n).Nodup := (left_sorted listed n).imp fun h => Nat.ne_of_lt h
theorem left_set {listed : Array Bool} {n i : Nat} (hi : i < listed.size) : left (listed.setIfInBounds i true) n = (left listed n).erase i := by
  rw [(left_nodup listed n).erase_eq_filter, left, left, List.filter_filter]
  apply List.filter_congr
  intro k hk
  by_cases e : k = i
  · subst e
    simp [hi]
  · rw [getD_set_ne true (Ne.symm e)]
    simp [e]
theorem left_out {listed : Array Bool} {n i : Nat} (hi : n ≤ i) : left (listed.setIfInBounds i true) n = left listed n := by
  rw [left, left]
  apply List.filter_congr
  intro k hk
  rw [getD_set_ne true (by have := List.mem_range.1 hk; omega)]

theorem tmps_put_ne {a : Act} {x : Option Tmp} {v : Value} {d : Tmp} (h : x ≠ some d) : (a.put x v).tmps[d]? = a.tmps[d]? := by
  cases x with
  | none => rfl
  | some e =>
    have : e ≠ d := fun h2 => h (by rw [h2])
    simp [Act.put, Array.getElem?_setIfInBounds_ne this]
theorem size_put (a : Act) (x : Option Tmp) (v : Value) : (a.put x v).tmps.size = a.tmps.size := by
  cases x <;> simp [Act.put]

theorem wp_of_quietAt {o : Oper} {a : Act} {w : World} {v : Value} {K : Act → World → Prop} {Q' : Exit → Act → World → Prop} (h : o.quietAt P a (fun w' => ∃ y : Past w, w' = y.w) w v)
    (hK : ∀ w', Below w.heap.size w w' → K (a.put o.dst v) w') : o.wp P a w K Q' := by
  unfold Oper.quietAt at h
  unfold Oper.wp
  generalize (execOp a.eval o).run P w = r at *
  cases r with
  | ok n w' =>
    cases n <;> simp only [Oper.quietUpon] at h <;> simp only [Oper.upon]
    case value u =>
      obtain ⟨e1, e2⟩ := h
      rw [e1, e2]
      exact hK _ (Below.refl _ _)
    case skip =>
      obtain ⟨e1, e2⟩ := h
      rw [e1, ← e2]
      exact hK _ (Below.refl _ _)
    case enter f args =>
      obtain ⟨e1, hc⟩ := h
      rw [e1]
      exact hc.mono fun e w'' ⟨he, y, hy⟩ => by subst he; rw [hy]; exact hK _ y.h
  | halt x w' => simp only [Oper.quietUpon] at h

/-- A new variable of one type, whatever the frame and the world. -/
def NewAt (P : Program) (ops : Array Oper) (z : Nat → Array Value) (N : Nat) (j : Nat) : Prop :=
  ∃ o d t, ops[j]? = some o ∧ o.dst = some d ∧ o.guard = none ∧ d < N ∧ ∀ a w, (execOp (Act.eval a) o).run P w = .ok (.value (.pointer (some ⟨w.heap.size, 0, none⟩))) (w.alloc (.cells (z j) t))

theorem listed_eq {N : Nat} {listed : Array Bool} {p : Nat → Bool} (hs : listed.size = N) (h : ∀ i, i < N → listed.getD i true = p i) : listed = (Array.range N).map p := by
  apply Array.ext
  · simp [hs]
  · intro i h1 h2
    have h3 := h i (by omega)
    simp [h1] at h3
    simp [h3]

theorem wpAny_free {n m l N : Nat} {z : Nat → Array Value} {W0 : World} {Q1 : Act → Prop} {Q' : Exit → Act → World → Prop} (F : Free ops n m l) (hal : ∀ j, n ≤ j → j < m → NewAt P ops z N j)
    (hT : ∀ a w bs, Below W0.heap.size W0 w → NewVars ops n m z W0.heap.size ((Array.range ops.size).map fun i => decide (i < m)) bs a w → Q1 a → wpList P ops Q' (ops.toList.drop m) a w)
    (hL : ∀ a w bs, l < n → Below W0.heap.size W0 w → NewVars ops n m z W0.heap.size ((Array.range ops.size).map fun i => decide (i < m) && i != l) bs a w → wpHead P ops W0 (slots Q1 ((List.range' n (m - n)).map fun j => (ops[j]?).bind (·.dst))) [l] a →
      wpAny P .any ops Q' (1 + (ops.size - m)) ((Array.range ops.size).map fun i => decide (i < m) && i != l) a w) :
    ∀ (f : Nat) (listed : Array Bool) (a : Act) (w : World) (bs : Nat → Nat), Closed ops listed → listed.size = ops.size → a.tmps.size = N → (left listed m).length = f → (∀ t, m ≤ t → t < ops.size → listed.getD t true = false) →
      Below W0.heap.size W0 w → NewVars ops n m z W0.heap.size listed bs a w → wpHead P ops W0 (slots Q1 ((List.range' n (m - n)).map fun j => (ops[j]?).bind (·.dst))) (left listed n) a →
      wpAny P .any ops Q' (f + (ops.size - m)) listed a w
  | 0, listed, a, w, bs, hcl, hs, hN, hf, ht, hb, hv, hh => by
    have hall : ∀ i, i < m → listed.getD i true = true := fun i hi => by
      cases h : listed.getD i true with
      | true => rfl
      | false =>
        have := mem_left.2 ⟨hi, h⟩
        rw [List.eq_nil_of_length_eq_zero hf] at this
        cases this
    have hle : listed = (Array.range ops.size).map fun i => decide (i < m) := listed_eq hs fun i hi => by
      by_cases him : i < m
      · simp [hall i him, him]
      · simp [ht i (by omega) hi, him]
    have hnil : left listed n = [] := by
      apply List.eq_nil_iff_forall_not_mem.2
      intro i hi
      obtain ⟨h1, h2⟩ := mem_left.1 hi
      rw [hall i (Nat.lt_of_lt_of_le h1 F.nm)] at h2
      cases h2
    rw [hnil] at hh
    subst hle
    rw [Nat.zero_add]
    have hlen : (ops.toList.drop m).length = ops.size - m := by simp
    have := wpAny_of_seq (P := P) (ops := ops) (md := .any) (Q' := Q') (ops.toList.drop m) m ((Array.range ops.size).map fun i => decide (i < m)) a w (fun j => by simp) (by rw [hlen]; exact F.seq) (hT a w bs hb hv (slots_end _ _ hh))
    rw [hlen] at this
    exact this
  | f + 1, listed, a, w, bs, hcl, hs, hN, hf, ht, hb, hv, hh => by
    have hne : ∃ i, i < m ∧ listed.getD i true = false := by
      cases hl : left listed m with
      | nil => rw [hl] at hf; cases hf
      | cons i r => exact ⟨i, mem_left.1 (by rw [hl]; simp)⟩
    have hready : ∃ i, i ∈ Region.ready .any ops listed := by
      have : ∀ k i, i < k → i < m → listed.getD i true = false → ∃ j, j ∈ Region.ready .any ops listed := by
        intro k
        induction k with
        | zero => intro i hi; omega
        | succ k ih =>
          intro i hik him hun
          have hsz : i < ops.size := Nat.lt_of_lt_of_le him F.size
          by_cases hd : ∀ e ∈ (ops[i]).after, Region.binds .any e = true → listed.getD e.on false = true
          · exact ⟨i, mem_ready.2 ⟨hun, ops[i], Array.getElem?_eq_getElem hsz, hd⟩⟩
          · obtain ⟨e, he⟩ := Classical.not_forall.1 hd
            obtain ⟨he1, he2⟩ := Classical.not_imp.1 he
            obtain ⟨he2, he3⟩ := Classical.not_imp.1 he2
            have hlt := F.deps i _ him (Array.getElem?_eq_getElem hsz) e he1 he2
            have hun2 : listed.getD e.on true = false := by
              rw [← getD_flip (by omega)]
              simpa using he3
            exact ih e.on (by omega) (by omega) hun2
      obtain ⟨i, him, hun⟩ := hne
      exact this (i + 1) i (by omega) him hun
    by_cases hcore : ∃ k, k < m ∧ k ≠ l ∧ listed.getD k true = false
    case neg =>
      have honly : ∀ k, k < m → k ≠ l → listed.getD k true = true := fun k h1 h2 => by
        cases h : listed.getD k true with
        | true => rfl
        | false => exact absurd ⟨k, h1, h2, h⟩ hcore
      obtain ⟨i, him, hun⟩ := hne
      have hil : i = l := by
        by_cases e : i = l
        · exact e
        · rw [honly i him e] at hun; cases hun
      subst hil
      have hin : i < n := by
        rcases F.late with h | h
        · exact h
        · have := F.size; omega
      have hle : listed = (Array.range ops.size).map fun k => decide (k < m) && k != i := listed_eq hs fun k hk => by
        by_cases e : k = i
        · subst e; simp [hun]
        · by_cases hkm : k < m
          · simp [honly k hkm e, hkm, e]
          · simp [ht k (by omega) hk, hkm]
      have hone : ∀ q, i < q → q ≤ m → left listed q = [i] := fun q h1 h2 => by
        have hnd := left_nodup listed q
        have hmem : ∀ k, k ∈ left listed q ↔ k = i := fun k => by
          rw [mem_left]
          refine ⟨fun ⟨h3, h4⟩ => ?_, fun e => by subst e; exact ⟨h1, hun⟩⟩
          by_cases e : k = i
          · exact e
          · rw [honly k (by omega) e] at h4; cases h4
        revert hnd hmem
        generalize left listed q = L
        intro hnd hmem
        match L, hnd, hmem with
        | [], _, hmem => exact absurd ((hmem i).2 rfl) (by simp)
        | [x], _, hmem => rw [(hmem x).1 (by simp)]
        | x :: y :: r, hnd, hmem =>
          have hx := (hmem x).1 (by simp)
          have hy := (hmem y).1 (by simp)
          simp [hx, hy] at hnd
      have hf1 : f = 0 := by
        rw [hone m him (Nat.le_refl _)] at hf
        simpa using hf.symm
      subst hf1
      rw [hone n hin F.nm] at hh
      subst hle
      exact hL a w bs hin hb hv hh
    rw [show f + 1 + (ops.size - m) = (f + (ops.size - m)) + 1 by omega]
    refine ⟨(fun h0 => by obtain ⟨i, hi⟩ := hready; rw [h0] at hi; cases hi), fun i hi => ?_⟩
    obtain ⟨hun, oi, hoi, hall⟩ := mem_ready.1 hi
    have hisz : i < ops.size := (Array.getElem?_eq_some_iff.1 hoi).1
    have him : i < m := by
      rcases Nat.lt_or_ge i m with h | h
      · exact h
      · obtain ⟨k, hkm, hkl, hk⟩ := hcore
        have := waits2_listed hcl hs hi (F.tail i k h hisz hkm hkl)
        rw [getD_flip (by have := F.size; omega), hk] at this
        cases this
    have hapart : ∀ k ∈ left listed n, k < i → apartAt ops k i := fun k hk hki => by
      obtain ⟨h1, h2⟩ := mem_left.1 hk
      rcases F.apart i k him hki with h | h
      · have := waits_listed hi h
        rw [getD_flip (by omega), h2] at this
        cases this
      · exact h
    have hcount : (left (listed.setIfInBounds i true) m).length = f := by
      rw [left_set (by omega), List.length_erase_of_mem (mem_left.2 ⟨him, hun⟩), hf]
      rfl
    have htail : ∀ t, m ≤ t → t < ops.size → (listed.setIfInBounds i true).getD t true = false := fun t h1 h2 => by
      rw [getD_set_ne true (by omega)]
      exact ht t h1 h2
    unfold wpOp
    simp only [hoi]
    by_cases hin : i < n
    · obtain ⟨v, hy, hrest⟩ := wpHead_take F.sel hoi (left listed n) a (left_sorted _ _) (mem_left.2 ⟨hin, hun⟩) hapart hh
      have hstep : ∀ w', Below w.heap.size w w' → wpAny P .any ops Q' (f + (ops.size - m)) (listed.setIfInBounds i true) (a.put oi.dst v) w' := fun w' hw => by
        refine wpAny_free F hal hT hL f _ _ w' bs (hcl.step hi) (by simpa using hs) ((size_put _ _ _).trans hN) hcount htail (below_past hb hw hb.size) ⟨fun j h1 h2 h3 => ?_, fun j h1 h2 h3 => ?_, fun j k h1 h2 h3 h4 h5 h6 => ?_⟩ ?_
        · rw [getD_set_ne true (by omega)] at h3
          obtain ⟨o, ho, d, hd, hs2⟩ := hv.slot j h1 h2 h3
          refine ⟨o, ho, d, hd, ?_⟩
          rw [tmps_put_ne (fun e => F.dst j i oi o d h2 him (by omega) hoi ho e hd)]
          exact hs2
        · rw [getD_set_ne true (by omega)] at h3
          obtain ⟨h4, h5⟩ := hv.row j h1 h2 h3
          exact ⟨rowAt_past hw h4, h5⟩
        · rw [getD_set_ne true (by omega)] at h3 h6
          exact hv.other j k h1 h2 h3 h4 h5 h6
        · rw [left_set (by omega)]
          exact hrest
      rcases hy with ⟨hw1, hw2⟩ | ⟨hw1, rfl⟩
      · rw [if_pos hw1]
        exact .inl (wp_of_quietAt (hw2 ⟨w, hb⟩) hstep)
      · rw [if_neg (by rw [hw1]; exact Bool.false_ne_true)]
        exact hstep w (Below.refl _ _)
    · obtain ⟨o, d, t, ho, hd, hg, hdN, hrun⟩ := hal i (by omega) him
      obtain rfl : o = oi := Option.some.inj (ho.symm.trans hoi)
      rw [if_pos (by simp [Region.wanted, hg])]
      left
      unfold Oper.wp
      rw [hrun a w]
      simp only [Oper.upon]
      have hba : Below w.heap.size w (w.alloc (.cells (z i) t)) := (Below.refl _ _).alloc (Nat.le_refl _) _
      refine wpAny_free F hal hT hL f _ _ _ (fun j => if j = i then w.heap.size else bs j) (hcl.step hi) (by simpa using hs) ((size_put _ _ _).trans hN) hcount htail (below_past hb hba hb.size) ⟨fun j h1 h2 h3 => ?_, fun j h1 h2 h3 => ?_, fun j k h1 h2 h3 h4 h5 h6 hjk => ?_⟩ ?_
      · by_cases e : j = i
        · subst e
          refine ⟨o, ho, d, hd, ?_⟩
          rw [hd, if_pos rfl]
          simp [Act.put, hN, hdN]
        · rw [getD_set_ne true (Ne.symm e)] at h3
          obtain ⟨o2, ho2, d2, hd2, hs2⟩ := hv.slot j h1 h2 h3
          refine ⟨o2, ho2, d2, hd2, ?_⟩
          rw [if_neg e, tmps_put_ne (fun e3 => F.dst j i o o2 d2 h2 him (Ne.symm e) ho ho2 e3 hd2)]
          exact hs2
      · by_cases e : j = i
        · subst e
          simp only [if_pos]
          exact ⟨rowAt_alloc_at _ _ _ _ rfl, hb.size⟩
        · rw [getD_set_ne true (Ne.symm e)] at h3
          obtain ⟨h4, h5⟩ := hv.row j h1 h2 h3
          simp only [if_neg e]
          exact ⟨rowAt_past hba h4, h5⟩
      · by_cases e : j = i
        · subst e
          have hk : listed.getD k true = true := by rwa [getD_set_ne true hjk] at h6
          have := lt_of_rowAt (hv.row k h4 h5 hk).1
          simp only [if_pos, if_neg (Ne.symm hjk)]
          omega
        · by_cases e2 : k = i
          · subst e2
            have hj : listed.getD j true = true := by rwa [getD_set_ne true (Ne.symm e)] at h3
            have := lt_of_rowAt (hv.row j h1 h2 hj).1
            simp only [if_neg e, if_pos]
            omega
          · rw [getD_set_ne true (Ne.symm e)] at h3
            rw [getD_set_ne true (Ne.symm e2)] at h6
            simp only [if_neg e, if_neg e2]
            exact hv.other j k h1 h2 h3 h4 h5 h6 hjk
      · rw [left_out (by omega)]
        refine wpHead_put F.sel ho (fun a ha => slots_put _ _ _ ?_ ha) _ _ (fun k hk => hapart k hk (by have := (mem_left.1 hk).1; omega)) hh
        rw [List.mem_map]
        exact ⟨i, by rw [List.mem_range'_1]; omega, by rw [ho]; rfl⟩

theorem unlisted (l : List Oper) (k : Nat) (hk : k < l.toArray.size) : (Array.replicate l.toArray.size false).getD k true = false := by
  have : k < l.length := by simpa using hk
  simp [this]
theorem left_all (l : List Oper) (k : Nat) (hk : k ≤ l.toArray.size) : left (Array.replicate l.toArray.size false) k = List.range k := by
  rw [left, List.filter_eq_self]
  intro i hi
  rw [unlisted l i (by have := List.mem_range.1 hi; omega)]
  rfl

/-- THE LAW. What the tail is given: the new variables, each zero, in blocks of their own; below them all is as it was. -/
theorem wp_region_free {id n m : Nat} {z : Nat → Array Value} {Q : Exit → Act → World → Prop} {a : Act} {w : World} {l : List Oper} (Q1 : Act → Prop) (hm : P.follows .mixedOrders = true) (hB : freeB l.toArray n m = true)
    (hal : ∀ j, n ≤ j → j < m → NewAt P l.toArray z a.tmps.size j)
    (hh : wpHead P l.toArray w (slots Q1 ((List.range' n (m - n)).map fun j => (l.toArray[j]?).bind (·.dst))) (List.range n) a)
    (hT : ∀ a' w' bs, Below w.heap.size w w' → NewVars l.toArray n m z w.heap.size ((Array.range l.toArray.size).map fun i => decide (i < m)) bs a' w' → Q1 a' → wpList P l.toArray Q (l.toArray.toList.drop m) a' w') :
    (Code.region id l.toArray true).wp P Q a w := by
  have F := Free.of_check hB
  have hb : Below w.heap.size w w.drew := (Below.refl _ _).drew
  refine wp_region_any hm ?_
  have := wpAny_free (W0 := w) F hal hT (fun _ _ _ h => by have := F.nm; have := F.size; omega) m (Array.replicate l.toArray.size false) a w.drew (fun _ => 0) (fun q _ hq h _ => by rw [unlisted l q hq] at h; cases h) (by simp) rfl (by rw [left_all l m F.size]; simp) (fun t _ h2 => unlisted l t h2) hb
    ⟨(fun j _ h2 h3 => by rw [unlisted l j (by have := F.size; omega)] at h3; cases h3), (fun j _ h2 h3 => by rw [unlisted l j (by have := F.size; omega)] at h3; cases h3), (fun j k _ h2 h3 => by rw [unlisted l j (by have := F.size; omega)] at h3; cases h3)⟩
    (by rw [left_all l n (by have := F.nm; have := F.size; omega)]; exact hh)
  rw [show m + (l.toArray.size - m) = l.toArray.size by have := F.size; omega] at this
  exact this

/-- A last operation of the head that the tail's first, a store, doesn't wait for. -/
def lateB (ops : Array Oper) (n m l : Nat) : Bool :=
  freeB ops n m l && decide (ops.size = m + 2) && decide (l < n) && waits ops (m + 1) m && waits ops (m + 1) l &&
  (match ops[l]?, ops[m]?, ops[m + 1]? with
  | some ol, some st, some o2 => st.dst.isNone && st.guard.isNone && o2.guard.isNone && (match ol.dst with | some d => !(st.looksAt ops).contains d | none => true) | _, _, _ => false) &&
  Region.seqB .any ops 1 (m + 1) ((Array.range ops.size).map fun i => decide (i < m + 1))

theorem wp_region_late {id n m k : Nat} {z : Nat → Array Value} {Q : Exit → Act → World → Prop} {a : Act} {w : World} {l : List Oper} (Q1 : Act → Prop) (hm : P.follows .mixedOrders = true) (hB : lateB l.toArray n m k = true)
    (hal : ∀ j, n ≤ j → j < m → NewAt P l.toArray z a.tmps.size j)
    (hh : wpHead P l.toArray w (slots Q1 ((List.range' n (m - n)).map fun j => (l.toArray[j]?).bind (·.dst))) (List.range n) a)
    (hS : ∀ a' w' bs st o2, l.toArray[m]? = some st → l.toArray[m + 1]? = some o2 → Below w.heap.size w w' → NewVars l.toArray n m z w.heap.size ((Array.range l.toArray.size).map fun i => decide (i < m)) bs a' w' → Q1 a' →
      ∃ w2, (execOp a'.eval st).run P w' = .ok .skip w2 ∧ Below w.heap.size w' w2 ∧ ∀ w3, Below w2.heap.size w2 w3 → wpList P l.toArray Q [o2] a' w3) :
    (Code.region id l.toArray true).wp P Q a w := by
  simp only [lateB, Bool.and_eq_true, decide_eq_true_eq] at hB
  obtain ⟨⟨⟨⟨⟨⟨hF, hsz⟩, hkn⟩, hw1⟩, hw2⟩, hmatch⟩, hseq⟩ := hB
  have F := Free.of_check hF
  have hnm := F.nm
  obtain ⟨ol, hol⟩ : ∃ o, l.toArray[k]? = some o := ⟨_, Array.getElem?_eq_getElem (by omega)⟩
  obtain ⟨st, hst⟩ : ∃ o, l.toArray[m]? = some o := ⟨_, Array.getElem?_eq_getElem (by omega)⟩
  obtain ⟨o2, ho2⟩ : ∃ o, l.toArray[m + 1]? = some o := ⟨_, Array.getElem?_eq_getElem (by omega)⟩
  rw [hol, hst, ho2] at hmatch
  simp only [Bool.and_eq_true, Option.isNone_iff_eq_none] at hmatch
  obtain ⟨⟨⟨hsd, hsg⟩, h2g⟩, hlook⟩ := hmatch
  have hlook' : ∀ d, ol.dst = some d → d ∉ st.looksAt l.toArray := fun d hd => by
    rw [hd] at hlook
    simpa using hlook
  have hdrop : l.toArray.toList.drop m = [st, o2] := by
    apply List.ext_getElem?
    intro i
    rw [List.getElem?_drop]
    match i with
    | 0 => simpa using hst
    | 1 => simpa using ho2
    | i + 2 =>
      have h0 : l.toArray.size = l.length := by simp
      have h1 : l.length ≤ m + (i + 2) := by omega
      simp [h1]
  have hdrop1 : l.toArray.toList.drop (m + 1) = [o2] := by
    have : l.toArray.toList.drop (m + 1) = (l.toArray.toList.drop m).drop 1 := by rw [List.drop_drop]
    rw [this, hdrop]
    rfl
  have ws' : ∀ tmps, Region.wanted st (yielded l.toArray tmps) = true := fun tmps => by simp [Region.wanted, hsg]
  have hT : ∀ a' w' bs, Below w.heap.size w w' → NewVars l.toArray n m z w.heap.size ((Array.range l.toArray.size).map fun i => decide (i < m)) bs a' w' → Q1 a' → wpList P l.toArray Q (l.toArray.toList.drop m) a' w' := fun a' w' bs h1 h2 h3 => by
    obtain ⟨w2, hr, _, h4⟩ := hS a' w' bs st o2 hst ho2 h1 h2 h3
    rw [hdrop]
    unfold wpList
    rw [if_pos (ws' _)]
    left
    unfold Oper.wp
    rw [hr]
    simp only [Oper.upon, hsd]
    exact h4 _ (Below.refl _ _)
  have hb : Below w.heap.size w w.drew := (Below.refl _ _).drew
  have hselk := F.sel
  refine wp_region_any hm ?_
  have := wpAny_free (W0 := w) F hal hT ?hL m (Array.replicate l.toArray.size false) a w.drew (fun _ => 0) (fun q _ hq h _ => by rw [unlisted l q hq] at h; cases h) (by simp) rfl (by rw [left_all l m F.size]; simp) (fun t _ h2 => unlisted l t h2) hb
    ⟨(fun j _ h2 h3 => by rw [unlisted l j (by have := F.size; omega)] at h3; cases h3), (fun j _ h2 h3 => by rw [unlisted l j (by have := F.size; omega)] at h3; cases h3), (fun j k _ h2 h3 => by rw [unlisted l j (by have := F.size; omega)] at h3; cases h3)⟩
    (by rw [left_all l n (by have := F.nm; have := F.size; omega)]; exact hh)
  · rw [show m + (l.toArray.size - m) = l.toArray.size by have := F.size; omega] at this
    exact this
  case hL =>
    intro a' w' bs _ hb' hv hone
    obtain ⟨o, v, ho, hy, hq⟩ := hone
    obtain rfl : o = ol := Option.some.inj (ho.symm.trans hol)
    have hfull : NewVars l.toArray n m z w.heap.size ((Array.range l.toArray.size).map fun i => decide (i < m)) bs (a'.put o.dst v) w' := by
      have hg : ∀ j, n ≤ j → j < m → ((Array.range l.toArray.size).map fun i => decide (i < m) && i != k).getD j true = true := fun j h1 h2 => by
        have h3 : j < l.length := by have : l.toArray.size = l.length := by simp
                                     omega
        have : j ≠ k := by omega
        simp [h3, h2, this]
      refine ⟨fun j h1 h2 _ => ?_, fun j h1 h2 _ => hv.row j h1 h2 (hg j h1 h2), fun j q h1 h2 _ h4 h5 _ hjq => hv.other j q h1 h2 (hg j h1 h2) h4 h5 (hg q h4 h5) hjq⟩
      obtain ⟨oj, hoj, d, hd, hs2⟩ := hv.slot j h1 h2 (hg j h1 h2)
      refine ⟨oj, hoj, d, hd, ?_⟩
      rw [tmps_put_ne (fun e => F.dst j k o oj d h2 (by omega) (by omega) hol hoj e hd)]
      exact hs2
    have hQ1 : Q1 (a'.put o.dst v) := slots_end _ _ hq
    have hrd : ∀ listed : Array Bool, listed.size = l.toArray.size → (∀ i, i < m → i ≠ k → listed.getD i true = true) → listed.getD k true = false → k ∈ Region.ready .any l.toArray listed := fun listed hs h1 h2 => by
      refine mem_ready.2 ⟨h2, o, hol, fun e he hbd => ?_⟩
      have hlt := F.deps k o (by omega) hol e he hbd
      rw [getD_flip (by omega)]
      exact h1 e.on (by omega) (by omega)
    rw [show 1 + (l.toArray.size - m) = 2 + 1 by omega]
    have hsz' : l.length = m + 2 := by simpa using hsz
    have hlist : ∀ (p : Nat → Bool) i, i < m + 2 → ((Array.range l.toArray.size).map p).getD i true = p i := fun p i hi => by
      have : i < l.length := by omega
      simp [this]
    have hkr : k ∈ Region.ready .any l.toArray ((Array.range l.toArray.size).map fun i => decide (i < m) && i != k) :=
      hrd _ (by simp) (fun i h1 h2 => by rw [hlist _ i (by omega)]; simp [h1, h2]) (by rw [hlist _ k (by omega)]; simp)
    refine ⟨(fun h0 => by rw [h0] at hkr; cases hkr), fun i hi => ?_⟩
    obtain ⟨hun, oi, hoi, hall⟩ := mem_ready.1 hi
    have hisz : i < m + 2 := by have := (Array.getElem?_eq_some_iff.1 hoi).1; omega
    rw [hlist _ i hisz] at hun
    have hne : i ≠ m + 1 := fun e => by
      subst e
      have := waits_listed hi hw1
      rw [getD_flip (by simp; omega), hlist _ m (by omega)] at this
      simp at this
    unfold wpOp
    simp only [hoi]
    by_cases him : i = m
    · subst him
      obtain rfl : st = oi := Option.some.inj (hst.symm.trans hoi)
      obtain ⟨w2, hr, hb2, h4⟩ := hS _ w' bs st o2 hst ho2 hb' hfull hQ1
      rw [if_pos (ws' _)]
      left
      rw [execOp_put (ops := l.toArray) st (hselk i st · · hst) a' o.dst v hlook'] at hr
      unfold Oper.wp
      rw [hr]
      simp only [Oper.upon, hsd]
      have hset : ((Array.range l.toArray.size).map fun j => decide (j < i) && j != k).setIfInBounds i true = (Array.range l.toArray.size).map fun j => decide (j < i + 1) && j != k := listed_eq (by simp) fun j hj => by
        by_cases e : j = i
        · subst e
          have : j ≠ k := by omega
          have : j < l.length := by omega
          simp [*]
        · rw [getD_set_ne true (Ne.symm e), hlist _ j (by omega)]
          have : (j < i + 1) ↔ (j < i) := by omega
          simp [this]
      rw [hset]
      show wpAny P .any l.toArray Q (1 + 1) _ a' w2
      have hkr2 : k ∈ Region.ready .any l.toArray ((Array.range l.toArray.size).map fun j => decide (j < i + 1) && j != k) :=
        hrd _ (by simp) (fun j h1 h2 => by rw [hlist _ j (by omega)]; simp [h2]; omega) (by rw [hlist _ k (by omega)]; simp)
      refine ⟨(fun h0 => by rw [h0] at hkr2; cases hkr2), fun j hj => ?_⟩
      obtain ⟨hun3, oj, hoj, _⟩ := mem_ready.1 hj
      have hjsz : j < i + 2 := by have := (Array.getElem?_eq_some_iff.1 hoj).1; omega
      have hjk : j = k := by
        by_cases e : j = i + 1
        · subst e
          have := waits_listed hj hw2
          rw [getD_flip (by simp; omega), hlist _ k (by omega)] at this
          simp at this
        · rw [hlist _ j hjsz] at hun3
          have : j < i + 1 := by omega
          simpa [this] using hun3
      subst hjk
      unfold wpOp
      simp only [hol]
      have hset2 : ((Array.range l.toArray.size).map fun q => decide (q < i + 1) && q != j).setIfInBounds j true = (Array.range l.toArray.size).map fun q => decide (q < i + 1) := listed_eq (by simp) fun q hq => by
        by_cases e : q = j
        · subst e
          have : q < l.length := by omega
          have : q < i + 1 := by omega
          simp [*]
        · rw [getD_set_ne true (Ne.symm e), hlist _ q (by omega)]
          simp [e]
      rw [hset2]
      have hlast : ∀ w3, Below w2.heap.size w2 w3 → wpAny P .any l.toArray Q 1 ((Array.range l.toArray.size).map fun q => decide (q < i + 1)) (a'.put o.dst v) w3 := fun w3 h5 => by
        have := wpAny_of_seq (P := P) (ops := l.toArray) (md := .any) (Q' := Q) (l.toArray.toList.drop (i + 1)) (i + 1) ((Array.range l.toArray.size).map fun q => decide (q < i + 1)) (a'.put o.dst v) w3 (fun j => by simp) (by rw [hdrop1]; exact hseq)
          (by rw [hdrop1]; exact h4 w3 h5)
        rw [hdrop1] at this
        exact this
      rcases hy with ⟨hy1, hy2⟩ | ⟨hy1, rfl⟩
      · rw [if_pos hy1]
        exact .inl (wp_of_quietAt (hy2 ⟨w2, hb'.trans hb2⟩) hlast)
      · rw [if_neg (by rw [hy1]; exact Bool.false_ne_true)]
        exact hlast w2 (Below.refl _ _)
    · have hik : i = k := by
        have : i < m := by omega
        simpa [this] using hun
      subst hik
      obtain rfl : o = oi := Option.some.inj (hol.symm.trans hoi)
      have hset : ((Array.range l.toArray.size).map fun j => decide (j < m) && j != i).setIfInBounds i true = (Array.range l.toArray.size).map fun j => decide (j < m) := listed_eq (by simp) fun j hj => by
        by_cases e : j = i
        · subst e
          have : j < l.length := by omega
          have : j < m := by omega
          simp [*]
        · rw [getD_set_ne true (Ne.symm e), hlist _ j (by omega)]
          simp [e]
      rw [hset]
      have hlast : ∀ w3, Below w'.heap.size w' w3 → wpAny P .any l.toArray Q 2 ((Array.range l.toArray.size).map fun q => decide (q < m)) (a'.put o.dst v) w3 := fun w3 h5 => by
        have hv3 : NewVars l.toArray n m z w.heap.size ((Array.range l.toArray.size).map fun i => decide (i < m)) bs (a'.put o.dst v) w3 :=
          ⟨hfull.slot, fun j h1 h2 h3 => ⟨rowAt_past h5 (hfull.row j h1 h2 h3).1, (hfull.row j h1 h2 h3).2⟩, hfull.other⟩
        have := wpAny_of_seq (P := P) (ops := l.toArray) (md := .any) (Q' := Q) (l.toArray.toList.drop m) m ((Array.range l.toArray.size).map fun q => decide (q < m)) (a'.put o.dst v) w3 (fun j => by simp)
          (by rw [hdrop]; have := F.seq; rwa [show l.toArray.size - m = 2 by omega] at this) (hT _ w3 bs (below_past hb' h5 hb'.size) hv3 hQ1)
        rw [hdrop] at this
        exact this
      rcases hy with ⟨hy1, hy2⟩ | ⟨hy1, rfl⟩
      · rw [if_pos hy1]
        exact .inl (wp_of_quietAt (hy2 ⟨w', hb'⟩) hlast)
      · rw [if_neg (by rw [hy1]; exact Bool.false_ne_true)]
        exact hlast w' (Below.refl _ _)
end
end Go.Proofs.YtmabigcolabbmaaGreatDoor
namespace Go.Proofs.YtmabigcolabbmaaGreatDoor
open Go Go.RowKit

section
variable {P : Program} {ops : Array Oper}

/-- What is asked of a wild operation: it yields some value, in a world in which all that it found is as it was. -/
def wildUpon (P : Program) (w : World) (K : Value → World → Prop) : Result Next → Prop
  | .ok (.value v) w' => Below w.heap.size w w' ∧ K v w'
  | .ok (.enter f args) w' => w' = w ∧ Calls P f args w fun e w'' => ∃ v, e = .returned v ∧ Below w.heap.size w w'' ∧ K v w''
  | _ => False
def wildAt (P : Program) (o : Oper) (a : Act) (w : World) (K : Value → World → Prop) : Prop := wildUpon P w K ((execOp a.eval o).run P w)
theorem wildAt_mono {o : Oper} {a : Act} {w : World} {K K' : Value → World → Prop} (h : wildAt P o a w K) (hk : ∀ v w', Below w.heap.size w w' → K v w' → K' v w') : wildAt P o a w K' := by
  unfold wildAt at *
  generalize (execOp a.eval o).run P w = r at *
  cases r with
  | ok n w' =>
    cases n <;> simp only [wildUpon] at h ⊢
    case value u => exact ⟨h.1, hk _ _ h.1 h.2⟩
    case enter f args => exact ⟨h.1, h.2.mono fun e w'' ⟨v, h1, h2, h3⟩ => ⟨v, h1, h2, hk _ _ h2 h3⟩⟩
  | halt x w' => simp only [wildUpon] at h
theorem wildAt_put {o : Oper} {a : Act} {w : World} {K : Value → World → Prop} {dst : Option Tmp} {u : Value} (hs : ∀ cs b, o.op ≠ .select cs b) (hd : ∀ d, dst = some d → d ∉ o.looksAt ops) : wildAt P o (a.put dst u) w K ↔ wildAt P o a w K := by
  unfold wildAt
  rw [execOp_put o hs a dst u hd]
theorem wp_of_wildAt {o : Oper} {a : Act} {w : World} {K : Act → World → Prop} {Q' : Exit → Act → World → Prop} {K2 : Value → World → Prop} (h : wildAt P o a w K2) (hK : ∀ v w', Below w.heap.size w w' → K2 v w' → K (a.put o.dst v) w') : o.wp P a w K Q' := by
  unfold wildAt at h
  unfold Oper.wp
  generalize (execOp a.eval o).run P w = r at *
  cases r with
  | ok n w' =>
    cases n <;> simp only [wildUpon] at h <;> simp only [Oper.upon]
    case value u => exact hK _ _ h.1 h.2
    case enter f args =>
      obtain ⟨e1, hc⟩ := h
      rw [e1]
      exact hc.mono fun e w'' ⟨v, he, hb, hk⟩ => by subst he; exact hK _ _ hb hk
  | halt x w' => simp only [wildUpon] at h

/-- The walk in the order of the text: W is what all that follows may rely on. -/
def wpWild (P : Program) (ops : Array Oper) (wild : List Nat) (Qh : World → Act → Prop) : List Nat → World → Act → Prop
  | [], W, a => Qh W a
  | i :: is, W, a => ∃ o, ops[i]? = some o ∧
      ((i ∉ wild ∧ ∃ v, YieldsS P ops W o v a ∧ wpWild P ops wild Qh is W (a.put o.dst v)) ∨
       (i ∈ wild ∧ Region.wanted o (yielded ops a.tmps) = true ∧ ∀ x : Past W, wildAt P o a x.w fun v w' => wpWild P ops wild Qh is w' (a.put o.dst v)))
theorem wpWild_past {wild : List Nat} {Qh : World → Act → Prop} (hQ : ∀ W W' a, Below W.heap.size W W' → Qh W a → Qh W' a) : ∀ (is : List Nat) (W W' : World) (a : Act), Below W.heap.size W W' → wpWild P ops wild Qh is W a → wpWild P ops wild Qh is W' a
  | [], _, _, _, hb, h => hQ _ _ _ hb h
  | _ :: is, W, W', _, hb, ⟨o, h1, h2⟩ => by
    refine ⟨o, h1, ?_⟩
    rcases h2 with ⟨hn, v, h3, h4⟩ | ⟨hn, h3, h4⟩
    · exact .inl ⟨hn, v, h3.past hb, wpWild_past hQ is _ _ _ hb h4⟩
    · exact .inr ⟨hn, h3, fun x => h4 ⟨x.w, Below.step hb x.h⟩⟩

theorem wpWild_take {wild : List Nat} {Qh : World → Act → Prop} (hsel : ∀ (j : Nat) (o : Oper) cs b, ops[j]? = some o → o.op ≠ .select cs b) {j : Nat} {oj : Oper} (hj : ops[j]? = some oj) :
    ∀ (is : List Nat) (W : World) (a : Act), is.Pairwise (· < ·) → j ∈ is → (∀ k ∈ is, k < j → apartAt ops k j ∧ k ∉ wild) → wpWild P ops wild Qh is W a →
      (j ∉ wild ∧ ∃ v, YieldsS P ops W oj v a ∧ wpWild P ops wild Qh (is.erase j) W (a.put oj.dst v)) ∨
      (j ∈ wild ∧ Region.wanted oj (yielded ops a.tmps) = true ∧ ∀ x : Past W, wildAt P oj a x.w fun v w' => wpWild P ops wild Qh (is.erase j) w' (a.put oj.dst v))
  | i :: is, W, a, hp, hm, hap, ⟨o, h1, h2⟩ => by
    by_cases hij : i = j
    · subst hij
      obtain rfl : o = oj := Option.some.inj (h1.symm.trans hj)
      simpa using h2
    · have hm' : j ∈ is := by
        rcases List.mem_cons.1 hm with e | e
        · exact absurd e.symm hij
        · exact e
      have hlt : i < j := (List.pairwise_cons.1 hp).1 j hm'
      obtain ⟨hapi, hni⟩ := hap i (by simp) hlt
      rcases h2 with ⟨_, v, h2, h3⟩ | ⟨hw, _⟩
      case inr => exact absurd hw hni
      obtain ⟨s1, s2, s3⟩ := Oper.apart_spec (hapi o oj h1 hj)
      have hrec := wpWild_take hsel hj is W (a.put o.dst v) (List.pairwise_cons.1 hp).2 hm' (fun k hk => hap k (List.mem_cons_of_mem _ hk)) h3
      rw [List.erase_cons_tail (by simpa using hij)]
      rcases hrec with ⟨hn, u, y1, y2⟩ | ⟨hn, y1, y2⟩
      · refine .inl ⟨hn, u, (YieldsS.put (hsel j oj · · hj) s1).1 y1, o, h1, .inl ⟨hni, v, (YieldsS.put (hsel i o · · h1) s3).2 h2, ?_⟩⟩
        rw [← Act.put_comm a v u s2]
        exact y2
      · refine .inr ⟨hn, ?_, fun x => ?_⟩
        · rwa [wanted_put oj a o.dst v s1] at y1
        · refine wildAt_mono ((wildAt_put (ops := ops) (hsel j oj · · hj) s1).1 (y2 x)) fun u w' hb hk => ?_
          refine ⟨o, h1, .inl ⟨hni, v, (YieldsS.put (hsel i o · · h1) s3).2 (h2.past (Below.step x.h hb)), ?_⟩⟩
          rw [← Act.put_comm a v u s2]
          exact hk
  | [], _, _, _, hm, _, _ => by cases hm

/-- What waits for operation k, be it by way of others. -/
def waitsT (ops : Array Oper) (k : Nat) : List Nat := (List.range ops.size).foldl (fun acc j => if waits ops j k || acc.any fun q => waits ops j q then j :: acc else acc) []
def Sat (ops : Array Oper) (listed : Array Bool) (q : Nat) : Prop := ∀ k, waits ops q k = true → listed.getD k false = true
def Dep (ops : Array Oper) (q k : Nat) : Prop := q < ops.size ∧ ∀ listed, Closed ops listed → listed.size = ops.size → Sat ops listed q → listed.getD k false = true
theorem foldl_keep {α β : Type} (f : β → α → β) (p : β → Prop) : ∀ (l : List α) (b : β), p b → (∀ b a, a ∈ l → p b → p (f b a)) → p (l.foldl f b)
  | [], _, h, _ => h
  | a :: l, b, h, hf => foldl_keep f p l (f b a) (hf b a (by simp) h) fun b x hx => hf b x (by simp [hx])
theorem waitsT_dep (k : Nat) : ∀ q ∈ waitsT ops k, Dep ops q k := by
  unfold waitsT
  refine foldl_keep _ (fun acc => ∀ q ∈ acc, Dep ops q k) _ _ (fun q h => by cases h) fun acc j hj hacc => ?_
  split
  · rename_i hw
    have hjs : j < ops.size := List.mem_range.1 hj
    intro q hq
    rcases List.mem_cons.1 hq with rfl | hq
    · refine ⟨hjs, fun listed hc hs hsat => ?_⟩
      rw [Bool.or_eq_true, List.any_eq_true] at hw
      rcases hw with hw | ⟨p, hp, hw⟩
      · exact hsat k hw
      · obtain ⟨hps, hd⟩ := hacc p hp
        have hl := hsat p hw
        refine hd listed hc hs fun m hm => hc p m hps ?_ hm
        simpa [show p < listed.size by omega] using hl
    · exact hacc q hq
  · exact hacc

/-- n operations, some of them wild, then a tail. -/
def wildB (ops : Array Oper) (wild : List Nat) (n : Nat) : Bool :=
  Region.noSelect ops && decide (n ≤ ops.size) &&
  ((List.range n).all fun j => match ops[j]? with | some o => o.after.all (fun e => !Region.binds .any e || decide (e.on < j)) | none => false) &&
  ((List.range n).all fun j => (List.range n).all fun k => !decide (k < j) || wild.contains k || waits ops j k || (match ops[k]?, ops[j]? with | some x, some y => x.apart ops y | _, _ => false)) &&
  (wild.all fun k => let T := waitsT ops k; (List.range n).all fun j => decide (j ≤ k) || T.contains j) &&
  (decide (n = ops.size) || (List.range n).all fun k => let T := waitsT ops k; (List.range ops.size).all fun t => decide (t < n) || T.contains t) &&
  Region.seqB .any ops (ops.size - n) n ((Array.range ops.size).map fun i => decide (i < n))
structure WildOk (ops : Array Oper) (wild : List Nat) (n : Nat) : Prop where
  sel : ∀ (j : Nat) (o : Oper) cs b, ops[j]? = some o → o.op ≠ .select cs b
  size : n ≤ ops.size
  deps : ∀ j o, j < n → ops[j]? = some o → ∀ e ∈ o.after, Region.binds .any e = true → e.on < j
  apart : ∀ j k, j < n → k < j → Dep ops j k ∨ (apartAt ops k j ∧ k ∉ wild)
  tail : ∀ t k, n ≤ t → t < ops.size → k < n → Dep ops t k
  seq : Region.seqB .any ops (ops.size - n) n ((Array.range ops.size).map fun i => decide (i < n)) = true
theorem WildOk.of_check {wild : List Nat} {n : Nat} (h : wildB ops wild n = true) : WildOk ops wild n := by
  simp only [wildB, Bool.and_eq_true, decide_eq_true_eq, List.all_eq_true, List.mem_range] at h
  obtain ⟨⟨⟨⟨⟨⟨h1, h2⟩, h3⟩, h4⟩, h5⟩, h6⟩, h7⟩ := h
  refine ⟨Region.noSelect_spec h1, h2, fun j o hj ho e he hb => ?_, fun j k hj hk => ?_, fun t k ht hts hk => ?_, h7⟩
  · have := h3 j hj
    rw [ho] at this
    have := Array.all_eq_true_iff_forall_mem.1 this e he
    simpa [hb] using this
  · by_cases hw : k ∈ wild
    · left
      have := h5 k hw j hj
      simp only [Bool.or_eq_true, decide_eq_true_eq, List.contains_iff_mem] at this
      rcases this with h | h
      · omega
      · exact waitsT_dep k j h
    · have := h4 j hj k (by omega)
      simp only [Bool.or_eq_true, Bool.not_eq_true', decide_eq_false_iff_not, List.contains_iff_mem] at this
      rcases this with ((h | h) | h) | h
      · omega
      · exact absurd h hw
      · exact .inl ⟨by omega, fun listed _ _ hs => hs k h⟩
      · right
        refine ⟨fun oi oj hi hj2 => ?_, hw⟩
        rw [hi, hj2] at h
        exact h
  · simp only [Bool.or_eq_true, decide_eq_true_eq, List.all_eq_true, List.mem_range] at h6
    rcases h6 with h | h
    · omega
    · have := h k hk t hts
      rw [List.contains_iff_mem] at this
      rcases this with h | h
      · omega
      · exact waitsT_dep k t h

theorem wpAny_wild {n : Nat} {wild : List Nat} {Q' : Exit → Act → World → Prop} {T : Act → World → Prop} (F : WildOk ops wild n) (hT : ∀ a w, T a w → wpList P ops Q' (ops.toList.drop n) a w) :
    ∀ (f : Nat) (listed : Array Bool) (a : Act) (w W : World), Closed ops listed → listed.size = ops.size → (left listed n).length = f → (∀ t, n ≤ t → t < ops.size → listed.getD t true = false) →
      Below W.heap.size W w → wpWild P ops wild (fun W a => ∀ x : Past W, T a x.w) (left listed n) W a → wpAny P .any ops Q' (f + (ops.size - n)) listed a w
  | 0, listed, a, w, W, hcl, hs, hf, ht, hb, hh => by
    have hall : ∀ i, i < n → listed.getD i true = true := fun i hi => by
      cases h : listed.getD i true with
      | true => rfl
      | false =>
        have := mem_left.2 ⟨hi, h⟩
        rw [List.eq_nil_of_length_eq_zero hf] at this
        cases this
    have hle : listed = (Array.range ops.size).map fun i => decide (i < n) := listed_eq hs fun i hi => by
      by_cases him : i < n
      · simp [hall i him, him]
      · simp [ht i (by omega) hi, him]
    rw [List.eq_nil_of_length_eq_zero hf] at hh
    subst hle
    rw [Nat.zero_add]
    have hlen : (ops.toList.drop n).length = ops.size - n := by simp
    have := wpAny_of_seq (P := P) (ops := ops) (md := .any) (Q' := Q') (ops.toList.drop n) n ((Array.range ops.size).map fun i => decide (i < n)) a w (fun j => by simp) (by rw [hlen]; exact F.seq) (hT a w (hh ⟨w, hb⟩))
    rw [hlen] at this
    exact this
  | f + 1, listed, a, w, W, hcl, hs, hf, ht, hb, hh => by
    have hne : ∃ i, i < n ∧ listed.getD i true = false := by
      cases hl : left listed n with
      | nil => rw [hl] at hf; cases hf
      | cons i r => exact ⟨i, mem_left.1 (by rw [hl]; simp)⟩
    have hready : ∃ i, i ∈ Region.ready .any ops listed := by
      have : ∀ k i, i < k → i < n → listed.getD i true = false → ∃ j, j ∈ Region.ready .any ops listed := by
        intro k
        induction k with
        | zero => intro i hi; omega
        | succ k ih =>
          intro i hik him hun
          have hsz : i < ops.size := Nat.lt_of_lt_of_le him F.size
          by_cases hd : ∀ e ∈ (ops[i]).after, Region.binds .any e = true → listed.getD e.on false = true
          · exact ⟨i, mem_ready.2 ⟨hun, ops[i], Array.getElem?_eq_getElem hsz, hd⟩⟩
          · obtain ⟨e, he⟩ := Classical.not_forall.1 hd
            obtain ⟨he1, he2⟩ := Classical.not_imp.1 he
            obtain ⟨he2, he3⟩ := Classical.not_imp.1 he2
            have hlt := F.deps i _ him (Array.getElem?_eq_getElem hsz) e he1 he2
            have hun2 : listed.getD e.on true = false := by
              rw [← getD_flip (by omega)]
              simpa using he3
            exact ih e.on (by omega) (by omega) hun2
      obtain ⟨i, him, hun⟩ := hne
      exact this (i + 1) i (by omega) him hun
    rw [show f + 1 + (ops.size - n) = (f + (ops.size - n)) + 1 by omega]
    refine ⟨(fun h0 => by obtain ⟨i, hi⟩ := hready; rw [h0] at hi; cases hi), fun i hi => ?_⟩
    obtain ⟨hun, oi, hoi, hall⟩ := mem_ready.1 hi
    have hisz : i < ops.size := (Array.getElem?_eq_some_iff.1 hoi).1
    have hsat : Sat ops listed i := fun k hk => waits_listed hi hk
    have him : i < n := by
      rcases Nat.lt_or_ge i n with h | h
      · exact h
      · obtain ⟨k, hkm, hk⟩ := hne
        have := (F.tail i k h hisz hkm).2 listed hcl hs hsat
        rw [getD_flip (by have := F.size; omega), hk] at this
        cases this
    have hap : ∀ k ∈ left listed n, k < i → apartAt ops k i ∧ k ∉ wild := fun k hk hki => by
      obtain ⟨h1, h2⟩ := mem_left.1 hk
      rcases F.apart i k him hki with h | h
      · have := h.2 listed hcl hs hsat
        rw [getD_flip (by omega), h2] at this
        cases this
      · exact h
    have hcount : (left (listed.setIfInBounds i true) n).length = f := by
      rw [left_set (by omega), List.length_erase_of_mem (mem_left.2 ⟨him, hun⟩), hf]
      rfl
    have htail : ∀ t, n ≤ t → t < ops.size → (listed.setIfInBounds i true).getD t true = false := fun t h1 h2 => by
      rw [getD_set_ne true (by omega)]
      exact ht t h1 h2
    have hstep : ∀ W' w' v, Below W'.heap.size W' w' → wpWild P ops wild (fun W a => ∀ x : Past W, T a x.w) ((left listed n).erase i) W' (a.put oi.dst v) → wpAny P .any ops Q' (f + (ops.size - n)) (listed.setIfInBounds i true) (a.put oi.dst v) w' := fun W' w' v hw hk => by
      refine wpAny_wild F hT f _ _ w' W' (hcl.step hi) (by simpa using hs) hcount htail hw ?_
      rw [left_set (by omega)]
      exact hk
    unfold wpOp
    simp only [hoi]
    rcases wpWild_take F.sel hoi (left listed n) W a (left_sorted _ _) (mem_left.2 ⟨him, hun⟩) hap hh with ⟨_, v, hy, hrest⟩ | ⟨_, hw1, hy⟩
    · rcases hy with ⟨hw1, hw2⟩ | ⟨hw1, rfl⟩
      · rw [if_pos hw1]
        exact .inl (wp_of_quietAt (hw2 ⟨w, hb⟩) fun w' hw => hstep W w' v (below_past hb hw hb.size) hrest)
      · rw [if_neg (by rw [hw1]; exact Bool.false_ne_true)]
        exact hstep W w undef hb hrest
    · rw [if_pos hw1]
      exact .inl (wp_of_wildAt (hy ⟨w, hb⟩) fun v w' _ hk => hstep w' w' v (Below.refl _ _) hk)

/-- THE LAW. -/
theorem wp_region_wild {id : Nat} {Q : Exit → Act → World → Prop} {a : Act} {w : World} {l : List Oper} (wild : List Nat) (n : Nat) (hm : P.follows .mixedOrders = true) (hB : wildB l.toArray wild n = true)
    (h : wpWild P l.toArray wild (fun W a => ∀ x : Past W, wpList P l.toArray Q (l.drop n) a x.w) (List.range n) w a) : (Code.region id l.toArray true).wp P Q a w := by
  have F := WildOk.of_check hB
  have hb : Below w.heap.size w w.drew := (Below.refl _ _).drew
  refine wp_region_any hm ?_
  have := wpAny_wild (P := P) (Q' := Q) (T := fun a w => wpList P l.toArray Q (l.drop n) a w) F (fun a w h => h) n (Array.replicate l.toArray.size false) a w.drew w (fun q _ hq h _ => by rw [unlisted l q hq] at h; cases h) (by simp) (by rw [left_all l n F.size]; simp) (fun t _ h2 => unlisted l t h2) hb
    (by rw [left_all l n F.size]; exact h)
  rw [show n + (l.toArray.size - n) = l.toArray.size by have := F.size; omega] at this
  exact this

/-- One operation that is no call: the kit's own quiet step serves. -/
def noCall : Op → Bool
  | .call _ | .go _ | .defer _ | .send _ _ | .recv _ _ _ | .select _ _ => false
  | _ => true
theorem andThen_value {α : Type} {r : Result α} {f : FuncId} {args : Array Value} {w : World} {g : α → Value} (h : r.andThen (fun a w' => Result.ok (Next.value (g a)) w') = .ok (.enter f args) w) : False := by
  cases r with
  | ok a w' => simp [Result.andThen] at h
  | halt x w' => simp [Result.andThen] at h
theorem andThen_skip {α : Type} {r : Result α} {f : FuncId} {args : Array Value} {w : World} (h : r.andThen (fun _ w' => Result.ok Next.skip w') = .ok (.enter f args) w) : False := by
  cases r with
  | ok a w' => simp [Result.andThen] at h
  | halt x w' => simp [Result.andThen] at h
theorem andThen_some {α β : Type} {r : Result α} {k : α → World → Result β} {v : β} {w : World} (h : r.andThen k = .ok v w) : ∃ a w1, r = .ok a w1 ∧ k a w1 = .ok v w := by
  cases r with
  | ok a w' => exact ⟨a, w', rfl, h⟩
  | halt x w' => simp [Result.andThen] at h
theorem halts {v : Next} {w w' : World} (h : (runtimePanic .nilDeref : Sem Next).run P w = .ok v w') : False := by
  simp only [runtimePanic, Sem.run_bind] at h
  obtain ⟨a, w1, _, h⟩ := andThen_some h
  simp [goPanic] at h
theorem no_enter {o : Oper} (h : noCall o.op = true) (ρ : Operand → Value) (w w' : World) (f : FuncId) (args : Array Value) (he : (execOp ρ o).run P w = .ok (.enter f args) w') : False := by
  unfold execOp at he
  cases hq : o.op <;> rw [hq] at h he <;> first | (simp only [noCall, Bool.false_eq_true] at h; done) | skip
  all_goals (simp only [] at he)
  all_goals first | (simp only [Sem.run_bind, Sem.run_pure] at he; first | exact andThen_value he | exact andThen_skip he | (simp at he; done)) | skip
  split at he
  · exact halts he
  · exact halts he
  · exact halts he
  · split at he
    · exact halts he
    · simp only [Sem.run_bind] at he
      obtain ⟨a, w1, _, he⟩ := andThen_some he
      obtain ⟨b, w2, _, he⟩ := andThen_some he
      split at he
      · simp only [Sem.run_bind, Sem.run_pure] at he
        obtain ⟨_, _, _, he⟩ := andThen_some he
        simp at he
      · simp [Sem.run_pure] at he
    · simp [Sem.run_pure] at he
  · simp [Sem.run_pure] at he

/-- The same walk, the operations that are left written out, from number i on. -/
def wpWildL (P : Program) (ops : Array Oper) (wild : List Nat) (Qh : World → Act → Prop) : Nat → List Oper → World → Act → Prop
  | _, [], W, a => Qh W a
  | i, o :: rest, W, a =>
      (i ∉ wild ∧ ∃ v, YieldsS P ops W o v a ∧ wpWildL P ops wild Qh (i + 1) rest W (a.put o.dst v)) ∨
      (i ∈ wild ∧ Region.wanted o (yielded ops a.tmps) = true ∧ ∀ x : Past W, wildAt P o a x.w fun v w' => wpWildL P ops wild Qh (i + 1) rest w' (a.put o.dst v))
theorem wpWild_of_L {wild : List Nat} {Qh : World → Act → Prop} : ∀ (rest : List Oper) (i : Nat) (W : World) (a : Act), (∀ j, j < rest.length → rest[j]? = ops[i + j]?) → wpWildL P ops wild Qh i rest W a → wpWild P ops wild Qh (List.range' i rest.length) W a
  | [], _, _, _, _, h => h
  | o :: rest, i, W, a, hr, h => by
    have h0 : ops[i]? = some o := by simpa using (hr 0 (by simp)).symm
    have hr' : ∀ j, j < rest.length → rest[j]? = ops[(i + 1) + j]? := fun j hj => by
      have := hr (j + 1) (by simpa using hj)
      simpa [Nat.add_assoc, Nat.add_comm 1 j] using this
    rw [List.length_cons, List.range'_succ]
    refine ⟨o, h0, ?_⟩
    rcases h with ⟨hn, v, h1, h2⟩ | ⟨hn, h1, h2⟩
    · exact .inl ⟨hn, v, h1, wpWild_of_L rest _ _ _ hr' h2⟩
    · exact .inr ⟨hn, h1, fun x => wildAt_mono (h2 x) fun v w' _ hk => wpWild_of_L rest _ _ _ hr' hk⟩
/-- THE LAW, at a region that is written out: its first operations, then its tail. -/
theorem wp_region_wildL {id : Nat} {Q : Exit → Act → World → Prop} {a : Act} {w : World} {l : List Oper} (wild : List Nat) (n : Nat) (hm : P.follows .mixedOrders = true) (hB : wildB l.toArray wild n = true)
    (h : wpWildL P l.toArray wild (fun W a => ∀ x : Past W, wpList P l.toArray Q (l.drop n) a x.w) 0 (l.take n) w a) : (Code.region id l.toArray true).wp P Q a w := by
  refine wp_region_wild wild n hm hB ?_
  have hs := (WildOk.of_check hB).size
  have hl : (l.take n).length = n := by rw [List.length_take]; simp at hs; omega
  have := wpWild_of_L (l.take n) 0 w a (fun j hj => by
    rw [hl] at hj
    rw [List.getElem?_take, if_pos hj]
    simp) h
  rw [hl, ← List.range_eq_range'] at this
  exact this

section
variable {wild : List Nat} {Qh : World → Act → Prop} {i : Nat} {rest : List Oper} {W : World} {a : Act} {o : Oper}
theorem wildL_nil (h : Qh W a) : wpWildL P ops wild Qh i [] W a := h
/-- An operation that reads. -/
theorem wildL_val (hn : i ∉ wild) (hw : Region.wanted o (yielded ops a.tmps) = true) (hc : noCall o.op = true)
    (h : ∀ K : Act → Prop, (∀ a, wpWildL P ops wild Qh (i + 1) rest W a → K a) → o.quiet P a (fun w' => ∃ x : Past W, w' = x.w) K) : wpWildL P ops wild Qh i (o :: rest) W a := by
  obtain ⟨v, h1, h2⟩ := h _ fun _ h => h
  refine .inl ⟨hn, v, .inl ⟨hw, fun x => ?_⟩, h2⟩
  have := h1 x.w ⟨x, rfl⟩
  unfold Oper.quietAt at this ⊢
  generalize hr : (execOp a.eval o).run P x.w = r at *
  cases r with
  | ok n w' =>
    cases n
    case enter f args => exact (no_enter hc _ _ _ _ _ hr).elim
    all_goals exact this
  | halt y w' => exact this
/-- An operation that is passed over. -/
theorem wildL_skip (hn : i ∉ wild) (hw : Region.wanted o (yielded ops a.tmps) = false) (h : wpWildL P ops wild Qh (i + 1) rest W (a.put o.dst undef)) : wpWildL P ops wild Qh i (o :: rest) W a :=
  .inl ⟨hn, undef, .inr ⟨hw, rfl⟩, h⟩
theorem put_inj {d : Tmp} {u v : Value} (hd : d < a.tmps.size) (h : a.put (some d) u = a.put (some d) v) : u = v := by
  have := congrArg (fun b : Act => b.tmps[d]?) h
  simpa [Act.put, hd] using this
/-- A call whose value is one, whatever the world. -/
theorem wildL_call (hn : i ∉ wild) (hw : Region.wanted o (yielded ops a.tmps) = true) (hd : (match o.dst with | some d => decide (d < a.tmps.size) | none => false) = true)
    (hx : ∃ A, (∀ (x : Past W) (K : Act → Prop), (∀ a', a' = A → K a') → o.quiet P a (fun w' => ∃ y : Past x.w, w' = y.w) K) ∧ wpWildL P ops wild Qh (i + 1) rest W A) : wpWildL P ops wild Qh i (o :: rest) W a := by
  obtain ⟨A, h, hA⟩ := hx
  have h' : ∀ x : Past W, ∃ v, o.quietAt P a (fun w' => ∃ y : Past x.w, w' = y.w) x.w v ∧ a.put o.dst v = A := fun x => by
    obtain ⟨v, h1, h2⟩ := h x (fun a' => a' = A) fun _ h => h
    exact ⟨v, h1 x.w ⟨⟨x.w, Below.refl _ _⟩, rfl⟩, h2⟩
  obtain ⟨v, _, hv⟩ := h' ⟨W, Below.refl _ _⟩
  refine .inl ⟨hn, v, .inl ⟨hw, fun x => ?_⟩, by rw [hv]; exact hA⟩
  obtain ⟨u, h1, h2⟩ := h' x
  cases hq : o.dst with
  | none => rw [hq] at hd; cases hd
  | some d =>
    rw [hq] at hd h2 hv
    obtain rfl := put_inj (by simpa using hd) (h2.trans hv.symm)
    exact h1
theorem Past.two {W : World} {x : Past W} (y : Past x.w) : Below W.heap.size W y.w := Below.step x.h y.h
theorem call_back {x : World} {f : FuncId} {args : Array Value} {v : Value} {y : Past x} (h : Calls P f args y.w fun e w' => e = .returned v ∧ Below y.w.heap.size y.w w') : Calls P f args y.w fun e w'' => e = .returned v ∧ ∃ z : Past x, w'' = z.w :=
  h.mono fun _ w'' ⟨he, hb⟩ => ⟨he, ⟨w'', Below.step y.h hb⟩, rfl⟩
/-- An operation whose value hangs on the world. -/
theorem wildL_wild (hn : i ∈ wild) (hw : Region.wanted o (yielded ops a.tmps) = true)
    (h : ∀ (x : Past W) (K : Value → World → Prop), (∀ v w', wpWildL P ops wild Qh (i + 1) rest w' (a.put o.dst v) → K v w') → wildAt P o a x.w K) : wpWildL P ops wild Qh i (o :: rest) W a :=
  .inr ⟨hn, hw, fun x => h x _ fun _ _ h => h⟩
@[go_sem] theorem wildUpon_value (w w' : World) (K : Value → World → Prop) (v : Value) : wildUpon P w K (.ok (.value v) w') = (Below w.heap.size w w' ∧ K v w') := rfl
@[go_sem] theorem wildUpon_enter (w w' : World) (K : Value → World → Prop) (f : FuncId) (args : Array Value) : wildUpon P w K (.ok (.enter f args) w') = (w' = w ∧ Calls P f args w fun e w'' => ∃ v, e = .returned v ∧ Below w.heap.size w w'' ∧ K v w'') := rfl
end
end
end Go.Proofs.YtmabigcolabbmaaGreatDoor
namespace Go.Proofs.YtmabigcolabbmaaGreatDoor
open Go

def byteOf (f : Nat → Nat) : Nat := f 0 % 2 * 128 + f 1 % 2 * 64 + f 2 % 2 * 32 + f 3 % 2 * 16 + f 4 % 2 * 8 + f 5 % 2 * 4 + f 6 % 2 * 2 + f 7 % 2
def ofBits (f : Nat → Nat) : Lab := ⟨(List.range 32).map fun k => UInt8.ofNat (byteOf fun j => f (8 * k + j)), by simp⟩

theorem byteOf_lt (f : Nat → Nat) : byteOf f < 256 := by unfold byteOf; omega
theorem bitB_byteOf (f : Nat → Nat) (j : Nat) (hj : j < 8) : bitB (UInt8.ofNat (byteOf f)) j = f j % 2 := by
  have h := byteOf_lt f
  rw [bitB, UInt8.toNat_ofNat', Nat.mod_eq_of_lt h]
  have c : j = 0 ∨ j = 1 ∨ j = 2 ∨ j = 3 ∨ j = 4 ∨ j = 5 ∨ j = 6 ∨ j = 7 := by omega
  unfold byteOf
  rcases c with rfl | rfl | rfl | rfl | rfl | rfl | rfl | rfl <;> simp only [Nat.sub_zero, Nat.reduceSub, Nat.reducePow] <;> omega
theorem bit_ofBits (f : Nat → Nat) (i : Nat) (hi : i < 256) : bit (ofBits f) i = f i % 2 := by
  have : (ofBits f).get (i / 8) = UInt8.ofNat (byteOf fun j => f (8 * (i / 8) + j)) := by
    simp [ofBits, Lab.get, List.getD, show i / 8 < 32 by omega]
  rw [bit, this, bitB_byteOf _ _ (by omega)]
  congr 2
  omega

/-- The first n bits. -/
def cut (a : Lab) (n : Nat) : Lab := ofBits fun j => if j < n then bit a j else 0
theorem bit_cut (a : Lab) (n i : Nat) (hi : i < 256) : bit (cut a n) i = if i < n then bit a i else 0 := by
  rw [cut, bit_ofBits _ _ hi]
  have := bit_lt a i
  split <;> omega
/-- A label with bit i set. -/
def setBit (a : Lab) (i : Nat) : Lab := ofBits fun j => if j = i then 1 else bit a j
theorem bit_setBit (a : Lab) (i j : Nat) (hj : j < 256) : bit (setBit a i) j = if j = i then 1 else bit a j := by
  rw [setBit, bit_ofBits _ _ hj]
  have := bit_lt a j
  split <;> omega

theorem bit_set (a : Lab) (k : Nat) (x : UInt8) (i : Nat) (hi : i < 256) : bit (a.set k x) i = if i / 8 = k then bitB x (i % 8) else bit a i := by
  rw [bit, Lab.get_set _ _ _ _ (by omega)]
  by_cases h : k = i / 8
  · rw [if_pos h, if_pos h.symm]
  · rw [if_neg h, if_neg (fun e => h e.symm)]
    rfl

/-! ### Bytes, by going through all of them -/
theorem byte_add : ∀ (x : Fin 256) (k j : Fin 8), x.val / 2 ^ (7 - k.val) % 2 = 0 → x.val + 2 ^ (7 - k.val) < 256 ∧ (x.val + 2 ^ (7 - k.val)) / 2 ^ (7 - j.val) % 2 = if j = k then 1 else x.val / 2 ^ (7 - j.val) % 2 := by decide +kernel
theorem byte_mask : ∀ (x : Fin 256) (k j : Fin 8), (x.val &&& (255 - 255 / 2 ^ k.val)) / 2 ^ (7 - j.val) % 2 = if j.val < k.val then x.val / 2 ^ (7 - j.val) % 2 else 0 := by decide +kernel
theorem byte_or : ∀ (x : Fin 256) (k j : Fin 8), (x.val ||| 2 ^ (7 - k.val)) < 256 ∧ (x.val ||| 2 ^ (7 - k.val)) / 2 ^ (7 - j.val) % 2 = if j = k then 1 else x.val / 2 ^ (7 - j.val) % 2 := by decide +kernel
theorem byte_xor : ∀ (x : Fin 256) (k j : Fin 8), (x.val ^^^ 2 ^ (7 - k.val)) < 256 ∧ (x.val ^^^ 2 ^ (7 - k.val)) / 2 ^ (7 - j.val) % 2 = if j = k then 1 - x.val / 2 ^ (7 - j.val) % 2 else x.val / 2 ^ (7 - j.val) % 2 := by decide +kernel

/-- A byte with one more bit. -/
theorem setBit_add (a : Lab) (i : Nat) (h0 : bit a i = 0) :
    (a.get (i / 8)).toNat + 2 ^ (7 - i % 8) < 256 ∧ a.set (i / 8) (UInt8.ofNat ((a.get (i / 8)).toNat + 2 ^ (7 - i % 8))) = setBit a i := by
  have hx := (a.get (i / 8)).toNat_lt
  have key := fun j : Fin 8 => byte_add ⟨(a.get (i / 8)).toNat, hx⟩ ⟨i % 8, by omega⟩ j h0
  have hlt := (key 0).1
  refine ⟨hlt, lab_ext fun j hj => ?_⟩
  rw [bit_set _ _ _ _ hj, bit_setBit _ _ _ hj]
  by_cases h : j / 8 = i / 8
  · rw [if_pos h, bitB, UInt8.toNat_ofNat', Nat.mod_eq_of_lt hlt]
    have k2 := (key ⟨j % 8, by omega⟩).2
    simp only [Fin.mk.injEq] at k2
    rw [k2]
    by_cases e : j % 8 = i % 8
    · rw [if_pos e, if_pos (by omega)]
    · rw [if_neg e, if_neg (fun h2 => e (by rw [h2]))]
      rw [bit, bitB, h]
  · rw [if_neg h, if_neg (fun h2 => h (by rw [h2]))]
theorem setBit_same (a : Lab) (i : Nat) (h1 : bit a i = 1) : setBit a i = a := lab_ext fun j hj => by
  rw [bit_setBit _ _ _ hj]
  by_cases e : j = i
  · subst e; rw [if_pos rfl, h1]
  · rw [if_neg e]
theorem setBit_or (a : Lab) (i : Nat) :
    (a.get (i / 8)).toNat ||| 2 ^ (7 - i % 8) < 256 ∧ a.set (i / 8) (UInt8.ofNat ((a.get (i / 8)).toNat ||| 2 ^ (7 - i % 8))) = setBit a i := by
  have hx := (a.get (i / 8)).toNat_lt
  have key := fun j : Fin 8 => byte_or ⟨(a.get (i / 8)).toNat, hx⟩ ⟨i % 8, by omega⟩ j
  have hlt := (key 0).1
  refine ⟨hlt, lab_ext fun j hj => ?_⟩
  rw [bit_set _ _ _ _ hj, bit_setBit _ _ _ hj]
  by_cases h : j / 8 = i / 8
  · rw [if_pos h, bitB, UInt8.toNat_ofNat', Nat.mod_eq_of_lt hlt]
    have k2 := (key ⟨j % 8, by omega⟩).2
    simp only [Fin.mk.injEq] at k2
    rw [k2]
    by_cases e : j % 8 = i % 8
    · rw [if_pos e, if_pos (by omega)]
    · rw [if_neg e, if_neg (fun h2 => e (by rw [h2]))]
      rw [bit, bitB, h]
  · rw [if_neg h, if_neg (fun h2 => h (by rw [h2]))]
theorem set_self (a : Lab) (k : Nat) : a.set k (UInt8.ofNat (a.get k).toNat) = a := Lab.ext' fun j hj => by
  rw [Lab.get_set _ _ _ _ hj]
  split
  · rename_i h; subst h; simp
  · rfl

/-- Whole bytes, and the first bits of one more. -/
theorem cut_bytes (a c : Lab) (n : Nat) (hn : n ≤ 256) (h1 : ∀ k, k < n / 8 → c.get k = a.get k) (h2 : ∀ k, n / 8 < k → k < 32 → c.get k = 0)
    (h3 : n / 8 < 32 → (c.get (n / 8)).toNat = if n % 8 = 0 then 0 else (a.get (n / 8)).toNat &&& (255 - 255 / 2 ^ (n % 8))) : c = cut a n := lab_ext fun j hj => by
  rw [bit_cut _ _ _ hj]
  by_cases hlt : j / 8 < n / 8
  · rw [if_pos (by omega), bit, h1 _ hlt]; rfl
  · by_cases he : j / 8 = n / 8
    · have hk := h3 (by omega)
      rw [bit, bitB, he, hk]
      by_cases h0 : n % 8 = 0
      · rw [if_pos h0, if_neg (by omega)]; simp
      · rw [if_neg h0]
        have hx := (a.get (n / 8)).toNat_lt
        have key := byte_mask ⟨(a.get (n / 8)).toNat, hx⟩ ⟨n % 8, by omega⟩ ⟨j % 8, by omega⟩
        simp only at key
        rw [key]
        by_cases h5 : j % 8 < n % 8
        · rw [if_pos h5, if_pos (by omega), bit, bitB, he]
        · rw [if_neg h5, if_neg (by omega)]
    · rw [if_neg (by omega), bit, h2 _ (by omega) (by omega)]
      simp [bitB]

/-- The first k bytes of a, and behind them z's. -/
def Lab.over (a z : Lab) (k : Nat) : Lab := if h : k ≤ 32 then ⟨a.l.take k ++ z.l.drop k, by simp [a.h, z.h]; omega⟩ else a
theorem Lab.get_over (a z : Lab) (k i : Nat) (hk : k ≤ 32) (_hi : i < 32) : (a.over z k).get i = if i < k then a.get i else z.get i := by
  have ha := a.h
  have hz := z.h
  simp only [Lab.over, hk, dif_pos, Lab.get, List.getD, List.getElem?_append, List.length_take, List.getElem?_take, List.getElem?_drop, ha]
  rw [show min k 32 = k by omega]
  split
  · rfl
  · rw [show k + (i - k) = i by omega]
theorem splice_take (a z : Lab) (m : Int) (k : Nat) (hk : k ≤ 32) : splice (cellsP m z) 1 (List.take k (cellsL a).toList) = cellsP m (a.over z k) := by
  have ha := a.h
  have hz := z.h
  simp only [splice, cellsP, cellsL, Lab.over, hk, dif_pos]
  simp [List.map_take, List.map_drop, ha, Nat.min_eq_left hk, Nat.add_comm 1 k]
theorem over_cut (a : Lab) (m k : Nat) (hk : k ≤ 32) (hm : m = 8 * k) : a.over zeroLab k = cut a m := by
  apply cut_bytes a _ m (by omega)
  · intro j hj
    rw [Lab.get_over _ _ _ _ hk (by omega), if_pos (by omega)]
  · intro j h1 h2
    rw [Lab.get_over _ _ _ _ hk h2, if_neg (by omega), zeroLab_get]
  · intro h
    rw [if_pos (by omega), Lab.get_over _ _ _ _ hk h, if_neg (by omega), zeroLab_get]
    rfl
theorem over_set_cut (a : Lab) (m k r : Nat) (hk : k < 32) (hr0 : 0 < r) (hr : r < 8) (hm : m = 8 * k + r) :
    (a.over zeroLab k).set k (UInt8.ofNat ((a.get k).toNat &&& (255 - 255 / 2 ^ r))) = cut a m := by
  have hx := (a.get k).toNat_lt
  have hlt : (a.get k).toNat &&& (255 - 255 / 2 ^ r) < 256 := Nat.lt_of_le_of_lt Nat.and_le_left hx
  apply cut_bytes a _ m (by omega)
  · intro j hj
    rw [Lab.get_set _ _ _ _ (by omega), if_neg (by omega), Lab.get_over _ _ _ _ (by omega) (by omega), if_pos (by omega)]
  · intro j h1 h2
    rw [Lab.get_set _ _ _ _ h2, if_neg (by omega), Lab.get_over _ _ _ _ (by omega) h2, if_neg (by omega), zeroLab_get]
  · intro h
    rw [if_neg (by omega), Lab.get_set _ _ _ _ h, if_pos (by omega), UInt8.toNat_ofNat', Nat.mod_eq_of_lt hlt, show m / 8 = k by omega, show m % 8 = r by omega]
theorem cut_zero (a : Lab) : cut a 0 = zeroLab := lab_ext fun j hj => by
  rw [bit_cut _ _ _ hj, if_neg (by omega), bit, zeroLab_get]
  simp [bitB]
theorem cut_succ (a : Lab) (n : Nat) (hn : n < 256) : cut a (n + 1) = if bit a n = 1 then setBit (cut a n) n else cut a n := lab_ext fun j hj => by
  by_cases h : bit a n = 1
  · rw [if_pos h, bit_setBit _ _ _ hj, bit_cut _ _ _ hj, bit_cut _ _ _ hj]
    by_cases e : j = n
    · subst e; simp [h]
    · rw [if_neg e]
      by_cases h2 : j < n
      · rw [if_pos h2, if_pos (by omega)]
      · rw [if_neg h2, if_neg (by omega)]
  · rw [if_neg h, bit_cut _ _ _ hj, bit_cut _ _ _ hj]
    have := bit_lt a n
    by_cases e : j = n
    · subst e; rw [if_pos (by omega), if_neg (by omega)]; omega
    · by_cases h2 : j < n
      · rw [if_pos h2, if_pos (by omega)]
      · rw [if_neg h2, if_neg (by omega)]
theorem cut_256 (a : Lab) (n : Nat) (hn : 256 ≤ n) : cut a n = a := lab_ext fun j hj => by
  rw [bit_cut _ _ _ hj, if_pos (by omega)]

/-- In form? -/
def good (n : Int) (a : Lab) : Bool := decide (0 ≤ n ∧ n ≤ 256 ∧ cut a n.toNat = a)

/-- A label begins with so many bits of another one. -/
theorem common_ge {a l : Lab} {n : Nat} (hn : n ≤ 256) (hc : cut a n = a) : n ≤ common a l ↔ cut l n = a := by
  have is := common_is a l
  constructor
  · intro h
    apply lab_ext
    intro i hi
    rw [bit_cut _ _ _ hi]
    by_cases e : i < n
    · rw [if_pos e, is.same i (by omega)]
    · rw [if_neg e, ← hc, bit_cut _ _ _ hi, if_neg e]
  · intro h
    rcases Nat.lt_or_ge (common a l) n with hlt | hge
    · have h1 := is.other (by omega)
      have h2 : bit a (common a l) = bit l (common a l) := by
        generalize common a l = k at *
        rw [← h, bit_cut _ _ _ (by omega), if_pos hlt]
      exact absurd h2 h1
    · exact hge
theorem good_nat {n : Int} {a : Lab} (h : good n a = true) : ∃ m : Nat, n = m ∧ m ≤ 256 ∧ cut a m = a := by
  simp only [good, decide_eq_true_eq] at h
  exact ⟨n.toNat, by omega, by omega, h.2.2⟩
theorem good_of {m : Nat} {a : Lab} (h1 : m ≤ 256) (h2 : cut a m = a) : good m a = true := by
  simp only [good, decide_eq_true_eq, Int.toNat_natCast]
  exact ⟨by omega, by omega, h2⟩
theorem cut_cut (a : Lab) (n m : Nat) (h : n ≤ m) : cut (cut a n) m = cut a n := lab_ext fun i hi => by
  rw [bit_cut _ _ _ hi, bit_cut _ _ _ hi]
  by_cases h1 : i < n
  · rw [if_pos h1, if_pos (by omega)]
  · rw [if_neg h1]; simp
end Go.Proofs.YtmabigcolabbmaaGreatDoor
