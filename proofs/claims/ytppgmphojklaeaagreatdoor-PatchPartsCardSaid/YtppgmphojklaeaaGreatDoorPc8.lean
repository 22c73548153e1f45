/- Texts that the next ones stand on: Lists, ShaRef1, Read, Copy, Builder, Code1, Code2, NumMath, Ref2n, Free. -/
import Derived.Test.YtppgmphojklaeaaGreatDoorPc7
import Derived.Deep.Strs
import Derived.Maps.AppendAt
import Derived.BigRegion
import Derived.Deep.DeepCutAuto
import Derived.Laws.CopyOwn
import Derived.Lib.IndexLaws
import Derived.Test.YtppgmphojklaeaaGreatDoorRows
import Derived.WalkLawsBesides
import Derived.Lib.Builder
import Derived.Lib.OthersKept
import Derived.Shelf.Strings.Builder1
import Derived.Laws.IdiomStrings
import Derived.Laws.BytesArg
import Derived.Lib.BitFns
import Derived.StillTail
namespace Go.Proofs.YtppgmphojklaeaaGreatDoor
open Go Go.ChangeShapes Go.WideShapes Go.ChangeAt Go.RowKit

/-- A list of texts that came in. -/
def InStrs (w : World) (v : Value) (len : Nat) (S : Nat → ByteArray) : Prop :=
  ∃ ao cap, v = .slice ao len cap ∧ ∀ i, i < len → ∃ a, ao = some a ∧ w.cell? (a.add i) = some (.string (S i))
theorem in_strs {P : Program} {H : Type} {enc : TypeId × Value → H} {W : World} {sp : Nat → Bool} {held : Bool} {base t e : TypeId} {v : Value} {d : DataW H} {p : List MemPlace} (ht : P.underlying t = some (.slice e)) (he : P.underlying e = some .string) (ce : P.cellsOf e = 1) (hval : Value.okWide P W .any base t v) (hd : DataW.Trod enc P W 0 sp held t v d p) :
    ∃ (len : Nat) (S : Nat → ByteArray), InStrs W v len S := by
  obtain ⟨ao, len, cap, rfl⟩ := okWide_slice ht hval
  obtain ⟨fuel, hf⟩ := hd
  rcases Deep.open_strs ht he ce hf with ⟨h, _⟩ | ⟨a, len', cap', m, S, hcs, _, hl, hm, hmm, _, hx⟩
  · have hc : ao = none ∧ len = 0 ∧ cap = 0 := by simpa [Value.cells] using h
    obtain ⟨rfl, rfl, rfl⟩ := hc
    exact ⟨0, fun _ => ⟨#[]⟩, none, 0, rfl, fun i hi => absurd hi (Nat.not_lt_zero i)⟩
  · have hc : (ao = some a ∧ len = len' ∧ cap = cap') := by simpa [Value.cells] using hcs
    obtain ⟨rfl, rfl, rfl⟩ := hc
    have hlm : len ≤ m := by rw [hmm]; split <;> omega
    exact ⟨len, S, some a, cap, rfl, fun i hi => ⟨a, rfl, (hx i (by omega)).1⟩⟩
/-- A byte that came in. -/
theorem in_byte {P : Program} {H : Type} {enc : TypeId × Value → H} {W : World} {sp : Nat → Bool} {held : Bool} {base t : TypeId} {v : Value} {d : DataW H} {p : List MemPlace} (hu : P.underlying t = some (.int .u8)) (hval : Value.okWide P W .any base t v) (hd : DataW.Trod enc P W 0 sp held t v d p) :
    ∃ c : UInt8, v = .int .u8 (c.toNat : Int) := by
  obtain ⟨n, rfl, _, _, w0⟩ := open_int hu hval hd
  obtain ⟨h0, h1⟩ := wf_u8 w0
  exact ⟨UInt8.ofNat n.toNat, congrArg (Value.int .u8) (byte_of_int h0 (by omega)).symm⟩
theorem cellsOf_string : Tryz.prog.cellsOf 9 = 1 := by kernel_rfl
theorem InStrs.below {w w' : World} {v : Value} {len : Nat} {S : Nat → ByteArray} (h : InStrs w v len S) (k : Below w.heap.size w w') : InStrs w' v len S := by
  obtain ⟨ao, cap, h1, h2⟩ := h
  refine ⟨ao, cap, h1, fun i hi => ?_⟩
  obtain ⟨a, h3, h4⟩ := h2 i hi
  exact ⟨a, h3, (k.cell (p := a.add i) (cellLt h4)).trans h4⟩
theorem one_cell {w : World} {T : TypeId} (x : Value) : ∀ j u, [x][j]? = some u → (w.alloc (.cells #[x] T)).cell? ((⟨w.heap.size, 0, none⟩ : Addr).add j) = some u := by
  intro j u hu
  have hj : j = 0 := by
    have := (List.getElem?_eq_some_iff.1 hu).1
    simpa using this
  subst hj
  have hu2 : x = u := by simpa using hu
  rw [← hu2, show (⟨w.heap.size, 0, none⟩ : Addr).add 0 = ⟨w.heap.size, 0, none⟩ by simp [Addr.add]]
  exact cell_of_rowAt (rowAt_alloc_at w #[x] T _ rfl) 0

/-- The first m texts, cut. -/
def cutsL (S : Nat → ByteArray) (c m : Nat) : List (List UInt8) := (List.range m).map fun i => (S i).data.toList.take c
theorem cutsL_length (S : Nat → ByteArray) (c m : Nat) : (cutsL S c m).length = m := by simp [cutsL]
theorem cutsL_succ (S : Nat → ByteArray) (c m : Nat) : cutsL S c (m + 1) = cutsL S c m ++ [(S m).data.toList.take c] := by simp [cutsL, List.range_succ]
theorem cutsL_short (S : Nat → ByteArray) (c m : Nat) : ∀ t ∈ cutsL S c m, t.length ≤ c := by
  intro t ht
  obtain ⟨i, _, rfl⟩ := List.mem_map.1 ht
  exact List.length_take_le _ _
theorem cutsL_get (S : Nat → ByteArray) (c m i : Nat) (h : i < m) : (cutsL S c m).getD i [] = (S i).data.toList.take c := by
  rw [List.getD_eq_getElem?_getD, cutsL, List.getElem?_map, List.getElem?_range h]
  rfl
/-- An empty list of the call's own, in a block that is behind others. -/
theorem ownStrs_new (w : World) (B n : Nat) (hn : n = w.heap.size) (hB : B ≤ n) : OwnStrs (w.alloc (.cells #[] 9)) B (.slice (some ⟨n, 0, none⟩) 0 0) [] := by
  subst hn
  exact ⟨rfl, .inr ⟨w.heap.size, 0, #[], rfl, hB, heap_alloc_new w _, Nat.le_refl _, Nat.zero_le _, rfl, rfl⟩⟩

/-- A text is put behind a list of the call's own. -/
theorem wpList_put_text {ops : Array Oper} {rest : List Oper} {o : Oper} {a : Act} {w : World} {Q : Exit → Act → World → Prop} (hgd : o.guard = none) (s x : Operand)
    (ho : o.op = .call { callee := .builtin .append, args := #[s, x], argTypes := #[83, 83] }) (B : Nat) (v : Value) (ts : List (List UInt8)) (hs : a.eval s = v) (hown : OwnStrs w B v ts)
    (t : List UInt8) (ad : Addr) (c : Nat) (hx : a.eval x = .slice (some ad) 1 c) (hcell : w.cell? ad = some (.string (stx t))) (hB : B ≤ w.heap.size) (hl : ts.length ≤ 1000000)
    (h : ∀ v' w', OwnStrs w' B v' (ts ++ [t]) → w.grownBy w' v.ownBlock → (v'.ownBlock = v.ownBlock ∨ v'.ownBlock = some w.heap.size) → wpList Tryz.prog ops Q rest (a.put o.dst v') w') : wpList Tryz.prog ops Q (o :: rest) a w := by
  obtain ⟨i0, hi, hz0, hz1, hz2⟩ := info_str
  refine wpList_append_own_at (P := Tryz.prog) w hgd s x 83 ho B 9 i0 (.string ⟨#[]⟩) 1 16 Tryz.underlying83 hi hz0 hz1 hz2 rfl (by decide) v ts.length (strCells ts) hs hown ad 1 c [.string (stx t)] hx rfl ?_ ?_ (by unfold maxLen; omega) (by omega) hB ?_
  · intro j u hu
    have hj : j = 0 := by
      have := (List.getElem?_eq_some_iff.1 hu).1
      simpa using this
    subst hj
    have hu2 : Value.string (stx t) = u := by simpa using hu
    rw [← hu2, show ad.add 0 = ad by simp [Addr.add]]
    exact hcell
  · intro u hu
    have hu2 : u = Value.string (stx t) := by simpa using hu
    rw [hu2]
    rfl
  · intro v' w' h1 h2 _ h4
    refine h v' w' ?_ h2 h4
    show w'.ownsRow B 9 1 v' (ts ++ [t]).length (strCells (ts ++ [t]))
    rw [List.length_append, ← strCells_put]
    exact h1
/-- Two lists lie in two blocks. -/
def Apart (v u : Value) : Prop := ∀ g, v.ownBlock = some g → u.ownBlock ≠ some g
theorem Apart.symm {v u : Value} (h : Apart v u) : Apart u v := fun g h1 h2 => h g h2 h1
theorem Apart.grow {w : World} {B : Nat} {v v' u : Value} {us : List (List UInt8)} {N : Nat} (h : Apart v u) (hu : OwnStrs w B u us) (hat : v'.ownBlock = v.ownBlock ∨ v'.ownBlock = some N) (hN : w.heap.size ≤ N) : Apart v' u := by
  intro g h1 h2
  rcases hat with e | e
  · exact h g (e ▸ h1) h2
  · rw [e] at h1
    have := (World.ownsRow.lt hu g h2).2
    simp only [Option.some.injEq] at h1
    omega
theorem OwnStrs.apart {w w' : World} {B : Nat} {v u : Value} {us : List (List UInt8)} (hu : OwnStrs w B u us) (h : Apart v u) (hg : w.grownBy w' v.ownBlock) : OwnStrs w' B u us := by
  refine World.ownsRow.kept hu hg ?_
  cases hq : u.ownBlock with
  | none => exact .inl rfl
  | some g => exact .inr (fun e => h g e.symm hq)
theorem OwnStrs.grown {w w' : World} {B : Nat} {v : Value} {ts : List (List UInt8)} {a : World} (h : OwnStrs w B v ts) (hg : w.grownBy w' v.ownBlock) (b : Below B a w) (hB : B ≤ w.heap.size) : Below B a w' :=
  b.grown hg hB (fun k hk => (World.ownsRow.lt h k hk).1)

theorem take_alike {ts us : List (List UInt8)} {i : Nat} (h : ts.take i = us.take i) (h1 : i < ts.length) (h2 : i < us.length) (he : ts.getD i [] = us.getD i []) : ts.take (i + 1) = us.take (i + 1) := by
  rw [List.take_succ_eq_append_getElem h1, List.take_succ_eq_append_getElem h2, h]
  congr 2
  rw [List.getD_eq_getElem?_getD, List.getElem?_eq_getElem h1, List.getD_eq_getElem?_getD, List.getElem?_eq_getElem h2] at he
  exact he

end Go.Proofs.YtppgmphojklaeaaGreatDoor
namespace Go.Proofs.YtppgmphojklaeaaGreatDoor
open Go Go.RowKit

theorem wv_byte (x : UInt32) : IntKind.u8.wrap (wv x) = wv x % 256 := rfl
theorem conv_four (x : UInt32) (w : World) (b : Nat) (hb : b = w.heap.size) : (convert 164 9 (.slice (some ⟨b, 0, none⟩) 4 4)).run Tryz.prog (w.alloc (.cells (bcells (oct x)) 5)) = .ok (.string (stx (oct x))) (w.alloc (.cells (bcells (oct x)) 5)) := by
  subst hb
  refine run_convert_bytes_back _ _ _ _ ⟨w.heap.size, 0, none⟩ 4 (oct x) Tryz.underlying164 Tryz.underlying5 Tryz.underlying9 fun j hj => ?_
  rw [show (⟨w.heap.size, 0, none⟩ : Addr).add j = ⟨w.heap.size, j, none⟩ by simp [Addr.add]; exact fun e => e.symm, cell_of_rowAt (rowAt_alloc_at w _ 5 _ rfl)]
  simp only [bcells, List.getElem?_toArray]
  rw [List.getElem?_map, List.getElem?_eq_getElem hj]
  rfl
set_option maxRecDepth 100000 in
set_option maxHeartbeats 2000000 in
theorem r3Bytes_any (c : UInt8) (v : Value) (ts : List (List UInt8)) (w : World) (hv : StrsAt w v ts) (hn : ts.length ≤ 8) (hlen : ∀ t ∈ ts, t.length ≤ 100) :
    Calls Tryz.prog 151 #[.int .u8 (c.toNat : Int), v] w fun e w' => e = .returned (.string (stx (joinL c ts))) ∧ Below w.heap.size w w' := by
  obtain ⟨ao, cap, rfl, hat⟩ := hv
  have HAT := Lib.hid hat
  have HC := conv_one c w _ rfl
  have HLEN := Lib.hid hlen
  obtain ⟨n, hN⟩ : ∃ n, ts.length = n := ⟨_, rfl⟩
  have HN := Lib.hid hN
  rw [hN] at hn ⊢
  have hn8 : (n : Int) ≤ 8 := by omega
  have hc0 : (0 : Int) ≤ c.toNat := by omega
  have hc1 : (c.toNat : Int) < 256 := by have := c.toNat_lt; omega
  have H0 : Hid ([c] = joinL c (ts.take 0)) := Lib.hid rfl
  have b0 : Below w.heap.size w (w.alloc (.cells #[.int .u8 (c.toNat : Int)] 5)) := (Below.refl _ _).alloc (Nat.le_refl _) _
  clear hat hlen hN
  go_enter Tryz.func151, Tryz.ntmps151
  go_wp2_with fail
  clear HC
  generalize w.alloc (.cells #[.int .u8 (c.toNat : Int)] 5) = W at *
  go_loopw [5, 7, 8, 14] (fun s _ _ x wr => ∃ i : Nat, i ≤ n ∧ x = .int .i64 i ∧ s = .string (stx (joinL c (ts.take i))) ∧ Below w.heap.size w wr) (fun _ _ _ x _ => (n - intOf x).toNat)
  case atStart => exact ⟨0, Nat.zero_le _, rfl, by rw [← H0.out], b0⟩
  case round =>
    obtain ⟨i, hi, rfl, rfl, b1⟩ := hrel
    clear b0
    by_cases hlt : i < n
    · have hlt' : (i : Int) < n := by omega
      obtain ⟨g, rfl, hc⟩ := HAT.out i (by rw [HN.out]; exact hlt)
      have c1 := (b1.cell (p := ⟨g, i, none⟩) (cellLt hc)).trans hc
      have HP : Hid (joinL c (ts.take (i + 1)) = joinL c (ts.take i) ++ oct (UInt32.ofNat (ts.getD i []).length) ++ ts.getD i []) := Lib.hid (joinL_put c ts i (by rw [HN.out]; exact hlt))
      have hle : (ts.getD i []).length ≤ 100 := HLEN.out _ (by
        rw [List.getD_eq_getElem?_getD, List.getElem?_eq_getElem (by rw [HN.out]; exact hlt)]
        exact List.getElem_mem _)
      have hjl := joinL_len c (ts.take i) (fun t ht => HLEN.out t (List.mem_of_mem_take ht))
      rw [List.length_take] at hjl
      have hjl2 : (joinL c (ts.take i)).length ≤ 1000 := by have := HN.out; omega
      obtain ⟨J, hJ⟩ : ∃ J, joinL c (ts.take i) = J := ⟨_, rfl⟩
      obtain ⟨T, hT⟩ : ∃ T, ts.getD i [] = T := ⟨_, rfl⟩
      rw [hJ, hT] at HP
      rw [hT] at c1 hle
      rw [hJ] at hjl2 ⊢
      obtain ⟨k, hk⟩ : ∃ k, T.length = k := ⟨_, rfl⟩
      have hz : (stx T).size = k := by rw [stx_size, hk]
      have hzj : (stx J).size ≤ 1000 := by rw [stx_size]; exact hjl2
      have hoc := oct_cells (UInt32.ofNat k)
      have hwv := wv_ofNat k (by omega)
      have hcf := conv_four (UInt32.ofNat k) wr _ rfl
      rw [hoc, hwv, show (k : Int) / 65536 % 256 = (k : Int) / 65536 by omega, show (k : Int) / 256 % 256 = (k : Int) / 256 by omega, show (k : Int) % 256 = (k : Int) by omega] at hcf
      have HS : Hid (stx J ++ (stx (oct (UInt32.ofNat k)) ++ stx T) = stx (joinL c (ts.take (i + 1)))) := Lib.hid (by
        rw [stx_append, stx_append, HP.out, hk, List.append_assoc])
      have hzo : (stx (oct (UInt32.ofNat k))).size = 4 := by rw [stx_size]; rfl
      have hzt : (stx (oct (UInt32.ofNat k)) ++ stx T).size = 4 + k := by rw [ByteArray.size_append, hzo, hz]
      have hk1 : (k : Int) ≤ 100 := by omega
      have hk0 : (0 : Int) ≤ k := by omega
      clear hjl hc hJ hT hk hoc hwv HP hle hjl2
      generalize stx (oct (UInt32.ofNat k)) = O at *
      generalize stx J = SJ at *
      generalize stx T = ST at *
      have b2 := b1.alloc b1.size (.cells #[.int .u8 ((k : Int) / 16777216), .int .u8 ((k : Int) / 65536), .int .u8 ((k : Int) / 256), .int .u8 (k : Int)] 5)
      go_wp2_with fail
      rw [HS.out]
      exact ⟨⟨i + 1, hlt, by go_num, rfl, b2⟩, by simp [intOf]; omega⟩
    · obtain rfl : i = n := by omega
      have HT : Hid (ts.take i = ts) := Lib.hid (List.take_of_length_le (by rw [HN.out]; exact Nat.le_refl _))
      go_wp2_with fail
      go_ret
      exact ⟨by rw [HT.out]; rfl, b1⟩
end Go.Proofs.YtppgmphojklaeaaGreatDoor
namespace Go.Proofs.YtppgmphojklaeaaGreatDoor
open Go Go.RowKit

def hexDigits : List UInt8 := [48, 49, 50, 51, 52, 53, 54, 55, 56, 57, 97, 98, 99, 100, 101, 102]
def dig (c : UInt8) : Int := Lib.indexByte hexDigits c
theorem dig_range : ∀ n : Fin 256, -1 ≤ dig (UInt8.ofNat n.val) ∧ dig (UInt8.ofNat n.val) ≤ 15 := by decide +kernel
theorem dig_lo (c : UInt8) : -1 ≤ dig c := u8_all (p := fun c => -1 ≤ dig c) (fun n => (dig_range n).1) c
theorem dig_hi (c : UInt8) : dig c ≤ 15 := u8_all (p := fun c => dig c ≤ 15) (fun n => (dig_range n).2) c

theorem dig_first (c : UInt8) (k : Nat) (hk : k ≤ 16) (h : ∀ j : Nat, j < k → hexDigits[j]? ≠ some c) : (k = 16 → dig c = -1) ∧ (hexDigits[k]? = some c → dig c = k) := by
  by_cases hd : dig c = -1
  · exact ⟨fun _ => hd, fun e => absurd e (Lib.indexByte_none hd k)⟩
  · have := dig_lo c
    obtain ⟨o, ho⟩ : ∃ o : Nat, dig c = o := ⟨(dig c).toNat, by omega⟩
    obtain ⟨h1, h2⟩ := Lib.indexByte_some ho
    have ho16 : o < 16 := (List.getElem?_eq_some_iff.1 h1).1
    rcases Nat.lt_trichotomy o k with hl | hl | hl
    · exact absurd h1 (h o hl)
    · subst hl
      exact ⟨fun e => absurd e (by omega), fun _ => ho⟩
    · exact ⟨fun e => absurd e (by omega), fun e => absurd e (h2 k hl)⟩

theorem hex_at (i : Nat) (h : i < 16) (h' : i < (⟨#[48, 49, 50, 51, 52, 53, 54, 55, 56, 57, 97, 98, 99, 100, 101, 102]⟩ : ByteArray).size) :
    hexDigits[i]? = some ((⟨#[48, 49, 50, 51, 52, 53, 54, 55, 56, 57, 97, 98, 99, 100, 101, 102]⟩ : ByteArray)[i]'h') := by
  rw [List.getElem?_eq_getElem (show i < hexDigits.length from h)]
  rfl
theorem eq_of_beq_nat {x c : UInt8} (h : ((x.toNat : Int) == (c.toNat : Int)) = true) : c = x := by
  have h1 : (x.toNat : Int) = c.toNat := by simpa using h
  have h2 : x.toNat = c.toNat := by omega
  exact (UInt8.toNat_inj.1 h2).symm

/-- The byte of two digits; how far a text has digits. -/
def at_ (s : ByteArray) (i : Nat) : UInt8 := s.data.toList.getD i 0
def val (s : ByteArray) (j : Nat) : Nat := (16 * dig (at_ s (2 * j)) + dig (at_ s (2 * j + 1))).toNat
def okTo (s : ByteArray) (k : Nat) : Prop := ∀ j, j < k → 0 ≤ dig (at_ s (2 * j)) ∧ 0 ≤ dig (at_ s (2 * j + 1))
def readTo (s : ByteArray) (k : Nat) : Lab := ⟨(List.range 32).map fun j => if j < k then UInt8.ofNat (val s j) else 0, by simp⟩
theorem readTo_zero (s : ByteArray) : readTo s 0 = zeroLab := Lab.ext' fun j hj => by rw [zeroLab_get]; simp [readTo, Lab.get, hj]
theorem readTo_succ (s : ByteArray) (k : Nat) : (readTo s k).set k (UInt8.ofNat (val s k)) = readTo s (k + 1) := Lab.ext' fun j hj => by
  rw [Lab.get_set _ _ _ _ hj]
  have h1 : ∀ q, (readTo s q).get j = if j < q then UInt8.ofNat (val s j) else 0 := fun q => by simp [readTo, Lab.get, hj]
  rw [h1, h1]
  by_cases e : k = j
  · subst e; simp
  · have : (j < k + 1) ↔ (j < k) := by omega
    simp [e, this]
instance (s : ByteArray) (k : Nat) : Decidable (okTo s k) := by unfold okTo; infer_instance
theorem get_at (s : ByteArray) (i : Nat) (h : i < s.size) : s[i] = at_ s i := by
  have h2 : i < s.data.toList.length := by simpa using h
  unfold at_
  rw [List.getD_eq_getElem?_getD, List.getElem?_eq_getElem h2]
  rfl

theorem row_ret_lab2 {fn : Func} {p q : Tmp} (h : fn.results = #[.cell p 27, .tmp q]) {R : Ending → World → Prop} {a : Act} {w : World} {b : Nat} {l : Lab} (hp : a.tmps.getD p undef = .pointer (some ⟨b, 0, none⟩)) (hd : a.defers = [])
    (hr : rowAt w b = some (cellsL l)) (hR : R (.returned (.tuple #[.agg (cellsL l), a.tmps.getD q undef])) w) : bodyPost Tryz.prog fn R .ret a w :=
  bodyPost_ret (results_row_tmp h a.tmps w b _ _ hp hr Tryz.underlying27 rfl (by rw [size_cellsL]; kernel_rfl)) hd hR

theorem or_digits (P Q : Nat) (hP : P ≤ 15) (hQ : Q ≤ 15) : P * 16 ||| Q = 16 * P + Q := by
  have : ∀ (p q : Fin 16), p.val * 16 ||| q.val = 16 * p.val + q.val := by decide +kernel
  exact this ⟨P, by omega⟩ ⟨Q, by omega⟩
end Go.Proofs.YtppgmphojklaeaaGreatDoor
namespace Go.Proofs.YtppgmphojklaeaaGreatDoor
open Go Go.RowKit

theorem size_builder : (Tryz.prog.info? 288).map (·.size) = some 2 := by kernel_rfl

set_option maxRecDepth 100000 in
theorem copyCheck_used (b : Nat) (w : World) (h0 : w.cell? ⟨b, 0, none⟩ = some (.pointer (some ⟨b, 0, none⟩))) :
    Calls Tryz.prog 242 #[.pointer (some ⟨b, 0, none⟩)] w fun e w' => e = .returned (.tuple #[]) ∧ w' = w := by
  obtain ⟨j, hj, _⟩ := Option.map_eq_some_iff.1 size_builder
  go_enter Tryz.func242, Tryz.ntmps242
  go_wp2_with fail
  rw [Lib.run_neq_ptr_same w _ Tryz.underlying286 hj]
  go_wp2_with fail
  go_end0
  exact ⟨rfl, rfl⟩

set_option maxRecDepth 100000 in
theorem copyCheck_fresh (b : Nat) (w : World) (h0 : w.cell? ⟨b, 0, none⟩ = some (.pointer none)) (hsh : w.shape? b = some (288, 2)) (hfz : w.frozen? ⟨b, 0, none⟩ = false) :
    Calls Tryz.prog 242 #[.pointer (some ⟨b, 0, none⟩)] w fun e w' => e = .returned (.tuple #[]) ∧ w' = w.setCell ⟨b, 0, none⟩ (.pointer (some ⟨b, 0, none⟩)) := by
  obtain ⟨j, hj, hjs⟩ := Option.map_eq_some_iff.1 size_builder
  go_enter Tryz.func242, Tryz.ntmps242
  go_wp2_with fail
  rw [Lib.run_to_unsafe w ⟨b, 0, none⟩ Tryz.underlying286 Tryz.underlying307 hj (by rw [hjs]; decide) hsh (Nat.zero_lt_succ 1)]
  simp only [Result.andThen]
  rw [Oper.upon_value]
  go_wp2_with fail
  rw [run_callFunc_extern Tryz.func248 (by kernel_rfl) (by kernel_rfl) (by kernel_rfl) (e := Extern.AbiNoEscape.same) (by kernel_rfl)]
  rw [Lib.run_noEscape]
  simp only [Result.andThen]
  rw [Oper.upon_value]
  go_wp2_with fail
  rw [Lib.run_from_unsafe w ⟨b, 0, none⟩ Tryz.underlying307 Tryz.underlying286 hj hsh (by kernel_rfl)]
  simp only [Result.andThen]
  rw [Oper.upon_value]
  go_wp2_with fail
  go_end0
  exact ⟨rfl, rfl⟩

theorem copyCheck_any (B b : Nat) (bs : List Value) (w : World) (h : Lib.IsBuilder 288 5 B b bs w) :
    Calls Tryz.prog 242 #[.pointer (some ⟨b, 0, none⟩)] w fun e w' => e = .returned (.tuple #[]) ∧ Lib.BuilderAt 288 5 B b (.pointer (some ⟨b, 0, none⟩)) bs w' ∧ Below B w w' := by
  rcases h with h | h
  · refine (copyCheck_fresh b w h.cell0 h.shape h.frozen0).mono ?_
    rintro e w' ⟨rfl, rfl⟩
    exact ⟨rfl, h.used _, (Below.refl B w).setCell (p := ⟨b, 0, none⟩) h.1 _⟩
  · refine (copyCheck_used b w h.cell0).mono ?_
    rintro e w' ⟨rfl, rfl⟩
    exact ⟨rfl, h, Below.refl B _⟩

end Go.Proofs.YtppgmphojklaeaaGreatDoor
namespace Go.Proofs.YtppgmphojklaeaaGreatDoor
open Go Go.RowKit

theorem info_byte : (Tryz.prog.info? 5).map (fun i => (i.zero, i.size, i.bytes)) = some (some (.int .u8 0), 1, 1) := by kernel_rfl

set_option maxHeartbeats 1000000 in
set_option maxRecDepth 100000 in
theorem WriteByte_any (B b : Nat) (bs : List Value) (c : Int) (w : World) (h : Lib.IsBuilder 288 5 B b bs w) (hlen : bs.length < 1000000) (hBw : B ≤ w.heap.size) :
    Calls Tryz.prog 225 #[.pointer (some ⟨b, 0, none⟩), .int .u8 c] w fun e w' => e = .returned .nilIface ∧ Lib.BuilderAt 288 5 B b (.pointer (some ⟨b, 0, none⟩)) (bs ++ [.int .u8 c]) w' ∧ Below B w w' := by
  obtain ⟨i0, hi, hz0, hz1, hz2⟩ := info_parts info_byte
  go_enter Tryz.func225, Tryz.ntmps225
  go_wp2_with fail
  refine (copyCheck_any B b bs _ h).mono ?_
  rintro e w1 ⟨rfl, ⟨hB, v, hrow, hown, hne⟩, hb1⟩
  have s1 := hb1.size
  have c0 := (Lib.cell_of_heap hrow 0).trans (rfl : _ = some (Value.pointer (some ⟨b, 0, none⟩)))
  have c1 := (Lib.cell_of_heap hrow 1).trans (rfl : _ = some v)
  have hlt : b < w1.heap.size := Lib.BuilderAt.lt ⟨hB, v, hrow, hown, hne⟩
  go_wp2_with (at_builtin; refine wpList_append_own _ rfl _ _ 164 rfl B 5 i0 (.int .u8 0) 1 1 Tryz.underlying164 hi hz0 hz1 hz2 rfl (by decide) v bs.length bs rfl (hown.alloc _) ⟨w1.heap.size, 0, none⟩ 1 1 [.int .u8 c] rfl rfl ?news ?one ?len ?bytes ?base ?_)
  case news =>
    intro j u hj
    cases j with
    | zero => simp at hj; subst hj; simp [Addr.add]
    | succ j => simp at hj
  case one => intro u hu; simp at hu; subst hu; rfl
  case len => unfold maxLen; omega
  case bytes => omega
  case base => simp; omega
  intro v2 w2 hown2 hgrow _
  have hrow2 : w2.heap[b]? = some (.cells #[.pointer (some ⟨b, 0, none⟩), v] 288 (0, 0)) := by
    rw [hgrow.block b (by simp; omega) (fun e => hne e.symm), Lib.alloc_old w1 _ b hlt]
    exact hrow
  have d0 := (Lib.cell_of_heap hrow2 0).trans (rfl : _ = some (Value.pointer (some ⟨b, 0, none⟩)))
  have d1 := (Lib.cell_of_heap hrow2 1).trans (rfl : _ = some v)
  have f1 := Lib.frozen_of_heap hrow2 1
  have hslice : ∃ g cap, v2 = .slice (some ⟨g, 0, none⟩) (bs.length + 1) cap := by
    rcases hown2.2 with ⟨_, h0⟩ | ⟨g, cap, cur, hv, _⟩
    · exact absurd h0 (by omega)
    · exact ⟨g, cap, hv⟩
  obtain ⟨g, cap, rfl⟩ := hslice
  have hput := Lib.BuilderAt.put hB hrow2 (bs' := bs ++ [.int .u8 c]) (v' := .slice (some ⟨g, 0, none⟩) (bs.length + 1) cap) (by simpa using hown2) (by decide)
  have hbel : Below B w (w2.setCell ⟨b, 1, none⟩ (.slice (some ⟨g, 0, none⟩) (bs.length + 1) cap)) := ((hb1.alloc (by omega) _).grown hgrow (by simp; omega) (fun k hk => (hown.lt k hk).1)).setCell (p := ⟨b, 1, none⟩) hB _
  go_wp2_with fail
  go_ret
  exact ⟨rfl, hput, hbel⟩

def hexd (n : Nat) : UInt8 := hexDigits.getD n 0
def hexTo (a : Lab) (k : Nat) : List UInt8 := (List.range k).flatMap fun j => [hexd ((a.get j).toNat / 16), hexd ((a.get j).toNat % 16)]
theorem hexTo_succ (a : Lab) (k : Nat) : hexTo a (k + 1) = hexTo a k ++ [hexd ((a.get k).toNat / 16), hexd ((a.get k).toNat % 16)] := by
  simp [hexTo, List.range_succ]
theorem hexTo_length (a : Lab) (k : Nat) : (hexTo a k).length = 2 * k := by
  induction k with
  | zero => rfl
  | succ k ih => rw [hexTo_succ, List.length_append, ih]; simp; omega

theorem cells_put (l : List UInt8) (c : UInt8) : Lib.byteCells l ++ [.int .u8 c.toNat] = Lib.byteCells (l ++ [c]) := by
  simp [Lib.byteCells]
theorem cells_length (l : List UInt8) : (Lib.byteCells l).length = l.length := by
  simp [Lib.byteCells]

@[go_sem high] theorem run_index_lab (w : World) (a : Lab) (i : Nat) (h : i < 32) : (Instr.index 27 (.agg (cellsL a)) (.int .i64 i)).run Tryz.prog w = .ok (.int .u8 (a.get i).toNat) w := by
  have g := get_cellsL a i h
  simp [Instr.index, run_underlying Tryz.underlying27, asIntOf, go_sem]
  rw [if_pos h, g]
  rfl
theorem run_add (w : World) (s t : ByteArray) (h : s.size + t.size < 1000000) : (Op.stringOp .add s t).run Tryz.prog w = .ok (.string (s ++ t)) w := by
  simp [Op.stringOp, go_sem]
  omega
theorem piece (n : Nat) (h : n < 16) : (⟨#[48, 49, 50, 51, 52, 53, 54, 55, 56, 57, 97, 98, 99, 100, 101, 102]⟩ : ByteArray).extract n (n + 1) = ⟨#[hexd n]⟩ := by
  have : ∀ k : Fin 16, (⟨#[48, 49, 50, 51, 52, 53, 54, 55, 56, 57, 97, 98, 99, 100, 101, 102]⟩ : ByteArray).extract k.val (k.val + 1) = ⟨#[hexd k.val]⟩ := by decide +kernel
  exact this ⟨n, h⟩
theorem pieces (x y : UInt8) : (⟨#[x]⟩ : ByteArray) ++ ⟨#[y]⟩ = ⟨#[x, y]⟩ := rfl
theorem hexTo_put (a : Lab) (i : Nat) : (⟨(hexTo a i).toArray⟩ : ByteArray) ++ ⟨#[hexd ((a.get i).toNat / 16), hexd ((a.get i).toNat % 16)]⟩ = ⟨(hexTo a (i + 1)).toArray⟩ := by
  rw [hexTo_succ]
  exact ByteArray.ext (by simp)
theorem digit_at (n : Nat) (h : n < 16) (h' : n < (⟨#[48, 49, 50, 51, 52, 53, 54, 55, 56, 57, 97, 98, 99, 100, 101, 102]⟩ : ByteArray).size) :
    (⟨#[48, 49, 50, 51, 52, 53, 54, 55, 56, 57, 97, 98, 99, 100, 101, 102]⟩ : ByteArray)[n]'h' = hexd n := by
  have := hex_at n h h'
  unfold hexd
  rw [List.getD_eq_getElem?_getD, this]
  rfl
theorem and_15 : ∀ x : Fin 256, x.val &&& 15 = x.val % 16 := by decide +kernel

end Go.Proofs.YtppgmphojklaeaaGreatDoor
namespace Go.Proofs.YtppgmphojklaeaaGreatDoor
open Go Go.RowKit

/-- A writer in a block of its own, holding these bytes and this error. -/
def WriterAt (B b : Nat) (bs : List UInt8) (err : Int) (w : World) : Prop :=
  ∃ ao cap, w.heap[b]? = some (.cells #[.slice ao bs.length cap, .int .i64 err] 166 (0, 0)) ∧ w.ownsRow B 5 1 (.slice ao bs.length cap) bs.length (Lib.byteCells bs) ∧ (Value.slice ao bs.length cap).ownBlock ≠ some b

/-- Block k holds no bytes. -/
def NoBytes (w : World) (k : Nat) : Prop := ∀ cs fr, w.heap[k]? ≠ some (.cells cs 5 fr)
/-- Below block B the world is as it was, but for block b; and so are all blocks that hold no bytes. -/
structure Near (B b : Nat) (w w' : World) : Prop where
  os : w'.os = w.os
  tape : w'.tape = w.tape
  output : w'.output = w.output
  size : w.heap.size ≤ w'.heap.size
  block : ∀ k, k < B → k ≠ b → w'.heap[k]? = w.heap[k]?
  far : ∀ k, k < w.heap.size → k ≠ b → NoBytes w k → w'.heap[k]? = w.heap[k]?
theorem Near.refl (B b : Nat) (w : World) : Near B b w w := ⟨rfl, rfl, rfl, Nat.le_refl _, fun _ _ _ => rfl, fun _ _ _ _ => rfl⟩
theorem Near.trans {B b : Nat} {a w w' : World} (h : Near B b a w) (k : Near B b w w') : Near B b a w' :=
  ⟨k.os.trans h.os, k.tape.trans h.tape, k.output.trans h.output, Nat.le_trans h.size k.size, fun i hi hn => (k.block i hi hn).trans (h.block i hi hn), fun i hi hn hb => by
    have e := h.far i hi hn hb
    refine (k.far i (Nat.lt_of_lt_of_le hi h.size) hn fun cs fr => ?_).trans e
    rw [e]
    exact hb cs fr⟩
theorem Near.mono {B C b : Nat} {w w' : World} (h : Near B b w w') (hC : C ≤ B) : Near C b w w' := ⟨h.os, h.tape, h.output, h.size, fun k hk => h.block k (Nat.lt_of_lt_of_le hk hC), h.far⟩
theorem _root_.Go.RowKit.Below.near {B b : Nat} {w w' : World} (h : Below w.heap.size w w') (hB : B ≤ w.heap.size) : Near B b w w' := ⟨h.os, h.tape, h.output, h.size, fun k hk _ => h.block k (Nat.lt_of_lt_of_le hk hB), fun k hk _ _ => h.block k hk⟩
theorem Near.setCell {B b : Nat} {a w : World} (h : Near B b a w) {p : Addr} (hp : p.block = b) (u : Value) : Near B b a (w.setCell p u) :=
  h.trans ⟨rfl, rfl, rfl, by simp [World.setCell], fun k _ hn => Below.heap_setCell _ _ _ _ (by omega), fun k _ hn _ => Below.heap_setCell _ _ _ _ (by omega)⟩
theorem Near.setRow {B b : Nat} {a w : World} (h : Near B b a w) {g : Nat} (hg : B ≤ g) (ha : a.heap.size ≤ g) (c : Array Value) : Near B b a (w.setRow g c) :=
  ⟨h.os, h.tape, h.output, by simpa using h.size, fun k hk hn => (setRow_other w g k c (by omega)).trans (h.block k hk hn), fun k hk hn hb => (setRow_other w g k c (by omega)).trans (h.far k hk hn hb)⟩
/-- Below both it is as it was. -/
theorem Near.below {B b C : Nat} {w w' : World} (h : Near B b w w') (hB : C ≤ B) (hb : C ≤ b) : Below C w w' :=
  ⟨h.os, h.tape, h.output, h.size, fun k hk => h.block k (by omega) (by omega)⟩
theorem Near.row {B b k : Nat} {w w' : World} (h : Near B b w w') (hk : k < B) (hn : k ≠ b) : rowAt w' k = rowAt w k := by
  unfold rowAt
  rw [h.block k hk hn]
theorem Near.grown {B b : Nat} {w w' : World} {v : Value} {n : Nat} {xs : List Value} (ho : w.ownsRow B 5 1 v n xs) (hg : w.grownBy w' v.ownBlock) (hB : B ≤ w.heap.size) : Near B b w w' :=
  ⟨hg.os, hg.tape, hg.output, hg.size, fun k hk _ => hg.block k (by omega) (fun e => by have := (ho.lt k e.symm).1; omega), fun k hk _ hb => hg.block k hk (fun e => by
    rcases ho.2 with ⟨h1, _⟩ | ⟨g, cap, cur, h1, _, h3, _⟩
    · rw [h1] at e; cases e
    · rw [h1] at e
      have : k = g := by simpa [Value.ownBlock] using e
      subst this
      exact hb _ _ h3)⟩

theorem heap_put {w : World} {b j : Nat} {cs : Array Value} {T : TypeId} {fr : Nat × Nat} (h : w.heap[b]? = some (.cells cs T fr)) (x : Value) : (w.setCell ⟨b, j, none⟩ x).heap[b]? = some (.cells (cs.setIfInBounds j x) T fr) := by
  simp [World.setCell, Array.getElem?_modify, h]
theorem heap_lt {w : World} {b : Nat} {o : Obj} (h : w.heap[b]? = some o) : b < w.heap.size := (Array.getElem?_eq_some_iff.1 h).1

theorem Wfail_any (B b : Nat) (bs : List UInt8) (e err : Int) (w : World) (h : WriterAt B b bs err w) :
    Calls Tryz.prog 168 #[.pointer (some ⟨b, 0, none⟩), .int .i64 e] w fun r w' => r = .returned (.tuple #[]) ∧ WriterAt B b [] (if err = 0 then e else err) w' ∧ Near B b w w' := by
  obtain ⟨ao, cap, hrow, hown, hne⟩ := h
  have h0 := (Lib.cell_of_heap hrow 0).trans (rfl : _ = some (Value.slice ao bs.length cap))
  have h1 := (Lib.cell_of_heap hrow 1).trans (rfl : _ = some (Value.int .i64 err))
  have f0 := Lib.frozen_of_heap hrow 0
  have f1 := Lib.frozen_of_heap hrow 1
  by_cases h : err = 0
  · subst h
    have k1 : WriterAt B b [] (if (0 : Int) = 0 then e else 0) ((w.setCell ⟨b, 1, none⟩ (.int .i64 e)).setCell ⟨b, 0, none⟩ (.slice none 0 0)) :=
      ⟨none, 0, heap_put (heap_put hrow _) _, World.ownsRow_nil _ _ _ _, by simp [Value.ownBlock]⟩
    have b1 : Near B b w ((w.setCell ⟨b, 1, none⟩ (.int .i64 e)).setCell ⟨b, 0, none⟩ (.slice none 0 0)) := ((Near.refl B b w).setCell (p := ⟨b, 1, none⟩) rfl _).setCell (p := ⟨b, 0, none⟩) rfl _
    go_enter Tryz.func168, Tryz.ntmps168
    go_wp2_with fail
    go_end0
    exact ⟨rfl, k1, b1⟩
  · have hq : (err == 0) = false := by rw [beq_eq_false_iff_ne]; exact h
    have k1 : WriterAt B b [] err (w.setCell ⟨b, 0, none⟩ (.slice none 0 0)) := by
      exact ⟨none, 0, heap_put hrow _, World.ownsRow_nil _ _ _ _, by simp [Value.ownBlock]⟩
    have b1 : Near B b w (w.setCell ⟨b, 0, none⟩ (.slice none 0 0)) := (Near.refl B b w).setCell (p := ⟨b, 0, none⟩) rfl _
    go_enter Tryz.func168, Tryz.ntmps168
    go_wp2_with fail
    go_end0
    exact ⟨rfl, k1, b1⟩

theorem cells_str (s : ByteArray) : Lib.strCells s = Lib.byteCells s.data.toList := by
  simp [Lib.strCells, Lib.byteCells]
theorem cells_append (l m : List UInt8) : Lib.byteCells (l ++ m) = Lib.byteCells l ++ Lib.byteCells m := by
  simp [Lib.byteCells]

/-- What add makes of the bytes. -/
def added (bs : List UInt8) (err : Int) (s : List UInt8) : List UInt8 := if err = 0 ∧ bs.length ≤ 65536 then bs ++ s else bs
set_option maxRecDepth 100000 in
set_option maxHeartbeats 1000000 in
theorem Wadd_any (B b : Nat) (bs : List UInt8) (err : Int) (s : ByteArray) (w : World) (h : WriterAt B b bs err w) (hs : s.size ≤ 100000) (hBw : B ≤ w.heap.size) :
    Calls Tryz.prog 170 #[.pointer (some ⟨b, 0, none⟩), .string s] w fun r w' => r = .returned (.tuple #[]) ∧ WriterAt B b (added bs err s.data.toList) err w' ∧ Near B b w w' := by
  have hall := h
  obtain ⟨ao, cap, hrow, hown, hne⟩ := h
  have h0 := (Lib.cell_of_heap hrow 0).trans (rfl : _ = some (Value.slice ao bs.length cap))
  have h1 := (Lib.cell_of_heap hrow 1).trans (rfl : _ = some (Value.int .i64 err))
  have f0 := Lib.frozen_of_heap hrow 0
  have f1 := Lib.frozen_of_heap hrow 1
  by_cases he : err = 0
  · subst he
    by_cases hl : bs.length ≤ 65536
    · have hl' : decide ((bs.length : Int) ≤ 65536) = true := decide_eq_true (by omega)
      have HA : Hid (added bs 0 s.data.toList = bs ++ s.data.toList) := Lib.hid (if_pos ⟨rfl, hl⟩)
      obtain ⟨i0, hi, hz0, hz1, hz2⟩ := info_parts info_byte
      go_enter Tryz.func170, Tryz.ntmps170
      go_wp2_with (at_builtin; refine Lib.wpList_append_own_string _ rfl _ _ 164 9 rfl B 5 i0 Tryz.underlying164 Tryz.underlying9 hi hz0 hz1 hz2 _ _ _ rfl hown s rfl ?len ?bytes ?base ?_)
      case len => unfold maxLen; omega
      case bytes => omega
      case base => exact hBw
      intro v2 w2 hown2 hgrow _
      have hlt := heap_lt hrow
      have hrow2 : w2.heap[b]? = some (.cells #[.slice ao bs.length cap, .int .i64 0] 166 (0, 0)) := by
        rw [hgrow.block b hlt (fun e => hne e.symm)]
        exact hrow
      have d0 := (Lib.cell_of_heap hrow2 0).trans (rfl : _ = some (Value.slice ao bs.length cap))
      have d1 := (Lib.cell_of_heap hrow2 1).trans (rfl : _ = some (Value.int .i64 0))
      have g0 := Lib.frozen_of_heap hrow2 0
      have hlen : (bs ++ s.data.toList).length = bs.length + s.size := by rw [List.length_append]; rfl
      have hslice : ∃ ao2 cap2, v2 = .slice ao2 (bs.length + s.size) cap2 := by
        rcases hown2.2 with ⟨hv, h0⟩ | ⟨g, cap, cur, hv, _⟩
        · exact ⟨none, 0, by rw [hv, h0]⟩
        · exact ⟨_, _, hv⟩
      obtain ⟨ao2, cap2, rfl⟩ := hslice
      rw [← hlen, cells_str, ← cells_append] at hown2
      rw [← hlen]
      clear hlen
      generalize bs ++ s.data.toList = l at *
      have hput : w2.heap[b]? = some (.cells #[.slice ao bs.length cap, .int .i64 0] 166 (0, 0)) := hrow2
      have hne2 : (Value.slice ao2 l.length cap2).ownBlock ≠ some b := Lib.ownBlock_ne hown2 hrow2 (by decide)
      have k1 : WriterAt B b l 0 (w2.setCell ⟨b, 0, none⟩ (.slice ao2 l.length cap2)) :=
        ⟨ao2, cap2, heap_put hrow2 _, hown2.kept (row := some b) ⟨rfl, rfl, rfl, by simp [World.setCell], fun k _ hk => Below.heap_setCell _ _ _ _ (fun e => hk (by simp [e]))⟩ (Or.inr hne2), hne2⟩
      have b1 : Near B b w (w2.setCell ⟨b, 0, none⟩ (.slice ao2 l.length cap2)) := (Near.grown hown hgrow hBw).setCell (p := ⟨b, 0, none⟩) rfl _
      go_wp2_with fail
      go_end0
      exact ⟨rfl, by rw [HA.out]; exact k1, b1⟩
    · have hl' : decide ((bs.length : Int) ≤ 65536) = false := decide_eq_false (by omega)
      have HA : Hid (added bs 0 s.data.toList = bs) := Lib.hid (if_neg (by omega))
      have HK := Lib.hid hall
      clear hall
      go_enter Tryz.func170, Tryz.ntmps170
      go_wp2_with fail
      go_end0
      exact ⟨rfl, by rw [HA.out]; exact HK.out, Near.refl _ _ _⟩
  · have hq : (err == 0) = false := by rw [beq_eq_false_iff_ne]; exact he
    have HA : Hid (added bs err s.data.toList = bs) := Lib.hid (if_neg (fun e => he e.1))
    have HK := Lib.hid hall
    clear hall
    go_enter Tryz.func170, Tryz.ntmps170
    go_wp2_with fail
    go_end0
    exact ⟨rfl, by rw [HA.out]; exact HK.out, Near.refl _ _ _⟩

set_option maxRecDepth 100000 in
theorem run_own_string (w : World) (B : Nat) (ao : Option Addr) (cap : Nat) (l : List UInt8) (h : w.ownsRow B 5 1 (.slice ao l.length cap) l.length (Lib.byteCells l)) :
    (convert 164 9 (.slice ao l.length cap)).run Tryz.prog w = .ok (.string ⟨l.toArray⟩) w := by
  rcases h.2 with ⟨hv, h0⟩ | ⟨g, cap', cur, hv, _⟩
  · have : l = [] := List.eq_nil_of_length_eq_zero h0
    subst this
    injection hv with e1 _ e2
    subst e1 e2
    exact run_convert_bytes_nil w _ _ Tryz.underlying164 Tryz.underlying5 _ _ _ Tryz.underlying9
  · injection hv with e1 _ e2
    subst e1 e2
    refine run_convert_bytes_back w _ _ _ ⟨g, 0, none⟩ _ l Tryz.underlying164 Tryz.underlying5 Tryz.underlying9 fun j hj => ?_
    exact h.cells (g := g) rfl j _ (by simp [Lib.byteCells, hj])

set_option maxRecDepth 100000 in
theorem Done_any (B b : Nat) (bs : List UInt8) (err : Int) (w : World) (h : WriterAt B b bs err w) :
    Calls Tryz.prog 107 #[.pointer (some ⟨b, 0, none⟩)] w fun r w' => r = .returned (if err ≠ 0 then .tuple #[.string ⟨#[]⟩, .int .i64 err] else if bs.length > 65536 then .tuple #[.string ⟨#[]⟩, .int .i64 2] else .tuple #[.string ⟨bs.toArray⟩, .int .i64 0]) ∧ Below w.heap.size w w' := by
  obtain ⟨ao, cap, hrow, hown, hne⟩ := h
  have h0 := (Lib.cell_of_heap hrow 0).trans (rfl : _ = some (Value.slice ao bs.length cap))
  have h1 := (Lib.cell_of_heap hrow 1).trans (rfl : _ = some (Value.int .i64 err))
  generalize hR : (if err ≠ 0 then Value.tuple #[.string ⟨#[]⟩, .int .i64 err] else if bs.length > 65536 then .tuple #[.string ⟨#[]⟩, .int .i64 2] else .tuple #[.string ⟨bs.toArray⟩, .int .i64 0]) = R
  by_cases he : err = 0
  · by_cases hl : bs.length ≤ 65536
    · have hl' : decide (65536 < (bs.length : Int)) = false := decide_eq_false (by omega)
      rw [if_neg (by omega), if_neg (by omega)] at hR
      have HR := Lib.hid hR
      clear hR
      subst he
      have hconv := run_own_string w B ao cap bs hown
      go_enter Tryz.func107, Tryz.ntmps107
      go_wp2_with fail
      try rw [hconv]
      try simp only [Result.andThen]
      try rw [Oper.upon_value]
      go_wp2_with fail
      go_ret2
      exact ⟨by rw [← HR.out]; rfl, Below.refl _ _⟩
    · have hl' : decide (65536 < (bs.length : Int)) = true := decide_eq_true (by omega)
      rw [if_neg (by omega), if_pos (by omega)] at hR
      have HR := Lib.hid hR
      clear hR
      subst he
      go_enter Tryz.func107, Tryz.ntmps107
      go_wp2_with fail
      go_ret2
      exact ⟨by rw [← HR.out]; rfl, Below.refl _ _⟩
  · have hq : (err != 0) = true := by simpa using he
    rw [if_pos he] at hR
    have HR := Lib.hid hR
    clear hR
    go_enter Tryz.func107, Tryz.ntmps107
    go_upto_region 2 with fail
    have fa := fun x : Past w => (x.cell (p := ⟨b, 1, none⟩) (heap_lt hrow)).trans h1
    refine wp_region_past (by kernel_rfl) (by kernel_rfl) ?_
    repeat (go_big_quiet_step (fail))
    refine wpQuiet_nil ?_
    intro w2 hw2
    obtain ⟨⟨wn, hn⟩, rfl⟩ := hw2
    try dsimp only
    go_wp2_with fail
    go_ret2
    exact ⟨by rw [← HR.out]; rfl, hn⟩

theorem WriterAt.below {B b : Nat} {bs : List UInt8} {err : Int} {w w' : World} (h : WriterAt B b bs err w) (k : Below w.heap.size w w') : WriterAt B b bs err w' := by
  obtain ⟨ao, cap, hrow, hown, hne⟩ := h
  exact ⟨ao, cap, (k.block b (heap_lt hrow)).trans hrow, hown.kept (row := none) ⟨k.os, k.tape, k.output, k.size, fun j hj _ => k.block j hj⟩ (by cases hv : (Value.slice ao bs.length cap).ownBlock <;> simp), hne⟩

/-- The cells of a number's bytes, as many laid as i. -/
def numCell (n k i j : Nat) : Nat := if j < k ∧ k - 1 - j < i then n / 256 ^ (k - 1 - j) % 256 else 0
def numRow (n k i : Nat) : Array Value := (Value.int .u8 k :: (List.range 8).map fun j => Value.int .u8 (numCell n k i j)).toArray
theorem numRow_zero (n k : Nat) : numRow n k 0 = #[.int .u8 k, .int .u8 0, .int .u8 0, .int .u8 0, .int .u8 0, .int .u8 0, .int .u8 0, .int .u8 0, .int .u8 0] := by
  simp [numRow, numCell, List.range_succ]
theorem numRow_put (n k i : Nat) (hk : k ≤ 8) (hi : i < k) : (numRow n k i).setIfInBounds (k - i) (.int .u8 ((n / 256 ^ i % 256 : Nat) : Int)) = numRow n k (i + 1) := by
  apply Array.ext_getElem?
  intro j
  rw [Array.getElem?_setIfInBounds]
  unfold numRow
  by_cases e : k - i = j
  · subst e
    obtain ⟨q, hq⟩ : ∃ q, k - i = q + 1 := ⟨k - i - 1, by omega⟩
    have h1 : q < 8 := by omega
    have h2 : numCell n k (i + 1) q = n / 256 ^ i % 256 := by
      rw [numCell, if_pos (by omega), show k - 1 - q = i by omega]
    simp [hq, h1, h2]
  · rw [if_neg e]
    cases j with
    | zero => simp
    | succ j =>
      by_cases h1 : j < 8
      · have h2 : numCell n k (i + 1) j = numCell n k i j := by
          have h3 : (j < k ∧ k - 1 - j < i + 1) ↔ (j < k ∧ k - 1 - j < i) := by omega
          simp only [numCell, h3]
        simp [h1, h2]
      · simp [h1]
theorem numRow_get (n k i d : Nat) (h0 : 0 < d) (h1 : d < 9) : (numRow n k i)[d]? = some (.int .u8 (numCell n k i (d - 1))) := by
  obtain ⟨q, rfl⟩ : ∃ q, d = q + 1 := ⟨d - 1, by omega⟩
  have : q < 8 := by omega
  simp [numRow, this]
def numLen (n : Nat) : Nat := (Lib.bitLen n + 7) / 8
def numBytes (n : Nat) : List UInt8 := UInt8.ofNat (numLen n) :: (List.range (numLen n)).map fun j => UInt8.ofNat (n / 256 ^ (numLen n - 1 - j))
theorem numLen_le (n : Nat) (h : n < 9223372036854775808) : numLen n ≤ 8 := by
  have := Lib.bitLen_le n 64 (by omega) (by omega)
  unfold numLen
  omega
theorem numBytes_length (n : Nat) : (numBytes n).length = numLen n + 1 := by simp [numBytes]

theorem numRow_bytes (n k : Nat) (hk : numLen n = k) (hk8 : k ≤ 8) (j : Nat) (hj : j < (numBytes n).length) : (numRow n k k)[j]? = some (.int .u8 ((numBytes n)[j].toNat : Int)) := by
  subst hk
  rw [numBytes_length] at hj
  cases j with
  | zero =>
    have : numLen n % 256 = numLen n := by omega
    simp [numRow, numBytes, this]
  | succ j =>
    have h1 : j < 8 := by omega
    have h2 : numCell n (numLen n) (numLen n) j = n / 256 ^ (numLen n - 1 - j) % 256 := by rw [numCell, if_pos (by omega)]
    simp [numRow, numBytes, h1, h2]

set_option maxRecDepth 100000 in
theorem Number_neg (B b : Nat) (bs : List UInt8) (err n : Int) (w : World) (h : WriterAt B b bs err w) (h0 : n < 0) :
    Calls Tryz.prog 103 #[.pointer (some ⟨b, 0, none⟩), .int .i64 n] w fun r w' => r = .returned (.tuple #[]) ∧ WriterAt B b [] (if err = 0 then 1 else err) w' ∧ Near B b w w' := by
  generalize hE : (if err = 0 then 1 else err) = E
  have HF : ∀ w, WriterAt B b bs err w → Calls Tryz.prog 168 #[.pointer (some ⟨b, 0, none⟩), .int .i64 1] w fun r w' => r = .returned (.tuple #[]) ∧ WriterAt B b [] E w' ∧ Near B b w w' := fun w h => by
    have := Wfail_any B b bs 1 err w h
    rwa [hE] at this
  clear hE
  go_enter Tryz.func103, Tryz.ntmps103
  go_wp2_with fail
  refine (HF _ h).mono ?_
  rintro e w1 ⟨rfl, k1, b1⟩
  go_wp2_with fail
  exact bodyPost_ret (results_none rfl _ _ _) rfl ⟨rfl, k1, b1⟩

set_option maxRecDepth 100000 in
theorem Number_any (B b : Nat) (bs : List UInt8) (err : Int) (n : Nat) (w : World) (h : WriterAt B b bs err w) (hn : n < 9223372036854775808) (hBw : B ≤ w.heap.size) :
    Calls Tryz.prog 103 #[.pointer (some ⟨b, 0, none⟩), .int .i64 n] w fun r w' => r = .returned (.tuple #[]) ∧ WriterAt B b (added bs err (numBytes n)) err w' ∧ Near B b w w' := by
  obtain ⟨m, hm⟩ : ∃ m : Int, m = (n : Int) := ⟨_, rfl⟩
  rw [← hm]
  have h0 : 0 ≤ m := by omega
  have h1 : m < 9223372036854775808 := by omega
  have hw : IntKind.u64.wrap m = m := by
    have : (2 : Int) ^ IntKind.u64.bits = 18446744073709551616 := rfl
    show m % 2 ^ IntKind.u64.bits = m
    rw [this]
    omega
  have hk8 := numLen_le n hn
  obtain ⟨k, hk⟩ : ∃ k, numLen n = k := ⟨_, rfl⟩
  rw [hk] at hk8
  have hmn : m.toNat = n := by omega
  have hk2 : ((Lib.bitLen m.toNat : Int) + 7) / 8 = k := by rw [hmn, ← hk, numLen]; omega
  have HK := Lib.hid hk
  have HM := Lib.hid hm
  have HZ := Lib.hid (numRow_zero n k)
  have HW := Lib.hid h
  clear hk hn h hm hmn
  go_enter Tryz.func103, Tryz.ntmps103
  go_wp2_with fail
  refine (Tryz.bits_Len64 m _ h0 (by omega)).mono ?_
  rintro e w1 ⟨rfl, hw1⟩
  subst hw1
  go_wp2_with fail
  rw [← HZ.out, hk2]
  have r0 : rowAt (w1.alloc (.cells (numRow n k 0) 242)) w1.heap.size = some (numRow n k 0) := rowAt_alloc_at _ _ _ _ rfl
  have b0 : Below w1.heap.size w1 (w1.alloc (.cells (numRow n k 0) 242)) := (Below.refl _ _).alloc (Nat.le_refl _) _
  generalize hg : w1.heap.size = g at *
  generalize w1.alloc (.cells (numRow n k 0) 242) = W at *
  go_loopw [20] (fun t wr => ∃ i : Nat, i ≤ k ∧ t = .int .i64 i ∧ rowAt wr g = some (numRow n k i) ∧ Below g w1 wr) (fun t _ => (k - intOf t).toNat)
  case atStart => exact ⟨0, Nat.zero_le _, rfl, r0, b0⟩
  case round =>
    obtain ⟨i, hi, rfl, k0, b5⟩ := hrel
    clear r0 b0
    by_cases hlt : i < k
    · have hlt' : (i : Int) < k := by omega
      obtain ⟨d, hd⟩ : ∃ d, k - i = d := ⟨_, rfl⟩
      have hsub : (k : Int) - (i : Int) = (d : Int) := by omega
      have hd9 : (d : Int) < 9 := by omega
      have c1 := (cell_of_rowAt k0 d).trans (numRow_get n k i d (by omega) (by omega))
      have f1 := frozen_of_rowAt k0 d
      have hi8 : (i : Int) < 8 := by omega
      go_wp2_with fail
      have hval : m / 2 ^ (8 * i) % 256 = ((n / 256 ^ i % 256 : Nat) : Int) := by
        rw [HM.out, div_pow_cast, Nat.pow_mul]
        rfl
      rw [hval]
      have hput := numRow_put n k i hk8 hlt
      rw [hd] at hput
      refine ⟨⟨i + 1, hlt, by go_num, ?_, Below.setCell b5 (Nat.le_refl g) _⟩, by simp [intOf]; omega⟩
      rw [← hput]
      exact rowAt_setCell_same k0 d _
    · obtain rfl : i = k := by omega
      have hi9 : (i : Int) < 9 := by omega
      have hi10 : 1 + (i : Int) ≤ 9 := by omega
      have hi0 : 0 ≤ 1 + (i : Int) := by omega
      have hlen : (numBytes n).length = 1 + i := by rw [numBytes_length, HK.out]; omega
      have hconv : (convert 164 9 (.slice (some ⟨g, 0, none⟩) (1 + i) 9)).run Tryz.prog wr = .ok (.string ⟨(numBytes n).toArray⟩) wr := by
        rw [← hlen]
        refine run_convert_bytes_back wr _ _ _ ⟨g, 0, none⟩ _ _ Tryz.underlying164 Tryz.underlying5 Tryz.underlying9 fun j hj => ?_
        rw [show (⟨g, 0, none⟩ : Addr).add j = ⟨g, j, none⟩ by simp [Addr.add]; exact fun e => e.symm, cell_of_rowAt k0]
        exact numRow_bytes n i HK.out hk8 j hj
      have hsz : (ByteArray.mk (numBytes n).toArray).size ≤ 100000 := by
        show (numBytes n).toArray.size ≤ 100000
        rw [List.size_toArray, hlen]
        have : i ≤ 8 := hk8
        omega
      have HA := Lib.hid (Wadd_any B b bs err ⟨(numBytes n).toArray⟩ wr (HW.out.below (by rw [hg]; exact b5)) hsz (Nat.le_trans hBw (by rw [← hg]; exact b5.size)))
      clear hlen hsz
      go_wp2_with fail
      refine HA.out.mono ?_
      rintro e w2 ⟨rfl, k1, b1⟩
      have b2 : Near B b w1 w2 := (Below.near (by rw [hg]; exact b5) (by rw [hg]; exact hBw)).trans b1
      go_wp2_with fail
      go_end0
      exact ⟨rfl, by simpa using k1, b2⟩
end Go.Proofs.YtppgmphojklaeaaGreatDoor
namespace Go.Proofs.YtppgmphojklaeaaGreatDoor
open Go Go.RowKit

set_option maxRecDepth 100000 in
theorem Text_big (B b : Nat) (bs : List UInt8) (err : Int) (s : ByteArray) (w : World) (h : WriterAt B b bs err w) (hs : 65536 < s.size) :
    Calls Tryz.prog 105 #[.pointer (some ⟨b, 0, none⟩), .string s] w fun r w' => r = .returned (.tuple #[]) ∧ WriterAt B b [] (if err = 0 then 2 else err) w' ∧ Near B b w w' := by
  generalize hE : (if err = 0 then 2 else err) = E
  have HF := Lib.hid (Wfail_any B b bs 2 err w h)
  have HE := Lib.hid hE
  have hs' : decide (65536 < (s.size : Int)) = true := decide_eq_true (by omega)
  clear hE hs h
  go_enter Tryz.func105, Tryz.ntmps105
  go_wp2_with fail
  refine HF.out.mono ?_
  rintro e w1 ⟨rfl, k1, b1⟩
  rw [HE.out] at k1
  go_wp2_with fail
  exact bodyPost_ret (results_none rfl _ _ _) rfl ⟨rfl, k1, b1⟩

set_option maxRecDepth 100000 in
theorem Text_any (B b : Nat) (bs : List UInt8) (err : Int) (s : ByteArray) (w : World) (h : WriterAt B b bs err w) (hs : s.size ≤ 65536) (hBw : B ≤ w.heap.size) :
    Calls Tryz.prog 105 #[.pointer (some ⟨b, 0, none⟩), .string s] w fun r w' => r = .returned (.tuple #[]) ∧ WriterAt B b (added (added bs err (numBytes s.size)) err s.data.toList) err w' ∧ Near B b w w' := by
  have HN := Lib.hid (Number_any B b bs err s.size w h (by omega) hBw)
  have hs' : decide (65536 < (s.size : Int)) = false := decide_eq_false (by omega)
  have HS : Hid (s.size ≤ 100000) := Lib.hid (by omega)
  clear hs h
  go_enter Tryz.func105, Tryz.ntmps105
  go_wp2_with fail
  refine HN.out.mono ?_
  rintro e w1 ⟨rfl, k1, b1⟩
  have s1 := b1.size
  go_wp2_with fail
  refine (Wadd_any B b _ err s w1 k1 HS.out (Nat.le_trans hBw s1)).mono ?_
  rintro e w2 ⟨rfl, k2, b2⟩
  have b3 := b1.trans b2
  go_wp2_with fail
  go_end0
  exact ⟨rfl, k2, b3⟩

set_option maxRecDepth 100000 in
theorem Flag_any (B b : Nat) (bs : List UInt8) (err : Int) (v : Bool) (w : World) (h : WriterAt B b bs err w) (hBw : B ≤ w.heap.size) :
    Calls Tryz.prog 171 #[.pointer (some ⟨b, 0, none⟩), .bool v] w fun r w' => r = .returned (.tuple #[]) ∧ WriterAt B b (added bs err [if v then 1 else 0]) err w' ∧ Near B b w w' := by
  have HT := Lib.hid (Wadd_any B b bs err ⟨#[1]⟩ w h (by decide) hBw)
  have HF := Lib.hid (Wadd_any B b bs err ⟨#[0]⟩ w h (by decide) hBw)
  clear h
  cases v
  · go_enter Tryz.func171, Tryz.ntmps171
    go_wp2_with fail
    refine HF.out.mono ?_
    rintro e w1 ⟨rfl, k1, b1⟩
    go_wp2_with fail
    go_end0
    exact ⟨rfl, k1, b1⟩
  · go_enter Tryz.func171, Tryz.ntmps171
    go_wp2_with fail
    refine HT.out.mono ?_
    rintro e w1 ⟨rfl, k1, b1⟩
    go_wp2_with fail
    go_end0
    exact ⟨rfl, k1, b1⟩

set_option maxRecDepth 100000 in
theorem Label_any (B b : Nat) (bs : List UInt8) (err : Int) (a : Lab) (w : World) (h : WriterAt B b bs err w) (hBw : B ≤ w.heap.size) :
    Calls Tryz.prog 173 #[.pointer (some ⟨b, 0, none⟩), .agg (cellsL a)] w fun r w' => r = .returned (.tuple #[]) ∧ WriterAt B b (added bs err a.l) err w' ∧ Near B b w w' := by
  have b0 : Below w.heap.size w (w.alloc (.cells (cellsL a) 27)) := (Below.refl _ _).alloc (Nat.le_refl _) _
  have r0 : rowAt (w.alloc (.cells (cellsL a) 27)) w.heap.size = some (cellsL a) := rowAt_alloc_at _ _ _ _ rfl
  have HW := Lib.hid (h.below b0)
  have B1 : Near B b w (w.alloc (.cells (cellsL a) 27)) := b0.near hBw
  have hs := B1.size
  clear h
  generalize hg : w.heap.size = g at *
  have hconv : (convert 164 9 (.slice (some ⟨g, 0, none⟩) 32 32)).run Tryz.prog (w.alloc (.cells (cellsL a) 27)) = .ok (.string ⟨a.l.toArray⟩) (w.alloc (.cells (cellsL a) 27)) := by
    rw [← a.h]
    refine run_convert_bytes_back _ _ _ _ ⟨g, 0, none⟩ _ _ Tryz.underlying164 Tryz.underlying5 Tryz.underlying9 fun j hj => ?_
    rw [show (⟨g, 0, none⟩ : Addr).add j = ⟨g, j, none⟩ by simp [Addr.add]; exact fun e => e.symm, cell_of_rowAt r0, get_cellsL a j (by rw [← a.h]; exact hj)]
    simp [Lab.get, hj]
  have HA := Lib.hid (Wadd_any B b bs err ⟨a.l.toArray⟩ _ HW.out (by show a.l.toArray.size ≤ 100000; rw [List.size_toArray, a.h]; decide) (Nat.le_trans hBw hs))
  go_enter Tryz.func173, Tryz.ntmps173
  go_wp2_with fail
  refine HA.out.mono ?_
  rintro e w1 ⟨rfl, k1, b1⟩
  have b2 := B1.trans b1
  go_wp2_with fail
  go_end0
  exact ⟨rfl, k1, b2⟩
end Go.Proofs.YtppgmphojklaeaaGreatDoor
namespace Go.Proofs.YtppgmphojklaeaaGreatDoor
open Go

/-- Bytes as a text. -/
abbrev txt (l : List UInt8) : ByteArray := ⟨l.toArray⟩
theorem txt_size (l : List UInt8) : (txt l).size = l.length := by show l.toArray.size = _; rw [List.size_toArray]
theorem txt_list (s : ByteArray) : txt s.data.toList = s := rfl
/-- The bytes of a number behind the first one. -/
def numTail (n : Nat) : List UInt8 := (List.range (numLen n)).map fun j => UInt8.ofNat (n / 256 ^ (numLen n - 1 - j))
theorem numBytes_eq (n : Nat) : numBytes n = UInt8.ofNat (numLen n) :: numTail n := rfl
theorem numTail_length (n : Nat) : (numTail n).length = numLen n := by simp [numTail]
theorem numLen_zero : numLen 0 = 0 := by decide
theorem bitLen_pow : ∀ (f x : Nat), x < 2 ^ f → f ≤ 64 → x < 2 ^ Lib.bitLenAux f x ∧ (x ≠ 0 → 2 ^ (Lib.bitLenAux f x - 1) ≤ x ∧ 0 < Lib.bitLenAux f x) := by
  intro f
  induction f with
  | zero => intro x h _; have : x = 0 := by simpa using h
            subst this; simp [Lib.bitLenAux]
  | succ f ih =>
    intro x h hf
    by_cases hx : x = 0
    · subst hx; simp [Lib.bitLenAux]
    · rw [Lib.bitLenAux, if_neg hx]
      have h2 : x / 2 < 2 ^ f := by rw [Nat.pow_succ] at h; omega
      obtain ⟨i1, i2⟩ := ih (x / 2) h2 (by omega)
      refine ⟨?_, fun _ => ⟨?_, by omega⟩⟩
      · rw [Nat.add_comm, Nat.pow_succ]; omega
      · by_cases hy : x / 2 = 0
        · have h1 : x = 1 := by omega
          subst h1
          have : Lib.bitLenAux f 0 = 0 := by cases f <;> simp [Lib.bitLenAux]
          simp [this]
        · obtain ⟨j1, j2⟩ := i2 hy
          have : 1 + Lib.bitLenAux f (x / 2) - 1 = (Lib.bitLenAux f (x / 2) - 1) + 1 := by omega
          rw [this, Nat.pow_succ]; omega
theorem numLen_bounds (n : Nat) (h : n < 18446744073709551616) : n < 256 ^ numLen n ∧ (n ≠ 0 → 0 < numLen n ∧ 256 ^ (numLen n - 1) ≤ n) := by
  obtain ⟨h1, h2⟩ := bitLen_pow 64 n (by omega) (by omega)
  have e : Lib.bitLen n = Lib.bitLenAux 64 n := rfl
  rw [← e] at h1 h2
  have q : ∀ k, 256 ^ k = 2 ^ (8 * k) := fun k => by rw [Nat.pow_mul]
  rw [q, q]
  unfold numLen
  refine ⟨Nat.lt_of_lt_of_le h1 (Nat.pow_le_pow_right (by decide) (by omega)), fun hn => ?_⟩
  obtain ⟨h3, h4⟩ := h2 hn
  exact ⟨by omega, Nat.le_trans (Nat.pow_le_pow_right (by decide) (by omega)) h3⟩
def beVal (l : List UInt8) : Nat := l.foldl (fun n c => 256 * n + c.toNat) 0
theorem beVal_append (l m : List UInt8) : beVal (l ++ m) = beVal l * 256 ^ m.length + beVal m := by
  have : ∀ (m : List UInt8) (a : Nat), m.foldl (fun n c => 256 * n + c.toNat) a = a * 256 ^ m.length + beVal m := fun m => by
    unfold beVal
    induction m with
    | nil => intro a; simp
    | cons c m ih =>
      intro a
      rw [List.foldl_cons, List.foldl_cons, ih, ih (256 * 0 + c.toNat), List.length_cons, Nat.pow_succ, Nat.add_mul, Nat.add_mul]
      have : 256 * a * 256 ^ m.length = a * (256 ^ m.length * 256) := by rw [Nat.mul_comm 256 a, Nat.mul_assoc, Nat.mul_comm 256]
      omega
  rw [beVal, List.foldl_append, this m]
  rfl
theorem beVal_digits (n : Nat) : ∀ k, beVal ((List.range k).map fun j => UInt8.ofNat (n / 256 ^ (k - 1 - j))) = n % 256 ^ k := by
  intro k
  induction k generalizing n with
  | zero => simp [beVal, Nat.mod_one]
  | succ k ih =>
    rw [List.range_succ, List.map_append, beVal_append]
    have e : (List.range k).map (fun j => UInt8.ofNat (n / 256 ^ (k + 1 - 1 - j))) = (List.range k).map (fun j => UInt8.ofNat (n / 256 / 256 ^ (k - 1 - j))) := by
      apply List.map_congr_left
      intro j hj
      have hj := List.mem_range.1 hj
      rw [Nat.div_div_eq_div_mul, ← Nat.pow_succ', show k + 1 - 1 - j = k - 1 - j + 1 by omega]
    rw [e, ih (n / 256)]
    have e2 : beVal ((List.map (fun j => UInt8.ofNat (n / 256 ^ (k + 1 - 1 - j))) [k])) = n % 256 := by
      simp [beVal]
    rw [e2, Nat.pow_succ, Nat.mul_comm (256 ^ k) 256, Nat.mod_mul]
    simp
    omega
theorem beVal_numTail (n : Nat) (h : n < 18446744073709551616) : beVal (numTail n) = n := by
  rw [numTail, beVal_digits, Nat.mod_eq_of_lt (numLen_bounds n h).1]
theorem numLen_byte (n : Nat) (h : n < 9223372036854775808) : (UInt8.ofNat (numLen n)).toNat = numLen n := by
  have := numLen_le n h
  simp
  omega
/-- Numbers are told from what stands behind them. -/
theorem numBytes_inj {a b : Nat} {x y : List UInt8} (ha : a < 9223372036854775808) (hb : b < 9223372036854775808) (h : numBytes a ++ x = numBytes b ++ y) : a = b ∧ x = y := by
  rw [numBytes_eq, numBytes_eq, List.cons_append, List.cons_append] at h
  injection h with h1 h2
  have h3 := congrArg UInt8.toNat h1
  rw [numLen_byte a ha, numLen_byte b hb] at h3
  obtain ⟨h4, h5⟩ := List.append_inj h2 (by rw [numTail_length, numTail_length, h3])
  have h6 := congrArg beVal h4
  rw [beVal_numTail a (by omega), beVal_numTail b (by omega)] at h6
  exact ⟨h6, h5⟩
end Go.Proofs.YtppgmphojklaeaaGreatDoor
namespace Go.Proofs.YtppgmphojklaeaaGreatDoor
open Go Go.RowKit

/-- A number's last k digits to the base 256. -/
def lastD (n k : Nat) : List UInt8 := (List.range k).map fun j => UInt8.ofNat (n / 256 ^ (k - 1 - j))
theorem lastD_succ (n k : Nat) : lastD n (k + 1) = UInt8.ofNat (n / 256 ^ k) :: lastD n k := by
  rw [lastD, List.range_succ_eq_map, List.map_cons, List.map_map]
  congr 1
  apply List.map_congr_left
  intro j hj
  show UInt8.ofNat (n / 256 ^ (k + 1 - 1 - (j + 1))) = UInt8.ofNat (n / 256 ^ (k - 1 - j))
  rw [show k + 1 - 1 - (j + 1) = k - 1 - j by omega]
theorem lastD_length (n k : Nat) : (lastD n k).length = k := by simp [lastD]
theorem lastD_end (n k : Nat) (h : n < 9223372036854775808) (h0 : n / 256 ^ k = 0) (hk : k = 0 ∨ n / 256 ^ (k - 1) ≠ 0) : k = numLen n := by
  obtain ⟨b1, b2⟩ := numLen_bounds n (by omega)
  have hp : 0 < 256 ^ k := Nat.pow_pos (by decide)
  have hlt : n < 256 ^ k := by
    rcases Nat.lt_or_ge n (256 ^ k) with e | e
    · exact e
    · have := Nat.div_pos e hp
      omega
  by_cases hn : n = 0
  · subst hn
    rcases hk with rfl | hk
    · rfl
    · rw [Nat.zero_div] at hk
      exact absurd rfl hk
  · obtain ⟨c1, c2⟩ := b2 hn
    have u1 : numLen n - 1 < k := (Nat.pow_lt_pow_iff_right (show 1 < 256 by decide)).1 (Nat.lt_of_le_of_lt c2 hlt)
    rcases hk with rfl | hk
    · omega
    · have hge : 256 ^ (k - 1) ≤ n := by
        rcases Nat.lt_or_ge n (256 ^ (k - 1)) with e | e
        · exact absurd (Nat.div_eq_of_lt e) hk
        · exact e
      have u2 : k - 1 < numLen n := (Nat.pow_lt_pow_iff_right (show 1 < 256 by decide)).1 (Nat.lt_of_le_of_lt hge b1)
      omega
theorem txt_append (l m : List UInt8) : txt l ++ txt m = txt (l ++ m) := by
  apply ByteArray.ext
  rw [ByteArray.data_append]
  apply Array.toList_inj.1
  simp
theorem r2conv_one (w : World) (x : Nat) (h : x < 256) : (convert 164 9 (.slice (some ⟨w.heap.size, 0, none⟩) 1 1)).run Tryz.prog (w.alloc (.cells #[.int .u8 (x : Int)] 5)) = .ok (.string (txt [UInt8.ofNat x])) (w.alloc (.cells #[.int .u8 (x : Int)] 5)) := by
  refine run_convert_bytes_back _ _ _ _ ⟨w.heap.size, 0, none⟩ 1 [UInt8.ofNat x] Tryz.underlying164 Tryz.underlying5 Tryz.underlying9 fun j hj => ?_
  have hj0 : j = 0 := by simpa using hj
  subst hj0
  rw [show (⟨w.heap.size, 0, none⟩ : Addr).add 0 = ⟨w.heap.size, 0, none⟩ by simp [Addr.add], cell_of_rowAt (rowAt_alloc_at w #[.int .u8 (x : Int)] 5 _ rfl)]
  have : (UInt8.ofNat x).toNat = x := by rw [UInt8.toNat_ofNat']; omega
  exact congrArg (fun y : Nat => some (Value.int .u8 (y : Int))) this.symm

set_option maxRecDepth 100000 in
set_option maxHeartbeats 1000000 in
theorem r2Number_any (n : Nat) (w : World) (h : n < 9223372036854775808) :
    Calls Tryz.prog 108 #[.int .i64 n] w fun e w' => e = .returned (.string (txt (numBytes n))) ∧ Below w.heap.size w w' := by
  have HNN := Lib.hid h
  clear h
  go_enter Tryz.func108, Tryz.ntmps108
  go_wp2_with fail
  obtain ⟨m, hm⟩ : ∃ m : Int, m = (n : Int) := ⟨_, rfl⟩
  rw [← hm]
  have HM := Lib.hid hm
  clear hm
  go_loopw [3, 4] (fun s x wr => ∃ (k : Nat) (y : Int), k ≤ 8 ∧ 0 ≤ y ∧ Hid ((n : Int) / 256 ^ k = y) ∧ Hid (k = 0 ∨ n / 256 ^ (k - 1) ≠ 0) ∧ x = .int .i64 y ∧ Hid (s = .string (txt (lastD n k))) ∧ Below w.heap.size w wr) (fun _ x _ => (intOf x).toNat)
  case atStart => exact ⟨0, m, Nat.zero_le _, by rw [HM.out]; exact Int.natCast_nonneg n, Lib.hid (by rw [HM.out]; exact Int.ediv_one _), Lib.hid (.inl rfl), rfl, Lib.hid rfl, Below.refl _ _⟩
  case round =>
    obtain ⟨k, y, hk, hy0, HY, HK, rfl, HX, b0⟩ := hrel
    have hx := HX.out
    subst hx
    have HYN : Hid (n / 256 ^ k = y.toNat) := Lib.hid (by
      have := HY.out
      rw [show (256 : Int) ^ k = ((256 ^ k : Nat) : Int) by rw [Int.natCast_pow]; rfl, ← Int.natCast_ediv] at this
      omega)
    have hyn : y < 9223372036854775808 := by
      have h1 := Nat.div_le_self n (256 ^ k)
      have h2 := HYN.out
      have h3 := HNN.out
      omega
    by_cases h0 : 0 < y
    · have hk8 : k + 1 ≤ 8 := by
        have h1 := HNN.out
        have h2 := HYN.out
        rcases Nat.lt_or_ge k 8 with e | e
        · exact e
        · have hp : 256 ^ 8 ≤ 256 ^ k := Nat.pow_le_pow_right (by decide) e
          have : n / 256 ^ k = 0 := Nat.div_eq_of_lt (by omega)
          omega
      have hc := r2conv_one wr (y.toNat % 256) (Nat.mod_lt _ (by decide))
      rw [show ((y.toNat % 256 : Nat) : Int) = y % 256 by omega] at hc
      have b1 : Below w.heap.size w (wr.alloc (.cells #[.int .u8 (y % 256)] 5)) := b0.alloc b0.size _
      have z1 : (txt (lastD n k)).size = k := by rw [txt_size, lastD_length]
      have z2 : (txt [UInt8.ofNat (y.toNat % 256)]).size = 1 := rfl
      have HS : Hid (txt [UInt8.ofNat (y.toNat % 256)] ++ txt (lastD n k) = txt (lastD n (k + 1))) := Lib.hid (by
        rw [txt_append, lastD_succ, HYN.out, List.singleton_append]
        congr 2
        apply UInt8.toNat_inj.1
        simp)
      have HY2 : Hid ((n : Int) / 256 ^ (k + 1) = y / 256) := Lib.hid (by
        rw [Int.pow_succ, ← Int.ediv_ediv_of_nonneg (Int.pow_nonneg (by decide)), HY.out])
      have HK2 : Hid (k + 1 = 0 ∨ n / 256 ^ (k + 1 - 1) ≠ 0) := Lib.hid (.inr (by rw [Nat.add_sub_cancel, HYN.out]; omega))
      have hyq : y / 256 < 36028797018963968 := by omega
      have hyq0 : 0 ≤ y / 256 := by omega
      generalize txt [UInt8.ofNat (y.toNat % 256)] = D at *
      clear hyn HY HK HX HYN b0
      go_wp2_with fail
      rw [HS.out]
      exact ⟨⟨k + 1, y / 256, hk8, hyq0, HY2, HK2, rfl, Lib.hid rfl, b1⟩, by simp [intOf]; omega⟩
    · have h00 : y = 0 := by omega
      subst h00
      have hke := lastD_end n k HNN.out HYN.out HK.out
      have z1 : (txt (lastD n k)).size = k := by rw [txt_size, lastD_length]
      have hc := r2conv_one wr k (by omega)
      have b1 : Below w.heap.size w (wr.alloc (.cells #[.int .u8 (k : Int)] 5)) := b0.alloc b0.size _
      have z2 : (txt [UInt8.ofNat k]).size = 1 := rfl
      have HS : Hid (txt [UInt8.ofNat k] ++ txt (lastD n k) = txt (numBytes n)) := Lib.hid (by
        rw [txt_append, numBytes_eq, hke]
        rfl)
      have hk256 : (k : Int) < 256 := by omega
      clear hyn HY HK HX HYN h0 b0 hke hy0
      go_wp2_with fail
      go_ret
      exact ⟨by rw [← HS.out]; rfl, b1⟩
set_option maxRecDepth 100000 in
theorem r2Text_any (s : ByteArray) (w : World) (h : s.size ≤ 65536) :
    Calls Tryz.prog 109 #[.string s] w fun e w' => e = .returned (.string (txt (numBytes s.size ++ s.data.toList))) ∧ Below w.heap.size w w' := by
  have HN := Lib.hid (r2Number_any s.size w (by omega))
  have z1 : (txt (numBytes s.size)).size ≤ 9 := by
    have := numLen_le s.size (by omega)
    rw [txt_size, numBytes_length]
    omega
  have hsz : (s.size : Int) ≤ 65536 := by omega
  have HC : Hid (txt (numBytes s.size) ++ s = txt (numBytes s.size ++ s.data.toList)) := Lib.hid (txt_append _ s.data.toList)
  have hz : (txt (numBytes s.size) ++ s).size ≤ 65545 := by rw [ByteArray.size_append]; omega
  generalize txt (numBytes s.size) = A at *
  clear h
  go_enter Tryz.func109, Tryz.ntmps109
  go_wp2_with fail
  refine HN.out.mono ?_
  rintro e w1 ⟨rfl, b1⟩
  go_wp2_with fail
  go_ret
  exact ⟨by rw [← HC.out]; rfl, b1⟩
end Go.Proofs.YtppgmphojklaeaaGreatDoor
namespace Go.Proofs.YtppgmphojklaeaaGreatDoor
open Go Go.RowKit

section
variable {P : Program} {ops : Array Oper}

/-- ONE VALUE, in every world in which W lies; a callee leaves what it found. -/
def YieldsS (P : Program) (ops : Array Oper) (W : World) (o : Oper) (v : Value) (a : Act) : Prop :=
  (Region.wanted o (yielded ops a.tmps) = true ∧ ∀ x : Past W, o.quietAt P a (fun w' => ∃ y : Past x.w, w' = y.w) x.w v) ∨
  (Region.wanted o (yielded ops a.tmps) = false ∧ v = undef)

theorem YieldsS.put {W : World} {o : Oper} {v u : Value} {a : Act} {dst : Option Tmp} (hs : ∀ cs b, o.op ≠ .select cs b) (hd : ∀ d, dst = some d → d ∉ o.looksAt ops) :
    YieldsS P ops W o v (a.put dst u) ↔ YieldsS P ops W o v a := by
  unfold YieldsS Oper.quietAt
  rw [execOp_put o hs a dst u hd, wanted_put o a dst u hd]
theorem YieldsS.past {W W' : World} {o : Oper} {v : Value} {a : Act} (hb : Below W.heap.size W W') (h : YieldsS P ops W o v a) : YieldsS P ops W' o v a := by
  rcases h with ⟨h1, h2⟩ | h
  · exact .inl ⟨h1, fun x => h2 ⟨x.w, Below.step hb x.h⟩⟩
  · exact .inr h

/-- What is left of the head, in the order of the text. -/
def wpHead (P : Program) (ops : Array Oper) (W : World) (Qh : Act → Prop) : List Nat → Act → Prop
  | [], a => Qh a
  | i :: is, a => ∃ o v, ops[i]? = some o ∧ YieldsS P ops W o v a ∧ wpHead P ops W Qh is (a.put o.dst v)

theorem wpHead_past {W W' : World} {Qh : Act → Prop} (hb : Below W.heap.size W W') : ∀ (is : List Nat) (a : Act), wpHead P ops W Qh is a → wpHead P ops W' Qh is a
  | [], _, h => h
  | _ :: is, _, ⟨o, v, h1, h2, h3⟩ => ⟨o, v, h1, h2.past hb, wpHead_past hb is _ h3⟩

def apartAt (ops : Array Oper) (i j : Nat) : Prop := ∀ oi oj, ops[i]? = some oi → ops[j]? = some oj → oi.apart ops oj = true

theorem wpHead_take {W : World} {Qh : Act → Prop} (hsel : ∀ (j : Nat) (o : Oper) cs b, ops[j]? = some o → o.op ≠ .select cs b) {j : Nat} {oj : Oper} (hj : ops[j]? = some oj) :
    ∀ (is : List Nat) (a : Act), is.Pairwise (· < ·) → j ∈ is → (∀ k ∈ is, k < j → apartAt ops k j) → wpHead P ops W Qh is a →
      ∃ v, YieldsS P ops W oj v a ∧ wpHead P ops W Qh (is.erase j) (a.put oj.dst v)
  | i :: is, a, hp, hm, hap, ⟨o, v, h1, h2, h3⟩ => by
    by_cases hij : i = j
    · subst hij
      obtain rfl : o = oj := Option.some.inj (h1.symm.trans hj)
      exact ⟨v, h2, by simpa using h3⟩
    · have hm' : j ∈ is := by
        rcases List.mem_cons.1 hm with e | e
        · exact absurd e.symm hij
        · exact e
      have hlt : i < j := (List.pairwise_cons.1 hp).1 j hm'
      obtain ⟨u, y1, y2⟩ := wpHead_take hsel hj is (a.put o.dst v) (List.pairwise_cons.1 hp).2 hm' (fun k hk => hap k (List.mem_cons_of_mem _ hk)) h3
      obtain ⟨s1, s2, s3⟩ := Oper.apart_spec (hap i (by simp) hlt o oj h1 hj)
      refine ⟨u, (YieldsS.put (hsel j oj · · hj) s1).1 y1, ?_⟩
      rw [List.erase_cons_tail (by simpa using hij)]
      refine ⟨o, v, h1, (YieldsS.put (hsel i o · · h1) s3).2 h2, ?_⟩
      rw [← Act.put_comm a v u s2]
      exact y2
  | [], _, _, hm, _, _ => by cases hm

theorem wpHead_put {W : World} {Qh : Act → Prop} (hsel : ∀ (j : Nat) (o : Oper) cs b, ops[j]? = some o → o.op ≠ .select cs b) {j : Nat} {oj : Oper} (hj : ops[j]? = some oj) {u : Value}
    (hQ : ∀ a, Qh a → Qh (a.put oj.dst u)) : ∀ (is : List Nat) (a : Act), (∀ k ∈ is, apartAt ops k j) → wpHead P ops W Qh is a → wpHead P ops W Qh is (a.put oj.dst u)
  | [], _, _, h => hQ _ h
  | i :: is, a, hap, ⟨o, v, h1, h2, h3⟩ => by
    obtain ⟨s1, s2, s3⟩ := Oper.apart_spec (hap i (by simp) o oj h1 hj)
    refine ⟨o, v, h1, (YieldsS.put (hsel i o · · h1) s3).2 h2, ?_⟩
    rw [← Act.put_comm a v u s2]
    exact wpHead_put hsel hj hQ is _ (fun k hk => hap k (List.mem_cons_of_mem _ hk)) h3

theorem wpHead_step {W : World} {Qh : Act → Prop} {i : Nat} {is : List Nat} {a : Act} {o : Oper} (ho : ops[i]? = some o)
    (h : ∀ K : Act → Prop, (∀ a, wpHead P ops W Qh is a → K a) → if Region.wanted o (yielded ops a.tmps) then ∃ v, (∀ x : Past W, o.quietAt P a (fun w' => ∃ y : Past x.w, w' = y.w) x.w v) ∧ K (a.put o.dst v) else K (a.put o.dst undef)) : wpHead P ops W Qh (i :: is) a := by
  have h1 := h _ fun _ h => h
  by_cases hw : Region.wanted o (yielded ops a.tmps) = true
  · rw [if_pos hw] at h1
    obtain ⟨v, h2, h3⟩ := h1
    exact ⟨o, v, ho, .inl ⟨hw, h2⟩, h3⟩
  · rw [if_neg hw] at h1
    exact ⟨o, undef, ho, .inr ⟨by simpa using hw, rfl⟩, h1⟩
theorem call_yields {x : World} {f : FuncId} {args : Array Value} {v : Value} (h : Calls P f args x fun e w' => e = .returned v ∧ Below x.heap.size x w') : Calls P f args x fun e w'' => e = .returned v ∧ ∃ y : Past x, w'' = y.w :=
  h.mono fun _ w'' ⟨he, hb⟩ => ⟨he, ⟨w'', hb⟩, rfl⟩
/-- A frame, but for some slots. -/
def atS (lit : Act) : List (Option Tmp) → Act → Prop
  | [], a => a = lit
  | d :: ds, a => ∃ v, atS (lit.put d v) ds a

/-- The head's end, whatever lies in the new variables' slots. -/
def slots (Q1 : Act → Prop) : List (Option Tmp) → Act → Prop
  | [], a => Q1 a
  | d :: ds, a => ∀ v, slots Q1 ds (a.put d v)
theorem put_put (a : Act) (d : Option Tmp) (u v : Value) : (a.put d u).put d v = a.put d v := by
  cases d with
  | none => rfl
  | some d =>
    simp only [Act.put]
    congr 1
    apply Array.ext_getElem?
    intro i
    simp only [Array.getElem?_setIfInBounds, Array.size_setIfInBounds]
    split <;> rfl
theorem put_comm' (a : Act) (d e : Option Tmp) (u v : Value) (h : d ≠ e) : (a.put d u).put e v = (a.put e v).put d u :=
  Act.put_comm a u v (fun _ hx hy => h (hx.trans hy.symm))
theorem slots_put {Q1 : Act → Prop} {d : Option Tmp} (u : Value) : ∀ (ds : List (Option Tmp)) (a : Act), d ∈ ds → slots Q1 ds a → slots Q1 ds (a.put d u)
  | e :: ds, a, hm, h => fun v => by
    by_cases hde : d = e
    · subst hde
      rw [put_put]
      exact h v
    · rw [put_comm' a d e u v hde]
      refine slots_put u ds _ ?_ (h v)
      rcases List.mem_cons.1 hm with e2 | e2
      · exact absurd e2 hde
      · exact e2
  | [], _, hm, _ => by cases hm
theorem put_self (a : Act) (d : Option Tmp) : ∃ v, a.put d v = a := by
  cases d with
  | none => exact ⟨undef, rfl⟩
  | some d =>
    refine ⟨a.tmps.getD d undef, ?_⟩
    have e : a.tmps.setIfInBounds d (a.tmps.getD d undef) = a.tmps := by
      apply Array.ext_getElem?
      intro i
      simp only [Array.getElem?_setIfInBounds]
      split
      · rename_i hi
        subst hi
        split
        · rename_i hlt; simp [hlt]
        · rename_i hlt; simp [hlt]
      · rfl
    show ({ a with tmps := a.tmps.setIfInBounds d (a.tmps.getD d undef) } : Act) = a
    rw [e]
theorem slots_mono {Q1 Q2 : Act → Prop} (h : ∀ a, Q1 a → Q2 a) : ∀ (ds : List (Option Tmp)) (a : Act), slots Q1 ds a → slots Q2 ds a
  | [], _, hs => h _ hs
  | _ :: ds, _, hs => fun v => slots_mono h ds _ (hs v)
theorem slots_atS : ∀ (ds : List (Option Tmp)) (lit : Act), slots (atS lit ds) ds lit
  | [], _ => rfl
  | d :: ds, lit => fun v => slots_mono (fun _ h => ⟨v, h⟩) ds _ (slots_atS ds (lit.put d v))
theorem slots_end {Q1 : Act → Prop} : ∀ (ds : List (Option Tmp)) (a : Act), slots Q1 ds a → Q1 a
  | [], _, h => h
  | d :: ds, a, h => by
    obtain ⟨v, hv⟩ := put_self a d
    have := slots_end ds _ (h v)
    rwa [hv] at this

def waits (ops : Array Oper) (j k : Nat) : Bool := Region.waitsFor .any ops j k
/-- .. or for one that waits for it. -/
def waits2 (ops : Array Oper) (j k : Nat) : Bool := waits ops j k || (List.range ops.size).any fun q => waits ops j q && waits ops q k
/-- What is listed had all it waits for listed. -/
def Closed (ops : Array Oper) (listed : Array Bool) : Prop := ∀ q k, q < ops.size → listed.getD q true = true → waits ops q k = true → listed.getD k false = true
/-- n operations that read or call, then new variables up to m, then a tail. -/
def freeB (ops : Array Oper) (n m : Nat) (l : Nat := ops.size) : Bool :=
  Region.noSelect ops && decide (n ≤ m) && decide (m ≤ ops.size) &&
  ((List.range m).all fun j => match ops[j]? with | some o => o.after.all (fun e => !Region.binds .any e || decide (e.on < j)) | none => false) &&
  ((List.range m).all fun j => (List.range m).all fun k => !decide (k < j) || waits ops j k || (match ops[k]?, ops[j]? with | some x, some y => x.apart ops y | _, _ => false)) &&
  ((List.range ops.size).all fun t => decide (t < m) || (List.range m).all fun k => k == l || waits2 ops t k) &&
  ((List.range m).all fun j => (List.range m).all fun k => k == j || (match ops[k]?, ops[j]? with | some x, some y => x.dst.isNone || x.dst != y.dst | _, _ => false)) &&
  Region.seqB .any ops (ops.size - m) m ((Array.range ops.size).map fun i => decide (i < m)) && (decide (l < n) || decide (ops.size ≤ l))

structure Free (ops : Array Oper) (n m l : Nat) : Prop where
  sel : ∀ (j : Nat) (o : Oper) cs b, ops[j]? = some o → o.op ≠ .select cs b
  nm : n ≤ m
  size : m ≤ ops.size
  deps : ∀ j o, j < m → ops[j]? = some o → ∀ e ∈ o.after, Region.binds .any e = true → e.on < j
  apart : ∀ j k, j < m → k < j → waits ops j k = true ∨ apartAt ops k j
  tail : ∀ t k, m ≤ t → t < ops.size → k < m → k ≠ l → waits2 ops t k = true
  dst : ∀ j k x y d, j < m → k < m → k ≠ j → ops[k]? = some x → ops[j]? = some y → x.dst = some d → y.dst ≠ some d
  seq : Region.seqB .any ops (ops.size - m) m ((Array.range ops.size).map fun i => decide (i < m)) = true
  late : l < n ∨ ops.size ≤ l
theorem Free.of_check {n m l : Nat} (h : freeB ops n m l = true) : Free ops n m l := by
  simp only [freeB, Bool.and_eq_true, decide_eq_true_eq, List.all_eq_true, List.mem_range] at h
  obtain ⟨⟨⟨⟨⟨⟨⟨⟨h1, h2⟩, h3⟩, h4⟩, h5⟩, h6⟩, h7⟩, h8⟩, h9⟩ := h
  refine ⟨Region.noSelect_spec h1, h2, h3, fun j o hj ho e he hb => ?_, fun j k hj hk => ?_, fun t k ht hts hk hkl => ?_, fun j k x y d hj hk hne hx hy hd hy2 => ?_, h8, by simpa using h9⟩
  · have := h4 j hj
    rw [ho] at this
    have := Array.all_eq_true_iff_forall_mem.1 this e he
    simpa [hb] using this
  · have := h5 j hj k (by omega)
    simp only [Bool.or_eq_true, Bool.not_eq_true', decide_eq_false_iff_not] at this
    rcases this with (h | h) | h
    · omega
    · exact .inl h
    · right
      intro oi oj hi hj2
      rw [hi, hj2] at h
      exact h
  · have := h6 t hts
    simp only [Bool.or_eq_true, decide_eq_true_eq, List.all_eq_true, List.mem_range] at this
    rcases this with h | h
    · omega
    · have := h k hk
      simpa [hkl] using this
  · have := h7 j hj k hk
    rw [hx, hy] at this
    simp [hne, hd, hy2] at this
theorem waits_listed {listed : Array Bool} {j k : Nat} (hr : j ∈ Region.ready .any ops listed) (hw : waits ops j k = true) : listed.getD k false = true := by
  obtain ⟨o, ho, e, he, hb, hon⟩ := Region.waitsFor_spec hw
  obtain ⟨_, o2, ho2, hall⟩ := mem_ready.1 hr
  obtain rfl : o = o2 := Option.some.inj (ho.symm.trans ho2)
  rw [← hon]
  exact hall e he hb
theorem waits2_listed {listed : Array Bool} {j k : Nat} (hc : Closed ops listed) (hs : listed.size = ops.size) (hr : j ∈ Region.ready .any ops listed) (hw : waits2 ops j k = true) : listed.getD k false = true := by
  simp only [waits2, Bool.or_eq_true, List.any_eq_true, List.mem_range, Bool.and_eq_true] at hw
  rcases hw with h | ⟨q, hq, h1, h2⟩
  · exact waits_listed hr h
  · refine hc q k hq ?_ h2
    have := waits_listed hr h1
    have hqs : q < listed.size := by omega
    simpa [hqs] using this
theorem Closed.step {listed : Array Bool} {i : Nat} (hc : Closed ops listed) (hr : i ∈ Region.ready .any ops listed) : Closed ops (listed.setIfInBounds i true) := fun q k hq h1 h2 => by
  have : listed.getD k false = true := by
    by_cases e : q = i
    · subst e
      exact waits_listed hr h2
    · rw [getD_set_ne true (Ne.symm e)] at h1
      exact hc q k hq h1 h2
  by_cases e : k = i
  · subst e
    by_cases hk : k < listed.size
    · simp [hk]
    · simp [hk] at this
  · rw [getD_set_ne false (Ne.symm e)]
    exact this
theorem getD_flip {listed : Array Bool} {k : Nat} (hk : k < listed.size) : listed.getD k false = listed.getD k true := by
  simp [hk]

/-- What each new variable is: its slot's block, its cells. -/
structure NewVars (ops : Array Oper) (n m : Nat) (z : Nat → Array Value) (B : Nat) (listed : Array Bool) (bs : Nat → Nat) (a : Act) (w : World) : Prop where
  slot : ∀ j, n ≤ j → j < m → listed.getD j true = true → ∃ o, ops[j]? = some o ∧ ∃ d, o.dst = some d ∧ a.tmps[d]? = some (.pointer (some ⟨bs j, 0, none⟩))
  row : ∀ j, n ≤ j → j < m → listed.getD j true = true → rowAt w (bs j) = some (z j) ∧ B ≤ bs j
  other : ∀ j k, n ≤ j → j < m → listed.getD j true = true → n ≤ k → k < m → listed.getD k true = true → j ≠ k → bs j ≠ bs k

def left (listed : Array Bool) (n : Nat) : List Nat := (List.range n).filter fun i => !listed.getD i true
theorem mem_left {listed : Array Bool} {n i : Nat} : i ∈ left listed n ↔ i < n ∧ listed.getD i true = false := by
  simp [left]
theorem left_sorted (listed : Array Bool) (n : Nat) : (left listed n).Pairwise (· < ·) := List.Pairwise.filter _ List.pairwise_lt_range
theorem left_nodup (listed : Array Bool) (n : Nat) : (left listed n).Nodup := (left_sorted listed n).imp fun h => Nat.ne_of_lt h
theorem left_set {listed : Array Bool} {n i : Nat} (hi : i < listed.size) : left (listed.setIfInBounds i true) n = (left listed n).erase i := by
  rw [(left_nodup listed n).erase_eq_filter, left, left, List.filter_filter]
  apply List.filter_congr
  intro k hk
  by_cases e : k = i
  · subst e
    simp [hi]
  · rw [getD_set_ne true (Ne.symm e)]
    simp [e]
theorem left_out {listed : Array Bool} {n i : Nat} (hi : n ≤ i) : left (listed.setIfInBounds i true) n = left listed n := by
  rw [left, left]
  apply List.filter_congr
  intro k hk
  rw [getD_set_ne true (by have := List.mem_range.1 hk; omega)]

theorem tmps_put_ne {a : Act} {x : Option Tmp} {v : Value} {d : Tmp} (h : x ≠ some d) : (a.put x v).tmps[d]? = a.tmps[d]? := by
  cases x with
  | none => rfl
  | some e =>
    have : e ≠ d := fun h2 => h (by rw [h2])
    simp [Act.put, Array.getElem?_setIfInBounds_ne this]
theorem size_put (a : Act) (x : Option Tmp) (v : Value) : (a.put x v).tmps.size = a.tmps.size := by
  cases x <;> simp [Act.put]

theorem wp_of_quietAt {o : Oper} {a : Act} {w : World} {v : Value} {K : Act → World → Prop} {Q' : Exit → Act → World → Prop} (h : o.quietAt P a (fun w' => ∃ y : Past w, w' = y.w) w v)
    (hK : ∀ w', Below w.heap.size w w' → K (a.put o.dst v) w') : o.wp P a w K Q' := by
  unfold Oper.quietAt at h
  unfold Oper.wp
  generalize (execOp a.eval o).run P w = r at *
  cases r with
  | ok n w' =>
    cases n <;> simp only [Oper.quietUpon] at h <;> simp only [Oper.upon]
    case value u =>
      obtain ⟨e1, e2⟩ := h
      rw [e1, e2]
      exact hK _ (Below.refl _ _)
    case skip =>
      obtain ⟨e1, e2⟩ := h
      rw [e1, ← e2]
      exact hK _ (Below.refl _ _)
    case enter f args =>
      obtain ⟨e1, hc⟩ := h
      rw [e1]
      exact hc.mono fun e w'' ⟨he, y, hy⟩ => by subst he; rw [hy]; exact hK _ y.h
  | halt x w' => simp only [Oper.quietUpon] at h

/-- A new variable of one type, whatever the frame and the world. -/
def NewAt (P : Program) (ops : Array Oper) (z : Nat → Array Value) (N : Nat) (j : Nat) : Prop :=
  ∃ o d t, ops[j]? = some o ∧ o.dst = some d ∧ o.guard = none ∧ d < N ∧ ∀ a w, (execOp (Act.eval a) o).run P w = .ok (.value (.pointer (some ⟨w.heap.size, 0, none⟩))) (w.alloc (.cells (z j) t))

theorem listed_eq {N : Nat} {listed : Array Bool} {p : Nat → Bool} (hs : listed.size = N) (h : ∀ i, i < N → listed.getD i true = p i) : listed = (Array.range N).map p := by
  apply Array.ext
  · simp [hs]
  · intro i h1 h2
    have h3 := h i (by omega)
    simp [h1] at h3
    simp [h3]

theorem wpAny_free {n m l N : Nat} {z : Nat → Array Value} {W0 : World} {Q1 : Act → Prop} {Q' : Exit → Act → World → Prop} (F : Free ops n m l) (hal : ∀ j, n ≤ j → j < m → NewAt P ops z N j)
    (hT : ∀ a w bs, Below W0.heap.size W0 w → NewVars ops n m z W0.heap.size ((Array.range ops.size).map fun i => decide (i < m)) bs a w → Q1 a → wpList P ops Q' (ops.toList.drop m) a w)
    (hL : ∀ a w bs, l < n → Below W0.heap.size W0 w → NewVars ops n m z W0.heap.size ((Array.range ops.size).map fun i => decide (i < m) && i != l) bs a w → wpHead P ops W0 (slots Q1 ((List.range' n (m - n)).map fun j => (ops[j]?).bind (·.dst))) [l] a →
      wpAny P .any ops Q' (1 + (ops.size - m)) ((Array.range ops.size).map fun i => decide (i < m) && i != l) a w) :
    ∀ (f : Nat) (listed : Array Bool) (a : Act) (w : World) (bs : Nat → Nat), Closed ops listed → listed.size = ops.size → a.tmps.size = N → (left listed m).length = f → (∀ t, m ≤ t → t < ops.size → listed.getD t true = false) →
      Below W0.heap.size W0 w → NewVars ops n m z W0.heap.size listed bs a w → wpHead P ops W0 (slots Q1 ((List.range' n (m - n)).map fun j => (ops[j]?).bind (·.dst))) (left listed n) a →
      wpAny P .any ops Q' (f + (ops.size - m)) listed a w
  | 0, listed, a, w, bs, hcl, hs, hN, hf, ht, hb, hv, hh => by
    have hall : ∀ i, i < m → listed.getD i true = true := fun i hi => by
      cases h : listed.getD i true with
      | true => rfl
      | false =>
        have := mem_left.2 ⟨hi, h⟩
        rw [List.eq_nil_of_length_eq_zero hf] at this
        cases this
    have hle : listed = (Array.range ops.size).map fun i => decide (i < m) := listed_eq hs fun i hi => by
      by_cases him : i < m
      · simp [hall i him, him]
      · simp [ht i (by omega) hi, him]
    have hnil : left listed n = [] := by
      apply List.eq_nil_iff_forall_not_mem.2
      intro i hi
      obtain ⟨h1, h2⟩ := mem_left.1 hi
      rw [hall i (Nat.lt_of_lt_of_le h1 F.nm)] at h2
      cases h2
    rw [hnil] at hh
    subst hle
    rw [Nat.zero_add]
    have hlen : (ops.toList.drop m).length = ops.size - m := by simp
    have := wpAny_of_seq (P := P) (ops := ops) (md := .any) (Q' := Q') (ops.toList.drop m) m ((Array.range ops.size).map fun i => decide (i < m)) a w (fun j => by simp) (by rw [hlen]; exact F.seq) (hT a w bs hb hv (slots_end _ _ hh))
    rw [hlen] at this
    exact this
  | f + 1, listed, a, w, bs, hcl, hs, hN, hf, ht, hb, hv, hh => by
    have hne : ∃ i, i < m ∧ listed.getD i true = false := by
      cases hl : left listed m with
      | nil => rw [hl] at hf; cases hf
      | cons i r => exact ⟨i, mem_left.1 (by rw [hl]; simp)⟩
    have hready : ∃ i, i ∈ Region.ready .any ops listed := by
      have : ∀ k i, i < k → i < m → listed.getD i true = false → ∃ j, j ∈ Region.ready .any ops listed := by
        intro k
        induction k with
        | zero => intro i hi; omega
        | succ k ih =>
          intro i hik him hun
          have hsz : i < ops.size := Nat.lt_of_lt_of_le him F.size
          by_cases hd : ∀ e ∈ (ops[i]).after, Region.binds .any e = true → listed.getD e.on false = true
          · exact ⟨i, mem_ready.2 ⟨hun, ops[i], Array.getElem?_eq_getElem hsz, hd⟩⟩
          · obtain ⟨e, he⟩ := Classical.not_forall.1 hd
            obtain ⟨he1, he2⟩ := Classical.not_imp.1 he
            obtain ⟨he2, he3⟩ := Classical.not_imp.1 he2
            have hlt := F.deps i _ him (Array.getElem?_eq_getElem hsz) e he1 he2
            have hun2 : listed.getD e.on true = false := by
              rw [← getD_flip (by omega)]
              simpa using he3
            exact ih e.on (by omega) (by omega) hun2
      obtain ⟨i, him, hun⟩ := hne
      exact this (i + 1) i (by omega) him hun
    by_cases hcore : ∃ k, k < m ∧ k ≠ l ∧ listed.getD k true = false
    case neg =>
      have honly : ∀ k, k < m → k ≠ l → listed.getD k true = true := fun k h1 h2 => by
        cases h : listed.getD k true with
        | true => rfl
        | false => exact absurd ⟨k, h1, h2, h⟩ hcore
      obtain ⟨i, him, hun⟩ := hne
      have hil : i = l := by
        by_cases e : i = l
        · exact e
        · rw [honly i him e] at hun; cases hun
      subst hil
      have hin : i < n := by
        rcases F.late with h | h
        · exact h
        · have := F.size; omega
      have hle : listed = (Array.range ops.size).map fun k => decide (k < m) && k != i := listed_eq hs fun k hk => by
        by_cases e : k = i
        · subst e; simp [hun]
        · by_cases hkm : k < m
          · simp [honly k hkm e, hkm, e]
          · simp [ht k (by omega) hk, hkm]
      have hone : ∀ q, i < q → q ≤ m → left listed q = [i] := fun q h1 h2 => by
        have hnd := left_nodup listed q
        have hmem : ∀ k, k ∈ left listed q ↔ k = i := fun k => by
          rw [mem_left]
          refine ⟨fun ⟨h3, h4⟩ => ?_, fun e => by subst e; exact ⟨h1, hun⟩⟩
          by_cases e : k = i
          · exact e
          · rw [honly k (by omega) e] at h4; cases h4
        revert hnd hmem
        generalize left listed q = L
        intro hnd hmem
        match L, hnd, hmem with
        | [], _, hmem => exact absurd ((hmem i).2 rfl) (by simp)
        | [x], _, hmem => rw [(hmem x).1 (by simp)]
        | x :: y :: r, hnd, hmem =>
          have hx := (hmem x).1 (by simp)
          have hy := (hmem y).1 (by simp)
          simp [hx, hy] at hnd
      have hf1 : f = 0 := by
        rw [hone m him (Nat.le_refl _)] at hf
        simpa using hf.symm
      subst hf1
      rw [hone n hin F.nm] at hh
      subst hle
      exact hL a w bs hin hb hv hh
    rw [show f + 1 + (ops.size - m) = (f + (ops.size - m)) + 1 by omega]
    refine ⟨(fun h0 => by obtain ⟨i, hi⟩ := hready; rw [h0] at hi; cases hi), fun i hi => ?_⟩
    obtain ⟨hun, oi, hoi, hall⟩ := mem_ready.1 hi
    have hisz : i < ops.size := (Array.getElem?_eq_some_iff.1 hoi).1
    have him : i < m := by
      rcases Nat.lt_or_ge i m with h | h
      · exact h
      · obtain ⟨k, hkm, hkl, hk⟩ := hcore
        have := waits2_listed hcl hs hi (F.tail i k h hisz hkm hkl)
        rw [getD_flip (by have := F.size; omega), hk] at this
        cases this
    have hapart : ∀ k ∈ left listed n, k < i → apartAt ops k i := fun k hk hki => by
      obtain ⟨h1, h2⟩ := mem_left.1 hk
      rcases F.apart i k him hki with h | h
      · have := waits_listed hi h
        rw [getD_flip (by omega), h2] at this
        cases this
      · exact h
    have hcount : (left (listed.setIfInBounds i true) m).length = f := by
      rw [left_set (by omega), List.length_erase_of_mem (mem_left.2 ⟨him, hun⟩), hf]
      rfl
    have htail : ∀ t, m ≤ t → t < ops.size → (listed.setIfInBounds i true).getD t true = false := fun t h1 h2 => by
      rw [getD_set_ne true (by omega)]
      exact ht t h1 h2
    unfold wpOp
    simp only [hoi]
    by_cases hin : i < n
    · obtain ⟨v, hy, hrest⟩ := wpHead_take F.sel hoi (left listed n) a (left_sorted _ _) (mem_left.2 ⟨hin, hun⟩) hapart hh
      have hstep : ∀ w', Below w.heap.size w w' → wpAny P .any ops Q' (f + (ops.size - m)) (listed.setIfInBounds i true) (a.put oi.dst v) w' := fun w' hw => by
        refine wpAny_free F hal hT hL f _ _ w' bs (hcl.step hi) (by simpa using hs) ((size_put _ _ _).trans hN) hcount htail (below_past hb hw hb.size) ⟨fun j h1 h2 h3 => ?_, fun j h1 h2 h3 => ?_, fun j k h1 h2 h3 h4 h5 h6 => ?_⟩ ?_
        · rw [getD_set_ne true (by omega)] at h3
          obtain ⟨o, ho, d, hd, hs2⟩ := hv.slot j h1 h2 h3
          refine ⟨o, ho, d, hd, ?_⟩
          rw [tmps_put_ne (fun e => F.dst j i oi o d h2 him (by omega) hoi ho e hd)]
          exact hs2
        · rw [getD_set_ne true (by omega)] at h3
          obtain ⟨h4, h5⟩ := hv.row j h1 h2 h3
          exact ⟨rowAt_past hw h4, h5⟩
        · rw [getD_set_ne true (by omega)] at h3 h6
          exact hv.other j k h1 h2 h3 h4 h5 h6
        · rw [left_set (by omega)]
          exact hrest
      rcases hy with ⟨hw1, hw2⟩ | ⟨hw1, rfl⟩
      · rw [if_pos hw1]
        exact .inl (wp_of_quietAt (hw2 ⟨w, hb⟩) hstep)
      · rw [if_neg (by rw [hw1]; exact Bool.false_ne_true)]
        exact hstep w (Below.refl _ _)
    · obtain ⟨o, d, t, ho, hd, hg, hdN, hrun⟩ := hal i (by omega) him
      obtain rfl : o = oi := Option.some.inj (ho.symm.trans hoi)
      rw [if_pos (by simp [Region.wanted, hg])]
      left
      unfold Oper.wp
      rw [hrun a w]
      simp only [Oper.upon]
      have hba : Below w.heap.size w (w.alloc (.cells (z i) t)) := (Below.refl _ _).alloc (Nat.le_refl _) _
      refine wpAny_free F hal hT hL f _ _ _ (fun j => if j = i then w.heap.size else bs j) (hcl.step hi) (by simpa using hs) ((size_put _ _ _).trans hN) hcount htail (below_past hb hba hb.size) ⟨fun j h1 h2 h3 => ?_, fun j h1 h2 h3 => ?_, fun j k h1 h2 h3 h4 h5 h6 hjk => ?_⟩ ?_
      · by_cases e : j = i
        · subst e
          refine ⟨o, ho, d, hd, ?_⟩
          rw [hd, if_pos rfl]
          simp [Act.put, hN, hdN]
        · rw [getD_set_ne true (Ne.symm e)] at h3
          obtain ⟨o2, ho2, d2, hd2, hs2⟩ := hv.slot j h1 h2 h3
          refine ⟨o2, ho2, d2, hd2, ?_⟩
          rw [if_neg e, tmps_put_ne (fun e3 => F.dst j i o o2 d2 h2 him (Ne.symm e) ho ho2 e3 hd2)]
          exact hs2
      · by_cases e : j = i
        · subst e
          simp only [if_pos]
          exact ⟨rowAt_alloc_at _ _ _ _ rfl, hb.size⟩
        · rw [getD_set_ne true (Ne.symm e)] at h3
          obtain ⟨h4, h5⟩ := hv.row j h1 h2 h3
          simp only [if_neg e]
          exact ⟨rowAt_past hba h4, h5⟩
      · by_cases e : j = i
        · subst e
          have hk : listed.getD k true = true := by rwa [getD_set_ne true hjk] at h6
          have := lt_of_rowAt (hv.row k h4 h5 hk).1
          simp only [if_pos, if_neg (Ne.symm hjk)]
          omega
        · by_cases e2 : k = i
          · subst e2
            have hj : listed.getD j true = true := by rwa [getD_set_ne true (Ne.symm e)] at h3
            have := lt_of_rowAt (hv.row j h1 h2 hj).1
            simp only [if_neg e, if_pos]
            omega
          · rw [getD_set_ne true (Ne.symm e)] at h3
            rw [getD_set_ne true (Ne.symm e2)] at h6
            simp only [if_neg e, if_neg e2]
            exact hv.other j k h1 h2 h3 h4 h5 h6 hjk
      · rw [left_out (by omega)]
        refine wpHead_put F.sel ho (fun a ha => slots_put _ _ _ ?_ ha) _ _ (fun k hk => hapart k hk (by have := (mem_left.1 hk).1; omega)) hh
        rw [List.mem_map]
        exact ⟨i, by rw [List.mem_range'_1]; omega, by rw [ho]; rfl⟩

theorem unlisted (l : List Oper) (k : Nat) (hk : k < l.toArray.size) : (Array.replicate l.toArray.size false).getD k true = false := by
  have : k < l.length := by simpa using hk
  simp [this]
theorem left_all (l : List Oper) (k : Nat) (hk : k ≤ l.toArray.size) : left (Array.replicate l.toArray.size false) k = List.range k := by
  rw [left, List.filter_eq_self]
  intro i hi
  rw [unlisted l i (by have := List.mem_range.1 hi; omega)]
  rfl

/-- THE LAW. What the tail is given: the new variables, each zero, in blocks of their own; below them all is as it was. -/
theorem wp_region_free {id n m : Nat} {z : Nat → Array Value} {Q : Exit → Act → World → Prop} {a : Act} {w : World} {l : List Oper} (Q1 : Act → Prop) (hm : P.follows .mixedOrders = true) (hB : freeB l.toArray n m = true)
    (hal : ∀ j, n ≤ j → j < m → NewAt P l.toArray z a.tmps.size j)
    (hh : wpHead P l.toArray w (slots Q1 ((List.range' n (m - n)).map fun j => (l.toArray[j]?).bind (·.dst))) (List.range n) a)
    (hT : ∀ a' w' bs, Below w.heap.size w w' → NewVars l.toArray n m z w.heap.size ((Array.range l.toArray.size).map fun i => decide (i < m)) bs a' w' → Q1 a' → wpList P l.toArray Q (l.toArray.toList.drop m) a' w') :
    (Code.region id l.toArray true).wp P Q a w := by
  have F := Free.of_check hB
  have hb : Below w.heap.size w w.drew := (Below.refl _ _).drew
  refine wp_region_any hm ?_
  have := wpAny_free (W0 := w) F hal hT (fun _ _ _ h => by have := F.nm; have := F.size; omega) m (Array.replicate l.toArray.size false) a w.drew (fun _ => 0) (fun q _ hq h _ => by rw [unlisted l q hq] at h; cases h) (by simp) rfl (by rw [left_all l m F.size]; simp) (fun t _ h2 => unlisted l t h2) hb
    ⟨(fun j _ h2 h3 => by rw [unlisted l j (by have := F.size; omega)] at h3; cases h3), (fun j _ h2 h3 => by rw [unlisted l j (by have := F.size; omega)] at h3; cases h3), (fun j k _ h2 h3 => by rw [unlisted l j (by have := F.size; omega)] at h3; cases h3)⟩
    (by rw [left_all l n (by have := F.nm; have := F.size; omega)]; exact hh)
  rw [show m + (l.toArray.size - m) = l.toArray.size by have := F.size; omega] at this
  exact this

/-- A last operation of the head that the tail's first, a store, doesn't wait for. -/
def lateB (ops : Array Oper) (n m l : Nat) : Bool :=
  freeB ops n m l && decide (ops.size = m + 2) && decide (l < n) && waits ops (m + 1) m && waits ops (m + 1) l &&
  (match ops[l]?, ops[m]?, ops[m + 1]? with
  | some ol, some st, some o2 => st.dst.isNone && st.guard.isNone && o2.guard.isNone && (match ol.dst with | some d => !(st.looksAt ops).contains d | none => true) | _, _, _ => false) &&
  Region.seqB .any ops 1 (m + 1) ((Array.range ops.size).map fun i => decide (i < m + 1))

theorem wp_region_late {id n m k : Nat} {z : Nat → Array Value} {Q : Exit → Act → World → Prop} {a : Act} {w : World} {l : List Oper} (Q1 : Act → Prop) (hm : P.follows .mixedOrders = true) (hB : lateB l.toArray n m k = true)
    (hal : ∀ j, n ≤ j → j < m → NewAt P l.toArray z a.tmps.size j)
    (hh : wpHead P l.toArray w (slots Q1 ((List.range' n (m - n)).map fun j => (l.toArray[j]?).bind (·.dst))) (List.range n) a)
    (hS : ∀ a' w' bs st o2, l.toArray[m]? = some st → l.toArray[m + 1]? = some o2 → Below w.heap.size w w' → NewVars l.toArray n m z w.heap.size ((Array.range l.toArray.size).map fun i => decide (i < m)) bs a' w' → Q1 a' →
      ∃ w2, (execOp a'.eval st).run P w' = .ok .skip w2 ∧ Below w.heap.size w' w2 ∧ ∀ w3, Below w2.heap.size w2 w3 → wpList P l.toArray Q [o2] a' w3) :
    (Code.region id l.toArray true).wp P Q a w := by
  simp only [lateB, Bool.and_eq_true, decide_eq_true_eq] at hB
  obtain ⟨⟨⟨⟨⟨⟨hF, hsz⟩, hkn⟩, hw1⟩, hw2⟩, hmatch⟩, hseq⟩ := hB
  have F := Free.of_check hF
  have hnm := F.nm
  obtain ⟨ol, hol⟩ : ∃ o, l.toArray[k]? = some o := ⟨_, Array.getElem?_eq_getElem (by omega)⟩
  obtain ⟨st, hst⟩ : ∃ o, l.toArray[m]? = some o := ⟨_, Array.getElem?_eq_getElem (by omega)⟩
  obtain ⟨o2, ho2⟩ : ∃ o, l.toArray[m + 1]? = some o := ⟨_, Array.getElem?_eq_getElem (by omega)⟩
  rw [hol, hst, ho2] at hmatch
  simp only [Bool.and_eq_true, Option.isNone_iff_eq_none] at hmatch
  obtain ⟨⟨⟨hsd, hsg⟩, h2g⟩, hlook⟩ := hmatch
  have hlook' : ∀ d, ol.dst = some d → d ∉ st.looksAt l.toArray := fun d hd => by
    rw [hd] at hlook
    simpa using hlook
  have hdrop : l.toArray.toList.drop m = [st, o2] := by
    apply List.ext_getElem?
    intro i
    rw [List.getElem?_drop]
    match i with
    | 0 => simpa using hst
    | 1 => simpa using ho2
    | i + 2 =>
      have h0 : l.toArray.size = l.length := by simp
      have h1 : l.length ≤ m + (i + 2) := by omega
      simp [h1]
  have hdrop1 : l.toArray.toList.drop (m + 1) = [o2] := by
    have : l.toArray.toList.drop (m + 1) = (l.toArray.toList.drop m).drop 1 := by rw [List.drop_drop]
    rw [this, hdrop]
    rfl
  have ws' : ∀ tmps, Region.wanted st (yielded l.toArray tmps) = true := fun tmps => by simp [Region.wanted, hsg]
  have hT : ∀ a' w' bs, Below w.heap.size w w' → NewVars l.toArray n m z w.heap.size ((Array.range l.toArray.size).map fun i => decide (i < m)) bs a' w' → Q1 a' → wpList P l.toArray Q (l.toArray.toList.drop m) a' w' := fun a' w' bs h1 h2 h3 => by
    obtain ⟨w2, hr, _, h4⟩ := hS a' w' bs st o2 hst ho2 h1 h2 h3
    rw [hdrop]
    unfold wpList
    rw [if_pos (ws' _)]
    left
    unfold Oper.wp
    rw [hr]
    simp only [Oper.upon, hsd]
    exact h4 _ (Below.refl _ _)
  have hb : Below w.heap.size w w.drew := (Below.refl _ _).drew
  have hselk := F.sel
  refine wp_region_any hm ?_
  have := wpAny_free (W0 := w) F hal hT ?hL m (Array.replicate l.toArray.size false) a w.drew (fun _ => 0) (fun q _ hq h _ => by rw [unlisted l q hq] at h; cases h) (by simp) rfl (by rw [left_all l m F.size]; simp) (fun t _ h2 => unlisted l t h2) hb
    ⟨(fun j _ h2 h3 => by rw [unlisted l j (by have := F.size; omega)] at h3; cases h3), (fun j _ h2 h3 => by rw [unlisted l j (by have := F.size; omega)] at h3; cases h3), (fun j k _ h2 h3 => by rw [unlisted l j (by have := F.size; omega)] at h3; cases h3)⟩
    (by rw [left_all l n (by have := F.nm; have := F.size; omega)]; exact hh)
  · rw [show m + (l.toArray.size - m) = l.toArray.size by have := F.size; omega] at this
    exact this
  case hL =>
    intro a' w' bs _ hb' hv hone
    obtain ⟨o, v, ho, hy, hq⟩ := hone
    obtain rfl : o = ol := Option.some.inj (ho.symm.trans hol)
    have hfull : NewVars l.toArray n m z w.heap.size ((Array.range l.toArray.size).map fun i => decide (i < m)) bs (a'.put o.dst v) w' := by
      have hg : ∀ j, n ≤ j → j < m → ((Array.range l.toArray.size).map fun i => decide (i < m) && i != k).getD j true = true := fun j h1 h2 => by
        have h3 : j < l.length := by have : l.toArray.size = l.length := by simp
                                     omega
        have : j ≠ k := by omega
        simp [h3, h2, this]
      refine ⟨fun j h1 h2 _ => ?_, fun j h1 h2 _ => hv.row j h1 h2 (hg j h1 h2), fun j q h1 h2 _ h4 h5 _ hjq => hv.other j q h1 h2 (hg j h1 h2) h4 h5 (hg q h4 h5) hjq⟩
      obtain ⟨oj, hoj, d, hd, hs2⟩ := hv.slot j h1 h2 (hg j h1 h2)
      refine ⟨oj, hoj, d, hd, ?_⟩
      rw [tmps_put_ne (fun e => F.dst j k o oj d h2 (by omega) (by omega) hol hoj e hd)]
      exact hs2
    have hQ1 : Q1 (a'.put o.dst v) := slots_end _ _ hq
    have hrd : ∀ listed : Array Bool, listed.size = l.toArray.size → (∀ i, i < m → i ≠ k → listed.getD i true = true) → listed.getD k true = false → k ∈ Region.ready .any l.toArray listed := fun listed hs h1 h2 => by
      refine mem_ready.2 ⟨h2, o, hol, fun e he hbd => ?_⟩
      have hlt := F.deps k o (by omega) hol e he hbd
      rw [getD_flip (by omega)]
      exact h1 e.on (by omega) (by omega)
    rw [show 1 + (l.toArray.size - m) = 2 + 1 by omega]
    have hsz' : l.length = m + 2 := by simpa using hsz
    have hlist : ∀ (p : Nat → Bool) i, i < m + 2 → ((Array.range l.toArray.size).map p).getD i true = p i := fun p i hi => by
      have : i < l.length := by omega
      simp [this]
    have hkr : k ∈ Region.ready .any l.toArray ((Array.range l.toArray.size).map fun i => decide (i < m) && i != k) :=
      hrd _ (by simp) (fun i h1 h2 => by rw [hlist _ i (by omega)]; simp [h1, h2]) (by rw [hlist _ k (by omega)]; simp)
    refine ⟨(fun h0 => by rw [h0] at hkr; cases hkr), fun i hi => ?_⟩
    obtain ⟨hun, oi, hoi, hall⟩ := mem_ready.1 hi
    have hisz : i < m + 2 := by have := (Array.getElem?_eq_some_iff.1 hoi).1; omega
    rw [hlist _ i hisz] at hun
    have hne : i ≠ m + 1 := fun e => by
      subst e
      have := waits_listed hi hw1
      rw [getD_flip (by simp; omega), hlist _ m (by omega)] at this
      simp at this
    unfold wpOp
    simp only [hoi]
    by_cases him : i = m
    · subst him
      obtain rfl : st = oi := Option.some.inj (hst.symm.trans hoi)
      obtain ⟨w2, hr, hb2, h4⟩ := hS _ w' bs st o2 hst ho2 hb' hfull hQ1
      rw [if_pos (ws' _)]
      left
      rw [execOp_put (ops := l.toArray) st (hselk i st · · hst) a' o.dst v hlook'] at hr
      unfold Oper.wp
      rw [hr]
      simp only [Oper.upon, hsd]
      have hset : ((Array.range l.toArray.size).map fun j => decide (j < i) && j != k).setIfInBounds i true = (Array.range l.toArray.size).map fun j => decide (j < i + 1) && j != k := listed_eq (by simp) fun j hj => by
        by_cases e : j = i
        · subst e
          have : j ≠ k := by omega
          have : j < l.length := by omega
          simp [*]
        · rw [getD_set_ne true (Ne.symm e), hlist _ j (by omega)]
          have : (j < i + 1) ↔ (j < i) := by omega
          simp [this]
      rw [hset]
      show wpAny P .any l.toArray Q (1 + 1) _ a' w2
      have hkr2 : k ∈ Region.ready .any l.toArray ((Array.range l.toArray.size).map fun j => decide (j < i + 1) && j != k) :=
        hrd _ (by simp) (fun j h1 h2 => by rw [hlist _ j (by omega)]; simp [h2]; omega) (by rw [hlist _ k (by omega)]; simp)
      refine ⟨(fun h0 => by rw [h0] at hkr2; cases hkr2), fun j hj => ?_⟩
      obtain ⟨hun3, oj, hoj, _⟩ := mem_ready.1 hj
      have hjsz : j < i + 2 := by have := (Array.getElem?_eq_some_iff.1 hoj).1; omega
      have hjk : j = k := by
        by_cases e : j = i + 1
        · subst e
          have := waits_listed hj hw2
          rw [getD_flip (by simp; omega), hlist _ k (by omega)] at this
          simp at this
        · rw [hlist _ j hjsz] at hun3
          have : j < i + 1 := by omega
          simpa [this] using hun3
      subst hjk
      unfold wpOp
      simp only [hol]
      have hset2 : ((Array.range l.toArray.size).map fun q => decide (q < i + 1) && q != j).setIfInBounds j true = (Array.range l.toArray.size).map fun q => decide (q < i + 1) := listed_eq (by simp) fun q hq => by
        by_cases e : q = j
        · subst e
          have : q < l.length := by omega
          have : q < i + 1 := by omega
          simp [*]
        · rw [getD_set_ne true (Ne.symm e), hlist _ q (by omega)]
          simp [e]
      rw [hset2]
      have hlast : ∀ w3, Below w2.heap.size w2 w3 → wpAny P .any l.toArray Q 1 ((Array.range l.toArray.size).map fun q => decide (q < i + 1)) (a'.put o.dst v) w3 := fun w3 h5 => by
        have := wpAny_of_seq (P := P) (ops := l.toArray) (md := .any) (Q' := Q) (l.toArray.toList.drop (i + 1)) (i + 1) ((Array.range l.toArray.size).map fun q => decide (q < i + 1)) (a'.put o.dst v) w3 (fun j => by simp) (by rw [hdrop1]; exact hseq)
          (by rw [hdrop1]; exact h4 w3 h5)
        rw [hdrop1] at this
        exact this
      rcases hy with ⟨hy1, hy2⟩ | ⟨hy1, rfl⟩
      · rw [if_pos hy1]
        exact .inl (wp_of_quietAt (hy2 ⟨w2, hb'.trans hb2⟩) hlast)
      · rw [if_neg (by rw [hy1]; exact Bool.false_ne_true)]
        exact hlast w2 (Below.refl _ _)
    · have hik : i = k := by
        have : i < m := by omega
        simpa [this] using hun
      subst hik
      obtain rfl : o = oi := Option.some.inj (hol.symm.trans hoi)
      have hset : ((Array.range l.toArray.size).map fun j => decide (j < m) && j != i).setIfInBounds i true = (Array.range l.toArray.size).map fun j => decide (j < m) := listed_eq (by simp) fun j hj => by
        by_cases e : j = i
        · subst e
          have : j < l.length := by omega
          have : j < m := by omega
          simp [*]
        · rw [getD_set_ne true (Ne.symm e), hlist _ j (by omega)]
          simp [e]
      rw [hset]
      have hlast : ∀ w3, Below w'.heap.size w' w3 → wpAny P .any l.toArray Q 2 ((Array.range l.toArray.size).map fun q => decide (q < m)) (a'.put o.dst v) w3 := fun w3 h5 => by
        have hv3 : NewVars l.toArray n m z w.heap.size ((Array.range l.toArray.size).map fun i => decide (i < m)) bs (a'.put o.dst v) w3 :=
          ⟨hfull.slot, fun j h1 h2 h3 => ⟨rowAt_past h5 (hfull.row j h1 h2 h3).1, (hfull.row j h1 h2 h3).2⟩, hfull.other⟩
        have := wpAny_of_seq (P := P) (ops := l.toArray) (md := .any) (Q' := Q) (l.toArray.toList.drop m) m ((Array.range l.toArray.size).map fun q => decide (q < m)) (a'.put o.dst v) w3 (fun j => by simp)
          (by rw [hdrop]; have := F.seq; rwa [show l.toArray.size - m = 2 by omega] at this) (hT _ w3 bs (below_past hb' h5 hb'.size) hv3 hQ1)
        rw [hdrop] at this
        exact this
      rcases hy with ⟨hy1, hy2⟩ | ⟨hy1, rfl⟩
      · rw [if_pos hy1]
        exact .inl (wp_of_quietAt (hy2 ⟨w', hb'⟩) hlast)
      · rw [if_neg (by rw [hy1]; exact Bool.false_ne_true)]
        exact hlast w' (Below.refl _ _)
end
end Go.Proofs.YtppgmphojklaeaaGreatDoor
