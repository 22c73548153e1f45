/- The numbers of the segments, and the texts of one. Conditions: the tables lie where the program lays them. -/
import Derived.Test.YtlhdnkfnhdkbkaaGreatDoorJour1
import Derived.Test.YtlhdnkfnhdkbkaaGreatDoorDisk8
import Derived.Test.YtlhdnkfnhdkbkaaGreatDoorDiskLaw
import Derived.Test.YtlhdnkfnhdkbkaaGreatDoorLists
import Derived.Test.YtlhdnkfnhdkbkaaGreatDoorPuts
import Derived.Test.YtlhdnkfnhdkbkaaGreatDoorAppNone
import Derived.Test.YtlhdnkfnhdkbkaaGreatDoorSeal4
namespace Go.Proofs.YtlhdnkfnhdkbkaaGreatDoor
open Go Go.RowKit
attribute [local go_sem] Oper.semAt_some

/-- A number is put behind a list of the call's own. -/
theorem wpList_put_int {ops : Array Oper} {rest : List Oper} {o : Oper} {a : Act} {w : World} {Q : Exit → Act → World → Prop} (hgd : o.guard = none) (s x : Operand)
    (ho : o.op = .call { callee := .builtin .append, args := #[s, x], argTypes := #[32, 32] }) (B : Nat) (v : Value) (ts : List Int) (hs : a.eval s = v) (hown : OwnInts w B v ts)
    (t : Int) (ad : Addr) (c : Nat) (hx : a.eval x = .slice (some ad) 1 c) (hcell : w.cell? ad = some (.int .i64 t)) (hB : B ≤ w.heap.size) (hl : ts.length ≤ 1000000)
    (h : ∀ v' w', OwnInts w' B v' (ts ++ [t]) → w.grownBy w' v.ownBlock → wpList Tryz.prog ops Q rest (a.put o.dst v') w') : wpList Tryz.prog ops Q (o :: rest) a w := by
  obtain ⟨i0, hi, hz0, hz1, hz2⟩ := info_int
  refine wpList_append_own_at (P := Tryz.prog) w hgd s x 32 ho B 3 i0 (.int .i64 0) 1 8 Tryz.underlying32 hi hz0 hz1 hz2 rfl (by decide) v ts.length (intCells ts) hs hown ad 1 c [.int .i64 t] hx rfl ?_ ?_ (by unfold maxLen; omega) (by omega) hB ?_
  · intro j u hu
    have hj : j = 0 := by
      have := (List.getElem?_eq_some_iff.1 hu).1
      simpa using this
    subst hj
    have hu2 : Value.int .i64 t = u := by simpa using hu
    rw [← hu2, show ad.add 0 = ad by simp [Addr.add]]
    exact hcell
  · intro u hu
    have hu2 : u = Value.int .i64 t := by simpa using hu
    rw [hu2]
    rfl
  · intro v' w' h1 h2 _ h4
    refine h v' w' ?_ h2
    show w'.ownsRow B 3 1 v' (ts ++ [t]).length (intCells (ts ++ [t]))
    rw [List.length_append, show intCells (ts ++ [t]) = intCells ts ++ [.int .i64 t] by simp [intCells]]
    exact h1
/-- Texts of one list of the call's own are put behind another. -/
theorem wpList_put_rows {ops : Array Oper} {rest : List Oper} {o : Oper} {a : Act} {w : World} {Q : Exit → Act → World → Prop} (hgd : o.guard = none) (s x : Operand)
    (ho : o.op = .call { callee := .builtin .append, args := #[s, x], argTypes := #[27, 27] }) (B C : Nat) (v u : Value) (ts us : List (List UInt8)) (hs : a.eval s = v) (hown : OwnStrs w B v ts)
    (hx : a.eval x = u) (hu : OwnStrs w C u us) (hB : B ≤ w.heap.size) (hl : ts.length ≤ 1000000) (hl2 : us.length ≤ 1000000)
    (h : ∀ v' w', OwnStrs w' B v' (ts ++ us) → w.grownBy w' v.ownBlock → wpList Tryz.prog ops Q rest (a.put o.dst v') w') : wpList Tryz.prog ops Q (o :: rest) a w := by
  rcases hu.2 with ⟨rfl, h0⟩ | ⟨g, cap, cur, rfl, _⟩
  · obtain rfl := List.eq_nil_of_length_eq_zero h0
    obtain ⟨i0, hi, hz0, hz1, hz2⟩ := info_str
    have hrun := run_append_none_len (w := w) Tryz.underlying27 hi hown 0 o.type
    refine wpList_plain hgd fun K hK => ?_
    unfold Oper.wp execOp
    simp only [ho, resolve, invoke, builtin, Sem.run_bind, Sem.run_pure, Result.andThen_ok, List.map_toArray, List.map_cons, List.map_nil, hs, hx, hrun]
    exact hK _ _ (h v w (by rw [List.append_nil]; exact hown) ⟨rfl, rfl, rfl, Nat.le_refl _, fun _ _ _ => rfl⟩)
  · exact wpList_put_texts hgd s x ho B v ts us hs hown ⟨g, 0, none⟩ us.length cap hx rfl (fun j y hy => World.ownsRow.cells hu (g := g) rfl j y hy) hB hl hl2 (fun v' w' h1 h2 _ => h v' w' h1 h2)
theorem OwnInts.below {w w' : World} {B : Nat} {v : Value} {ts : List Int} (h : OwnInts w B v ts) (k : Below w.heap.size w w') : OwnInts w' B v ts :=
  World.ownsRow.kept h (row := none) ⟨k.os, k.tape, k.output, k.size, fun j hj _ => k.block j hj⟩ (by cases hv : v.ownBlock <;> simp)
def numsI (ns : List Nat) : List Int := ns.map fun (n : Nat) => (n : Int)
theorem numsI_take (ns : List Nat) (i : Nat) (h : i < ns.length) : numsI (ns.take (i + 1)) = numsI (ns.take i) ++ [((ns.getD i 0 : Nat) : Int)] := by
  unfold numsI
  rw [List.take_add_one, List.map_append, List.getElem?_eq_getElem h, List.getD_eq_getElem?_getD, List.getElem?_eq_getElem h]
  rfl
theorem numsI_len (ns : List Nat) : (numsI ns).length = ns.length := by unfold numsI; rw [List.length_map]
set_option maxRecDepth 100000 in
set_option maxHeartbeats 1000000 in
theorem jSegments_any (B b : Nat) (d : DDisk) (ns : List Nat) (w : World) (h0 : DiskAt B b d w) (hd : listL d = ns.map nm) (hns : ∀ n ∈ ns, n < 100) (hl : ns.length ≤ 100) (hf : d.files.length ≤ 100) (hnl : ∀ f ∈ d.files, f.name.length ≤ 281474976710656) :
    Calls Tryz.prog 28 #[.pointer (some ⟨b, 0, none⟩)] w fun e w' => ∃ v, e = .returned v ∧ OwnInts w' w.heap.size v (numsI ns) ∧ Below w.heap.size w w' := by
  have HLS := Lib.hid (dList_any B b d w h0 (by omega) hnl)
  rw [hd] at HLS
  obtain ⟨n, hn⟩ : ∃ n, ns.length = n := ⟨_, rfl⟩
  have HNN := Lib.hid hn
  have HNS := Lib.hid hns
  rw [hn] at hl
  have hli : (n : Int) ≤ 100 := by omega
  have hml : (ns.map nm).length = n := by rw [List.length_map, hn]
  have HML := Lib.hid hml
  clear h0 hd hns hf hnl hn hml
  obtain ⟨C, hC⟩ : ∃ C, w.heap.size = C := ⟨_, rfl⟩
  have HC := Lib.hid hC
  rw [hC] at HLS ⊢
  clear hC
  go_enter Tryz.func28, Tryz.ntmps28
  go_wp2_with fail
  refine HLS.out.mono ?_
  rintro e w1 ⟨v, rfl, ow, b1⟩
  obtain ⟨ao, cap, hv⟩ := own_shape ow
  rw [HML.out] at hv
  subst hv
  have z1 : C ≤ w1.heap.size := by have := b1.size; rw [HC.out] at this; exact this
  have oi0 : OwnInts w1 C (.slice none 0 0) (numsI (ns.take 0)) := World.ownsRow_nil _ _ _ _
  clear HLS
  go_wp2_with fail
  go_loopw [3, 11] (fun u x wr => ∃ i : Nat, i ≤ n ∧ x = .int .i64 i ∧ OwnInts wr C u (numsI (ns.take i)) ∧ OwnStrs wr C (.slice ao n cap) (ns.map nm) ∧ C ≤ wr.heap.size ∧ Below C w wr) (fun _ x _ => (n - intOf x).toNat)
  case atStart => exact ⟨0, Nat.zero_le _, rfl, oi0, ow, z1, b1⟩
  case round =>
    obtain ⟨i, hi, rfl, oi, os, zr, b2⟩ := hrel
    clear ow b1 z1 oi0
    by_cases hlt : i < n
    · have hlt' : (i : Int) < n := by omega
      have o2 := os
      unfold OwnStrs at o2
      rw [HML.out] at o2
      obtain ⟨g, rfl, k1, k2⟩ := own_cell o2 i hlt
      have hget : (strCells (ns.map nm))[i]? = some (.string (stx (nm (ns.getD i 0)))) := by
        rw [strCells, List.getElem?_map, List.getElem?_map, List.getElem?_eq_getElem (by rw [HNN.out]; exact hlt), List.getD_eq_getElem?_getD, List.getElem?_eq_getElem (by rw [HNN.out]; exact hlt)]
        rfl
      rw [hget] at k1
      have hsm : ns.getD i 0 < 100 := by
        rw [List.getD_eq_getElem?_getD, List.getElem?_eq_getElem (by rw [HNN.out]; exact hlt)]
        exact HNS.out _ (List.getElem_mem _)
      have HNU := Lib.hid (jnumber_any (ns.getD i 0) wr hsm)
      have HTK := Lib.hid (numsI_take ns i (by rw [HNN.out]; exact hlt))
      have HLI : Hid ((numsI (ns.take i)).length ≤ 1000000) := Lib.hid (by rw [numsI_len, List.length_take]; omega)
      generalize nm (ns.getD i 0) = T at *
      generalize ns.getD i 0 = t at *
      generalize numsI (ns.take i) = L at *
      have OI := Lib.hid oi
      have OS := Lib.hid os
      have hb1 : i + 1 ≤ n := hlt
      clear oi os o2 hget hsm
      go_wp2_with fail
      refine HNU.out.mono ?_
      rintro e w3 ⟨rfl, b3⟩
      have oi3 := OI.out.below b3
      have OS3 := Lib.hid (OS.out.below b3)
      have b4 := below_past b2 b3 zr
      have z3 : C ≤ w3.heap.size := Nat.le_trans zr b3.size
      have a1 : Below w3.heap.size w3 (w3.alloc (.cells #[.int .i64 t] 3)) := (Below.refl _ _).alloc (Nat.le_refl _) _
      have oi4 : OwnInts (w3.alloc (.cells #[.int .i64 t] 3)) C u3 L := oi3.below a1
      have OS4 := Lib.hid (OS3.out.below a1)
      have b5 := below_past b4 a1 z3
      have z4 : C ≤ (w3.alloc (.cells #[.int .i64 t] 3)).heap.size := Nat.le_trans z3 a1.size
      have hc1 : (w3.alloc (.cells #[.int .i64 t] 3)).cell? ⟨w3.heap.size, 0, none⟩ = some (.int .i64 t) := cell_of_rowAt (rowAt_alloc_at w3 #[.int .i64 t] 3 _ rfl) 0
      have HC1 := Lib.hid hc1
      clear HNU OI OS b2 b3 oi3 OS3 k1 k2 hc1 zr
      go_wp2_with (at_builtin; refine wpList_put_int rfl _ _ rfl C u3 L rfl oi4 t ⟨w3.heap.size, 0, none⟩ 1 rfl HC1.out z4 HLI.out ?_)
      intro v' w5 o5 g5
      have OS5 : OwnStrs w5 C (.slice (some ⟨g, 0, none⟩) n cap) (ns.map nm) := own_other OS4.out oi4 (by decide) g5
      have b6 := b5.grown g5 z4 (fun k hk => (World.ownsRow.lt oi4 k hk).1)
      have z5 := Nat.le_trans z4 g5.size
      have O5 := Lib.hid o5
      rw [← HTK.out] at O5
      have OS6 := Lib.hid OS5
      clear oi4 OS4 b4 b5 z3 a1 o5 g5 OS5 z4
      go_wp2_with fail
      exact ⟨⟨i + 1, hb1, by go_num, O5.out, OS6.out, z5, b6⟩, by simp [intOf]; omega⟩
    · have hlt' : decide ((i : Int) < n) = false := decide_eq_false (by omega)
      have hlt2 : decide (i < n) = false := decide_eq_false hlt
      obtain rfl : i = n := by omega
      rw [List.take_of_length_le (Nat.le_of_eq HNN.out)] at oi
      have OI := Lib.hid oi
      clear oi os
      go_wp2_with fail
      go_ret
      exact ⟨_, rfl, OI.out, b2⟩
set_option maxRecDepth 100000 in
set_option maxHeartbeats 1000000 in
theorem jread_any (B b : Nat) (d : DDisk) (n : Nat) (w : World) (h0 : DiskAt B b d w) (hn : n < 100) (hs : (rdB d (nm n)).length ≤ 1000000) (ht : Tabs w) :
    Calls Tryz.prog 29 #[.pointer (some ⟨b, 0, none⟩), .int .i64 n] w fun e w' => ∃ v, e = .returned v ∧ OwnStrs w' w.heap.size v (allR (rdB d (nm n))).1 ∧ Below w.heap.size w w' := by
  have HN := Lib.hid (jName_any n w hn)
  have HT := Lib.hid ht
  have HD := Lib.hid h0
  obtain ⟨T, hT⟩ : ∃ T, nm n = T := ⟨_, rfl⟩
  have hTl : T.length = 14 := by rw [← hT]; exact nm_length n
  rw [hT] at HN hs ⊢
  have HR : Hid (∀ w, DiskAt B b d w → Calls Tryz.prog 36 #[.pointer (some ⟨b, 0, none⟩), .string (stx T)] w fun e w' => e = .returned (.tuple #[.string (stx (rdB d T)), .int .i64 (findE d T)]) ∧ w' = w) := Lib.hid fun w h => dRead_any B b d (stx T) w h (by rw [stx_size]; omega)
  generalize findE d T = E at *
  generalize rdB d T = R at *
  have HA : Hid (∀ w, Tabs w → Calls Tryz.prog 44 #[.string (stx R)] w (AllRet w R)) := Lib.hid fun w ht => All_any (stx R) w (by rw [stx_size]; exact hs) ht
  clear h0 ht hn hT hTl hs
  obtain ⟨C, hC⟩ : ∃ C, w.heap.size = C := ⟨_, rfl⟩
  have HC := Lib.hid hC
  go_enter Tryz.func29, Tryz.ntmps29
  go_wp2_with fail
  refine HN.out.mono ?_
  rintro e w1 ⟨rfl, b1⟩
  have HR1 := Lib.hid (HR.out _ (HD.out.kept b1))
  have HA1 := Lib.hid (HA.out _ (HT.out.below b1))
  clear HN HR HA HD
  go_wp2_with fail
  refine HR1.out.mono ?_
  rintro e w2 ⟨rfl, rfl⟩
  clear HR1
  go_wp2_with fail
  refine HA1.out.mono ?_
  rintro e w3 ⟨v, rfl, ov, b3⟩
  have OV := Lib.hid ov
  have b4 := below_past b1 b3 b1.size
  have zz := b1.size
  clear HA1 b1 b3 ov
  go_wp2_with fail
  go_ret
  exact ⟨_, rfl, own_base OV.out zz, b4⟩
end Go.Proofs.YtlhdnkfnhdkbkaaGreatDoor
