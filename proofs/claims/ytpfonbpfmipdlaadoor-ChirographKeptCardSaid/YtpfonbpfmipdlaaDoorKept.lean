/- For every list of names, of texts, of flags, of numbers the law ChirographKept returns true. Conditions: the listed tables are as the program lays them. -/
import Derived.Test.YtpfonbpfmipdlaaDoorKeptKit
import Derived.Test.YtpfonbpfmipdlaaDoorDiskLaw
import Derived.Test.YtpfonbpfmipdlaaDoorName2
import Derived.Test.YtpfonbpfmipdlaaDoorPuts
import Derived.Test.YtpfonbpfmipdlaaDoorAppNone
import Derived.Test.YtpfonbpfmipdlaaDoorTabs
import Derived.Test.YtpfonbpfmipdlaaDoorTie
import Derived.Test.YtpfonbpfmipdlaaDoorCards
import Derived.SevenTiedAt
import Derived.Deep.Grids
namespace Go.Proofs.YtpfonbpfmipdlaaDoor.kept
open Go Go.ChangeShapes Go.WideShapes Go.ChangeAt Go.ChangeMaps Go.RowKit Go.Proofs.YtpfonbpfmipdlaaDoor
attribute [local go_sem] Oper.semAt_some

/-- A list of flags that came in. -/
def InBools (w : World) (v : Value) (len : Nat) (Z : Nat → Bool) : Prop :=
  ∃ ao cap, v = .slice ao len cap ∧ ∀ i, i < len → ∃ a, ao = some a ∧ w.cell? (a.add i) = some (.bool (Z i))
theorem in_bools {P : Program} {H : Type} {enc : TypeId × Value → H} {W : World} {held : Bool} {base t e : TypeId} {v : Value} {d : DataW H} {p : List MemPlace} (ht : P.underlying t = some (.slice e)) (he : P.underlying e = some .bool) (ce : P.cellsOf e = 1) (hval : Value.okWide P W .any base t v) (hd : DataW.Trod enc P W 0 (fun _ => true) held t v d p) :
    ∃ (len : Nat) (Z : Nat → Bool), InBools W v len Z := by
  obtain ⟨ao, len, cap, rfl⟩ := okWide_slice ht hval
  obtain ⟨fuel, hf⟩ := hd
  rcases Deep.open_bools ht he ce hf with ⟨h, _⟩ | ⟨a, len', cap', Z, hcs, _, hl, hm, _, hx⟩
  · have hc : ao = none ∧ len = 0 ∧ cap = 0 := by simpa [Value.cells] using h
    obtain ⟨rfl, rfl, rfl⟩ := hc
    exact ⟨0, fun _ => false, none, 0, rfl, fun i hi => absurd hi (Nat.not_lt_zero i)⟩
  · have hc : (ao = some a ∧ len = len' ∧ cap = cap') := by simpa [Value.cells] using hcs
    obtain ⟨rfl, rfl, rfl⟩ := hc
    exact ⟨len, Z, some a, cap, rfl, fun i hi => ⟨a, rfl, hx i (by omega)⟩⟩
theorem cellsOf_bool : Tryd.prog.cellsOf 4 = 1 := by kernel_rfl
/-- A disk beside a list of kept files that changes. -/
theorem disk_grown {B b : Nat} {d : DDisk} {w w' : World} (h : DiskAt B b d w) {row : Option Nat} (hg : w.grownBy w' row) (hr : ∀ k, row = some k → ∃ cs fr, w.heap[k]? = some (.cells cs 37 fr)) : DiskAt B b d w' := by
  obtain ⟨m, left, D, G, V, h⟩ := h
  obtain ⟨es, c, hm⟩ := mapBlk h.map
  refine ⟨m, left, D, G, V, ⟨(hg.block b (dHeap_lt h.row) (fun e => ?_)).trans h.row, h.fuse, h.map.kept hg (fun e => ?_), h.is, h.sorted, fun f hf => (h.file f hf).kept hg (fun e => ?_) ?_, h.apart, h.low, h.room, h.left_⟩⟩
  · obtain ⟨cs, fr, hk⟩ := hr b e.symm
    exact blk_ne hk h.row (by decide) rfl
  · obtain ⟨cs, fr, hk⟩ := hr m e.symm
    exact blk_ne_map hk hm rfl
  · obtain ⟨cs, fr, hk⟩ := hr _ e.symm
    exact blk_ne hk (h.file f hf).row (by decide) rfl
  · cases hv : row with
    | none => cases (V f.name).ownBlock <;> simp
    | some k =>
      obtain ⟨cs, fr, hk⟩ := hr k hv
      exact .inr (own_ne (h.file f hf).own hk (by decide))
theorem kept_row {w : World} {B : Nat} {v : Value} {ks : List KFile} (h : OwnKepts w B v ks) : ∀ k, v.ownBlock = some k → ∃ cs fr, w.heap[k]? = some (.cells cs 37 fr) := by
  obtain ⟨us, hl, ho, hu⟩ := h
  intro k hk
  obtain ⟨cs, hcs, -⟩ := own_blk ho hk
  exact ⟨cs, _, hcs⟩
theorem check_id (id : List UInt8) (h : id.length ≤ 60) (w : World) : Calls Tryd.prog 8 #[.string (stx id)] w fun e w' => ∃ a er : Int, e = .returned (.tuple #[.int .i64 a, .int .i64 er]) ∧ (er = 0 → dGood id) ∧ Below w.heap.size w w' := by
  by_cases h0 : id = []
  · subst h0
    exact (Check_empty w).mono fun e w' ⟨h1, h2⟩ => ⟨0, 5, h1, fun h => absurd h (by decide), h2⟩
  · have hp : 0 < id.length := List.length_pos_iff.2 h0
    exact (Check_full (stx id) w (by rw [stx_size]; omega) (by rw [stx_size]; exact hp)).mono fun e w' ⟨h1, h2⟩ => ⟨_, _, h1, fun _ => ⟨hp, by omega⟩, h2⟩
/-- Texts of one list of the call's own are put behind another. -/
theorem wpList_put_strs {ops : Array Oper} {rest : List Oper} {o : Oper} {a : Act} {w : World} {Q : Exit → Act → World → Prop} (hgd : o.guard = none) (s x : Operand)
    (ho : o.op = .call { callee := .builtin .append, args := #[s, x], argTypes := #[22, 22] }) (B C : Nat) (v u : Value) (ts us : List (List UInt8)) (hs : a.eval s = v) (hown : OwnStrs w B v ts)
    (hx : a.eval x = u) (hu : OwnStrs w C u us) (hB : B ≤ w.heap.size) (hl : ts.length ≤ 1000000) (hl2 : us.length ≤ 1000000)
    (h : ∀ v' w', OwnStrs w' B v' (ts ++ us) → w.grownBy w' v.ownBlock → wpList Tryd.prog ops Q rest (a.put o.dst v') w') : wpList Tryd.prog ops Q (o :: rest) a w := by
  rcases hu.2 with ⟨rfl, h0⟩ | ⟨g, cap, cur, rfl, _⟩
  · obtain rfl := List.eq_nil_of_length_eq_zero h0
    obtain ⟨i0, hi, hz0, hz1, hz2⟩ := info_str
    have hrun := run_append_none_len (w := w) Tryd.underlying22 hi hown 0 o.type
    refine wpList_plain hgd fun K hK => ?_
    unfold Oper.wp execOp
    simp only [ho, resolve, invoke, builtin, Sem.run_bind, Sem.run_pure, Result.andThen_ok, List.map_toArray, List.map_cons, List.map_nil, hs, hx, hrun]
    exact hK _ _ (h v w (by rw [List.append_nil]; exact hown) ⟨rfl, rfl, rfl, Nat.le_refl _, fun _ _ _ => rfl⟩)
  · exact wpList_put_texts hgd s x ho B v ts us hs hown ⟨g, 0, none⟩ us.length cap hx rfl (fun j y hy => World.ownsRow.cells hu (g := g) rfl j y hy) hB hl hl2 (fun v' w' h1 h2 _ => h v' w' h1 h2)
theorem put_is {i p : Nat} {K : List KFile} {d' : DDisk} {y : KFile} {id : List UInt8} (hp : p < K.length) (hy : y.id = id) (h : KInv i (K.set p y) d') : ∃ K2 : List KFile, K.set p y = K2 ∧ ∃ hp2 : p < K2.length, K2[p].id = id ∧ KInv i K2 d' :=
  ⟨_, rfl, by rw [List.length_set]; exact hp, by rw [List.getElem_set_self]; exact hy, h⟩
theorem in_len {w : World} {v : Value} {ks : List Int} (h : InInts w v ks) : ks.length ≤ 9223372036854775807 := by
  obtain ⟨ao, cap, h1, h2, h3, -⟩ := h
  unfold maxLen at h3
  omega
theorem crash_few {i : Nat} {ks : List KFile} {d : DDisk} (h : KInv i ks d) (hi : i ≤ 20) : d.files.length ≤ 1000000000000 ∧ dUsed d.files ≤ 1000000000000 ∧ ∀ f ∈ d.files, f.name.length ≤ 281474976710656 := by
  refine ⟨by have := h.size; have := h.count; omega, by have := h.used; omega, fun f hf => ?_⟩
  obtain ⟨k, hk, rfl⟩ := h.only f hf
  obtain ⟨-, -, c, -⟩ := h.each k hk
  show k.id.length ≤ _
  omega
theorem crashed_few {i : Nat} {ks : List KFile} {d : DDisk} (h : KInv i ks d) (hi : i ≤ 20) (keeps : List Int) : (crashD d keeps).files.length ≤ 1000000000000 ∧ ∀ f ∈ (crashD d keeps).files, f.name.length ≤ 281474976710656 := by
  obtain ⟨h1, -, h3⟩ := crash_few h hi
  refine ⟨by show (crashTo keeps d.files d.files.length).length ≤ _; rw [crashTo_length]; exact h1, fun f hf => ?_⟩
  have hm : f.name ∈ dNames (crashTo keeps d.files d.files.length) := List.mem_map.2 ⟨f, hf, rfl⟩
  rw [crashTo_names] at hm
  obtain ⟨x, hx, e⟩ := List.mem_map.1 hm
  rw [← e]
  exact h3 x hx
theorem kept_few {i : Nat} {ks : List KFile} {d : DDisk} (h : KInv i ks d) (hi : i ≤ 20) {k : KFile} (hk : k ∈ ks) : (cat k.texts).length ≤ 1000000 := by
  have h1 := dUsed_mem (h.file k hk)
  have h2 := h.used
  have h3 : (kFile k).bytes.length = (cat k.texts).length := rfl
  omega
theorem own_text {w : World} {B n cap r : Nat} {ao : Option Addr} {ts : List (List UInt8)} (h : OwnStrs w B (.slice ao n cap) ts) (hr : r < ts.length) : ∃ g, ao = some ⟨g, 0, none⟩ ∧ w.cell? ⟨g, r, none⟩ = some (.string (stx ts[r])) := by
  obtain ⟨ao', cap', hv⟩ := h.shape
  obtain ⟨rfl, rfl, rfl⟩ : ao = ao' ∧ n = ts.length ∧ cap = cap' := by simpa using hv
  obtain ⟨g, h1, h2, -⟩ := own_cell h r hr
  refine ⟨g, h1, h2.trans ?_⟩
  rw [strCells, List.getElem?_map, List.getElem?_eq_getElem hr]
  rfl
theorem step_new {i n : Nat} {ks : List KFile} {d' : DDisk} {id t : List UInt8} (h : KInv i (ks ++ [⟨id, [t], 0⟩]) d') (hn : ks.length = n) : ∃ K : List KFile, K = ks ++ [⟨id, [], 0⟩] ∧ ∃ hp : n < K.length, K[n].id = id ∧ K[n].texts.length ≤ 1000 ∧
    KInv i (K.set n ⟨K[n].id, K[n].texts ++ [t], K[n].sure⟩) d' := by
  subst hn
  refine ⟨_, rfl, by simp, by simp, by simp, ?_⟩
  have e : (ks ++ [(⟨id, [], 0⟩ : KFile)])[ks.length]'(by simp) = ⟨id, [], 0⟩ := by simp
  rw [e]
  have : (ks ++ [(⟨id, [], 0⟩ : KFile)]).set ks.length ⟨id, [] ++ [t], 0⟩ = ks ++ [⟨id, [t], 0⟩] := by simp
  rw [this]
  exact h
set_option maxRecDepth 100000 in
set_option maxHeartbeats 4000000 in
theorem walk (v0 v1 v2 v3 : Value) (l0 l1 l2 : Nat) (S0 S1 : Nat → ByteArray) (Z : Nat → Bool) (keeps : List Int) (w : World) (h0 : InStrs w v0 l0 S0) (h1 : InStrs w v1 l1 S1) (h2 : InBools w v2 l2 Z) (h3 : InInts w v3 keeps) (ht : Tabs w) :
    Calls Tryd.prog 3 #[v0, v1, v2, v3] w fun e w' => e = .returned (.bool true) ∧ Below w.heap.size w w' := by
  have H0 := Lib.hid (dNew_any 1048576 w ⟨by decide, by decide⟩)
  rw [show max (1048576 : Int) 0 = 1048576 by decide] at H0
  have HA1 : ∀ B q w, DiskAt B q ⟨1048576, -1, false, []⟩ w → Hid (Calls Tryd.prog 5 #[.pointer (some ⟨q, 0, none⟩), .string ⟨#[120]⟩, .string ⟨#[121]⟩] w fun e w' => e = .returned (.int .i64 0) ∧ DiskAt B q ⟨1048576, -1, false, [⟨[120], [121], 0⟩]⟩ w' ∧ Stir B w w') := fun B q w h => Lib.hid (by
    have := dAppend_any B q _ ⟨#[120]⟩ ⟨#[121]⟩ w h (by decide) (by decide)
    exact this)
  have HA2 : ∀ B q w, DiskAt B q ⟨1048576, -1, false, [⟨[120], [121], 0⟩]⟩ w → Hid (Calls Tryd.prog 6 #[.pointer (some ⟨q, 0, none⟩), .string ⟨#[120]⟩] w fun e w' => e = .returned (.int .i64 0) ∧ DiskAt B q ⟨1048576, -1, false, []⟩ w' ∧ Stir B w w') := fun B q w h => Lib.hid (by
    have := dRemove_any B q _ ⟨#[120]⟩ w h (by decide) (by decide)
    exact this)
  have HI0 := Lib.hid h0
  have HI1 := Lib.hid h1
  have HI2 := Lib.hid h2
  have HI3 := Lib.hid h3
  have HT := Lib.hid ht
  obtain ⟨ao0, cap0, rfl, _⟩ := h0
  obtain ⟨ao1, cap1, rfl, _⟩ := h1
  obtain ⟨ao2, cap2, rfl, _⟩ := h2
  clear h3 ht
  obtain ⟨B, hB⟩ : ∃ B, w.heap.size = B := ⟨_, rfl⟩
  have HB := Lib.hid hB
  go_enter Tryd.func3, Tryd.ntmps3
  go_wp2_with fail
  refine H0.out.mono ?_
  rintro e w3 ⟨q, rfl, hq, d0, b0⟩
  rw [hB] at hq d0 b0
  clear H0 hB
  go_wp2_with fail
  refine (HA1 _ _ _ d0).out.mono ?_
  rintro e w4 ⟨rfl, d1, x1⟩
  have b1 := b0.trans x1.below
  clear HA1 d0 x1 b0
  go_wp2_with fail
  refine (HA2 _ _ _ d1).out.mono ?_
  rintro e w5 ⟨rfl, d2, x2⟩
  have b2 := b1.trans x2.below
  have z2 : B ≤ w5.heap.size := by have := d2.low; omega
  clear HA2 d1 x2 b1
  have o3 := ownKepts_new w5 B _ rfl z2
  have c3 : Below w5.heap.size w5 (w5.alloc (.cells #[] 37)) := (Below.refl _ _).alloc (Nat.le_refl _) _
  have d3 := d2.kept c3
  have b3 := below_past b2 c3 z2
  clear d2 b2 c3
  go_wp2_with fail
  go_loopw [10, 11] (fun x y wr => ∃ (i : Nat) (ks : List KFile) (d : DDisk), i ≤ 20 ∧ y = .int .i64 i ∧ OwnKepts wr B x ks ∧ KInv i ks d ∧ DiskAt B q d wr ∧ Below B w wr) (fun _ y _ => (20 - intOf y).toNat)
  case atStart => exact ⟨0, [], _, Nat.zero_le _, rfl, o3, kempty, d3, b3⟩
  case round =>
    obtain ⟨i, ks, d, hi, rfl, OW, KI, DA, BA⟩ := hrel
    clear d3 b3 o3
    by_cases hgo : (i < l0 ∧ i < l1) ∧ i < 20
    · as_aux_lemma =>
      obtain ⟨⟨hlt0, hlt1⟩, hlt2⟩ := hgo
      have g0 : decide (i < l0) = true := decide_eq_true hlt0
      have g0i : (i : Int) < l0 := by omega
      have g1 : decide (i < l1) = true := decide_eq_true hlt1
      have g1i : (i : Int) < l1 := by omega
      have g2 : decide (i < 20) = true := decide_eq_true hlt2
      have g2i : (i : Int) < 20 := by omega
      obtain ⟨ao0', cap0', hv, hS⟩ := HI0.out
      obtain ⟨a0, ha0, hc0⟩ := hS i hlt0
      obtain ⟨rfl, rfl⟩ : ao0 = ao0' ∧ cap0 = cap0' := by simpa using hv
      subst ha0
      obtain ⟨ao1', cap1', hv1, hS1⟩ := HI1.out
      obtain ⟨a1, ha1, hc1⟩ := hS1 i hlt1
      obtain ⟨rfl, rfl⟩ : ao1 = ao1' ∧ cap1 = cap1' := by simpa using hv1
      subst ha1
      obtain ⟨id, hid⟩ : ∃ id, (S0 i).data.toList.take 60 = id := ⟨_, rfl⟩
      have hidl : id.length ≤ 60 := by rw [← hid]; exact List.length_take_le _ _
      obtain ⟨t, htt⟩ : ∃ t, (S1 i).data.toList.take 60 = t := ⟨_, rfl⟩
      have htl : t.length ≤ 60 := by rw [← htt]; exact List.length_take_le _ _
      have HCU0 : ∀ W, Hid (Calls Tryd.prog 7 #[.string (S0 i), .int .i64 60] W fun e w' => e = .returned (.string (stx id)) ∧ w' = W) := fun W => Lib.hid (by
        have := l3Cut_any (S0 i) 60 W (by decide)
        rwa [hid] at this)
      have HCU1 : ∀ W, Hid (Calls Tryd.prog 7 #[.string (S1 i), .int .i64 60] W fun e w' => e = .returned (.string (stx t)) ∧ w' = W) := fun W => Lib.hid (by
        have := l3Cut_any (S1 i) 60 W (by decide)
        rwa [htt] at this)
      have c0 := (BA.cell (p := a0.add i) (by rw [← HB.out]; exact cellLt hc0)).trans hc0
      have HC1 : Hid (w.cell? (a1.add i) = some (.string (S1 i))) := Lib.hid hc1
      have HIDL := Lib.hid hidl
      have HTL := Lib.hid htl
      have HKI := Lib.hid KI
      have zr : B ≤ wr.heap.size := by have := DA.low; omega
      clear hv hS hv1 hS1 hc0 hc1 hid htt hidl htl KI
      go_wp2_with fail
      refine (HCU0 _).out.mono ?_
      rintro e w1 ⟨rfl, rfl⟩
      clear HCU0 c0
      have HCK := Lib.hid (check_id id HIDL.out w1)
      go_wp2_with fail
      refine HCK.out.mono ?_
      rintro e w2 ⟨ca, er, rfl, hgood, b2⟩
      have OW2 := OW.below b2
      have DA2 := DA.kept b2
      have BA2 := below_past BA b2 zr
      have z2 : B ≤ w2.heap.size := Nat.le_trans zr b2.size
      clear HCK OW DA BA b2 zr
      by_cases her : er = 0
      · subst her
        have HG := Lib.hid (hgood rfl)
        clear hgood
        have c1 := (BA2.cell (p := a1.add i) (by rw [← HB.out]; exact cellLt HC1.out)).trans HC1.out
        go_wp2_with fail
        refine (HCU1 _).out.mono ?_
        rintro e w3 ⟨rfl, rfl⟩
        clear HCU1 c1
        have HW := Lib.hid (Wrap_any (stx t) w3 (by rw [stx_size]; have := HTL.out; omega) (HT.out.below (by rw [HB.out]; exact BA2)))
        rw [show (stx t).data.toList = t from rfl] at HW
        go_wp2_with fail
        refine HW.out.mono ?_
        rintro e w4 ⟨rfl, b4⟩
        have OW4 := OW2.below b4
        have DA4 := DA2.kept b4
        have BA4 := below_past BA2 b4 z2
        have z4 : B ≤ w4.heap.size := Nat.le_trans z2 b4.size
        clear HW OW2 DA2 BA2 b4 z2
        have hu : dUsed d.files + (stx (frame t)).size ≤ 1000000000000 := by
          have := HKI.out.used
          have := HTL.out
          rw [stx_size, frame_length]
          omega
        have HAP := Lib.hid (dAppend_any B q d (stx id) (stx (frame t)) w4 DA4 (by rw [stx_size]; have := HIDL.out; omega) hu)
        rw [show (stx id).data.toList = id from rfl, show (stx (frame t)).data.toList = frame t from rfl] at HAP
        clear hu DA4
        rcases kTo_cases ks id ks.length (Nat.le_refl _) with ⟨hat, hnone⟩ | ⟨p, hp, hpl, hat, hpid⟩
        · as_aux_lemma =>
          obtain ⟨hE, KI5⟩ := app_new HKI.out hi id (fun r hr => hnone r hr hr) HG.out HIDL.out t HTL.out
          rw [hE] at HAP
          go_wp2_with fail
          refine HAP.out.mono ?_
          rintro e w5 ⟨rfl, DA5, x5⟩
          have OW5 := OwnKepts.stir x5 OW4
          have BA5 := BA4.trans x5.below
          have z5 : B ≤ w5.heap.size := Nat.le_trans z4 x5.size
          clear HAP OW4 BA4 z4 x5
          obtain ⟨aok, capk, rfl⟩ := OW5.shape
          obtain ⟨n, hkn⟩ : ∃ n, ks.length = n := ⟨_, rfl⟩
          rw [hkn] at OW5
          have hn20 : n ≤ 20 := by have := HKI.out.count; omega
          go_wp2_with fail
          go_loopw [18, 90] (fun x y wq => ∃ k : Nat, k ≤ n ∧ x = .int .i64 (kTo ks id k) ∧ y = .int .i64 k ∧ wq = w5) (fun _ y _ => (n - intOf y).toNat)
          case atStart => exact ⟨0, Nat.zero_le _, rfl, rfl, rfl⟩
          case round =>
            obtain ⟨k, hk, rfl, rfl, rfl⟩ := hrel
            by_cases hkn1 : k < n
            · as_aux_lemma =>
              have gk : decide (k < n) = true := decide_eq_true hkn1
              have gki : (k : Int) < n := by omega
              have hkk : k < ks.length := by omega
              obtain ⟨g, u, rfl, -, -, -, -, c0, -, -, -⟩ := OW5.cell hkk
              have hgd : ks.getD k ⟨[], [], 0⟩ = ks[k] := by rw [List.getD_eq_getElem?_getD, List.getElem?_eq_getElem hkk]; rfl
              by_cases he : ks[k].id = id
              · have he' : (ks[k].id == id) = true := by simpa using he
                have HT1 : Hid (kTo ks id (k + 1) = k) := Lib.hid (by unfold kTo; rw [hgd, if_pos he])
                generalize ks[k].id = kid at *
                clear he hgd
                go_wp2_with fail
                exact ⟨⟨k + 1, by omega, by rw [HT1.out], by go_num, trivial⟩, by simp [intOf]; omega⟩
              · have he' : (ks[k].id == id) = false := by simpa using he
                have HT1 : Hid (kTo ks id (k + 1) = kTo ks id k) := Lib.hid (by conv => lhs; unfold kTo; rw [hgd, if_neg he])
                generalize ks[k].id = kid at *
                clear he hgd
                go_wp2_with fail
                exact ⟨⟨k + 1, by omega, by rw [HT1.out], by go_num, trivial⟩, by simp [intOf]; omega⟩
            · obtain rfl : k = n := by omega
              have HAT : Hid (kTo ks id k = -1) := Lib.hid (by rw [← hkn]; exact hat)
              rw [HAT.out]
              have gk : decide (k < k) = false := decide_eq_false (Nat.lt_irrefl k)
              have b6 : Below wr.heap.size wr (wr.alloc (.cells #[.string (stx id), .slice none 0 0, .int .i64 0] 37)) := (Below.refl _ _).alloc (Nat.le_refl _) _
              have OW6 := OW5.below b6
              have DA6 := DA5.kept b6
              have BA6 := below_past BA5 b6 z5
              have z6 := Nat.le_trans z5 b6.size
              have r6 : rowAt (wr.alloc (.cells #[.string (stx id), .slice none 0 0, .int .i64 0] 37)) wr.heap.size = some #[.string (stx id), .slice none 0 0, .int .i64 0] := rowAt_alloc_at _ _ _ _ rfl
              have hkl : ks.length ≤ 1000000 := by have := HKI.out.count; omega
              obtain ⟨K, hK, hp, hpid, hptl, KI6⟩ := step_new KI5 hkn
              have HPID := Lib.hid hpid
              have HKQ := Lib.hid KI6
              have HPTL := Lib.hid hptl
              clear OW5 DA5 BA5 z5 b6 KI5 KI6 hat hnone hpid hptl
              go_wp2_with (at_builtin; refine wpList_put_kept rfl _ _ rfl B _ ks rfl OW6 id _ 1 rfl (cell_of_rowAt r6 0) (cell_of_rowAt r6 1) (cell_of_rowAt r6 2) z6 hkl ?_)
              intro v7 w7 OWK hg7
              have DAK := disk_grown DA6 hg7 (kept_row OW6)
              have BAK := OW6.grown hg7 BA6 z6
              have zk := Nat.le_trans z6 hg7.size
              rw [← hK] at OWK
              clear OW6 DA6 BA6 z6 r6 hg7 hkl hkn hK
              obtain ⟨aoK, capK, rfl⟩ := OWK.shape
              obtain ⟨m, hm⟩ : ∃ m, K.length = m := ⟨_, rfl⟩
              rw [hm] at OWK ⊢
              have hpm : decide (k < m) = true := decide_eq_true (by omega)
              have hpmi : ((k : Nat) : Int) < m := by omega
              obtain ⟨g, u, rfl, -, hBg, hgl, hou, -, c1, -, hf⟩ := OWK.cell hp
              have OK0 := Lib.hid OWK
              have DK0 := Lib.hid DAK
              have BK0 := Lib.hid BAK
              have bn0 : Below w7.heap.size w7 (w7.alloc (.cells #[] 9)) := (Below.refl _ _).alloc (Nat.le_refl _) _
              have on0 : OwnStrs (w7.alloc (.cells #[] 9)) w7.heap.size (.slice (some ⟨w7.heap.size, 0, none⟩) 0 0) [] := ownStrs_new w7 _ _ rfl (Nat.le_refl _)
              have ou0 := hou.below bn0
              have cc0 := (bn0.cell (p := ⟨g, k * 3 + 1, none⟩) hgl).trans c1
              have zn : w7.heap.size ≤ (w7.alloc (.cells #[] 9)).heap.size := bn0.size
              have hl0' : ([] : List (List UInt8)).length ≤ 1000000 := Nat.zero_le _
              have hl1' : K[k].texts.length ≤ 1000000 := by have := HPTL.out; omega
              clear OWK DAK BAK hou
              go_wp2_with (at_builtin; refine wpList_put_strs rfl _ _ rfl w7.heap.size B _ u [] K[k].texts rfl on0 rfl ou0 zn hl0' hl1' ?_)
              intro v1 w8 ow1 gr1
              have bk1 := on0.grown gr1 bn0 zn
              have bk2 : Below w7.heap.size w7 (w8.alloc (.cells #[.string (stx t)] 9)) := below_past bk1 ((Below.refl _ _).alloc (Nat.le_refl _) _) bk1.size
              have ow2 := ow1.below ((Below.refl w8.heap.size w8).alloc (Nat.le_refl _) (.cells #[.string (stx t)] 9))
              have hcell : ∀ (j : Nat) (y : Value), (strCells [t])[j]? = some y → (w8.alloc (.cells #[.string (stx t)] 9)).cell? ((⟨w8.heap.size, 0, none⟩ : Addr).add j) = some y := one_cell (w := w8) (T := 9) (.string (stx t))
              have zq := bk2.size
              have HCELL := Lib.hid hcell
              clear on0 ou0 cc0 zn gr1 bn0 ow1 bk1 hl0' hcell
              go_wp2_with (at_builtin; refine wpList_put_texts rfl _ _ rfl w7.heap.size _ K[k].texts [t] rfl ow2 ⟨w8.heap.size, 0, none⟩ 1 1 rfl rfl HCELL.out zq hl1' (by show 1 ≤ _; decide) ?_)
              intro v2 w9 ow3 gr3 _
              obtain ⟨aov, capv, hvv⟩ := ow3.shape
              obtain ⟨L, hL⟩ : ∃ L, (K[k].texts ++ [t]).length = L := ⟨_, rfl⟩
              rw [hL] at hvv
              subst hvv
              have bk3 := ow2.grown gr3 bk2 bk2.size
              have OK3 := OK0.out.below bk3
              obtain ⟨g', u3, hg', -, -, hgl3, -, -, c3, -, hf3⟩ := OK3.cell hp
              obtain rfl : g = g' := by simpa using hg'
              have f3 := hf3 (k * 3 + 1)
              have z9 := Nat.le_trans zk bk3.size
              have KP := OK3.texts hp (.slice aov L capv) (K[k].texts ++ [t]) (own_base ow3 zk)
              have DP := disk_grown (DK0.out.kept bk3) (setCell_grown w9 g (k * 3 + 1) (.slice aov L capv)) (fun k e => by cases e; exact kept_row OK3 g rfl)
              have BP := OK3.grown (setCell_grown w9 g (k * 3 + 1) (.slice aov L capv)) (below_past BK0.out bk3 zk) z9
              obtain ⟨K2, hK2, hp2, hid2, KI2⟩ := put_is (y := ⟨K[k].id, K[k].texts ++ [t], K[k].sure⟩) hp HPID.out HKQ.out
              rw [hK2] at KP
              have KP := Lib.hid KP
              have DP := Lib.hid DP
              have BP := Lib.hid BP
              have KI2 := Lib.hid KI2
              have HID2 := Lib.hid hid2
              clear ow2 gr3 bk2 HCELL zq hl1' OK3 hK2 ow3 OK0 DK0 BK0 hf hf3 hid2 bk3 hgl c1 hL
              go_upto_region 26 with fail
              generalize w9.setCell ⟨g, k * 3 + 1, none⟩ (.slice aov L capv) = W at *
              clear f3 c3 z9 hgl3
              by_cases hl2 : i < l2
              · have gl : decide (i < l2) = true := decide_eq_true hl2
                have gli : (i : Int) < l2 := by omega
                obtain ⟨ao2', cap2', hv2, hS2⟩ := HI2.out
                obtain ⟨a2, ha2, hc2⟩ := hS2 i hl2
                obtain ⟨rfl, rfl⟩ : ao2 = ao2' ∧ cap2 = cap2' := by simpa using hv2
                subst ha2
                have cz := (BP.out.cell (p := a2.add i) (by rw [← HB.out]; exact cellLt hc2)).trans hc2
                clear hv2 hS2 hc2
                cases hz : Z i with
                | false =>
                  rw [hz] at cz
                  clear hz
                  go_wp2_with fail
                  exact ⟨⟨i + 1, K2, _, by omega, by go_num, KP.out, KI2.out, DP.out, BP.out⟩, by simp [intOf]; omega⟩
                | true =>
                  rw [hz] at cz
                  clear hz
                  obtain ⟨hSE, KI3⟩ := sync_is KI2.out hp2
                  have HSY := Lib.hid (dSync_any B q _ (stx id) W DP.out (by rw [stx_size]; have := HIDL.out; omega))
                  rw [HID2.out] at hSE
                  rw [show (stx id).data.toList = id from rfl, hSE] at HSY
                  obtain ⟨sl, hsl⟩ : ∃ sl, K2[k].texts.length = sl := ⟨_, rfl⟩
                  have hsd : sD (aD d id (frame t)) K2[k].id = sD (aD d id (frame t)) id := by rw [HID2.out]
                  rw [hsd, hsl] at KI3
                  have HKI3 := Lib.hid KI3
                  have HSL := Lib.hid hsl
                  clear hSE KI3 DP KI2 hsd hsl
                  go_wp2_with fail
                  refine HSY.out.mono ?_
                  rintro e w10 ⟨rfl, DA9, x9⟩
                  have KP9 := OwnKepts.stir x9 KP.out
                  have BP9 := BP.out.trans x9.below
                  obtain ⟨g2, u2, hg2, -, -, -, hou2, -, c1, c2, hf2⟩ := KP9.cell hp2
                  obtain rfl : g = g2 := by simpa using hg2
                  obtain ⟨aot, capt, rfl⟩ := hou2.shape
                  rw [HSL.out] at c1
                  have f2 := hf2 (k * 3 + 2)
                  have KP10 := KP9.sure hp2 sl
                  have DP10 := disk_grown DA9 (setCell_grown w10 g (k * 3 + 2) (.int .i64 sl)) (fun k e => by cases e; exact kept_row KP9 g rfl)
                  have BP10 := KP9.grown (setCell_grown w10 g (k * 3 + 2) (.int .i64 sl)) BP9 (Nat.le_trans (by have := BP.out.size; have := W.heap.size; have h9 := DA9.low; omega) (Nat.le_refl _))
                  have KP10 := Lib.hid KP10
                  have DP10 := Lib.hid DP10
                  have BP10 := Lib.hid BP10
                  clear HSY KP DA9 x9 KP9 BP9 hou2 hf2 hg2 BP
                  go_wp2_with fail
                  exact ⟨⟨i + 1, _, _, by omega, by go_num, KP10.out, HKI3.out, DP10.out, BP10.out⟩, by simp [intOf]; omega⟩
              · have gl : decide (i < l2) = false := decide_eq_false hl2
                go_wp2_with fail
                exact ⟨⟨i + 1, K2, _, by omega, by go_num, KP.out, KI2.out, DP.out, BP.out⟩, by simp [intOf]; omega⟩
        · as_aux_lemma =>
          obtain ⟨hE, KI5⟩ := app_old HKI.out hi hp (by rw [hpid]; exact HG.out) t HTL.out
          have hsd : aD d ks[p].id (frame t) = aD d id (frame t) := by rw [hpid]
          rw [hpid] at hE
          rw [hsd] at KI5
          rw [hE] at HAP
          clear hsd
          go_wp2_with fail
          refine HAP.out.mono ?_
          rintro e w5 ⟨rfl, DA5, x5⟩
          have OW5 := OwnKepts.stir x5 OW4
          have BA5 := BA4.trans x5.below
          have z5 : B ≤ w5.heap.size := Nat.le_trans z4 x5.size
          clear HAP OW4 BA4 z4 x5
          obtain ⟨aok, capk, rfl⟩ := OW5.shape
          obtain ⟨n, hkn⟩ : ∃ n, ks.length = n := ⟨_, rfl⟩
          rw [hkn] at OW5
          have hn20 : n ≤ 20 := by have := HKI.out.count; omega
          go_wp2_with fail
          go_loopw [18, 90] (fun x y wq => ∃ k : Nat, k ≤ n ∧ x = .int .i64 (kTo ks id k) ∧ y = .int .i64 k ∧ wq = w5) (fun _ y _ => (n - intOf y).toNat)
          case atStart => exact ⟨0, Nat.zero_le _, rfl, rfl, rfl⟩
          case round =>
            obtain ⟨k, hk, rfl, rfl, rfl⟩ := hrel
            by_cases hkn1 : k < n
            · as_aux_lemma =>
              have gk : decide (k < n) = true := decide_eq_true hkn1
              have gki : (k : Int) < n := by omega
              have hkk : k < ks.length := by omega
              obtain ⟨g, u, rfl, -, -, -, -, c0, -, -, -⟩ := OW5.cell hkk
              have hgd : ks.getD k ⟨[], [], 0⟩ = ks[k] := by rw [List.getD_eq_getElem?_getD, List.getElem?_eq_getElem hkk]; rfl
              by_cases he : ks[k].id = id
              · have he' : (ks[k].id == id) = true := by simpa using he
                have HT1 : Hid (kTo ks id (k + 1) = k) := Lib.hid (by unfold kTo; rw [hgd, if_pos he])
                generalize ks[k].id = kid at *
                clear he hgd
                go_wp2_with fail
                exact ⟨⟨k + 1, by omega, by rw [HT1.out], by go_num, trivial⟩, by simp [intOf]; omega⟩
              · have he' : (ks[k].id == id) = false := by simpa using he
                have HT1 : Hid (kTo ks id (k + 1) = kTo ks id k) := Lib.hid (by conv => lhs; unfold kTo; rw [hgd, if_neg he])
                generalize ks[k].id = kid at *
                clear he hgd
                go_wp2_with fail
                exact ⟨⟨k + 1, by omega, by rw [HT1.out], by go_num, trivial⟩, by simp [intOf]; omega⟩
            · obtain rfl : k = n := by omega
              have HAT : Hid (kTo ks id k = p) := Lib.hid (by rw [← hkn]; exact hat)
              rw [HAT.out]
              have gk : decide (k < k) = false := decide_eq_false (Nat.lt_irrefl k)
              have gp0 : decide ((p : Int) < 0) = false := decide_eq_false (by omega)
              have HPID := Lib.hid hpid
              have HKQ := Lib.hid KI5
              have hptl : ks[p].texts.length ≤ 1000 := by
                obtain ⟨-, -, -, h⟩ := HKI.out.each _ (List.getElem_mem hp)
                omega
              have HPTL := Lib.hid hptl
              have OWK := OW5
              have DAK := DA5
              have BAK := BA5
              have zk := z5
              clear OW5 DA5 BA5 z5 KI5 hat hpid hptl
              have hpm : decide (p < k) = true := decide_eq_true (by omega)
              have hpmi : ((p : Nat) : Int) < k := by omega
              obtain ⟨g, u, rfl, -, hBg, hgl, hou, -, c1, -, hf⟩ := OWK.cell hp
              have OK0 := Lib.hid OWK
              have DK0 := Lib.hid DAK
              have BK0 := Lib.hid BAK
              have bn0 : Below wr.heap.size wr (wr.alloc (.cells #[] 9)) := (Below.refl _ _).alloc (Nat.le_refl _) _
              have on0 : OwnStrs (wr.alloc (.cells #[] 9)) wr.heap.size (.slice (some ⟨wr.heap.size, 0, none⟩) 0 0) [] := ownStrs_new wr _ _ rfl (Nat.le_refl _)
              have ou0 := hou.below bn0
              have cc0 := (bn0.cell (p := ⟨g, p * 3 + 1, none⟩) hgl).trans c1
              have zn : wr.heap.size ≤ (wr.alloc (.cells #[] 9)).heap.size := bn0.size
              have hl0' : ([] : List (List UInt8)).length ≤ 1000000 := Nat.zero_le _
              have hl1' : ks[p].texts.length ≤ 1000000 := by have := HPTL.out; omega
              clear OWK DAK BAK hou
              go_wp2_with (at_builtin; refine wpList_put_strs rfl _ _ rfl wr.heap.size B _ u [] ks[p].texts rfl on0 rfl ou0 zn hl0' hl1' ?_)
              intro v1 w8 ow1 gr1
              have bk1 := on0.grown gr1 bn0 zn
              have bk2 : Below wr.heap.size wr (w8.alloc (.cells #[.string (stx t)] 9)) := below_past bk1 ((Below.refl _ _).alloc (Nat.le_refl _) _) bk1.size
              have ow2 := ow1.below ((Below.refl w8.heap.size w8).alloc (Nat.le_refl _) (.cells #[.string (stx t)] 9))
              have hcell : ∀ (j : Nat) (y : Value), (strCells [t])[j]? = some y → (w8.alloc (.cells #[.string (stx t)] 9)).cell? ((⟨w8.heap.size, 0, none⟩ : Addr).add j) = some y := one_cell (w := w8) (T := 9) (.string (stx t))
              have zq := bk2.size
              have HCELL := Lib.hid hcell
              clear on0 ou0 cc0 zn gr1 bn0 ow1 bk1 hl0' hcell
              go_wp2_with (at_builtin; refine wpList_put_texts rfl _ _ rfl wr.heap.size _ ks[p].texts [t] rfl ow2 ⟨w8.heap.size, 0, none⟩ 1 1 rfl rfl HCELL.out zq hl1' (by show 1 ≤ _; decide) ?_)
              intro v2 w9 ow3 gr3 _
              obtain ⟨aov, capv, hvv⟩ := ow3.shape
              obtain ⟨L, hL⟩ : ∃ L, (ks[p].texts ++ [t]).length = L := ⟨_, rfl⟩
              rw [hL] at hvv
              subst hvv
              have bk3 := ow2.grown gr3 bk2 bk2.size
              have OK3 := OK0.out.below bk3
              obtain ⟨g', u3, hg', -, -, hgl3, -, -, c3, -, hf3⟩ := OK3.cell hp
              obtain rfl : g = g' := by simpa using hg'
              have f3 := hf3 (p * 3 + 1)
              have z9 := Nat.le_trans zk bk3.size
              have KP := OK3.texts hp (.slice aov L capv) (ks[p].texts ++ [t]) (own_base ow3 zk)
              have DP := disk_grown (DK0.out.kept bk3) (setCell_grown w9 g (p * 3 + 1) (.slice aov L capv)) (fun k e => by cases e; exact kept_row OK3 g rfl)
              have BP := OK3.grown (setCell_grown w9 g (p * 3 + 1) (.slice aov L capv)) (below_past BK0.out bk3 zk) z9
              obtain ⟨K2, hK2, hp2, hid2, KI2⟩ := put_is (y := ⟨ks[p].id, ks[p].texts ++ [t], ks[p].sure⟩) hp HPID.out HKQ.out
              rw [hK2] at KP
              have KP := Lib.hid KP
              have DP := Lib.hid DP
              have BP := Lib.hid BP
              have KI2 := Lib.hid KI2
              have HID2 := Lib.hid hid2
              clear ow2 gr3 bk2 HCELL zq hl1' OK3 hK2 ow3 OK0 DK0 BK0 hf hf3 hid2 bk3 hgl c1 hL
              go_upto_region 26 with fail
              generalize w9.setCell ⟨g, p * 3 + 1, none⟩ (.slice aov L capv) = W at *
              clear f3 c3 z9 hgl3
              by_cases hl2 : i < l2
              · have gl : decide (i < l2) = true := decide_eq_true hl2
                have gli : (i : Int) < l2 := by omega
                obtain ⟨ao2', cap2', hv2, hS2⟩ := HI2.out
                obtain ⟨a2, ha2, hc2⟩ := hS2 i hl2
                obtain ⟨rfl, rfl⟩ : ao2 = ao2' ∧ cap2 = cap2' := by simpa using hv2
                subst ha2
                have cz := (BP.out.cell (p := a2.add i) (by rw [← HB.out]; exact cellLt hc2)).trans hc2
                clear hv2 hS2 hc2
                cases hz : Z i with
                | false =>
                  rw [hz] at cz
                  clear hz
                  go_wp2_with fail
                  exact ⟨⟨i + 1, K2, _, by omega, by go_num, KP.out, KI2.out, DP.out, BP.out⟩, by simp [intOf]; omega⟩
                | true =>
                  rw [hz] at cz
                  clear hz
                  obtain ⟨hSE, KI3⟩ := sync_is KI2.out hp2
                  have HSY := Lib.hid (dSync_any B q _ (stx id) W DP.out (by rw [stx_size]; have := HIDL.out; omega))
                  rw [HID2.out] at hSE
                  rw [show (stx id).data.toList = id from rfl, hSE] at HSY
                  obtain ⟨sl, hsl⟩ : ∃ sl, K2[p].texts.length = sl := ⟨_, rfl⟩
                  have hsd : sD (aD d id (frame t)) K2[p].id = sD (aD d id (frame t)) id := by rw [HID2.out]
                  rw [hsd, hsl] at KI3
                  have HKI3 := Lib.hid KI3
                  have HSL := Lib.hid hsl
                  clear hSE KI3 DP KI2 hsd hsl
                  go_wp2_with fail
                  refine HSY.out.mono ?_
                  rintro e w10 ⟨rfl, DA9, x9⟩
                  have KP9 := OwnKepts.stir x9 KP.out
                  have BP9 := BP.out.trans x9.below
                  obtain ⟨g2, u2, hg2, -, -, -, hou2, -, c1, c2, hf2⟩ := KP9.cell hp2
                  obtain rfl : g = g2 := by simpa using hg2
                  obtain ⟨aot, capt, rfl⟩ := hou2.shape
                  rw [HSL.out] at c1
                  have f2 := hf2 (p * 3 + 2)
                  have KP10 := KP9.sure hp2 sl
                  have DP10 := disk_grown DA9 (setCell_grown w10 g (p * 3 + 2) (.int .i64 sl)) (fun k e => by cases e; exact kept_row KP9 g rfl)
                  have BP10 := KP9.grown (setCell_grown w10 g (p * 3 + 2) (.int .i64 sl)) BP9 (Nat.le_trans (by have := BP.out.size; have := W.heap.size; have h9 := DA9.low; omega) (Nat.le_refl _))
                  have KP10 := Lib.hid KP10
                  have DP10 := Lib.hid DP10
                  have BP10 := Lib.hid BP10
                  clear HSY KP DA9 x9 KP9 BP9 hou2 hf2 hg2 BP
                  go_wp2_with fail
                  exact ⟨⟨i + 1, _, _, by omega, by go_num, KP10.out, HKI3.out, DP10.out, BP10.out⟩, by simp [intOf]; omega⟩
              · have gl : decide (i < l2) = false := decide_eq_false hl2
                go_wp2_with fail
                exact ⟨⟨i + 1, K2, _, by omega, by go_num, KP.out, KI2.out, DP.out, BP.out⟩, by simp [intOf]; omega⟩
      · have her' : (er != 0) = true := by simpa using her
        clear hgood
        go_wp2_with fail
        exact ⟨⟨i + 1, ks, d, by omega, by go_num, OW2, HKI.out.more, DA2, BA2⟩, by simp [intOf]; omega⟩
    · by_cases e0 : i < l0
      · by_cases e1 : i < l1
        · have g0 : decide (i < l0) = true := decide_eq_true e0
          have g0i : (i : Int) < l0 := by omega
          have g1 : decide (i < l1) = true := decide_eq_true e1
          have g1i : (i : Int) < l1 := by omega
          have g2 : decide (i < 20) = false := decide_eq_false (by omega)
          have g2i : decide ((i : Int) < 20) = false := decide_eq_false (by omega)
          as_aux_lemma =>
          have HKI := Lib.hid KI
          have hbw : Below w.heap.size w wr := by rw [HB.out]; exact BA
          have hzr : B ≤ wr.heap.size := by have := DA.low; omega
          have hcr := dCrash_any B q d v3 keeps wr DA (HI3.out.at_ hbw (by rw [HB.out]; exact Nat.le_refl _)) (in_len HI3.out) (crash_few KI hi).1 (crash_few KI hi).2.1 (crash_few KI hi).2.2
          have HCR := Lib.hid hcr
          obtain ⟨hlen, heach⟩ := crash_is KI keeps
          have HEACH := Lib.hid heach
          obtain ⟨hcf1, hcf2⟩ := crashed_few KI hi keeps
          obtain ⟨n, hkn⟩ : ∃ n, ks.length = n := ⟨_, rfl⟩
          have hn20 : n ≤ 20 := by have := KI.count; omega
          obtain ⟨aok, capk, hx⟩ := OW.shape
          rw [hkn] at hx
          subst hx
          obtain ⟨D, hD⟩ : ∃ D, crashD d keeps = D := ⟨_, rfl⟩
          rw [hD] at HCR HEACH hlen hcf1 hcf2
          rw [hkn] at hlen
          have HLEN := Lib.hid hlen
          have HKN := Lib.hid hkn
          have HCF1 := Lib.hid hcf1
          have HCF2 := Lib.hid hcf2
          clear hbw hcr heach hcf1 hcf2 hlen DA KI hkn hD
          go_wp2_with fail
          refine HCR.out.mono ?_
          rintro e w2 ⟨rfl, DA2, x2⟩
          have OW2 := OwnKepts.stir x2 OW
          have BA2 := BA.trans x2.below
          have z2' : B ≤ w2.heap.size := Nat.le_trans hzr x2.size
          have HLI := Lib.hid (dList_any B q D w2 DA2 HCF1.out HCF2.out)
          clear HCR OW BA x2 hzr
          go_wp2_with fail
          refine HLI.out.mono ?_
          rintro e w3' ⟨lv, rfl, owl, b3'⟩
          obtain ⟨aol, capl, hlv⟩ := owl.shape
          rw [HLEN.out] at hlv
          subst hlv
          have OW3 := OW2.below b3'
          have DA3 := DA2.kept b3'
          have BA3 := below_past BA2 b3' z2'
          have gne : (n != n) = false := by simp
          clear HLI OW2 DA2 BA2 b3' owl z2'
          go_wp2_with fail
          go_loopw [160] (fun x wq => ∃ k : Nat, k ≤ n ∧ x = .int .i64 k ∧ OwnKepts wq B (.slice aok n capk) ks ∧ DiskAt B q D wq ∧ Below B w wq) (fun x _ => (n - intOf x).toNat)
          case atStart => exact ⟨0, Nat.zero_le _, rfl, OW3, DA3, BA3⟩
          case round =>
            obtain ⟨k, hk, rfl, OW4, DA4, BA4⟩ := hrel
            rename_i wq _
            clear OW3 DA3 BA3 gne
            by_cases hkn1 : k < n
            · as_aux_lemma =>
              have gk : decide (k < n) = true := decide_eq_true hkn1
              have gki : (k : Int) < n := by omega
              have hkk : k < ks.length := by have := HKN.out; omega
              obtain ⟨g, u, rfl, -, hBg, hgl, hou, c0, c1, c2, hf⟩ := OW4.cell hkk
              obtain ⟨aot, capt, rfl⟩ := hou.shape
              obtain ⟨c, hc1, hc2, hfe, hrd⟩ := HEACH.out _ (List.getElem_mem hkk)
              obtain ⟨nn, hn1, hn2, hall⟩ := kept_reads HKI.out (List.getElem_mem hkk) hc1 hc2
              obtain ⟨-, -, hidl, htl20⟩ := HKI.out.each _ (List.getElem_mem hkk)
              have hcat : (cat ks[k].texts).length ≤ 1000000 := kept_few HKI.out hi (List.getElem_mem hkk)
              generalize ks[k] = K1 at *
              obtain ⟨TX, hTX⟩ : ∃ TX, (cat K1.texts).take c = TX := ⟨_, rfl⟩
              rw [hTX] at hrd hall
              have htxl : TX.length ≤ 1000000 := by
                have h1 : TX.length ≤ (cat K1.texts).length := by rw [← hTX]; exact List.length_take_le' _ _
                have := hcat
                omega
              have HRE : Hid (∀ W, DiskAt B q D W → Calls Tryd.prog 13 #[.pointer (some ⟨q, 0, none⟩), .string (stx K1.id)] W fun e w' => e = .returned (.tuple #[.string (stx TX), .int .i64 0]) ∧ w' = W) := Lib.hid fun W h => by
                have := dRead_any B q D (stx K1.id) W h (by rw [stx_size]; omega)
                rw [show (stx K1.id).data.toList = K1.id from rfl, hfe, hrd] at this
                exact this
              obtain ⟨tl, htl⟩ : ∃ tl, K1.texts.length = tl := ⟨_, rfl⟩
              obtain ⟨sr, hsr⟩ : ∃ sr, K1.sure = sr := ⟨_, rfl⟩
              rw [htl] at hou c1 hn2 htl20
              have htl20 : tl ≤ 20 := Nat.le_trans htl20 hi
              rw [hsr] at c2 hn1
              have HTLK := Lib.hid htl
              have HTXL := Lib.hid htxl
              have HALL := Lib.hid hall
              have bA : Below wr.heap.size wr (wr.alloc (.cells #[.string (stx K1.id), .slice aot tl capt, .int .i64 sr] 37)) := (Below.refl _ _).alloc (Nat.le_refl _) _
              have r5 : rowAt (wr.alloc (.cells #[.string (stx K1.id), .slice aot tl capt, .int .i64 sr] 37)) wr.heap.size = some #[.string (stx K1.id), .slice aot tl capt, .int .i64 sr] := rowAt_alloc_at _ _ _ _ rfl
              have zr : B ≤ wr.heap.size := by have := DA4.low; omega
              have OW5 := OW4.below bA
              have DA5 := DA4.kept bA
              have BA5 := below_past BA4 bA zr
              have ou5 := hou.below bA
              have z5 : B ≤ (wr.alloc (.cells #[.string (stx K1.id), .slice aot tl capt, .int .i64 sr] 37)).heap.size := Nat.le_trans zr bA.size
              have gs1 : decide (nn < sr) = false := decide_eq_false (by omega)
              have gs2 : decide (tl < nn) = false := decide_eq_false (by omega)
              clear OW4 DA4 BA4 hou bA hfe hrd hTX hall htl hsr hidl hc1 hc2 hf hkk hcat htxl hBg
              go_wp2_with fail
              generalize wr.alloc (.cells #[.string (stx K1.id), .slice aot tl capt, .int .i64 sr] 37) = W5 at *
              refine (HRE.out _ DA5).mono ?_
              rintro e w6 ⟨rfl, rfl⟩
              have HAL := Lib.hid (All_any (stx TX) w6 (by rw [stx_size]; exact HTXL.out) (HT.out.below (by rw [HB.out]; exact BA5)))
              clear HRE c0 c1 c2
              go_wp2_with fail
              refine HAL.out.mono ?_
              rintro e w7 ⟨lv, rfl, ol, b7⟩
              rw [HALL.out] at ol
              obtain ⟨aol2, capl2, hlv⟩ := ol.shape
              rw [List.length_take, Nat.min_eq_left (by rw [HTLK.out]; exact hn2)] at hlv
              subst hlv
              have OW7 := OW5.below b7
              have DA7 := DA5.kept b7
              have BA7 := below_past BA5 b7 z5
              have ou7 := ou5.below b7
              have HZ7 := Lib.hid (Nat.le_trans z5 b7.size)
              have r7 := rowAt_past b7 r5
              have x1 := cell_of_rowAt r7 1
              have x2 := cell_of_rowAt r7 2
              clear HAL OW5 DA5 BA5 ou5 r5 b7 z5 r7
              generalize wr.heap.size = P5 at *
              go_wp2_with fail
              go_loopw [195] (fun x wz => ∃ r : Nat, r ≤ nn ∧ x = .int .i64 r ∧ Below w7.heap.size w7 wz) (fun x _ => (nn - intOf x).toNat)
              case atStart => exact ⟨0, Nat.zero_le _, rfl, Below.refl _ _⟩
              case round =>
                obtain ⟨r, hr, rfl, bz⟩ := hrel
                by_cases hrn : r < nn
                · as_aux_lemma =>
                  have gr : decide (r < nn) = true := decide_eq_true hrn
                  have gri : (r : Int) < nn := by omega
                  have grt : r < tl := by omega
                  have grti : (r : Int) < tl := by omega
                  have gr20 : (r : Int) < 20 := by omega
                  have hrt : r < K1.texts.length := by rw [HTLK.out]; exact grt
                  have x1' : w7.cell? ⟨P5, 1, none⟩ = some (.slice aot tl capt) := x1
                  obtain ⟨ga, rfl, ya⟩ := own_text (r := r) (ol.below bz) (by rw [List.length_take, HTLK.out]; omega)
                  obtain ⟨gb, rfl, yb⟩ := own_text (r := r) (ou7.below bz) hrt
                  rw [List.getElem_take] at ya
                  generalize K1.texts[r] = TT at *
                  clear ol ou7 OW7 DA7 BA7
                  have y2 := (bz.cell (p := ⟨P5, 1, none⟩) (cellLt x1')).trans x1'
                  have zz := bz.size
                  have gne2 : (TT != TT) = false := by simp
                  have yaP : ∀ x : Past wr, x.w.cell? ⟨ga, r, none⟩ = some (.string (stx TT)) := fun x => (x.cell (p := ⟨ga, r, none⟩) (cellLt ya)).trans ya
                  have ybP : ∀ x : Past wr, x.w.cell? ⟨gb, r, none⟩ = some (.string (stx TT)) := fun x => (x.cell (p := ⟨gb, r, none⟩) (cellLt yb)).trans yb
                  have y2P : ∀ x : Past wr, x.w.cell? ⟨P5, 1, none⟩ = some (.slice (some ⟨gb, 0, none⟩) tl capt) := fun x => (x.cell (p := ⟨P5, 1, none⟩) (cellLt y2)).trans y2
                  clear x1 x2 x1' HKI HEACH
                  go_wp2_with fail
                  refine wp_region_past (by kernel_rfl) (by kernel_rfl) ?_
                  repeat (go_big_quiet_step (fail))
                  refine wpQuiet_nil ?_
                  intro w2 hw2
                  obtain ⟨⟨wn, hn⟩, rfl⟩ := hw2
                  try dsimp only
                  have b8 := below_past bz hn zz
                  clear y2 ya yb yaP ybP y2P
                  go_wp2_with fail
                  exact ⟨⟨r + 1, by omega, by go_num, b8⟩, by simp [intOf]; omega⟩
                · obtain rfl : r = nn := by omega
                  have gr : decide (r < r) = false := decide_eq_false (Nat.lt_irrefl r)
                  go_wp2_with fail
                  exact ⟨⟨k + 1, by omega, by go_num, OW7.below bz, DA7.kept bz, below_past BA7 bz HZ7.out⟩, by simp [intOf]; omega⟩
            · obtain rfl : k = n := by omega
              have gk : decide (k < k) = false := decide_eq_false (Nat.lt_irrefl k)
              go_wp2_with fail
              go_ret
              exact ⟨rfl, by rw [HB.out]; exact BA4⟩
        · have g0 : decide (i < l0) = true := decide_eq_true e0
          have g0i : (i : Int) < l0 := by omega
          have g1 : decide (i < l1) = false := decide_eq_false e1
          as_aux_lemma =>
          have HKI := Lib.hid KI
          have hbw : Below w.heap.size w wr := by rw [HB.out]; exact BA
          have hzr : B ≤ wr.heap.size := by have := DA.low; omega
          have hcr := dCrash_any B q d v3 keeps wr DA (HI3.out.at_ hbw (by rw [HB.out]; exact Nat.le_refl _)) (in_len HI3.out) (crash_few KI hi).1 (crash_few KI hi).2.1 (crash_few KI hi).2.2
          have HCR := Lib.hid hcr
          obtain ⟨hlen, heach⟩ := crash_is KI keeps
          have HEACH := Lib.hid heach
          obtain ⟨hcf1, hcf2⟩ := crashed_few KI hi keeps
          obtain ⟨n, hkn⟩ : ∃ n, ks.length = n := ⟨_, rfl⟩
          have hn20 : n ≤ 20 := by have := KI.count; omega
          obtain ⟨aok, capk, hx⟩ := OW.shape
          rw [hkn] at hx
          subst hx
          obtain ⟨D, hD⟩ : ∃ D, crashD d keeps = D := ⟨_, rfl⟩
          rw [hD] at HCR HEACH hlen hcf1 hcf2
          rw [hkn] at hlen
          have HLEN := Lib.hid hlen
          have HKN := Lib.hid hkn
          have HCF1 := Lib.hid hcf1
          have HCF2 := Lib.hid hcf2
          clear hbw hcr heach hcf1 hcf2 hlen DA KI hkn hD
          go_wp2_with fail
          refine HCR.out.mono ?_
          rintro e w2 ⟨rfl, DA2, x2⟩
          have OW2 := OwnKepts.stir x2 OW
          have BA2 := BA.trans x2.below
          have z2' : B ≤ w2.heap.size := Nat.le_trans hzr x2.size
          have HLI := Lib.hid (dList_any B q D w2 DA2 HCF1.out HCF2.out)
          clear HCR OW BA x2 hzr
          go_wp2_with fail
          refine HLI.out.mono ?_
          rintro e w3' ⟨lv, rfl, owl, b3'⟩
          obtain ⟨aol, capl, hlv⟩ := owl.shape
          rw [HLEN.out] at hlv
          subst hlv
          have OW3 := OW2.below b3'
          have DA3 := DA2.kept b3'
          have BA3 := below_past BA2 b3' z2'
          have gne : (n != n) = false := by simp
          clear HLI OW2 DA2 BA2 b3' owl z2'
          go_wp2_with fail
          go_loopw [160] (fun x wq => ∃ k : Nat, k ≤ n ∧ x = .int .i64 k ∧ OwnKepts wq B (.slice aok n capk) ks ∧ DiskAt B q D wq ∧ Below B w wq) (fun x _ => (n - intOf x).toNat)
          case atStart => exact ⟨0, Nat.zero_le _, rfl, OW3, DA3, BA3⟩
          case round =>
            obtain ⟨k, hk, rfl, OW4, DA4, BA4⟩ := hrel
            rename_i wq _
            clear OW3 DA3 BA3 gne
            by_cases hkn1 : k < n
            · as_aux_lemma =>
              have gk : decide (k < n) = true := decide_eq_true hkn1
              have gki : (k : Int) < n := by omega
              have hkk : k < ks.length := by have := HKN.out; omega
              obtain ⟨g, u, rfl, -, hBg, hgl, hou, c0, c1, c2, hf⟩ := OW4.cell hkk
              obtain ⟨aot, capt, rfl⟩ := hou.shape
              obtain ⟨c, hc1, hc2, hfe, hrd⟩ := HEACH.out _ (List.getElem_mem hkk)
              obtain ⟨nn, hn1, hn2, hall⟩ := kept_reads HKI.out (List.getElem_mem hkk) hc1 hc2
              obtain ⟨-, -, hidl, htl20⟩ := HKI.out.each _ (List.getElem_mem hkk)
              have hcat : (cat ks[k].texts).length ≤ 1000000 := kept_few HKI.out hi (List.getElem_mem hkk)
              generalize ks[k] = K1 at *
              obtain ⟨TX, hTX⟩ : ∃ TX, (cat K1.texts).take c = TX := ⟨_, rfl⟩
              rw [hTX] at hrd hall
              have htxl : TX.length ≤ 1000000 := by
                have h1 : TX.length ≤ (cat K1.texts).length := by rw [← hTX]; exact List.length_take_le' _ _
                have := hcat
                omega
              have HRE : Hid (∀ W, DiskAt B q D W → Calls Tryd.prog 13 #[.pointer (some ⟨q, 0, none⟩), .string (stx K1.id)] W fun e w' => e = .returned (.tuple #[.string (stx TX), .int .i64 0]) ∧ w' = W) := Lib.hid fun W h => by
                have := dRead_any B q D (stx K1.id) W h (by rw [stx_size]; omega)
                rw [show (stx K1.id).data.toList = K1.id from rfl, hfe, hrd] at this
                exact this
              obtain ⟨tl, htl⟩ : ∃ tl, K1.texts.length = tl := ⟨_, rfl⟩
              obtain ⟨sr, hsr⟩ : ∃ sr, K1.sure = sr := ⟨_, rfl⟩
              rw [htl] at hou c1 hn2 htl20
              have htl20 : tl ≤ 20 := Nat.le_trans htl20 hi
              rw [hsr] at c2 hn1
              have HTLK := Lib.hid htl
              have HTXL := Lib.hid htxl
              have HALL := Lib.hid hall
              have bA : Below wr.heap.size wr (wr.alloc (.cells #[.string (stx K1.id), .slice aot tl capt, .int .i64 sr] 37)) := (Below.refl _ _).alloc (Nat.le_refl _) _
              have r5 : rowAt (wr.alloc (.cells #[.string (stx K1.id), .slice aot tl capt, .int .i64 sr] 37)) wr.heap.size = some #[.string (stx K1.id), .slice aot tl capt, .int .i64 sr] := rowAt_alloc_at _ _ _ _ rfl
              have zr : B ≤ wr.heap.size := by have := DA4.low; omega
              have OW5 := OW4.below bA
              have DA5 := DA4.kept bA
              have BA5 := below_past BA4 bA zr
              have ou5 := hou.below bA
              have z5 : B ≤ (wr.alloc (.cells #[.string (stx K1.id), .slice aot tl capt, .int .i64 sr] 37)).heap.size := Nat.le_trans zr bA.size
              have gs1 : decide (nn < sr) = false := decide_eq_false (by omega)
              have gs2 : decide (tl < nn) = false := decide_eq_false (by omega)
              clear OW4 DA4 BA4 hou bA hfe hrd hTX hall htl hsr hidl hc1 hc2 hf hkk hcat htxl hBg
              go_wp2_with fail
              generalize wr.alloc (.cells #[.string (stx K1.id), .slice aot tl capt, .int .i64 sr] 37) = W5 at *
              refine (HRE.out _ DA5).mono ?_
              rintro e w6 ⟨rfl, rfl⟩
              have HAL := Lib.hid (All_any (stx TX) w6 (by rw [stx_size]; exact HTXL.out) (HT.out.below (by rw [HB.out]; exact BA5)))
              clear HRE c0 c1 c2
              go_wp2_with fail
              refine HAL.out.mono ?_
              rintro e w7 ⟨lv, rfl, ol, b7⟩
              rw [HALL.out] at ol
              obtain ⟨aol2, capl2, hlv⟩ := ol.shape
              rw [List.length_take, Nat.min_eq_left (by rw [HTLK.out]; exact hn2)] at hlv
              subst hlv
              have OW7 := OW5.below b7
              have DA7 := DA5.kept b7
              have BA7 := below_past BA5 b7 z5
              have ou7 := ou5.below b7
              have HZ7 := Lib.hid (Nat.le_trans z5 b7.size)
              have r7 := rowAt_past b7 r5
              have x1 := cell_of_rowAt r7 1
              have x2 := cell_of_rowAt r7 2
              clear HAL OW5 DA5 BA5 ou5 r5 b7 z5 r7
              generalize wr.heap.size = P5 at *
              go_wp2_with fail
              go_loopw [195] (fun x wz => ∃ r : Nat, r ≤ nn ∧ x = .int .i64 r ∧ Below w7.heap.size w7 wz) (fun x _ => (nn - intOf x).toNat)
              case atStart => exact ⟨0, Nat.zero_le _, rfl, Below.refl _ _⟩
              case round =>
                obtain ⟨r, hr, rfl, bz⟩ := hrel
                by_cases hrn : r < nn
                · as_aux_lemma =>
                  have gr : decide (r < nn) = true := decide_eq_true hrn
                  have gri : (r : Int) < nn := by omega
                  have grt : r < tl := by omega
                  have grti : (r : Int) < tl := by omega
                  have gr20 : (r : Int) < 20 := by omega
                  have hrt : r < K1.texts.length := by rw [HTLK.out]; exact grt
                  have x1' : w7.cell? ⟨P5, 1, none⟩ = some (.slice aot tl capt) := x1
                  obtain ⟨ga, rfl, ya⟩ := own_text (r := r) (ol.below bz) (by rw [List.length_take, HTLK.out]; omega)
                  obtain ⟨gb, rfl, yb⟩ := own_text (r := r) (ou7.below bz) hrt
                  rw [List.getElem_take] at ya
                  generalize K1.texts[r] = TT at *
                  clear ol ou7 OW7 DA7 BA7
                  have y2 := (bz.cell (p := ⟨P5, 1, none⟩) (cellLt x1')).trans x1'
                  have zz := bz.size
                  have gne2 : (TT != TT) = false := by simp
                  have yaP : ∀ x : Past wr, x.w.cell? ⟨ga, r, none⟩ = some (.string (stx TT)) := fun x => (x.cell (p := ⟨ga, r, none⟩) (cellLt ya)).trans ya
                  have ybP : ∀ x : Past wr, x.w.cell? ⟨gb, r, none⟩ = some (.string (stx TT)) := fun x => (x.cell (p := ⟨gb, r, none⟩) (cellLt yb)).trans yb
                  have y2P : ∀ x : Past wr, x.w.cell? ⟨P5, 1, none⟩ = some (.slice (some ⟨gb, 0, none⟩) tl capt) := fun x => (x.cell (p := ⟨P5, 1, none⟩) (cellLt y2)).trans y2
                  clear x1 x2 x1' HKI HEACH
                  go_wp2_with fail
                  refine wp_region_past (by kernel_rfl) (by kernel_rfl) ?_
                  repeat (go_big_quiet_step (fail))
                  refine wpQuiet_nil ?_
                  intro w2 hw2
                  obtain ⟨⟨wn, hn⟩, rfl⟩ := hw2
                  try dsimp only
                  have b8 := below_past bz hn zz
                  clear y2 ya yb yaP ybP y2P
                  go_wp2_with fail
                  exact ⟨⟨r + 1, by omega, by go_num, b8⟩, by simp [intOf]; omega⟩
                · obtain rfl : r = nn := by omega
                  have gr : decide (r < r) = false := decide_eq_false (Nat.lt_irrefl r)
                  go_wp2_with fail
                  exact ⟨⟨k + 1, by omega, by go_num, OW7.below bz, DA7.kept bz, below_past BA7 bz HZ7.out⟩, by simp [intOf]; omega⟩
            · obtain rfl : k = n := by omega
              have gk : decide (k < k) = false := decide_eq_false (Nat.lt_irrefl k)
              go_wp2_with fail
              go_ret
              exact ⟨rfl, by rw [HB.out]; exact BA4⟩
      · have g0 : decide (i < l0) = false := decide_eq_false e0
        as_aux_lemma =>
        have HKI := Lib.hid KI
        have hbw : Below w.heap.size w wr := by rw [HB.out]; exact BA
        have hzr : B ≤ wr.heap.size := by have := DA.low; omega
        have hcr := dCrash_any B q d v3 keeps wr DA (HI3.out.at_ hbw (by rw [HB.out]; exact Nat.le_refl _)) (in_len HI3.out) (crash_few KI hi).1 (crash_few KI hi).2.1 (crash_few KI hi).2.2
        have HCR := Lib.hid hcr
        obtain ⟨hlen, heach⟩ := crash_is KI keeps
        have HEACH := Lib.hid heach
        obtain ⟨hcf1, hcf2⟩ := crashed_few KI hi keeps
        obtain ⟨n, hkn⟩ : ∃ n, ks.length = n := ⟨_, rfl⟩
        have hn20 : n ≤ 20 := by have := KI.count; omega
        obtain ⟨aok, capk, hx⟩ := OW.shape
        rw [hkn] at hx
        subst hx
        obtain ⟨D, hD⟩ : ∃ D, crashD d keeps = D := ⟨_, rfl⟩
        rw [hD] at HCR HEACH hlen hcf1 hcf2
        rw [hkn] at hlen
        have HLEN := Lib.hid hlen
        have HKN := Lib.hid hkn
        have HCF1 := Lib.hid hcf1
        have HCF2 := Lib.hid hcf2
        clear hbw hcr heach hcf1 hcf2 hlen DA KI hkn hD
        go_wp2_with fail
        refine HCR.out.mono ?_
        rintro e w2 ⟨rfl, DA2, x2⟩
        have OW2 := OwnKepts.stir x2 OW
        have BA2 := BA.trans x2.below
        have z2' : B ≤ w2.heap.size := Nat.le_trans hzr x2.size
        have HLI := Lib.hid (dList_any B q D w2 DA2 HCF1.out HCF2.out)
        clear HCR OW BA x2 hzr
        go_wp2_with fail
        refine HLI.out.mono ?_
        rintro e w3' ⟨lv, rfl, owl, b3'⟩
        obtain ⟨aol, capl, hlv⟩ := owl.shape
        rw [HLEN.out] at hlv
        subst hlv
        have OW3 := OW2.below b3'
        have DA3 := DA2.kept b3'
        have BA3 := below_past BA2 b3' z2'
        have gne : (n != n) = false := by simp
        clear HLI OW2 DA2 BA2 b3' owl z2'
        go_wp2_with fail
        go_loopw [160] (fun x wq => ∃ k : Nat, k ≤ n ∧ x = .int .i64 k ∧ OwnKepts wq B (.slice aok n capk) ks ∧ DiskAt B q D wq ∧ Below B w wq) (fun x _ => (n - intOf x).toNat)
        case atStart => exact ⟨0, Nat.zero_le _, rfl, OW3, DA3, BA3⟩
        case round =>
          obtain ⟨k, hk, rfl, OW4, DA4, BA4⟩ := hrel
          rename_i wq _
          clear OW3 DA3 BA3 gne
          by_cases hkn1 : k < n
          · as_aux_lemma =>
            have gk : decide (k < n) = true := decide_eq_true hkn1
            have gki : (k : Int) < n := by omega
            have hkk : k < ks.length := by have := HKN.out; omega
            obtain ⟨g, u, rfl, -, hBg, hgl, hou, c0, c1, c2, hf⟩ := OW4.cell hkk
            obtain ⟨aot, capt, rfl⟩ := hou.shape
            obtain ⟨c, hc1, hc2, hfe, hrd⟩ := HEACH.out _ (List.getElem_mem hkk)
            obtain ⟨nn, hn1, hn2, hall⟩ := kept_reads HKI.out (List.getElem_mem hkk) hc1 hc2
            obtain ⟨-, -, hidl, htl20⟩ := HKI.out.each _ (List.getElem_mem hkk)
            have hcat : (cat ks[k].texts).length ≤ 1000000 := kept_few HKI.out hi (List.getElem_mem hkk)
            generalize ks[k] = K1 at *
            obtain ⟨TX, hTX⟩ : ∃ TX, (cat K1.texts).take c = TX := ⟨_, rfl⟩
            rw [hTX] at hrd hall
            have htxl : TX.length ≤ 1000000 := by
              have h1 : TX.length ≤ (cat K1.texts).length := by rw [← hTX]; exact List.length_take_le' _ _
              have := hcat
              omega
            have HRE : Hid (∀ W, DiskAt B q D W → Calls Tryd.prog 13 #[.pointer (some ⟨q, 0, none⟩), .string (stx K1.id)] W fun e w' => e = .returned (.tuple #[.string (stx TX), .int .i64 0]) ∧ w' = W) := Lib.hid fun W h => by
              have := dRead_any B q D (stx K1.id) W h (by rw [stx_size]; omega)
              rw [show (stx K1.id).data.toList = K1.id from rfl, hfe, hrd] at this
              exact this
            obtain ⟨tl, htl⟩ : ∃ tl, K1.texts.length = tl := ⟨_, rfl⟩
            obtain ⟨sr, hsr⟩ : ∃ sr, K1.sure = sr := ⟨_, rfl⟩
            rw [htl] at hou c1 hn2 htl20
            have htl20 : tl ≤ 20 := Nat.le_trans htl20 hi
            rw [hsr] at c2 hn1
            have HTLK := Lib.hid htl
            have HTXL := Lib.hid htxl
            have HALL := Lib.hid hall
            have bA : Below wr.heap.size wr (wr.alloc (.cells #[.string (stx K1.id), .slice aot tl capt, .int .i64 sr] 37)) := (Below.refl _ _).alloc (Nat.le_refl _) _
            have r5 : rowAt (wr.alloc (.cells #[.string (stx K1.id), .slice aot tl capt, .int .i64 sr] 37)) wr.heap.size = some #[.string (stx K1.id), .slice aot tl capt, .int .i64 sr] := rowAt_alloc_at _ _ _ _ rfl
            have zr : B ≤ wr.heap.size := by have := DA4.low; omega
            have OW5 := OW4.below bA
            have DA5 := DA4.kept bA
            have BA5 := below_past BA4 bA zr
            have ou5 := hou.below bA
            have z5 : B ≤ (wr.alloc (.cells #[.string (stx K1.id), .slice aot tl capt, .int .i64 sr] 37)).heap.size := Nat.le_trans zr bA.size
            have gs1 : decide (nn < sr) = false := decide_eq_false (by omega)
            have gs2 : decide (tl < nn) = false := decide_eq_false (by omega)
            clear OW4 DA4 BA4 hou bA hfe hrd hTX hall htl hsr hidl hc1 hc2 hf hkk hcat htxl hBg
            go_wp2_with fail
            generalize wr.alloc (.cells #[.string (stx K1.id), .slice aot tl capt, .int .i64 sr] 37) = W5 at *
            refine (HRE.out _ DA5).mono ?_
            rintro e w6 ⟨rfl, rfl⟩
            have HAL := Lib.hid (All_any (stx TX) w6 (by rw [stx_size]; exact HTXL.out) (HT.out.below (by rw [HB.out]; exact BA5)))
            clear HRE c0 c1 c2
            go_wp2_with fail
            refine HAL.out.mono ?_
            rintro e w7 ⟨lv, rfl, ol, b7⟩
            rw [HALL.out] at ol
            obtain ⟨aol2, capl2, hlv⟩ := ol.shape
            rw [List.length_take, Nat.min_eq_left (by rw [HTLK.out]; exact hn2)] at hlv
            subst hlv
            have OW7 := OW5.below b7
            have DA7 := DA5.kept b7
            have BA7 := below_past BA5 b7 z5
            have ou7 := ou5.below b7
            have HZ7 := Lib.hid (Nat.le_trans z5 b7.size)
            have r7 := rowAt_past b7 r5
            have x1 := cell_of_rowAt r7 1
            have x2 := cell_of_rowAt r7 2
            clear HAL OW5 DA5 BA5 ou5 r5 b7 z5 r7
            generalize wr.heap.size = P5 at *
            go_wp2_with fail
            go_loopw [195] (fun x wz => ∃ r : Nat, r ≤ nn ∧ x = .int .i64 r ∧ Below w7.heap.size w7 wz) (fun x _ => (nn - intOf x).toNat)
            case atStart => exact ⟨0, Nat.zero_le _, rfl, Below.refl _ _⟩
            case round =>
              obtain ⟨r, hr, rfl, bz⟩ := hrel
              by_cases hrn : r < nn
              · as_aux_lemma =>
                have gr : decide (r < nn) = true := decide_eq_true hrn
                have gri : (r : Int) < nn := by omega
                have grt : r < tl := by omega
                have grti : (r : Int) < tl := by omega
                have gr20 : (r : Int) < 20 := by omega
                have hrt : r < K1.texts.length := by rw [HTLK.out]; exact grt
                have x1' : w7.cell? ⟨P5, 1, none⟩ = some (.slice aot tl capt) := x1
                obtain ⟨ga, rfl, ya⟩ := own_text (r := r) (ol.below bz) (by rw [List.length_take, HTLK.out]; omega)
                obtain ⟨gb, rfl, yb⟩ := own_text (r := r) (ou7.below bz) hrt
                rw [List.getElem_take] at ya
                generalize K1.texts[r] = TT at *
                clear ol ou7 OW7 DA7 BA7
                have y2 := (bz.cell (p := ⟨P5, 1, none⟩) (cellLt x1')).trans x1'
                have zz := bz.size
                have gne2 : (TT != TT) = false := by simp
                have yaP : ∀ x : Past wr, x.w.cell? ⟨ga, r, none⟩ = some (.string (stx TT)) := fun x => (x.cell (p := ⟨ga, r, none⟩) (cellLt ya)).trans ya
                have ybP : ∀ x : Past wr, x.w.cell? ⟨gb, r, none⟩ = some (.string (stx TT)) := fun x => (x.cell (p := ⟨gb, r, none⟩) (cellLt yb)).trans yb
                have y2P : ∀ x : Past wr, x.w.cell? ⟨P5, 1, none⟩ = some (.slice (some ⟨gb, 0, none⟩) tl capt) := fun x => (x.cell (p := ⟨P5, 1, none⟩) (cellLt y2)).trans y2
                clear x1 x2 x1' HKI HEACH
                go_wp2_with fail
                refine wp_region_past (by kernel_rfl) (by kernel_rfl) ?_
                repeat (go_big_quiet_step (fail))
                refine wpQuiet_nil ?_
                intro w2 hw2
                obtain ⟨⟨wn, hn⟩, rfl⟩ := hw2
                try dsimp only
                have b8 := below_past bz hn zz
                clear y2 ya yb yaP ybP y2P
                go_wp2_with fail
                exact ⟨⟨r + 1, by omega, by go_num, b8⟩, by simp [intOf]; omega⟩
              · obtain rfl : r = nn := by omega
                have gr : decide (r < r) = false := decide_eq_false (Nat.lt_irrefl r)
                go_wp2_with fail
                exact ⟨⟨k + 1, by omega, by go_num, OW7.below bz, DA7.kept bz, below_past BA7 bz HZ7.out⟩, by simp [intOf]; omega⟩
          · obtain rfl : k = n := by omega
            have gk : decide (k < k) = false := decide_eq_false (Nat.lt_irrefl k)
            go_wp2_with fail
            go_ret
            exact ⟨rfl, by rw [HB.out]; exact BA4⟩
set_option maxRecDepth 100000 in
theorem lifted (os : Os) (started : os.Started) (H : Type) (enc : TypeId × Value → H) :
    ReturnsInHanded {} Tryd.checked os 3 .any (fun w args => (Rows.chirographKeptSpec.pre enc Tryd.prog Tryd.f3 [] false w args ∧ laidMetH Tryd.prog laidSeal w) ∧ sizedMet enc Tryd.prog Tryd.f3 (OpenSpec.ofChange Rows.chirographKeptSpec) false w args) (Rows.chirographKeptSpec.post enc Tryd.prog Tryd.f3 false true false false) := by
  refine returnsInHanded_of_change_and (C := Tryd.checked) (X := fun w _ => laidMetH Tryd.prog laidSeal w) (fun _ _ _ hh h => h.of_heap hh) own started (by kernel_rfl) Tryd.func3
    (ChangeSpec.witness_shaped (enc := enc) (C := Tryd.checked) (os := os) (X := fun w _ => laidMetH Tryd.prog laidSeal w) false (World.doorLaid Tryd.prog 2000 os) #[.slice none 0 0, .slice none 0 0, .slice none 0 0, .slice none 0 0] 8 rfl (World.shaped_of_RefB (by kernel_rfl) (by kernel_rfl)) (by kernel_rfl) (by kernel_rfl) (by kernel_rfl) (door_seal os _)) ?_
  intro W base args ds gs before hval0 hW _ _ hL _
  have hval : ∀ (j : Nat) t v, Tryd.f3.params[j]? = some t → args[j]? = some v → Value.okWide Tryd.prog W .any base t v := hval0
  clear hval0
  have hW' := hW
  obtain ⟨p, q, hA0, hV, rfl, hfz, hnd⟩ := hW
  have hA : DataW.TrodAll enc Tryd.prog W 0 (fun _ => true) true Tryd.f3.params.toList args.toList ds p := hA0
  rw [Tryd.params3] at hA hval
  clear hA0 hfz hnd hV
  have hr : Readable Tryd.f3.params.toList := by
    rw [Tryd.params3]
    exact readable_of_all (by kernel_rfl)
  have fin : ∀ W', Below W.heap.size W W' → Rows.chirographKeptSpec.post enc Tryd.prog Tryd.f3 false true false false W args (.bool true) W' := fun W' hb =>
    law_post rfl hW' hr (fun l hl => by
      rw [Tryd.params3] at hl
      match l, hl with
      | [d1, d2, d3, d4], _ => rfl) (by kernel_rfl) hb
  clear hW' hr
  have HT := tabs_of_laid hL
  obtain ⟨v0, v1, v2, v3, d0, d1, d2, d3, p0, p1, p2, p3, rfl, rfl, rfl, h0, h1, h2, h3⟩ := trodAll_four hA; obtain ⟨l0, S0, hs0⟩ := in_strs Tryd.underlying22 Tryd.underlying9 cellsOf_string (hval 0 22 v0 rfl rfl) h0; obtain ⟨l1, S1, hs1⟩ := in_strs Tryd.underlying22 Tryd.underlying9 cellsOf_string (hval 1 22 v1 rfl rfl) h1; obtain ⟨l2, Z2, hz2⟩ := in_bools Tryd.underlying23 Tryd.underlying4 cellsOf_bool (hval 2 23 v2 rfl rfl) h2; obtain ⟨k3, hk3⟩ := in_ints Tryd.underlying24 Tryd.underlying3 cellsOf_int (hval 3 24 v3 rfl rfl) h3
  exact (walk v0 v1 v2 v3 l0 l1 l2 S0 S1 Z2 k3 W hs0 hs1 hz2 hk3 HT).mono fun e W' ⟨he, hb⟩ => ⟨_, he, fin W' hb⟩
theorem row_holds : Rows.ChirographKeptSaid :=
  OpenClaim.holds_of_wide 3 Tryd.f3 rfl rfl rfl rfl rfl rfl rfl ⟨rfl, rfl, rfl, rfl, rfl⟩ rfl rfl rfl rfl rfl (by kernel_rfl) Tryd.func3 (by kernel_rfl)
    (of_decide_eq_true (by kernel_rfl)) (by unfold Func.isWrapper; first | (rw [if_pos (by decide +kernel)]; kernel_rfl) | (rw [if_neg (by decide +kernel)]; exact ⟨rfl, rfl⟩))
    (fun os started H enc _ => lifted os started H enc)
theorem proved : Rows.ChirographKeptCardSaid :=
  Claim7.holds_tied_plain_at .later [] [.data, .data] true _ false
    row_holds (fun _ h => by cases h) (by kernel_rfl) (fun _ h => by cases h) chirographKept_row_tie rfl ⟨rfl, rfl⟩ (by kernel_rfl) rfl
    (fun f fn hf hfn => by
      obtain rfl : f = 3 := Option.some.inj ((show Tryd.prog.funcNamed "chirograph/chirographtop.ChirographKept" = some 3 by kernel_rfl).symm.trans hf) |>.symm
      obtain rfl : fn = Tryd.f3 := (Option.some.inj (Tryd.func3.symm.trans hfn)).symm
      exact ⟨by kernel_rfl, fun j t ht => by
        rw [Tryd.params3] at ht
        have hm : t ∈ [22, 22, 23, 24] := by simpa using Array.mem_of_getElem? ht
        have hall : ([22, 22, 23, 24].all fun u => !Tryd.prog.wantsStandIn u) = true := by kernel_rfl
        exact (show Tryd.prog.wantsStandIn t = false by simpa using List.all_eq_true.1 hall t hm)⟩)
    (by kernel_rfl)
end Go.Proofs.YtpfonbpfmipdlaaDoor.kept
