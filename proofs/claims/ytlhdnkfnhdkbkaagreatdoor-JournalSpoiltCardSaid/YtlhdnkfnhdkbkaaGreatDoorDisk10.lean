/- Crash; Spoil. Conditions: none. -/
import Derived.Test.YtlhdnkfnhdkbkaaGreatDoorDisk9
namespace Go.Proofs.YtlhdnkfnhdkbkaaGreatDoor
open Go Go.RowKit Go.Maps
attribute [local go_sem] Oper.semAt_some

/-- A list of numbers that no call on a disk turns. -/
def IntsAt (B : Nat) (w : World) (v : Value) (ks : List Int) : Prop :=
  ∃ ao cap, v = .slice ao ks.length cap ∧ (∀ k ∈ ks, -9223372036854775808 ≤ k ∧ k ≤ 9223372036854775807) ∧ ∀ i, i < ks.length → ∃ a, ao = some a ∧ ∀ w', Stir B w w' → w'.cell? (a.add i) = some (.int .i64 (ks.getD i 0))
theorem IntsAt.nil (B : Nat) (w : World) : IntsAt B w (.slice none 0 0) [] := ⟨none, 0, rfl, (fun k hk => (by cases hk)), fun i hi => absurd hi (Nat.not_lt_zero i)⟩
theorem IntsAt.stir {B : Nat} {w w' : World} {v : Value} {ks : List Int} (h : IntsAt B w v ks) (s : Stir B w w') : IntsAt B w' v ks := by
  obtain ⟨ao, cap, h1, h2, h3⟩ := h
  refine ⟨ao, cap, h1, h2, fun i hi => ?_⟩
  obtain ⟨a, h4, h5⟩ := h3 i hi
  exact ⟨a, h4, fun w2 s2 => h5 w2 (s.trans s2)⟩
set_option maxRecDepth 100000 in
set_option maxHeartbeats 2000000 in
theorem dCrash_any (B b : Nat) (d : DDisk) (kv : Value) (ks : List Int) (w : World) (h0 : DiskAt B b d w) (hk : IntsAt B w kv ks) (hkl : ks.length ≤ 9223372036854775807) (hl : d.files.length ≤ 1000000000000) (hu : dUsed d.files ≤ 1000000000000) (hnl : ∀ f ∈ d.files, f.name.length ≤ 281474976710656) :
    Calls Tryz.prog 17 #[.pointer (some ⟨b, 0, none⟩), kv] w fun e w' => e = .returned (.tuple #[]) ∧ DiskAt B b (crashD d ks) w' ∧ Stir B w w' := by
  obtain ⟨m, left, D, G, V, h⟩ := h0
  have c2 : w.cell? ⟨b, 2, none⟩ = some (.int .i64 (dUsed d.files)) := (Lib.cell_of_heap h.row 2).trans rfl
  have f2 := Lib.frozen_of_heap h.row 2
  obtain ⟨i1, s1⟩ := h.toU.setUsed 2 (.int .i64 0) (u' := 0) (left' := left) (d' := d) rfl rfl rfl
  have c0 : (w.setCell ⟨b, 2, none⟩ (.int .i64 0)).cell? ⟨b, 0, none⟩ = some (.map (some m)) := (Lib.cell_of_heap i1.row 0).trans rfl
  have HN := Lib.hid (dnames_is b m D G d _ c0 i1.map i1.is i1.sorted hl)
  have HNL := Lib.hid (dNames_len 281474976710656 hnl)
  obtain ⟨N, hN⟩ : ∃ N, dNames d.files = N := ⟨_, rfl⟩
  have hNl : N.length = d.files.length := by rw [← hN]; simp [dNames]
  rw [hN] at HN HNL
  obtain ⟨n, hn⟩ : ∃ n, d.files.length = n := ⟨_, rfl⟩
  rw [hn] at hNl hl
  have HNN := Lib.hid hNl
  have HFN := Lib.hid hn
  have HNE := Lib.hid hN
  have hni : (n : Int) ≤ 1000000000000 := by omega
  have HU := Lib.hid hu
  have HS := Lib.hid h.sorted
  have HR := Lib.hid h.room
  obtain ⟨kao, kcap, rfl, hkr, hkc⟩ := hk
  have HKR := Lib.hid hkr
  have HKC := Lib.hid hkc
  have hkli : (ks.length : Int) ≤ 9223372036854775807 := by omega
  have H1 := Lib.hid i1
  have S1 := Lib.hid s1
  clear h i1 s1 c0 hN hNl hn hl hu hnl hkr hkc
  obtain ⟨kl, hkl2⟩ : ∃ kl, ks.length = kl := ⟨_, rfl⟩
  rw [hkl2] at hkl hkli HKC ⊢
  have HKL := Lib.hid hkl2
  clear hkl2
  go_enter Tryz.func17, Tryz.ntmps17
  go_wp2_with fail
  generalize w.setCell ⟨b, 2, none⟩ (.int .i64 0) = W1 at *
  refine HN.out.mono ?_
  rintro e w2 ⟨v, rfl, ow, b2⟩
  obtain ⟨ao, cap, hv⟩ := own_shape ow
  rw [HNN.out] at hv
  subst hv
  have i2 := H1.out.kept b2
  have s2 := S1.out.trans (Below.stir b2 H1.out.bB)
  have i3 : DiskU B b m (usedTo ks d.files 0) left D G V { d with files := crashTo ks d.files 0 } w2 := by
    rw [crashTo_zero]
    exact i2
  clear HN c2 f2 H1 S1 i2 b2
  generalize W1.heap.size = C at *
  go_wp2_with fail
  go_loopw [4, 14] (fun _ x wr => ∃ (i : Nat) (V' : List UInt8 → Value), i ≤ n ∧ x = .int .i64 i ∧ OwnStrs wr C (.slice ao n cap) N ∧ DiskU B b m (usedTo ks d.files i) left D G V' { d with files := crashTo ks d.files i } wr ∧ Stir B w wr) (fun _ x _ => (n - intOf x).toNat)
  case atStart => exact ⟨0, V, Nat.zero_le _, rfl, ow, i3, s2⟩
  case round =>
    obtain ⟨i, V', hi, rfl, o4, i4, s4⟩ := hrel
    clear ow i3 s2
    by_cases hlt : i < n
    · as_aux_lemma =>
      have hlt' : (i : Int) < n := by omega
      have hfi : i < d.files.length := by rw [HFN.out]; exact hlt
      obtain ⟨F, hF⟩ : ∃ F, d.files[i] = F := ⟨_, rfl⟩
      have hNi : N.getD i [] = F.name := by
        rw [← HNE.out, ← hF]
        simp [dNames, hfi]
      have o5 := o4
      unfold OwnStrs at o5
      rw [HNN.out] at o5
      obtain ⟨g, rfl, k1, _⟩ := own_cell o5 i hlt
      have hget : (strCells N)[i]? = some (.string (stx F.name)) := by
        rw [strCells, List.getElem?_map, List.getElem?_eq_getElem (by rw [HNN.out]; exact hlt)]
        have : N[i]'(by rw [HNN.out]; exact hlt) = F.name := by
          rw [← hNi, List.getD_eq_getElem?_getD, List.getElem?_eq_getElem (by rw [HNN.out]; exact hlt)]
          rfl
        rw [Option.map_some, this]
      rw [hget] at k1
      have hFm : F ∈ crashTo ks d.files i := by rw [← hF]; exact crashTo_at ks hfi
      have hFd : F ∈ d.files := by rw [← hF]; exact List.getElem_mem hfi
      have hnlF : F.name.length ≤ 281474976710656 := HNL.out _ (by rw [← HNE.out]; exact List.mem_map.2 ⟨F, hFd, rfl⟩)
      have hlook := look_file i4.map i4.is (stx F.name) (by rw [stx_size]; omega)
      unfold dPtrV at hlook
      rw [show (stx F.name).data.toList = F.name from rfl, dFind_mem i4.sorted hFm] at hlook
      simp only at hlook
      have c0 : wr.cell? ⟨b, 0, none⟩ = some (.map (some m)) := (Lib.cell_of_heap i4.row 0).trans rfl
      have hFu : F.bytes.length ≤ 1000000000000 := Nat.le_trans (dUsed_mem hFd) HU.out
      have hus : usedTo ks d.files (i + 1) = usedTo ks d.files i + (crashF F (keepAt ks i)).bytes.length := by rw [usedTo_succ ks hfi, hF]
      have hule : usedTo ks d.files (i + 1) ≤ 1000000000000 := Nat.le_trans (usedTo_le _ _ _) (Nat.le_trans (dUsed_take _ _) HU.out)
      obtain ⟨f', hf'⟩ : ∃ f', crashF F (keepAt ks i) = f' := ⟨_, rfl⟩
      have HC := Lib.hid (fCrash_any B (G F.name) (V' F.name) F (keepAt ks i) wr (i4.file F hFm) hFu)
      have HST : Hid (∀ w3 v', wr.grownBy w3 (some (G F.name)) → FileAt B (G F.name) v' f' w3 → v'.ownBlock = (V' F.name).ownBlock → DiskU B b m (usedTo ks d.files i) left D G (upd V' F.name v') { d with files := crashTo ks d.files (i + 1) } w3 ∧ Stir B wr w3) := Lib.hid fun w3 v' h1 h2 h3 => by
        have := i4.step hFm f' (by rw [← hf']; rfl) h1 v' h2 h3
        rw [crashTo_succ ks HS.out hfi, hF, hf']
        exact this
      rw [hf'] at hus HC
      generalize hkeep : keepAt ks i = keep at *
      have HKE := Lib.hid hkeep
      have HUS := Lib.hid hus
      have HULE := Lib.hid hule
      have S4 := Lib.hid s4
      have O4 := Lib.hid o4
      have hgG : ∃ q, G F.name = q := ⟨_, rfl⟩
      obtain ⟨q, hq⟩ := hgG
      rw [hq] at hlook HC HST
      clear o4 o5 i4 s4 hget hFm hFd hNi hnlF hFu hus hule hf' hF hkeep hfi hq
      by_cases hk0 : 0 < kl
      · have hk0' : decide (0 < kl) = true := decide_eq_true hk0
        have hk0i : (0 : Int) < kl := by omega
        obtain ⟨r, hr⟩ : ∃ r, i % kl = r := ⟨_, rfl⟩
        have hrl : r < kl := by rw [← hr]; exact Nat.mod_lt _ hk0
        have hri : (i : Int) % (kl : Int) = r := by rw [← hr]; exact (Int.natCast_emod i kl).symm
        have hrli : (r : Int) < kl := by omega
        obtain ⟨a, rfl, hcell⟩ := HKC.out r hrl
        have ck := hcell wr S4.out
        have hkv : ks.getD r 0 = keep := by
          rw [← HKE.out, keepAt, if_pos (by rw [HKL.out]; exact hk0), HKL.out, hr]
        rw [hkv] at ck
        clear hcell hkv hr
        go_wp2_with fail
        refine HC.out.mono ?_
        rintro e w3 ⟨rfl, v', k3, hob, hg3⟩
        obtain ⟨i5, s5⟩ := HST.out w3 v' hg3 k3 hob
        obtain ⟨ao', cap', rfl⟩ := own_shape k3.own
        have d0 := (Lib.cell_of_heap k3.row 0).trans (rfl : _ = some (Value.slice ao' f'.bytes.length cap'))
        have d2 : w3.cell? ⟨b, 2, none⟩ = some (.int .i64 (usedTo ks d.files i)) := (Lib.cell_of_heap i5.row 2).trans rfl
        have df := Lib.frozen_of_heap i5.row 2
        obtain ⟨u0, hu0⟩ : ∃ u0, usedTo ks d.files i = u0 := ⟨_, rfl⟩
        obtain ⟨fl, hfl⟩ : ∃ fl, f'.bytes.length = fl := ⟨_, rfl⟩
        have hsum : (u0 : Int) + fl ≤ 1000000000000 := by
          have := HULE.out
          rw [HUS.out, hu0, hfl] at this
          omega
        rw [hu0] at d2
        rw [hfl] at d0
        have H6 := Lib.hid (i5.setUsed 2 (.int .i64 ((u0 : Int) + fl)) (u' := usedTo ks d.files (i + 1)) (left' := left) (d' := { d with files := crashTo ks d.files (i + 1) }) (by rw [HUS.out, hu0, hfl]; rfl) rfl rfl)
        have S5 := Lib.hid (S4.out.trans s5)
        have O5 := Lib.hid (s5.strs O4.out)
        clear k1 hlook c0 HC HST i5 s5 k3 hob hg3 O4 S4 hu0 hfl ck
        go_wp2_with fail
        go_region
        go_wp2_with fail
        have h6 := H6.out.1.kept ((Below.refl _ _).drew)
        refine ⟨⟨i + 1, _, hlt, by go_num, H6.out.2.strs O5.out, h6, (S5.out.trans H6.out.2).trans (Below.stir ((Below.refl _ _).drew) H6.out.1.bB)⟩, by simp [intOf]; omega⟩
      · obtain rfl : kl = 0 := by omega
        have hkv : keep = 0 := by rw [← HKE.out, keepAt, if_neg (by rw [HKL.out]; decide)]
        subst hkv
        go_wp2_with fail
        refine HC.out.mono ?_
        rintro e w3 ⟨rfl, v', k3, hob, hg3⟩
        obtain ⟨i5, s5⟩ := HST.out w3 v' hg3 k3 hob
        obtain ⟨ao', cap', rfl⟩ := own_shape k3.own
        have d0 := (Lib.cell_of_heap k3.row 0).trans (rfl : _ = some (Value.slice ao' f'.bytes.length cap'))
        have d2 : w3.cell? ⟨b, 2, none⟩ = some (.int .i64 (usedTo ks d.files i)) := (Lib.cell_of_heap i5.row 2).trans rfl
        have df := Lib.frozen_of_heap i5.row 2
        obtain ⟨u0, hu0⟩ : ∃ u0, usedTo ks d.files i = u0 := ⟨_, rfl⟩
        obtain ⟨fl, hfl⟩ : ∃ fl, f'.bytes.length = fl := ⟨_, rfl⟩
        have hsum : (u0 : Int) + fl ≤ 1000000000000 := by
          have := HULE.out
          rw [HUS.out, hu0, hfl] at this
          omega
        rw [hu0] at d2
        rw [hfl] at d0
        have H6 := Lib.hid (i5.setUsed 2 (.int .i64 ((u0 : Int) + fl)) (u' := usedTo ks d.files (i + 1)) (left' := left) (d' := { d with files := crashTo ks d.files (i + 1) }) (by rw [HUS.out, hu0, hfl]; rfl) rfl rfl)
        have S5 := Lib.hid (S4.out.trans s5)
        have O5 := Lib.hid (s5.strs O4.out)
        clear k1 hlook c0 HC HST i5 s5 k3 hob hg3 O4 S4 hu0 hfl
        go_wp2_with fail
        go_region
        go_wp2_with fail
        have h6 := H6.out.1.kept ((Below.refl _ _).drew)
        refine ⟨⟨i + 1, _, hlt, by go_num, H6.out.2.strs O5.out, h6, (S5.out.trans H6.out.2).trans (Below.stir ((Below.refl _ _).drew) H6.out.1.bB)⟩, by simp [intOf]; omega⟩
    · obtain rfl : i = n := by omega
      have f3 := Lib.frozen_of_heap i4.row 3
      have f4 := Lib.frozen_of_heap i4.row 4
      have c3 : wr.cell? ⟨b, 3, none⟩ = some (.int .i64 left) := (Lib.cell_of_heap i4.row 3).trans rfl
      have c4 : wr.cell? ⟨b, 4, none⟩ = some (.bool d.dead) := (Lib.cell_of_heap i4.row 4).trans rfl
      obtain ⟨i5, s5⟩ := i4.setUsed 4 (.bool false) (u' := usedTo ks d.files i) (left' := left) (d' := { d with files := crashTo ks d.files i, dead := false }) rfl rfl rfl
      have c5 : (wr.setCell ⟨b, 4, none⟩ (.bool false)).cell? ⟨b, 3, none⟩ = some (.int .i64 left) := (Lib.cell_of_heap i5.row 3).trans rfl
      have f5 := Lib.frozen_of_heap i5.row 3
      obtain ⟨i6, s6⟩ := i5.setUsed 3 (.int .i64 (-1)) (u' := usedTo ks d.files i) (left' := -1) (d' := crashD d ks) rfl (by unfold crashD; rw [HFN.out]) rfl
      have i7 := Lib.hid (i6.toIs (by rw [← HFN.out, usedTo_all]; rfl) (fun _ => rfl) ⟨by decide, by decide⟩)
      have S7 := Lib.hid ((s4.trans s5).trans s6)
      clear i4 i5 i6 s4 s5 s6 o4
      go_wp2_with fail
      go_end0
      exact ⟨rfl, ⟨_, _, _, _, _, i7.out⟩, S7.out⟩
def spE (d : DDisk) (n : List UInt8) (at' : Int) : Int := match dFind d.files n with
  | none => 7
  | some f => if at' < 0 ∨ (f.bytes.length : Int) ≤ at' then 1 else 0
def xorAt (l : List UInt8) (i : Nat) (x : UInt8) : List UInt8 := l.set i (l.getD i 0 ^^^ x)
def spD (d : DDisk) (n : List UInt8) (at' : Int) (x : UInt8) : DDisk := if spE d n at' = 0 then { d with files := dPut ⟨n, xorAt (dBytes d.files n) at'.toNat x, dSure d.files n⟩ d.files } else d
theorem xor_u8 (a x : UInt8) : bits .xor .u8 (a.toNat : Int) (x.toNat : Int) = ((a ^^^ x).toNat : Int) := by
  have h : ∀ (c : Fin 256) (e : Fin 256), bits .xor .u8 (c.val : Int) (e.val : Int) = ((c.val ^^^ e.val : Nat) : Int) := by
    intro c e
    show IntKind.u8.wrap ((BitVec.ofInt 8 (c.val : Int) ^^^ BitVec.ofInt 8 (e.val : Int)).toNat : Int) = _
    rw [BitVec.toNat_xor]
    have h1 : (BitVec.ofInt 8 (c.val : Int)).toNat = c.val := by
      rw [BitVec.toNat_ofInt]
      have := c.isLt
      omega
    have h2 : (BitVec.ofInt 8 (e.val : Int)).toNat = e.val := by
      rw [BitVec.toNat_ofInt]
      have := e.isLt
      omega
    rw [h1, h2]
    have hx : c.val ^^^ e.val < 2 ^ 8 := Nat.xor_lt_two_pow c.isLt e.isLt
    show ((c.val ^^^ e.val : Nat) : Int) % 2 ^ IntKind.u8.bits = _
    rw [show (2 : Int) ^ IntKind.u8.bits = 256 from rfl]
    omega
  have := h ⟨a.toNat, a.toNat_lt⟩ ⟨x.toNat, x.toNat_lt⟩
  rw [UInt8.toNat_xor]
  exact this
set_option maxRecDepth 100000 in
set_option maxHeartbeats 1000000 in
theorem dSpoil_any (B b : Nat) (d : DDisk) (n : ByteArray) (at' : Int) (x : UInt8) (w : World) (h0 : DiskAt B b d w) (hn : n.size ≤ 9223372036854775807) :
    Calls Tryz.prog 24 #[.pointer (some ⟨b, 0, none⟩), .string n, .int .i64 at', .int .u8 (x.toNat : Int)] w fun e w' => e = .returned (.int .i64 (spE d n.data.toList at')) ∧ DiskAt B b (spD d n.data.toList at' x) w' ∧ Stir B w w' := by
  have H0 := Lib.hid h0
  obtain ⟨m, left, D, G, V, h⟩ := h0
  have c0 : w.cell? ⟨b, 0, none⟩ = some (.map (some m)) := (Lib.cell_of_heap h.row 0).trans rfl
  have hl := look_file h.map h.is n hn
  unfold dPtrV at hl
  unfold spD
  cases hf : dFind d.files n.data.toList with
  | none =>
    rw [hf] at hl
    simp only at hl
    have hE : spE d n.data.toList at' = 7 := by unfold spE; rw [hf]
    rw [hE, if_neg (by decide)]
    clear h hf hE
    go_enter Tryz.func24, Tryz.ntmps24
    go_wp2_with fail
    go_ret
    exact ⟨rfl, H0.out, Stir.refl _ _⟩
  | some f =>
    rw [hf] at hl
    simp only at hl
    obtain ⟨hm, hfn⟩ := dFind_some hf
    have hk := h.file f hm
    rw [hfn] at hk
    obtain ⟨ao, cap, hv⟩ := own_shape hk.own
    have d0 : w.cell? ⟨G n.data.toList, 0, none⟩ = some (.slice ao f.bytes.length cap) := by rw [← hv]; exact (Lib.cell_of_heap hk.row 0).trans rfl
    by_cases hneg : at' < 0
    · have hq : decide (at' < 0) = true := decide_eq_true hneg
      have hE : spE d n.data.toList at' = 1 := by unfold spE; rw [hf]; exact if_pos (.inl hneg)
      rw [hE, if_neg (by decide)]
      clear hE
      generalize G n.data.toList = g at *
      clear h hf hm hfn hk hv hneg
      go_enter Tryz.func24, Tryz.ntmps24
      go_wp2_with fail
      go_ret
      exact ⟨rfl, H0.out, Stir.refl _ _⟩
    · have hq : decide (at' < 0) = false := decide_eq_false hneg
      by_cases hbig : (f.bytes.length : Int) ≤ at'
      · have hq2 : decide ((f.bytes.length : Int) ≤ at') = true := decide_eq_true hbig
        have hE : spE d n.data.toList at' = 1 := by unfold spE; rw [hf]; exact if_pos (.inr hbig)
        rw [hE, if_neg (by decide)]
        clear hE
        generalize G n.data.toList = g at *
        generalize f.bytes.length = fl at *
        clear h hf hm hfn hk hv hneg hbig
        go_enter Tryz.func24, Tryz.ntmps24
        go_wp2_with fail
        go_ret
        exact ⟨rfl, H0.out, Stir.refl _ _⟩
      · have hE : spE d n.data.toList at' = 0 := by unfold spE; rw [hf]; exact if_neg (by omega)
        rw [hE, if_pos rfl]
        clear hE
        have hq2 : decide ((f.bytes.length : Int) ≤ at') = false := decide_eq_false hbig
        obtain ⟨i, rfl⟩ : ∃ i : Nat, at' = i := ⟨at'.toNat, by omega⟩
        have hi : i < f.bytes.length := by omega
        have hown := hk.own
        rw [hv] at hown
        obtain ⟨gb, rfl, k1, k2⟩ := own_cell hown i hi
        obtain ⟨a, ha⟩ : ∃ a, f.bytes.getD i 0 = a := ⟨_, rfl⟩
        have hget : (Lib.byteCells f.bytes)[i]? = some (.int .u8 (a.toNat : Int)) := by
          rw [← ha]
          simp [Lib.byteCells, hi]
        rw [hget] at k1
        have hx := xor_u8 a x
        have hab : (a.toNat : Int) < 256 := by have := a.toNat_lt; omega
        have hxb : (x.toNat : Int) < 256 := by have := x.toNat_lt; omega
        have HP : Hid (DiskAt B b { d with files := dPut ⟨n.data.toList, xorAt (dBytes d.files n.data.toList) (i : Int).toNat x, dSure d.files n.data.toList⟩ d.files } (w.setCell ⟨gb, i, none⟩ (.int .u8 ((a ^^^ x).toNat : Int))) ∧ Stir B w (w.setCell ⟨gb, i, none⟩ (.int .u8 ((a ^^^ x).toNat : Int)))) := Lib.hid (by
          have g1 := setCell_grown w gb i (.int .u8 ((a ^^^ x).toNat : Int))
          obtain ⟨cs, hb1, hb2⟩ := own_blk (k := gb) hown rfl
          have e1 : dBytes d.files n.data.toList = f.bytes := dBytes_some hf
          have e2 : dSure d.files n.data.toList = f.sure := by unfold dSure; rw [hf]
          have hlen : (xorAt f.bytes i x).length = f.bytes.length := by simp [xorAt]
          obtain ⟨es, c, hmb⟩ := h.mapB
          have hused : dUsed (dPut ⟨n.data.toList, xorAt f.bytes i x, f.sure⟩ d.files) = dUsed d.files := by
            have h1 := dUsed_put (f := ⟨n.data.toList, xorAt f.bytes i x, f.sure⟩) h.sorted
            have h2 : dLen d.files n.data.toList = f.bytes.length := by unfold dLen; rw [hf]
            simp only [h2, hlen] at h1
            omega
          rw [e1, e2, Int.toNat_natCast]
          have hoth : ∀ y ∈ d.files, y.name ≠ n.data.toList → (V y.name).ownBlock ≠ some gb := fun y hy hne hyg => by
            have := (h.apart y hy f hm (by rw [hfn]; exact hne)).2 gb hyg
            rw [hfn, hv] at this
            exact this rfl
          refine ⟨⟨m, left, D, G, _, h.putFile ⟨n.data.toList, xorAt f.bytes i x, f.sure⟩ (by rw [show (⟨n.data.toList, xorAt f.bytes i x, f.sure⟩ : DFile).name = n.data.toList from rfl, hf]; rfl) (V n.data.toList) ?_ ⟨?_, ?_, ?_, hk.low⟩ ?_ ?_ ?_⟩, Stir.grown g1 (fun q e => ?_) h.bB⟩
          · rw [hused]
            exact (Below.heap_setCell _ _ _ _ (fun e => blk_ne hb1 h.row (by decide) e.symm)).trans h.row
          · exact (Below.heap_setCell _ _ _ _ (fun e => blk_ne hb1 hk.row (by decide) e.symm)).trans hk.row
          · have := own_set hown (g := gb) rfl i (.int .u8 ((a ^^^ x).toNat : Int))
            rw [hv]
            show World.ownsRow _ _ _ _ _ (xorAt f.bytes i x).length (Lib.byteCells (xorAt f.bytes i x))
            rw [hlen]
            have e3 : Lib.byteCells (xorAt f.bytes i x) = (Lib.byteCells f.bytes).set i (.int .u8 ((a ^^^ x).toNat : Int)) := by
              unfold xorAt Lib.byteCells
              rw [ha, List.map_set]
            rw [e3]
            exact this
          · show f.sure ≤ (xorAt f.bytes i x).length
            rw [hlen]
            exact hk.sure
          · exact Below.heap_setCell _ _ _ _ (fun e => blk_ne_map hb1 hmb e.symm)
          · intro y hy hne
            exact (h.file y hy).kept g1 (fun e => blk_ne (h.file y hy).row hb1 (by decide) (by simpa using e)) (.inr (hoth y hy hne))
          · intro y hy hne q hq hq2
            rw [hv] at hq
            obtain rfl : gb = q := by simpa [Value.ownBlock] using hq
            exact hoth y hy hne hq2
          · obtain rfl : gb = q := by simpa using e
            exact ⟨hb2, notPlain_u8 hb1⟩)
        generalize G n.data.toList = g at *
        generalize f.bytes.length = fl at *
        have hii : (i : Int) < fl := by omega
        have ha0 : (0 : Int) ≤ (a.toNat : Int) := Int.natCast_nonneg _
        have hx0 : (0 : Int) ≤ (x.toNat : Int) := Int.natCast_nonneg _
        clear h hf hm hfn hk hv hneg hbig hown ha hget
        go_enter Tryz.func24, Tryz.ntmps24
        go_wp2_with fail
        go_ret
        exact ⟨rfl, HP.out.1, HP.out.2⟩
end Go.Proofs.YtlhdnkfnhdkbkaaGreatDoor
