/- For any text the law BlockReads returns true: the program's reader of blocks and the document's answer alike. Conditions: the listed tables are as the program lays them. -/
import Derived.Test.YtpdfchaamedeoaaDoorBlock8
import Derived.Test.YtpdfchaamedeoaaDoorRef2g
import Derived.Test.YtpdfchaamedeoaaDoorSealRef
import Derived.Test.YtpdfchaamedeoaaDoorBlockLaw
import Derived.Test.YtpdfchaamedeoaaDoorEnts4
import Derived.Test.YtpdfchaamedeoaaDoorTabs
import Derived.Test.YtpdfchaamedeoaaDoorTie
import Derived.Test.YtpdfchaamedeoaaDoorCards
import Derived.SevenTiedAt
namespace Go.Proofs.YtpdfchaamedeoaaDoor
open Go Go.RowKit

theorem takeE_ne3 {s : ByteArray} {e : Int} {n : Nat} (h : e ≠ 3) : takeE s e n ≠ 3 := by
  unfold takeE
  split
  · decide
  · exact h
theorem octE_ne3 {s : ByteArray} {e m : Int} (h : e ≠ 3) : octE s e m ≠ 3 := by
  unfold octE
  split
  · exact h
  · split
    · decide
    · split <;> decide
theorem numE_ne3 {s : ByteArray} {e : Int} (h : e ≠ 3) : numE s e ≠ 3 := by
  unfold numE
  split
  · decide
  · unfold numE0
    exact takeE_ne3 (octE_ne3 h)
theorem belE_ne3 {s : ByteArray} {e m : Int} (h : e ≠ 3) : belE s e m ≠ 3 := by
  unfold belE
  split
  · decide
  · exact numE_ne3 h
theorem textE_ne3 {s : ByteArray} {e : Int} (h : e ≠ 3) : textE s e ≠ 3 := by
  unfold textE
  exact takeE_ne3 (belE_ne3 h)
/-- A cursor in a block of its own. -/
def CurAt (b : Nat) (s R : ByteArray) (e : Int) (w : World) : Prop := w.heap[b]? = some (.cells #[.string s, .int .i64 (atOf s R), .int .i64 e] 82 (0, 0)) ∧ Suf s R
theorem CurAt.below {b : Nat} {s R : ByteArray} {e : Int} {w w' : World} (h : CurAt b s R e w) (k : Below w.heap.size w w') : CurAt b s R e w' :=
  ⟨(k.block b (heap_lt h.1)).trans h.1, h.2⟩
theorem CurAt.put {b : Nat} {s R R' : ByteArray} {e e' : Int} {w : World} (h : CurAt b s R e w) (hs : Suf s R') : CurAt b s R' e' (((w.setCell ⟨b, 0, none⟩ (.string s)).setCell ⟨b, 1, none⟩ (.int .i64 (atOf s R'))).setCell ⟨b, 2, none⟩ (.int .i64 e')) :=
  ⟨heap_put (heap_put (heap_put h.1 _) _) _, hs⟩
theorem OwnEnts.put {w : World} {C : Nat} {v : Value} {es : List Ent} (h : OwnEnts w C v es) {p : Addr} (hp : p.block < C) (u : Value) : OwnEnts (w.setCell p u) C v es :=
  ⟨h.1, h.2.imp id fun ⟨g, cap, cur, h1, h2, h3, h4⟩ => ⟨g, cap, cur, h1, h2, (Below.heap_setCell _ _ _ _ (by omega)).trans h3, h4⟩⟩
theorem OwnEnts.put3 {w : World} {b C : Nat} {v : Value} {es : List Ent} (h : OwnEnts w C v es) (hb : b < C) (x y z : Value) : OwnEnts (((w.setCell ⟨b, 0, none⟩ x).setCell ⟨b, 1, none⟩ y).setCell ⟨b, 2, none⟩ z) C v es :=
  ((h.put (p := ⟨b, 0, none⟩) hb x).put (p := ⟨b, 1, none⟩) hb y).put (p := ⟨b, 2, none⟩) hb z
theorem below_put3 {w w' : World} {B b : Nat} (h : Below B w w') (hb : B ≤ b) (x y z : Value) : Below B w (((w'.setCell ⟨b, 0, none⟩ x).setCell ⟨b, 1, none⟩ y).setCell ⟨b, 2, none⟩ z) :=
  ((h.setCell (p := ⟨b, 0, none⟩) hb x).setCell (p := ⟨b, 1, none⟩) hb y).setCell (p := ⟨b, 2, none⟩) hb z
theorem CurAt.grown {b C : Nat} {s R : ByteArray} {e : Int} {w w' : World} {v : Value} {es : List Ent} (h : CurAt b s R e w) (ho : OwnEnts w C v es) (hg : w.grownBy w' v.ownBlock) (hb : b < C) : CurAt b s R e w' :=
  ⟨(hg.block b (heap_lt h.1) (fun e => by have := (World.ownsRow.lt ho b e.symm).1; omega)).trans h.1, h.2⟩
theorem readB_big {T : List UInt8} (h : 256 < numV (txt T) 0) : (readB T).1 = 2 := by
  have h0 : numE (txt T) 0 = 0 := by
    by_cases k : numE (txt T) 0 = 0
    · exact k
    · rw [numV_errB _ _ k] at h
      exact absurd h (by decide)
  have b1 : belV (txt T) 0 257 = 0 := by rw [belV, if_pos ⟨h0, by omega⟩]
  have b2 : belE (txt T) 0 257 = 2 := by rw [belE, if_pos ⟨h0, by omega⟩]
  unfold readB
  rw [b1, b2]
  rfl
set_option maxRecDepth 100000 in
set_option maxHeartbeats 4000000 in
theorem r9Read_any (s : ByteArray) (w : World) (hs : s.size ≤ 1000000) : Calls Tryd.prog 21 #[.string s] w (ReadR w s.data.toList) := by
  have HO := Lib.hid (r4Open_any s w hs)
  unfold OpenR at HO
  obtain ⟨l, hl⟩ : ∃ l, s.data.toList = l := ⟨_, rfl⟩
  rw [hl] at HO ⊢
  clear hl hs
  by_cases hE : opE l = 0
  case neg =>
    have hR : readE l = opE l := by rw [readE, if_pos hE]
    have hN : opN l = 0 := by rw [opN, if_neg hE]
    rw [hN] at HO
    have HR := Lib.hid hR
    generalize opE l = x at *
    have p1 : (x != 0) = true := by rw [bne_iff_ne]; exact hE
    generalize stx (opS l) = so at *
    clear hR hN
    have HX := Lib.hid hE
    clear hE
    go_enter Tryd.func21, Tryd.ntmps21
    go_wp2_with fail
    refine HO.out.mono ?_
    rintro e w1 ⟨rfl, b1⟩
    clear HO
    go_wp2_with fail
    go_ret3
    exact readR_bad HR.out HX.out b1
  case pos =>
    have hR : readE l = (readB (opS l)).1 := by rw [readE, if_neg (by rw [hE]; simp)]
    have hLL : readE l = 0 → readL l = (readB (opS l)).2 := fun e => by rw [readL, if_pos e]
    have hNN : readE l = 0 → readN l = opN l := fun e => by rw [readN, if_pos e]
    have htl := opS_len l
    rw [hE] at HO
    obtain ⟨T, hT⟩ : ∃ T, opS l = T := ⟨_, rfl⟩
    rw [hT] at HO hR hLL htl
    have HR := Lib.hid hR
    have HLL := Lib.hid hLL
    have HNN := Lib.hid hNN
    clear hR hLL hNN hE hT
    obtain ⟨t, ht⟩ : ∃ t, stx T = t := ⟨_, rfl⟩
    have htz : t.size ≤ 65536 := by rw [← ht, stx_size]; exact htl
    have HTZ : Hid (t.size ≤ 281474976710656) := Lib.hid (by omega)
    have HOP := Lib.hid (fun w => r2Open_any t w)
    rw [if_pos htz] at HOP
    have HNU := Lib.hid (fun w => RN_all t t 0 w (suf_self t) (fun _ => HTZ.out))
    have HSU := Lib.hid (suf_num (suf_self t) 0)
    have hsz : (numS t 0).size ≤ 65536 := Nat.le_trans (numS_sz _ _) htz
    have hN0 := numV_nonneg t 0
    have HE3 := Lib.hid (numE_ne3 (s := t) (e := 0) (by decide))
    rw [ht] at HO
    unfold curV at HOP HNU
    by_cases hbig : 256 < numV t 0
    · have HB := Lib.hid (readB_big (T := T) (by rw [show txt T = t from ht]; exact hbig))
      generalize numV t 0 = N at *
      generalize numE t 0 = E0 at *
      generalize numS t 0 = S1 at *
      clear hsz hN0 HE3 HSU
      go_enter Tryd.func21, Tryd.ntmps21
      go_wp2_with fail
      refine HO.out.mono ?_
      rintro e w1 ⟨rfl, b1⟩
      clear HO
      go_wp2_with fail
      refine (HOP.out _).mono ?_
      rintro e w2 ⟨rfl, b2⟩
      have b3 := below_past b1 b2 b1.size
      clear HOP b1 b2
      go_wp2_with fail
      refine (HNU.out _).mono ?_
      rintro e w3 ⟨rfl, b2⟩
      have b4 := below_past b3 b2 b3.size
      have b5 := b4.alloc b4.size (.cells #[.string t, .int .i64 (atOf t S1), .int .i64 E0] 82)
      clear HNU b3 b2 b4
      go_wp2_with fail
      go_ret3
      exact readR_bad (x := 2) (HR.out.trans HB.out) (by decide) b5
    · have hnb : ¬ 257 ≤ numV t 0 := by omega
      obtain ⟨q1, q2⟩ := bel_of (s := t) (e := 0) (m := 257) hnb
      have HRB : Hid (readB T = (let r := rdsB (numV t 0).toNat (numS t 0) (numE t 0) []; let d := doneR r.rest r.err; if r.fail ≠ 0 then (r.fail, []) else if d ≠ 0 then (d, []) else if checkB r.list ≠ 0 then ((checkB r.list : Int), []) else (0, r.list))) := Lib.hid (by
        unfold readB
        rw [show txt T = t from ht, q1, q2])
      have HEN : Hid (numE t 0 = 0 ∨ numV t 0 = 0) := Lib.hid (by
        by_cases k : numE t 0 = 0
        · exact .inl k
        · exact .inr (numV_errB _ _ k))
      clear q1 q2 hnb
      obtain ⟨n, hn⟩ : ∃ n : Nat, numV t 0 = n := ⟨(numV t 0).toNat, by omega⟩
      rw [hn] at HNU HRB HEN hbig
      rw [Int.toNat_natCast] at HRB
      have hn3 : (n : Int) ≤ 256 := by omega
      have hn4 : ¬ (256 : Int) < n := by omega
      have hn5 : decide (256 < n) = false := decide_eq_false (by omega)
      clear hn hN0 hbig ht htl
      generalize numE t 0 = E1 at *
      generalize numS t 0 = S1 at *
      obtain ⟨RR, hRR⟩ : ∃ RR, rdsB n S1 E1 [] = RR := ⟨_, rfl⟩
      have H0 : Hid (RR = behindB [] (rdsB (n - 0) S1 E1 [])) := Lib.hid (by rw [behindB_nil, ← hRR]; rfl)
      rw [hRR] at HRB
      clear hRR
      go_enter Tryd.func21, Tryd.ntmps21
      go_wp2_with fail
      refine HO.out.mono ?_
      rintro e w1 ⟨rfl, b1⟩
      clear HO
      go_wp2_with fail
      refine (HOP.out _).mono ?_
      rintro e w2 ⟨rfl, b2⟩
      have b3 := below_past b1 b2 b1.size
      clear HOP b1 b2
      go_wp2_with fail
      refine (HNU.out _).mono ?_
      rintro e w3 ⟨rfl, b2⟩
      have b4 := below_past b3 b2 b3.size
      have bq : Below w3.heap.size w3 ((w3.alloc (.cells #[.string t, .int .i64 (atOf t S1), .int .i64 E1] 82)).alloc (.cells #[] 42)) := ((Below.refl _ _).alloc (Nat.le_refl _) _).alloc (by simp only [World.size_alloc]; omega) _
      have k5 : CurAt w3.heap.size t S1 E1 ((w3.alloc (.cells #[.string t, .int .i64 (atOf t S1), .int .i64 E1] 82)).alloc (.cells #[] 42)) := ⟨(((Below.refl _ _).alloc (Nat.le_refl _) _).block _ (by simp only [World.size_alloc]; omega)).trans (heap_alloc_new w3 _), HSU.out⟩
      have o5 : OwnEnts ((w3.alloc (.cells #[.string t, .int .i64 (atOf t S1), .int .i64 E1] 82)).alloc (.cells #[] 42)) (w3.heap.size + 1) (.slice (some ⟨w3.heap.size + 1, 0, none⟩) 0 0) [] := ownEnts_new _ _ _ (by simp only [World.size_alloc]) (Nat.le_refl _)
      have b5 := below_past b4 bq b4.size
      have hwb := b4.size
      clear HNU b3 b2 b4 bq
      go_wp2_with fail
      generalize ((w3.alloc (.cells #[.string t, .int .i64 (atOf t S1), .int .i64 E1] 82)).alloc (.cells #[] 42)) = W3 at *
      generalize w3.heap.size = b at *
      go_loopw [10, 11, 12] (fun u y x wr => ∃ (i : Nat) (K : List UInt8) (L : List Ent) (R : ByteArray) (e1 : Int), i ≤ n ∧ x = .int .i64 i ∧ y = .string (stx K) ∧ Hid (RR = behindB L (rdsB (n - i) R e1 K)) ∧ Hid (K.length + R.size ≤ 65536 ∧ L.length = i ∧ ∀ z ∈ L, z.key.length ≤ 65536 ∧ z.val.length ≤ 65536) ∧ Hid (e1 = 0 ∨ i = n) ∧ OwnEnts wr (b + 1) u L ∧ CurAt b t R e1 wr ∧ Below w.heap.size w wr) (fun _ _ x _ => (n - intOf x).toNat)
      case atStart => exact ⟨0, [], [], S1, E1, Nat.zero_le _, rfl, rfl, H0, Lib.hid ⟨by simpa using hsz, rfl, by simp⟩, Lib.hid (HEN.out.imp id (fun h => by omega)), o5, k5, b5⟩
      case round =>
        obtain ⟨i, K, L, R, e1, hi, rfl, rfl, HI, HSZ, HE, o, k, d⟩ := hrel
        clear H0 hsz o5 k5 b5 HSU HEN HE3
        by_cases hlt : i < n
        · have hlt' : (i : Int) < n := by omega
          obtain rfl : e1 = 0 := HE.out.resolve_right (by omega)
          obtain ⟨m, hm⟩ : ∃ m, n - i = m + 1 := ⟨n - i - 1, by omega⟩
          have hm2 : n - (i + 1) = m := by omega
          have HOK : Hid ((rdB R 0 K).fail = 0 → RR = behindB (L ++ [(rdB R 0 K).ent]) (rdsB (n - (i + 1)) (rdB R 0 K).rest (rdB R 0 K).err (rdB R 0 K).ent.key)) := Lib.hid fun e => by rw [HI.out, hm, hm2]; exact behindB_ok e
          have HBAD : Hid ((rdB R 0 K).fail ≠ 0 → RR.fail = (rdB R 0 K).fail) := Lib.hid fun e => by rw [HI.out, hm]; exact behindB_bad e
          have HSY := Lib.hid (rdB_sz R 0 K)
          obtain ⟨Q, hQ⟩ : ∃ Q, rdB R 0 K = Q := ⟨_, rfl⟩
          have hU := hQ
          unfold rdB at hU
          simp only at hU
          rw [hQ] at HOK HBAD HSY
          clear hQ HI hm hm2 HE m
          have hSf := k.2
          have HN1 := Lib.hid (fun w => RN_all t R 0 w hSf (fun _ => HTZ.out))
          have HS1 := Lib.hid (suf_num hSf 0)
          have HT2 := Lib.hid (fun w => r2Text_all t (numS R 0) (numE R 0) w HS1.out (fun _ => HTZ.out))
          have HS2 := Lib.hid (suf_text HS1.out (numE R 0))
          have HF3 := Lib.hid (fun w => r2Flag_all t (textR (numS R 0) (numE R 0)) (textE (numS R 0) (numE R 0)) w HS2.out (fun _ => HTZ.out))
          have HS3 := Lib.hid (suf_take HS2.out (textE (numS R 0) (numE R 0)) 1)
          have HT4 := Lib.hid (fun w => r2Text_all t (takeR (textR (numS R 0) (numE R 0)) (textE (numS R 0) (numE R 0)) 1) (octE (textR (numS R 0) (numE R 0)) (textE (numS R 0) (numE R 0)) 1) w HS3.out (fun _ => HTZ.out))
          have HS4 := Lib.hid (suf_text HS3.out (octE (textR (numS R 0) (numE R 0)) (textE (numS R 0) (numE R 0)) 1))
          have HC1 := Lib.hid (textE_ne3 (s := numS R 0) (numE_ne3 (s := R) (e := 0) (by decide)))
          have HC3 := Lib.hid (octE_ne3 (s := textR (numS R 0) (numE R 0)) (m := 1) HC1.out)
          have HC4 := Lib.hid (textE_ne3 (s := takeR (textR (numS R 0) (numE R 0)) (textE (numS R 0) (numE R 0)) 1) HC3.out)
          unfold curV at HN1 HT2 HF3 HT4
          have hv0 := numV_nonneg R 0
          have hv1 := numV_top R 0
          have HTS := Lib.hid (textV_size (numS R 0) (numE R 0))
          clear hSf HC1
          generalize numV R 0 = N at *
          generalize textV (numS R 0) (numE R 0) = T1 at *
          generalize textR (numS R 0) (numE R 0) = R2 at *
          generalize textE (numS R 0) (numE R 0) = x2 at *
          generalize numS R 0 = R1 at *
          generalize numE R 0 = x1 at *
          generalize flagV R2 x2 = g at *
          generalize textV (takeR R2 x2 1) (octE R2 x2 1) = v at *
          generalize textR (takeR R2 x2 1) (octE R2 x2 1) = R4 at *
          generalize textE (takeR R2 x2 1) (octE R2 x2 1) = x4 at *
          generalize takeR R2 x2 1 = R3 at *
          generalize octE R2 x2 1 = x3 at *
          obtain ⟨la, hla⟩ : ∃ la, K.length = la := ⟨_, rfl⟩
          have hKz : (stx K).size = la := by rw [stx_size, hla]
          have hla1 : (la : Int) ≤ 1000000 := by have := HSZ.out.1; omega
          rw [hla] at hU
          have HQ0 := Lib.hid hU
          clear hU
          have s0 := (Lib.cell_of_heap k.1 0).trans (rfl : _ = some (Value.string t))
          have s1 := (Lib.cell_of_heap k.1 1).trans (rfl : _ = some (Value.int .i64 (atOf t R)))
          have s2 := (Lib.cell_of_heap k.1 2).trans (rfl : _ = some (Value.int .i64 0))
          go_wp2_with fail
          refine (HN1.out _).mono ?_
          rintro e wn ⟨rfl, bb⟩
          have k2 := k.below bb
          have o2 := o.below bb
          have d2 := below_past d bb d.size
          clear s0 s1 s2 bb k o d HN1
          have s0 := (Lib.cell_of_heap k2.1 0).trans (rfl : _ = some (Value.string t))
          have s1 := (Lib.cell_of_heap k2.1 1).trans (rfl : _ = some (Value.int .i64 (atOf t R)))
          have s2 := (Lib.cell_of_heap k2.1 2).trans (rfl : _ = some (Value.int .i64 0))
          have z0 := Lib.frozen_of_heap k2.1 0
          have z1 := Lib.frozen_of_heap k2.1 1
          have z2 := Lib.frozen_of_heap k2.1 2
          have k := k2.put (R' := R1) (e' := x1) HS1.out
          have o := o2.put3 (Nat.lt_succ_self b) (.string t) (.int .i64 (atOf t R1)) (.int .i64 x1)
          have d := below_put3 d2 hwb (.string t) (.int .i64 (atOf t R1)) (.int .i64 x1)
          clear k2 o2 d2
          go_upto_region 14 with fail
          generalize (((wn.setCell ⟨b, 0, none⟩ (.string t)).setCell ⟨b, 1, none⟩ (.int .i64 (atOf t R1))).setCell ⟨b, 2, none⟩ (.int .i64 x1)) = wm at *
          clear s0 s1 s2 z0 z1 z2
          have s0 := (Lib.cell_of_heap k.1 0).trans (rfl : _ = some (Value.string t))
          have s1 := (Lib.cell_of_heap k.1 1).trans (rfl : _ = some (Value.int .i64 (atOf t R1)))
          have s2 := (Lib.cell_of_heap k.1 2).trans (rfl : _ = some (Value.int .i64 x1))
          go_wp2_with fail
          refine (HT2.out _).mono ?_
          rintro e wn ⟨rfl, bb⟩
          have k2 := k.below bb
          have o2 := o.below bb
          have d2 := below_past d bb d.size
          clear s0 s1 s2 bb k o d HT2
          have s0 := (Lib.cell_of_heap k2.1 0).trans (rfl : _ = some (Value.string t))
          have s1 := (Lib.cell_of_heap k2.1 1).trans (rfl : _ = some (Value.int .i64 (atOf t R1)))
          have s2 := (Lib.cell_of_heap k2.1 2).trans (rfl : _ = some (Value.int .i64 x1))
          have z0 := Lib.frozen_of_heap k2.1 0
          have z1 := Lib.frozen_of_heap k2.1 1
          have z2 := Lib.frozen_of_heap k2.1 2
          have k := k2.put (R' := R2) (e' := x2) HS2.out
          have o := o2.put3 (Nat.lt_succ_self b) (.string t) (.int .i64 (atOf t R2)) (.int .i64 x2)
          have d := below_put3 d2 hwb (.string t) (.int .i64 (atOf t R2)) (.int .i64 x2)
          clear k2 o2 d2
          go_upto_region 15 with fail
          generalize (((wn.setCell ⟨b, 0, none⟩ (.string t)).setCell ⟨b, 1, none⟩ (.int .i64 (atOf t R2))).setCell ⟨b, 2, none⟩ (.int .i64 x2)) = wm at *
          clear s0 s1 s2 z0 z1 z2
          have s0 := (Lib.cell_of_heap k.1 0).trans (rfl : _ = some (Value.string t))
          have s1 := (Lib.cell_of_heap k.1 1).trans (rfl : _ = some (Value.int .i64 (atOf t R2)))
          have s2 := (Lib.cell_of_heap k.1 2).trans (rfl : _ = some (Value.int .i64 x2))
          go_wp2_with fail
          refine (HF3.out _).mono ?_
          rintro e wn ⟨rfl, bb⟩
          have k2 := k.below bb
          have o2 := o.below bb
          have d2 := below_past d bb d.size
          clear s0 s1 s2 bb k o d HF3
          have s0 := (Lib.cell_of_heap k2.1 0).trans (rfl : _ = some (Value.string t))
          have s1 := (Lib.cell_of_heap k2.1 1).trans (rfl : _ = some (Value.int .i64 (atOf t R2)))
          have s2 := (Lib.cell_of_heap k2.1 2).trans (rfl : _ = some (Value.int .i64 x2))
          have z0 := Lib.frozen_of_heap k2.1 0
          have z1 := Lib.frozen_of_heap k2.1 1
          have z2 := Lib.frozen_of_heap k2.1 2
          have k := k2.put (R' := R3) (e' := x3) HS3.out
          have o := o2.put3 (Nat.lt_succ_self b) (.string t) (.int .i64 (atOf t R3)) (.int .i64 x3)
          have d := below_put3 d2 hwb (.string t) (.int .i64 (atOf t R3)) (.int .i64 x3)
          clear k2 o2 d2
          go_upto_region 16 with fail
          generalize (((wn.setCell ⟨b, 0, none⟩ (.string t)).setCell ⟨b, 1, none⟩ (.int .i64 (atOf t R3))).setCell ⟨b, 2, none⟩ (.int .i64 x3)) = wm at *
          clear s0 s1 s2 z0 z1 z2
          cases g with
          | true =>
            have HQ : Hid (Q = _) := Lib.hid HQ0.out.symm
            simp only [if_true] at HQ
            have HE4 := HC3
            clear HQ0 HT4 HC3 HC4 HS4 HS1 HS2
            go_upto_region 18 with fail
            by_cases hx : x3 = 0
            case neg =>
              have hq : Q.fail = x3 := by rw [HQ.out, if_pos ⟨hx, HE4.out⟩]
              have hF : RR.fail = x3 := (HBAD.out (by rw [hq]; exact hx)).trans hq
              have HR1 : Hid (readE l = x3) := Lib.hid (by rw [HR.out, HRB.out, if_pos (by rw [hF]; exact hx)]; exact hF)
              have HX := Lib.hid hx
              have p1 : (x3 != 0) = true := by rw [bne_iff_ne]; exact hx
              have HD := Lib.hid (fun w => r2Done_any t R3 x3 w HS3.out)
              rw [show (if x3 = 0 ∧ (R3).size ≠ 0 then (3 : Int) else x3) = x3 from if_neg (fun q => hx q.1)] at HD
              unfold curV at HD
              clear hq hF hx HQ HBAD HOK HE4
              have s0 := (Lib.cell_of_heap k.1 0).trans (rfl : _ = some (Value.string t))
              have s1 := (Lib.cell_of_heap k.1 1).trans (rfl : _ = some (Value.int .i64 (atOf t R3)))
              have s2 := (Lib.cell_of_heap k.1 2).trans (rfl : _ = some (Value.int .i64 x3))
              go_wp2_with fail
              refine (HD.out _).mono ?_
              rintro e w9 ⟨rfl, bb⟩
              have d2 := below_past d bb d.size
              clear s0 s1 s2 bb k o d HD
              go_wp2_with fail
              go_ret3
              exact readR_bad HR1.out HX.out d2
            case pos =>
              subst hx
              have HQ1 := Lib.hid (HQ.out.trans (if_neg (fun q => q.1 rfl)))
              clear HQ HE4
              have s0 := (Lib.cell_of_heap k.1 0).trans (rfl : _ = some (Value.string t))
              have s1 := (Lib.cell_of_heap k.1 1).trans (rfl : _ = some (Value.int .i64 (atOf t R3)))
              have s2 := (Lib.cell_of_heap k.1 2).trans (rfl : _ = some (Value.int .i64 0))
              by_cases h1 : (la : Int) < N
              case pos =>
                have h1d : decide ((la : Int) < N) = true := decide_eq_true h1
                have hq : Q.fail = 3 := by rw [HQ1.out, if_pos h1]
                have hF : RR.fail = 3 := (HBAD.out (by rw [hq]; decide)).trans hq
                have HR1 : Hid (readE l = 3) := Lib.hid (by rw [HR.out, HRB.out, if_pos (by rw [hF]; decide)]; exact hF)
                clear hq hF HQ1 HBAD HOK
                go_wp2_with fail
                go_ret3
                exact readR_bad HR1.out (by decide) d
              case neg =>
                have h1d : decide ((la : Int) < N) = false := decide_eq_false h1
                have HQ2 := Lib.hid (HQ1.out.trans (if_neg h1))
                clear HQ1
                obtain ⟨m, rfl⟩ : ∃ m : Nat, N = m := ⟨N.toNat, by omega⟩
                have hml : m ≤ la := by omega
                have hml' : (m : Int) ≤ la := by omega
                have hmin : min (m : Int) la = m := by omega
                rw [Int.toNat_natCast] at HQ2
                have HEX : Hid ((stx K).extract 0 m ++ T1 = stx (K.take m ++ T1.data.toList)) := Lib.hid (by
                  rw [show T1 = stx T1.data.toList from rfl, show (stx K).extract 0 m = stx (K.take m) from by
                    apply ByteArray.ext
                    rw [ByteArray.data_extract]
                    apply Array.toList_inj.1
                    simp [List.extract_eq_take_drop]]
                  exact stx_append _ _)
                have hts : (T1.size : Int) ≤ 65536 := by have := HTS.out; omega
                have hes : (((stx K).extract 0 m).size : Int) ≤ 1000000 := by
                  rw [ByteArray.size_extract]
                  omega
                have hkl : (K.take m ++ T1.data.toList).length ≤ 1100000 := by
                  rw [List.length_append, List.length_take]
                  have : T1.data.toList.length = T1.size := rfl
                  have := HTS.out
                  omega
                have HCM := Lib.hid (fun w => r9Common_any K (K.take m ++ T1.data.toList) w (by rw [hla]; omega) (by omega))
                have hcl := (commonB_le K (K.take m ++ T1.data.toList)).1
                have hge : m ≤ commonB K (K.take m ++ T1.data.toList) := commonB_ge m K _ (by omega) (by rw [List.length_append, List.length_take]; omega) (by rw [List.take_append_of_le_length (by rw [List.length_take]; omega), List.take_take, Nat.min_self])
                obtain ⟨J, hJ⟩ : ∃ J, K.take m ++ T1.data.toList = J := ⟨_, rfl⟩
                rw [hJ] at HQ2 HEX HCM hcl hge
                obtain ⟨C, hC⟩ : ∃ C, commonB K J = C := ⟨_, rfl⟩
                rw [hC] at HQ2 HCM hcl hge
                have hC1 : (C : Int) ≤ 1000000 := by omega
                have hca := HEX.out
                clear h1 hkl hJ hC HEX hv0 hv1
                by_cases h2 : C = m
                case neg =>
                  have hq : Q.fail = 3 := by rw [HQ2.out, if_pos (by omega)]
                  have hF : RR.fail = 3 := (HBAD.out (by rw [hq]; decide)).trans hq
                  have HR1 : Hid (readE l = 3) := Lib.hid (by rw [HR.out, HRB.out, if_pos (by rw [hF]; decide)]; exact hF)
                  have p2 : ((C : Int) != (m : Int)) = true := by rw [bne_iff_ne]; omega
                  have p3 : (C != m) = true := by rw [bne_iff_ne]; exact h2
                  clear hq hF HQ2 HBAD HOK h2
                  go_wp2_with fail
                  refine (HCM.out _).mono ?_
                  rintro e w9 ⟨rfl, bb⟩
                  have d2 := below_past d bb d.size
                  clear s0 s1 s2 bb k o d HCM
                  go_wp2_with fail
                  go_ret3
                  exact readR_bad HR1.out (by decide) d2
                case pos =>
                  subst h2
                  have hq : Q = ⟨0, ⟨J, ((⟨#[]⟩ : ByteArray)).data.toList, true⟩, R3, 0⟩ := HQ2.out.trans (if_neg (by omega))
                  have HOK2 := Lib.hid (HOK.out (by rw [hq]))
                  have HS2 := HSY.out
                  rw [hq] at HOK2 HS2
                  simp only at HOK2 HS2
                  have HSZ2 : Hid (J.length + (R3).size ≤ 65536 ∧ (L ++ [(⟨J, ((⟨#[]⟩ : ByteArray)).data.toList, true⟩ : Ent)]).length = i + 1 ∧ ∀ z ∈ L ++ [(⟨J, ((⟨#[]⟩ : ByteArray)).data.toList, true⟩ : Ent)], z.key.length ≤ 65536 ∧ z.val.length ≤ 65536) := Lib.hid (by
                    obtain ⟨z1, z2, z3⟩ := HSZ.out
                    obtain ⟨y1, y2, y3⟩ := HS2
                    refine ⟨by omega, by rw [List.length_append, z2]; rfl, fun z hz => ?_⟩
                    rcases List.mem_append.1 hz with h | h
                    · exact z3 z h
                    · obtain rfl := List.mem_singleton.1 h
                      simp only
                      omega)
                  have hlen : L.length ≤ 1000000 := by have := HSZ.out.2.1; omega
                  clear hq HQ2 HBAD HOK HSY HS2 HSZ hge hcl
                  go_wp2_with fail
                  refine (HCM.out _).mono ?_
                  rintro e w9 ⟨rfl, bb⟩
                  have k2 := k.below bb
                  have o2 := o.below bb
                  have d2 := below_past d bb d.size
                  clear s0 s1 s2 bb k o d HCM
                  go_upto_region 22 with fail
                  have bq : Below w9.heap.size w9 (w9.alloc (.cells #[.string (stx J), .string (⟨#[]⟩ : ByteArray), .bool true] 42)) := (Below.refl _ _).alloc (Nat.le_refl _) _
                  have hc7 := entAt_new w9 (⟨J, ((⟨#[]⟩ : ByteArray)).data.toList, true⟩ : Ent) _ rfl
                  have o3 := o2.below bq
                  have d3 := below_past d2 bq d2.size
                  have hB7 : b + 1 ≤ (w9.alloc (.cells #[.string (stx J), .string (⟨#[]⟩ : ByteArray), .bool true] 42)).heap.size := Nat.le_trans (heap_lt k2.1) bq.size
                  have k3 := k2.below bq
                  clear bq k2 o2 d2
                  go_wp2_with (at_builtin; refine wpList_put_ent rfl _ _ rfl (b + 1) _ L rfl o3 (⟨J, ((⟨#[]⟩ : ByteArray)).data.toList, true⟩ : Ent) _ 1 rfl hc7 hB7 hlen ?_)
                  intro v8 w8 ow8 hg8 _
                  have k8 := k3.grown o3 hg8 (Nat.lt_succ_self b)
                  have d8 : Below w.heap.size w w8 := (o3.low (B' := w.heap.size) (by omega)).grown hg8 d3 d3.size
                  clear o3 hg8 k3 hB7 d3 hc7
                  go_wp2_with fail
                  exact ⟨⟨i + 1, J, L ++ [⟨J, ((⟨#[]⟩ : ByteArray)).data.toList, true⟩], R3, 0, hlt, by go_num, rfl, HOK2, HSZ2, Lib.hid (.inl rfl), ow8, k8, d8⟩, by simp [intOf]; omega⟩
          | false =>
            have HQ : Hid (Q = _) := Lib.hid HQ0.out.symm
            simp only [Bool.false_eq_true, if_false] at HQ
            have HE4 := HC4
            clear HQ0 HC3 HC4 HS1 HS2
            have s0 := (Lib.cell_of_heap k.1 0).trans (rfl : _ = some (Value.string t))
            have s1 := (Lib.cell_of_heap k.1 1).trans (rfl : _ = some (Value.int .i64 (atOf t R3)))
            have s2 := (Lib.cell_of_heap k.1 2).trans (rfl : _ = some (Value.int .i64 x3))
            go_wp2_with fail
            refine (HT4.out _).mono ?_
            rintro e wn ⟨rfl, bb⟩
            have k2 := k.below bb
            have o2 := o.below bb
            have d2 := below_past d bb d.size
            clear s0 s1 s2 bb k o d HT4
            have s0 := (Lib.cell_of_heap k2.1 0).trans (rfl : _ = some (Value.string t))
            have s1 := (Lib.cell_of_heap k2.1 1).trans (rfl : _ = some (Value.int .i64 (atOf t R3)))
            have s2 := (Lib.cell_of_heap k2.1 2).trans (rfl : _ = some (Value.int .i64 x3))
            have z0 := Lib.frozen_of_heap k2.1 0
            have z1 := Lib.frozen_of_heap k2.1 1
            have z2 := Lib.frozen_of_heap k2.1 2
            have k := k2.put (R' := R4) (e' := x4) HS4.out
            have o := o2.put3 (Nat.lt_succ_self b) (.string t) (.int .i64 (atOf t R4)) (.int .i64 x4)
            have d := below_put3 d2 hwb (.string t) (.int .i64 (atOf t R4)) (.int .i64 x4)
            clear k2 o2 d2
            go_upto_region 18 with fail
            generalize (((wn.setCell ⟨b, 0, none⟩ (.string t)).setCell ⟨b, 1, none⟩ (.int .i64 (atOf t R4))).setCell ⟨b, 2, none⟩ (.int .i64 x4)) = wm at *
            clear s0 s1 s2 z0 z1 z2
            by_cases hx : x4 = 0
            case neg =>
              have hq : Q.fail = x4 := by rw [HQ.out, if_pos ⟨hx, HE4.out⟩]
              have hF : RR.fail = x4 := (HBAD.out (by rw [hq]; exact hx)).trans hq
              have HR1 : Hid (readE l = x4) := Lib.hid (by rw [HR.out, HRB.out, if_pos (by rw [hF]; exact hx)]; exact hF)
              have HX := Lib.hid hx
              have p1 : (x4 != 0) = true := by rw [bne_iff_ne]; exact hx
              have HD := Lib.hid (fun w => r2Done_any t R4 x4 w HS4.out)
              rw [show (if x4 = 0 ∧ (R4).size ≠ 0 then (3 : Int) else x4) = x4 from if_neg (fun q => hx q.1)] at HD
              unfold curV at HD
              clear hq hF hx HQ HBAD HOK HE4
              have s0 := (Lib.cell_of_heap k.1 0).trans (rfl : _ = some (Value.string t))
              have s1 := (Lib.cell_of_heap k.1 1).trans (rfl : _ = some (Value.int .i64 (atOf t R4)))
              have s2 := (Lib.cell_of_heap k.1 2).trans (rfl : _ = some (Value.int .i64 x4))
              go_wp2_with fail
              refine (HD.out _).mono ?_
              rintro e w9 ⟨rfl, bb⟩
              have d2 := below_past d bb d.size
              clear s0 s1 s2 bb k o d HD
              go_wp2_with fail
              go_ret3
              exact readR_bad HR1.out HX.out d2
            case pos =>
              subst hx
              have HQ1 := Lib.hid (HQ.out.trans (if_neg (fun q => q.1 rfl)))
              clear HQ HE4
              have s0 := (Lib.cell_of_heap k.1 0).trans (rfl : _ = some (Value.string t))
              have s1 := (Lib.cell_of_heap k.1 1).trans (rfl : _ = some (Value.int .i64 (atOf t R4)))
              have s2 := (Lib.cell_of_heap k.1 2).trans (rfl : _ = some (Value.int .i64 0))
              by_cases h1 : (la : Int) < N
              case pos =>
                have h1d : decide ((la : Int) < N) = true := decide_eq_true h1
                have hq : Q.fail = 3 := by rw [HQ1.out, if_pos h1]
                have hF : RR.fail = 3 := (HBAD.out (by rw [hq]; decide)).trans hq
                have HR1 : Hid (readE l = 3) := Lib.hid (by rw [HR.out, HRB.out, if_pos (by rw [hF]; decide)]; exact hF)
                clear hq hF HQ1 HBAD HOK
                go_wp2_with fail
                go_ret3
                exact readR_bad HR1.out (by decide) d
              case neg =>
                have h1d : decide ((la : Int) < N) = false := decide_eq_false h1
                have HQ2 := Lib.hid (HQ1.out.trans (if_neg h1))
                clear HQ1
                obtain ⟨m, rfl⟩ : ∃ m : Nat, N = m := ⟨N.toNat, by omega⟩
                have hml : m ≤ la := by omega
                have hml' : (m : Int) ≤ la := by omega
                have hmin : min (m : Int) la = m := by omega
                rw [Int.toNat_natCast] at HQ2
                have HEX : Hid ((stx K).extract 0 m ++ T1 = stx (K.take m ++ T1.data.toList)) := Lib.hid (by
                  rw [show T1 = stx T1.data.toList from rfl, show (stx K).extract 0 m = stx (K.take m) from by
                    apply ByteArray.ext
                    rw [ByteArray.data_extract]
                    apply Array.toList_inj.1
                    simp [List.extract_eq_take_drop]]
                  exact stx_append _ _)
                have hts : (T1.size : Int) ≤ 65536 := by have := HTS.out; omega
                have hes : (((stx K).extract 0 m).size : Int) ≤ 1000000 := by
                  rw [ByteArray.size_extract]
                  omega
                have hkl : (K.take m ++ T1.data.toList).length ≤ 1100000 := by
                  rw [List.length_append, List.length_take]
                  have : T1.data.toList.length = T1.size := rfl
                  have := HTS.out
                  omega
                have HCM := Lib.hid (fun w => r9Common_any K (K.take m ++ T1.data.toList) w (by rw [hla]; omega) (by omega))
                have hcl := (commonB_le K (K.take m ++ T1.data.toList)).1
                have hge : m ≤ commonB K (K.take m ++ T1.data.toList) := commonB_ge m K _ (by omega) (by rw [List.length_append, List.length_take]; omega) (by rw [List.take_append_of_le_length (by rw [List.length_take]; omega), List.take_take, Nat.min_self])
                obtain ⟨J, hJ⟩ : ∃ J, K.take m ++ T1.data.toList = J := ⟨_, rfl⟩
                rw [hJ] at HQ2 HEX HCM hcl hge
                obtain ⟨C, hC⟩ : ∃ C, commonB K J = C := ⟨_, rfl⟩
                rw [hC] at HQ2 HCM hcl hge
                have hC1 : (C : Int) ≤ 1000000 := by omega
                have hca := HEX.out
                clear h1 hkl hJ hC HEX hv0 hv1
                by_cases h2 : C = m
                case neg =>
                  have hq : Q.fail = 3 := by rw [HQ2.out, if_pos (by omega)]
                  have hF : RR.fail = 3 := (HBAD.out (by rw [hq]; decide)).trans hq
                  have HR1 : Hid (readE l = 3) := Lib.hid (by rw [HR.out, HRB.out, if_pos (by rw [hF]; decide)]; exact hF)
                  have p2 : ((C : Int) != (m : Int)) = true := by rw [bne_iff_ne]; omega
                  have p3 : (C != m) = true := by rw [bne_iff_ne]; exact h2
                  clear hq hF HQ2 HBAD HOK h2
                  go_wp2_with fail
                  refine (HCM.out _).mono ?_
                  rintro e w9 ⟨rfl, bb⟩
                  have d2 := below_past d bb d.size
                  clear s0 s1 s2 bb k o d HCM
                  go_wp2_with fail
                  go_ret3
                  exact readR_bad HR1.out (by decide) d2
                case pos =>
                  subst h2
                  have hq : Q = ⟨0, ⟨J, (v).data.toList, false⟩, R4, 0⟩ := HQ2.out.trans (if_neg (by omega))
                  have HOK2 := Lib.hid (HOK.out (by rw [hq]))
                  have HS2 := HSY.out
                  rw [hq] at HOK2 HS2
                  simp only at HOK2 HS2
                  have HSZ2 : Hid (J.length + (R4).size ≤ 65536 ∧ (L ++ [(⟨J, (v).data.toList, false⟩ : Ent)]).length = i + 1 ∧ ∀ z ∈ L ++ [(⟨J, (v).data.toList, false⟩ : Ent)], z.key.length ≤ 65536 ∧ z.val.length ≤ 65536) := Lib.hid (by
                    obtain ⟨z1, z2, z3⟩ := HSZ.out
                    obtain ⟨y1, y2, y3⟩ := HS2
                    refine ⟨by omega, by rw [List.length_append, z2]; rfl, fun z hz => ?_⟩
                    rcases List.mem_append.1 hz with h | h
                    · exact z3 z h
                    · obtain rfl := List.mem_singleton.1 h
                      simp only
                      omega)
                  have hlen : L.length ≤ 1000000 := by have := HSZ.out.2.1; omega
                  clear hq HQ2 HBAD HOK HSY HS2 HSZ hge hcl
                  go_wp2_with fail
                  refine (HCM.out _).mono ?_
                  rintro e w9 ⟨rfl, bb⟩
                  have k2 := k.below bb
                  have o2 := o.below bb
                  have d2 := below_past d bb d.size
                  clear s0 s1 s2 bb k o d HCM
                  go_upto_region 22 with fail
                  have bq : Below w9.heap.size w9 (w9.alloc (.cells #[.string (stx J), .string v, .bool false] 42)) := (Below.refl _ _).alloc (Nat.le_refl _) _
                  have hc7 := entAt_new w9 (⟨J, (v).data.toList, false⟩ : Ent) _ rfl
                  have o3 := o2.below bq
                  have d3 := below_past d2 bq d2.size
                  have hB7 : b + 1 ≤ (w9.alloc (.cells #[.string (stx J), .string v, .bool false] 42)).heap.size := Nat.le_trans (heap_lt k2.1) bq.size
                  have k3 := k2.below bq
                  clear bq k2 o2 d2
                  go_wp2_with (at_builtin; refine wpList_put_ent rfl _ _ rfl (b + 1) _ L rfl o3 (⟨J, (v).data.toList, false⟩ : Ent) _ 1 rfl hc7 hB7 hlen ?_)
                  intro v8 w8 ow8 hg8 _
                  have k8 := k3.grown o3 hg8 (Nat.lt_succ_self b)
                  have d8 : Below w.heap.size w w8 := (o3.low (B' := w.heap.size) (by omega)).grown hg8 d3 d3.size
                  clear o3 hg8 k3 hB7 d3 hc7
                  go_wp2_with fail
                  exact ⟨⟨i + 1, J, L ++ [⟨J, (v).data.toList, false⟩], R4, 0, hlt, by go_num, rfl, HOK2, HSZ2, Lib.hid (.inl rfl), ow8, k8, d8⟩, by simp [intOf]; omega⟩
        · obtain rfl : i = n := by omega
          have HRR : Hid (RR = ⟨0, L, R, e1⟩) := Lib.hid (by rw [HI.out, Nat.sub_self]; unfold behindB rdsB; simp)
          have hSf := k.2
          have HD := Lib.hid (fun w => r2Done_any t R e1 w hSf)
          rw [show (if e1 = 0 ∧ R.size ≠ 0 then (3 : Int) else e1) = doneR R e1 from rfl] at HD
          unfold curV at HD
          rw [HRR.out] at HRB
          simp only at HRB
          rw [if_neg (by simp)] at HRB
          have HCK := Lib.hid (fun w (h : EntsAt w u10 L) => r9Check_any u10 L w h (fun z hz => by have := HSZ.out.2.2 z hz; omega))
          clear HI hSf HE
          generalize doneR R e1 = D at *
          by_cases hD : D = 0
          · subst hD
            rw [if_neg (by simp)] at HRB
            have s0 := (Lib.cell_of_heap k.1 0).trans (rfl : _ = some (Value.string t))
            have s1 := (Lib.cell_of_heap k.1 1).trans (rfl : _ = some (Value.int .i64 (atOf t R)))
            have s2 := (Lib.cell_of_heap k.1 2).trans (rfl : _ = some (Value.int .i64 e1))
            go_wp2_with fail
            refine (HD.out _).mono ?_
            rintro e w5 ⟨rfl, b6⟩
            have o5 := o.below b6
            have b7 := below_past d b6 d.size
            have HC2 := Lib.hid (HCK.out _ o5.lie)
            clear HD HCK o d b6 k s0 s1 s2
            go_wp2_with fail
            refine HC2.out.mono ?_
            rintro e w6 ⟨rfl, b8⟩
            have o6 := o5.below b8
            have b9 := below_past b7 b8 b7.size
            clear HC2 o5 b7 b8
            by_cases hC : checkB L = 0
            · have hR0 : readE l = 0 := by rw [HR.out, HRB.out, if_neg (by rw [hC]; simp)]
              have hRL : readL l = L := by rw [HLL.out hR0, HRB.out, if_neg (by rw [hC]; simp)]
              have hRN := HNN.out hR0
              rw [hC]
              have HRs := Lib.hid (⟨hR0, hRL, hRN⟩ : readE l = 0 ∧ readL l = L ∧ readN l = (opN l : Nat))
              clear hR0 hRL hRN hC
              go_wp2_with fail
              go_ret3
              refine ⟨u10, ?_, ?_, b9⟩
              · rw [HRs.out.1, HRs.out.2.2]; rfl
              · rw [HRs.out.2.1]; exact o6.low (by omega)
            · have hR1 : readE l = (checkB L : Nat) := by rw [HR.out, HRB.out, if_pos hC]
              have HR1 := Lib.hid hR1
              generalize checkB L = x at *
              have p1 : ((x : Int) != 0) = true := by rw [bne_iff_ne]; omega
              have p2 : (x != 0) = true := by rw [bne_iff_ne]; exact hC
              have HX := Lib.hid hC
              clear hR1 hC
              go_wp2_with fail
              go_ret3
              exact readR_bad HR1.out (by have := HX.out; omega) b9
          · have HR1 : Hid (readE l = D) := Lib.hid (by rw [HR.out, HRB.out, if_pos hD])
            have p1 : (D != 0) = true := by rw [bne_iff_ne]; exact hD
            have HX := Lib.hid hD
            clear hD HRB HCK
            have s0 := (Lib.cell_of_heap k.1 0).trans (rfl : _ = some (Value.string t))
            have s1 := (Lib.cell_of_heap k.1 1).trans (rfl : _ = some (Value.int .i64 (atOf t R)))
            have s2 := (Lib.cell_of_heap k.1 2).trans (rfl : _ = some (Value.int .i64 e1))
            go_wp2_with fail
            refine (HD.out _).mono ?_
            rintro e w5 ⟨rfl, b6⟩
            have b7 := below_past d b6 d.size
            clear HD d b6 k s0 s1 s2
            go_wp2_with fail
            go_ret3
            exact readR_bad HR1.out HX.out b7
end Go.Proofs.YtpdfchaamedeoaaDoor
namespace Go.Proofs.YtpdfchaamedeoaaDoor.kreads
open Go Go.ChangeShapes Go.WideShapes Go.ChangeAt Go.ChangeMaps Go.RowKit Go.Proofs.YtpdfchaamedeoaaDoor

theorem readL_len (l : List UInt8) : (readL l).length ≤ 1000000 := by
  unfold readL
  split
  · unfold readB
    simp only
    split
    · exact Nat.zero_le _
    · split
      · exact Nat.zero_le _
      · split
        · exact Nat.zero_le _
        · rename_i h
          have h0 : checkB (rdsB (belV (txt (opS l)) 0 257).toNat (numS (txt (opS l)) 0) (belE (txt (opS l)) 0 257) []).list = 0 := Decidable.not_not.1 h
          have := (checkB_len h0).1
          simp only
          omega
  · exact Nat.zero_le _
set_option maxRecDepth 100000 in
set_option maxHeartbeats 4000000 in
theorem walk (s0 : ByteArray) (w : World) (ht : Tabs w) : Calls Tryd.prog 4 #[.string s0] w fun e w' => e = .returned (.bool true) ∧ Below w.heap.size w w' := by
  have HC := Lib.hid (fun w => l3Cut_any s0 3000 w (by decide))
  obtain ⟨T, hm⟩ : ∃ T, s0.data.toList.take 3000 = T := ⟨_, rfl⟩
  have hT : T.length ≤ 3000 := by rw [← hm]; exact List.length_take_le _ _
  rw [hm] at HC
  clear hm
  have HT := Lib.hid ht
  have HRD := Lib.hid (fun w (h : Tabs w) => kRead_any (stx T) w (by rw [stx_size]; omega) h)
  have HR9 := Lib.hid (fun w => r9Read_any (stx T) w (by rw [stx_size]; omega))
  rw [show (stx T).data.toList = T from rfl] at HRD HR9
  unfold ReadR at HRD HR9
  have HAW := Lib.hid (fun w (h : Tabs w) => awake9 w h)
  have hlen := readL_len T
  have HS := Lib.hid (fun v u w h1 h2 => r9Same_any v u (readL T) (readL T) w h1 h2 hlen)
  rw [show decide (readL T = readL T) = true from decide_eq_true rfl] at HS
  clear ht hT hlen
  generalize readL T = l at *
  generalize readN T = N at *
  generalize readE T = E at *
  generalize stx T = sT at *
  go_enter Tryd.func4, Tryd.ntmps4
  go_wp2_with fail
  refine (HC.out _).mono ?_
  rintro e w1 ⟨rfl, rfl⟩
  clear HC
  go_wp2_with fail
  refine (HRD.out _ HT.out).mono ?_
  rintro e w2 ⟨v, rfl, o2, b2⟩
  have T2 := Lib.hid (HT.out.below b2)
  clear HRD HT
  go_wp2_with fail
  refine (HR9.out _).mono ?_
  rintro e w3 ⟨u, rfl, o3, b3⟩
  have L1 := Lib.hid (o2.below b3).lie
  have L2 := Lib.hid o3.lie
  have b4 := below_past b2 b3 b2.size
  have T3 := Lib.hid (T2.out.below b3)
  clear HR9 T2 o2 o3 b2 b3
  go_wp2_with fail
  refine (HAW.out _ T3.out).mono ?_
  rintro e w4 ⟨rfl, b2⟩
  have b5 := below_past b4 b2 b4.size
  have HS5 := Lib.hid (HS.out v u w4 (L1.out.below b2) (L2.out.below b2))
  clear HAW T3 b2 b4 HS L1 L2
  go_wp2_with fail
  refine HS5.out.mono ?_
  rintro e w5 ⟨rfl, b2⟩
  have b6 := below_past b5 b2 b5.size
  clear HS5 b2 b5
  go_wp2_with fail
  go_ret
  exact ⟨rfl, b6⟩
set_option maxRecDepth 100000 in
theorem lifted (os : Os) (started : os.Started) (H : Type) (enc : TypeId × Value → H) :
    ReturnsInHanded {} Tryd.checked os 4 .any (fun w args => (Rows.blockReadsSpec.pre enc Tryd.prog Tryd.f4 [] false w args ∧ laidMetH Tryd.prog laidSeal w) ∧ sizedMet enc Tryd.prog Tryd.f4 (OpenSpec.ofChange Rows.blockReadsSpec) false w args) (Rows.blockReadsSpec.post enc Tryd.prog Tryd.f4 false true false false) := by
  refine returnsInHanded_of_change_and (C := Tryd.checked) (X := fun w _ => laidMetH Tryd.prog laidSeal w) (fun _ _ _ hh h => h.of_heap hh) own started (by kernel_rfl) Tryd.func4
    (ChangeSpec.witness_shaped (enc := enc) (C := Tryd.checked) (os := os) (X := fun w _ => laidMetH Tryd.prog laidSeal w) false (World.doorLaid Tryd.prog 2000 os) #[.string ⟨#[]⟩] 8 rfl (World.shaped_of_RefB (by kernel_rfl) (by kernel_rfl)) (by kernel_rfl) (by kernel_rfl) (by kernel_rfl) (door_seal os _)) ?_
  intro W base args ds gs before hval0 hW _ _ hL _
  have hval : ∀ (j : Nat) t v, Tryd.f4.params[j]? = some t → args[j]? = some v → Value.okWide Tryd.prog W .any base t v := hval0
  clear hval0
  have hW' := hW
  obtain ⟨p, q, hA0, hV, rfl, hfz, hnd⟩ := hW
  have hA : DataW.TrodAll enc Tryd.prog W 0 (fun _ => true) true Tryd.f4.params.toList args.toList ds p := hA0
  rw [Tryd.params4] at hA hval
  clear hA0 hfz hnd hV
  have hr : Readable Tryd.f4.params.toList := by
    rw [Tryd.params4]
    exact readable_of_all (by kernel_rfl)
  have fin : ∀ W', Below W.heap.size W W' → Rows.blockReadsSpec.post enc Tryd.prog Tryd.f4 false true false false W args (.bool true) W' := fun W' hb =>
    law_post rfl hW' hr (fun l hl => by
      rw [Tryd.params4] at hl
      match l, hl with
      | [d1], _ => rfl) (by kernel_rfl) hb
  clear hW' hr
  have HT := tabs_of_laid hL
  obtain ⟨v0, d0, rfl, rfl, h0⟩ := trodAll_one hA; obtain ⟨s, rfl, _, _, w0⟩ := open_string Tryd.underlying9 (hval 0 9 v0 rfl rfl) h0
  exact (walk s W HT).mono fun e W' ⟨he, hb⟩ => ⟨_, he, fin W' hb⟩
theorem row_holds : Rows.BlockReadsSaid :=
  OpenClaim.holds_of_wide 4 Tryd.f4 rfl rfl rfl rfl rfl rfl rfl ⟨rfl, rfl, rfl, rfl, rfl⟩ rfl rfl rfl rfl rfl (by kernel_rfl) Tryd.func4 (by kernel_rfl)
    (of_decide_eq_true (by kernel_rfl)) (by unfold Func.isWrapper; first | (rw [if_pos (by decide +kernel)]; kernel_rfl) | (rw [if_neg (by decide +kernel)]; exact ⟨rfl, rfl⟩))
    (fun os started H enc _ => lifted os started H enc)
theorem proved : Rows.BlockReadsCardSaid :=
  Claim7.holds_tied_plain_at .later [] [.data, .data] true _ false
    row_holds (fun _ h => by cases h) (by kernel_rfl) (fun _ h => by cases h) blockReads_row_tie rfl ⟨rfl, rfl⟩ (by kernel_rfl) rfl
    (fun f fn hf hfn => by
      obtain rfl : f = 4 := Option.some.inj ((show Tryd.prog.funcNamed "chirograph/chirographlaw09.BlockReads" = some 4 by kernel_rfl).symm.trans hf) |>.symm
      obtain rfl : fn = Tryd.f4 := (Option.some.inj (Tryd.func4.symm.trans hfn)).symm
      exact ⟨by kernel_rfl, fun j t ht => by
        rw [Tryd.params4] at ht
        have hm : t ∈ [9] := by simpa using Array.mem_of_getElem? ht
        have hall : ([9].all fun u => !Tryd.prog.wantsStandIn u) = true := by kernel_rfl
        exact (show Tryd.prog.wantsStandIn t = false by simpa using List.all_eq_true.1 hall t hm)⟩)
    (by kernel_rfl)
end Go.Proofs.YtpdfchaamedeoaaDoor.kreads
