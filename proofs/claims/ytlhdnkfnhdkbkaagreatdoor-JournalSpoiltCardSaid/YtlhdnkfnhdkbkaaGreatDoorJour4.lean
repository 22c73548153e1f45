/- A text is added to a journal; its segments are counted. Conditions: the tables lie where the program lays them. -/
import Derived.Test.YtlhdnkfnhdkbkaaGreatDoorJour3
import Derived.Test.YtlhdnkfnhdkbkaaGreatDoorSeal2
namespace Go.Proofs.YtlhdnkfnhdkbkaaGreatDoor
open Go Go.RowKit
attribute [local go_sem] Oper.semAt_some

def addE (d : DDisk) (n s : List UInt8) : Int := if aE d n (frame s) = 0 then sE (aD d n (frame s)) n else aE d n (frame s)
def addD (d : DDisk) (n s : List UInt8) : DDisk := if aE d n (frame s) = 0 then sD (aD d n (frame s)) n else aD d n (frame s)
set_option maxRecDepth 100000 in
set_option maxHeartbeats 1000000 in
theorem jAdd_any (B C j b now : Nat) (d : DDisk) (s : ByteArray) (w : World) (hj : JAt B j b now w) (h0 : DiskAt C b d w) (hn : now < 100) (hs : s.size ≤ 65536) (hu : dUsed d.files + s.size + 8 ≤ 1000000000000) (ht : Tabs w) :
    Calls Tryz.prog 13 #[.pointer (some ⟨j, 0, none⟩), .string s] w fun e w' => e = .returned (.int .i64 (addE d (nm now) s.data.toList)) ∧ DiskAt C b (addD d (nm now) s.data.toList) w' ∧ Stir C w w' := by
  have HW := Lib.hid (Wrap_any s w hs ht)
  have HN := Lib.hid (fun w => jName_any now w hn)
  obtain ⟨F, hF⟩ : ∃ F, frame s.data.toList = F := ⟨_, rfl⟩
  have hFl : F.length = 8 + s.size := by rw [← hF]; exact frame_length _
  obtain ⟨T, hT⟩ : ∃ T, nm now = T := ⟨_, rfl⟩
  have hTl : T.length = 14 := by rw [← hT]; exact nm_length now
  unfold addE addD
  rw [hF, hT]
  rw [hF] at HW
  rw [hT] at HN
  have HA : Hid (∀ w, DiskAt C b d w → Calls Tryz.prog 31 #[.pointer (some ⟨b, 0, none⟩), .string (stx T), .string (stx F)] w fun e w' => e = .returned (.int .i64 (aE d T F)) ∧ DiskAt C b (aD d T F) w' ∧ Stir C w w') := Lib.hid fun w h =>
    dAppend_any C b d (stx T) (stx F) w h (by rw [stx_size]; omega) (by rw [stx_size]; omega)
  have HY : Hid (∀ w, DiskAt C b (aD d T F) w → Calls Tryz.prog 32 #[.pointer (some ⟨b, 0, none⟩), .string (stx T)] w fun e w' => e = .returned (.int .i64 (sE (aD d T F) T)) ∧ DiskAt C b (sD (aD d T F) T) w' ∧ Stir C w w') := Lib.hid fun w h =>
    dSync_any C b (aD d T F) (stx T) w h (by rw [stx_size]; omega)
  generalize sE (aD d T F) T = E2 at *
  generalize sD (aD d T F) T = D2 at *
  generalize aE d T F = E1 at *
  generalize aD d T F = D1 at *
  obtain ⟨RE, hRE⟩ : ∃ RE, (if E1 = 0 then E2 else E1) = RE := ⟨_, rfl⟩
  obtain ⟨RD, hRD⟩ : ∃ RD, (if E1 = 0 then D2 else D1) = RD := ⟨_, rfl⟩
  rw [hRE, hRD]
  have HRE := Lib.hid hRE
  have HRD := Lib.hid hRD
  clear hRE hRD
  have HD := Lib.hid h0
  have HJ := Lib.hid hj
  have c0 : w.cell? ⟨j, 0, none⟩ = some (.pointer (some ⟨b, 0, none⟩)) := (Lib.cell_of_heap hj.row 0).trans rfl
  have c1 : w.cell? ⟨j, 1, none⟩ = some (.int .i64 now) := (Lib.cell_of_heap hj.row 1).trans rfl
  have hCw : C ≤ w.heap.size := by have := h0.low; omega
  clear h0 hj hn hs hu ht hF hFl hT hTl c0 c1
  go_enter Tryz.func13, Tryz.ntmps13
  go_wp2_with fail
  refine HW.out.mono ?_
  rintro e w1 ⟨rfl, b1⟩
  have j1 := HJ.out.kept b1
  have D1' := Lib.hid (HD.out.kept b1)
  have c1 : w1.cell? ⟨j, 1, none⟩ = some (.int .i64 now) := (Lib.cell_of_heap j1.row 1).trans rfl
  have HN1 := Lib.hid (HN.out w1)
  have J1 := Lib.hid j1
  have S1 := Lib.hid (Below.stir b1 hCw)
  have z1 := Nat.le_trans hCw b1.size
  clear HW HD HJ b1 HN j1
  go_wp2_with fail
  refine HN1.out.mono ?_
  rintro e w2 ⟨rfl, b2⟩
  have j2 := J1.out.kept b2
  have c0 : w2.cell? ⟨j, 0, none⟩ = some (.pointer (some ⟨b, 0, none⟩)) := (Lib.cell_of_heap j2.row 0).trans rfl
  have HA2 := Lib.hid (HA.out w2 (D1'.out.kept b2))
  have J2 := Lib.hid j2
  have S2 := Lib.hid (S1.out.trans (Below.stir b2 z1))
  clear HN1 J1 b2 D1' HA S1 j2 c1
  go_wp2_with fail
  refine HA2.out.mono ?_
  rintro e w3 ⟨rfl, d3, s3⟩
  have j3 := J2.out.stir s3
  have S3 := Lib.hid (S2.out.trans s3)
  have D3 := Lib.hid d3
  have J3 := Lib.hid j3
  have HY3 := Lib.hid (HY.out w3 d3)
  have c0 : w3.cell? ⟨j, 0, none⟩ = some (.pointer (some ⟨b, 0, none⟩)) := (Lib.cell_of_heap j3.row 0).trans rfl
  clear HA2 J2 S2 HY d3 j3 s3
  by_cases hE : E1 = 0
  · have q : (E1 != 0) = false := by simpa using hE
    have hre : E2 = RE := by rw [← HRE.out, if_pos hE]
    have hrd : D2 = RD := by rw [← HRD.out, if_pos hE]
    subst hre hrd
    clear hE HRE HRD
    go_wp2_with fail
    refine HY3.out.mono ?_
    rintro e w4 ⟨rfl, d4, s4⟩
    have S4 := Lib.hid (S3.out.trans s4)
    have D4 := Lib.hid d4
    clear HY3 d4 s4
    go_wp2_with fail
    go_ret
    exact ⟨rfl, D4.out, S4.out⟩
  · have q : (E1 != 0) = true := by simpa using hE
    have hre : E1 = RE := by rw [← HRE.out, if_neg hE]
    have hrd : D1 = RD := by rw [← HRD.out, if_neg hE]
    subst hre hrd
    clear hE HRE HRD
    go_wp2_with fail
    go_ret
    exact ⟨rfl, D3.out, S3.out⟩
theorem jNow_any (B j b now : Nat) (w : World) (hj : JAt B j b now w) : Calls Tryz.prog 21 #[.pointer (some ⟨j, 0, none⟩)] w fun e w' => e = .returned (.int .i64 now) ∧ w' = w := by
  have c1 : w.cell? ⟨j, 1, none⟩ = some (.int .i64 now) := (Lib.cell_of_heap hj.row 1).trans rfl
  clear hj
  go_enter Tryz.func21, Tryz.ntmps21
  go_wp2_with fail
  go_ret
  exact ⟨rfl, rfl⟩
theorem jTurn_any (B j b now : Nat) (w : World) (hj : JAt B j b now w) (hn : now < 100) : Calls Tryz.prog 14 #[.pointer (some ⟨j, 0, none⟩)] w fun e w' => e = .returned (.int .i64 ((now : Int) + 1)) ∧ w' = w.setCell ⟨j, 1, none⟩ (.int .i64 ((now : Int) + 1)) := by
  have c1 : w.cell? ⟨j, 1, none⟩ = some (.int .i64 now) := (Lib.cell_of_heap hj.row 1).trans rfl
  have f1 := Lib.frozen_of_heap hj.row 1
  have j2 := hj.set (now + 1) ((now : Int) + 1) rfl
  have c2 : (w.setCell ⟨j, 1, none⟩ (.int .i64 ((now : Int) + 1))).cell? ⟨j, 1, none⟩ = some (.int .i64 ((now : Int) + 1)) := (Lib.cell_of_heap j2.row 1).trans rfl
  have hni : (now : Int) < 100 := by omega
  clear hj j2 hn
  go_enter Tryz.func14, Tryz.ntmps14
  go_wp2_with fail
  go_ret
  exact ⟨rfl, rfl⟩
end Go.Proofs.YtlhdnkfnhdkbkaaGreatDoor
