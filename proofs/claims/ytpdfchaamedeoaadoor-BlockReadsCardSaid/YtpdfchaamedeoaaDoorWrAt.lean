/- A writer that has been told bytes, be they too many or not. Conditions: none. -/
import Derived.Test.YtpdfchaamedeoaaDoorCode8
import Derived.Test.YtpdfchaamedeoaaDoorStrs
namespace Go.Proofs.YtpdfchaamedeoaaDoor
open Go Go.RowKit

/-- What a writer holds of the bytes that it was told: all, or too many. -/
def capB (bs F : List UInt8) : Prop := bs = F ∨ (65536 < bs.length ∧ 65536 < F.length)
theorem capB_add {bs F : List UInt8} (h : capB bs F) (s : List UInt8) : capB (added bs 0 s) (F ++ s) := by
  unfold added
  rcases h with rfl | ⟨h1, h2⟩
  · by_cases hb : bs.length ≤ 65536
    · rw [if_pos ⟨rfl, hb⟩]
      exact .inl rfl
    · rw [if_neg (fun e => hb e.2)]
      refine .inr ⟨by omega, ?_⟩
      rw [List.length_append]
      omega
  · rw [if_neg (fun e => by omega)]
    refine .inr ⟨h1, ?_⟩
    rw [List.length_append]
    omega
def WrAt (B b : Nat) (F : List UInt8) (w : World) : Prop := ∃ bs, WriterAt B b bs 0 w ∧ capB bs F
theorem WrAt.below {B b : Nat} {F : List UInt8} {w w' : World} (h : WrAt B b F w) (k : Below w.heap.size w w') : WrAt B b F w' := by
  obtain ⟨bs, h1, h2⟩ := h
  exact ⟨bs, h1.below k, h2⟩
theorem WrAt.lt {B b : Nat} {F : List UInt8} {w : World} (h : WrAt B b F w) : b < w.heap.size := by
  obtain ⟨bs, ⟨ao, cap, h1, _⟩, _⟩ := h
  exact heap_lt h1
theorem wrAt_new (w : World) (n : Nat) (hn : n = w.heap.size) : WrAt n n [] (w.alloc (.cells #[.slice none 0 0, .int .i64 0] 63)) := by
  subst hn
  exact ⟨[], ⟨none, 0, heap_alloc_new w _, World.ownsRow_nil _ _ _ _, by simp [Value.ownBlock]⟩, .inl rfl⟩
theorem WNum_at {B b : Nat} {F : List UInt8} {w : World} (h : WrAt B b F w) (n : Nat) (hn : n < 9223372036854775808) (hBw : B ≤ w.heap.size) :
    Calls Tryd.prog 36 #[.pointer (some ⟨b, 0, none⟩), .int .i64 n] w fun r w' => r = .returned (.tuple #[]) ∧ WrAt B b (F ++ numBytes n) w' ∧ Near B b w w' := by
  obtain ⟨bs, h1, h2⟩ := h
  refine (Number_any B b bs 0 n w h1 hn hBw).mono ?_
  rintro e w' ⟨h3, h4, h5⟩
  exact ⟨h3, ⟨_, h4, capB_add h2 _⟩, h5⟩
theorem WText_at {B b : Nat} {F : List UInt8} {w : World} (h : WrAt B b F w) (s : List UInt8) (hs : s.length ≤ 65536) (hBw : B ≤ w.heap.size) :
    Calls Tryd.prog 77 #[.pointer (some ⟨b, 0, none⟩), .string (stx s)] w fun r w' => r = .returned (.tuple #[]) ∧ WrAt B b (F ++ (numBytes s.length ++ s)) w' ∧ Near B b w w' := by
  obtain ⟨bs, h1, h2⟩ := h
  refine (Text_any B b bs 0 (stx s) w h1 (by rw [stx_size]; exact hs) hBw).mono ?_
  rintro e w' ⟨h3, h4, h5⟩
  rw [stx_size, show (stx s).data.toList = s from rfl] at h4
  refine ⟨h3, ⟨_, h4, ?_⟩, h5⟩
  rw [← List.append_assoc]
  exact capB_add (capB_add h2 _) _
theorem WFlag_at {B b : Nat} {F : List UInt8} {w : World} (h : WrAt B b F w) (v : Bool) (hBw : B ≤ w.heap.size) :
    Calls Tryd.prog 78 #[.pointer (some ⟨b, 0, none⟩), .bool v] w fun r w' => r = .returned (.tuple #[]) ∧ WrAt B b (F ++ [if v then 1 else 0]) w' ∧ Near B b w w' := by
  obtain ⟨bs, h1, h2⟩ := h
  refine (Flag_any B b bs 0 v w h1 hBw).mono ?_
  rintro e w' ⟨h3, h4, h5⟩
  exact ⟨h3, ⟨_, h4, capB_add h2 _⟩, h5⟩
theorem WDone_at {B b : Nat} {F : List UInt8} {w : World} (h : WrAt B b F w) :
    Calls Tryd.prog 38 #[.pointer (some ⟨b, 0, none⟩)] w fun r w' => r = .returned (if F.length ≤ 65536 then .tuple #[.string (stx F), .int .i64 0] else .tuple #[.string ⟨#[]⟩, .int .i64 2]) ∧ Below w.heap.size w w' := by
  obtain ⟨bs, h1, h2⟩ := h
  refine (Done_any B b bs 0 w h1).mono ?_
  rintro e w' ⟨rfl, hb⟩
  refine ⟨?_, hb⟩
  rw [if_neg (by simp)]
  rcases h2 with rfl | ⟨k1, k2⟩
  · by_cases hl : bs.length ≤ 65536
    · rw [if_neg (by omega), if_pos hl]
    · rw [if_pos (by omega), if_neg hl]
  · rw [if_pos k1, if_neg (by omega)]
/-- What holds no bytes stays where a writer is told. -/
theorem near_cells {B b k : Nat} {w w' : World} {cs : Array Value} {T : TypeId} {fr : Nat × Nat} (n : Near B b w w') (h : w.heap[k]? = some (.cells cs T fr)) (hT : T ≠ 5) (hk : k ≠ b) : w'.heap[k]? = some (.cells cs T fr) :=
  (n.far k (heap_lt h) hk fun cs2 fr2 q => by
    rw [h] at q
    simp only [Option.some.injEq, Obj.cells.injEq] at q
    exact hT q.2.1).trans h
end Go.Proofs.YtpdfchaamedeoaaDoor
