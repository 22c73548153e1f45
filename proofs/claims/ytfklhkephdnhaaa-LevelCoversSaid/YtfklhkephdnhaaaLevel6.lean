/- Levels: what is asked of tables: the closures, each by its contract. Conditions: none. -/
import Derived.Test.YtfklhkephdnhaaaLevel5
import Derived.Test.YtfklhkephdnhaaaLvlMath3
namespace Go.Proofs.Ytfklhkephdnhaaa
open Go Go.RowKit Go.Maps

/-- What is asked of a predicate on tables. -/
def PredFl (g : Nat) (cb : Array Value) (p : Fl → Bool) (w : World) : Prop :=
  ∀ (W : World) (f : Fl), Below w.heap.size w W → FlOk f → Calls Try.prog g (#[flV f] ++ cb) W fun e w' => e = .returned (.bool (p f)) ∧ Below W.heap.size W w'
/-- A function value that asks p of a table. -/
def FnAt (w : World) (fv : Value) (p : Fl → Bool) : Prop :=
  ∃ g cb, fv = .func (.func g) #[] cb ∧ (∀ args w, (callFunc g args).run Try.prog w = .ok (.enter g args) w) ∧ PredFl g cb p w
theorem FnAt.below {w w' : World} {fv : Value} {p : Fl → Bool} (h : FnAt w fv p) (k : Below w.heap.size w w') : FnAt w' fv p := by
  obtain ⟨g, cb, h1, h2, h3⟩ := h
  exact ⟨g, cb, h1, h2, fun W f b => h3 W f (k.trans (b.mono k.size))⟩
theorem FnAt.congr {w : World} {fv : Value} {p q : Fl → Bool} (h : FnAt w fv p) (e : ∀ f, FlOk f → p f = q f) : FnAt w fv q := by
  obtain ⟨g, cb, h1, h2, h3⟩ := h
  refine ⟨g, cb, h1, h2, fun W f b ok => ?_⟩
  rw [← e f ok]
  exact h3 W f b ok

set_option maxRecDepth 100000 in
theorem lOn1_any (f : Fl) (n : Int) (b : Nat) (w : World) (hc : w.cell? ⟨b, 0, none⟩ = some (.int .i64 n)) :
    Calls Try.prog 75 #[flV f, .pointer (some ⟨b, 0, none⟩)] w fun e w' => e = .returned (.bool (onB n f)) ∧ Below w.heap.size w w' := by
  have b0 : Below w.heap.size w (w.alloc (.cells #[.int .i64 f.num, .int .i64 f.lev, .int .i64 f.size, .string (stx f.first), .string (stx f.last)] 58)) := (Below.refl _ _).alloc (Nat.le_refl _) _
  have hc2 := cell_old hc (.cells #[.int .i64 f.num, .int .i64 f.lev, .int .i64 f.size, .string (stx f.first), .string (stx f.last)] 58)
  unfold flV onB
  go_enter Try.func75, Try.ntmps75
  go_wp2
  go_ret
  exact ⟨rfl, b0⟩
set_option maxRecDepth 100000 in
theorem lBeyond1_any (f : Fl) (n : Int) (b : Nat) (w : World) (hc : w.cell? ⟨b, 0, none⟩ = some (.int .i64 n)) (hl : in64 f.lev) (hn : in64 n) :
    Calls Try.prog 77 #[flV f, .pointer (some ⟨b, 0, none⟩)] w fun e w' => e = .returned (.bool (beyondB n f)) ∧ Below w.heap.size w w' := by
  have b0 : Below w.heap.size w (w.alloc (.cells #[.int .i64 f.num, .int .i64 f.lev, .int .i64 f.size, .string (stx f.first), .string (stx f.last)] 58)) := (Below.refl _ _).alloc (Nat.le_refl _) _
  have hc2 := cell_old hc (.cells #[.int .i64 f.num, .int .i64 f.lev, .int .i64 f.size, .string (stx f.first), .string (stx f.last)] 58)
  obtain ⟨l1, l2⟩ := hl
  obtain ⟨n1, n2⟩ := hn
  unfold flV beyondB
  by_cases h : n < f.lev
  · have h1 : decide (n < f.lev) = true := decide_eq_true h
    have hw : IntKind.i64.wrap (f.lev - 1) = f.lev - 1 := by rw [IntKind.wrap_i64]; omega
    rw [h1]
    go_enter Try.func77, Try.ntmps77
    go_wp2
    go_ret
    exact ⟨rfl, b0⟩
  · have h1 : decide (n < f.lev) = false := decide_eq_false h
    rw [h1]
    go_enter Try.func77, Try.ntmps77
    go_wp2
    go_ret
    exact ⟨rfl, b0⟩
set_option maxRecDepth 100000 in
theorem lMeets1_any (a f : Fl) (b : Nat) (w : World) (hc : FlAt w b 0 a) :
    Calls Try.prog 78 #[flV f, .pointer (some ⟨b, 0, none⟩)] w fun e w' => e = .returned (.bool (meetsB a f)) ∧ Below w.heap.size w w' := by
  have b0 : Below w.heap.size w (w.alloc (.cells #[.int .i64 f.num, .int .i64 f.lev, .int .i64 f.size, .string (stx f.first), .string (stx f.last)] 58)) := (Below.refl _ _).alloc (Nat.le_refl _) _
  obtain ⟨c0, c1, c2, c3, c4⟩ := hc.below b0
  have h1 := lessE a.last f.first
  have h2 := lessE f.last a.first
  unfold flV meetsB
  cases q1 : decide (a.last < f.first) with
  | true =>
    rw [q1] at h1
    go_enter Try.func78, Try.ntmps78
    go_wp2
    go_ret
    exact ⟨rfl, b0⟩
  | false =>
    rw [q1] at h1
    generalize decide (f.last < a.first) = q2 at *
    go_enter Try.func78, Try.ntmps78
    go_wp2
    go_ret
    exact ⟨rfl, b0⟩
set_option maxRecDepth 100000 in
theorem lCalled1_any (f : Fl) (bm b : Nat) (S : List Int) (w : World) (hc : w.cell? ⟨b, 0, none⟩ = some (.map (some bm))) (hs : SetAt w bm S) (hn : in64 f.num) :
    Calls Try.prog 69 #[flV f, .pointer (some ⟨b, 0, none⟩)] w fun e w' => e = .returned (.bool (calledB S f)) ∧ Below w.heap.size w w' := by
  have b0 : Below w.heap.size w (w.alloc (.cells #[.int .i64 f.num, .int .i64 f.lev, .int .i64 f.size, .string (stx f.first), .string (stx f.last)] 58)) := (Below.refl _ _).alloc (Nat.le_refl _) _
  have hc2 := cell_old hc (.cells #[.int .i64 f.num, .int .i64 f.lev, .int .i64 f.size, .string (stx f.first), .string (stx f.last)] 58)
  have hlk := (hs.below b0).look hn
  have b1 := b0.alloc b0.size (.cells #[] 77)
  unfold flV
  go_enter Try.func69, Try.ntmps69
  go_wp2
  go_ret
  exact ⟨rfl, b1⟩
set_option maxRecDepth 100000 in
theorem lNot1_any (f : Fl) (b : Nat) (fv : Value) (p : Fl → Bool) (w : World) (hc : w.cell? ⟨b, 0, none⟩ = some fv) (hf : FnAt w fv p) (ok : FlOk f) :
    Calls Try.prog 68 #[flV f, .pointer (some ⟨b, 0, none⟩)] w fun e w' => e = .returned (.bool (!p f)) ∧ Below w.heap.size w w' := by
  have b0 : Below w.heap.size w (w.alloc (.cells #[.int .i64 f.num, .int .i64 f.lev, .int .i64 f.size, .string (stx f.first), .string (stx f.last)] 58)) := (Below.refl _ _).alloc (Nat.le_refl _) _
  have hc2 := cell_old hc (.cells #[.int .i64 f.num, .int .i64 f.lev, .int .i64 f.size, .string (stx f.first), .string (stx f.last)] 58)
  obtain ⟨g, cb, rfl, eg, hp⟩ := hf
  have HC := Lib.hid (hp _ f b0 ok)
  unfold flV at *
  go_enter Try.func68, Try.ntmps68
  go_wp2_with (go_at_fn g; refine HC.out.mono ?_; rintro e w2 ⟨rfl, b2⟩)
  go_ret
  exact ⟨rfl, b0.trans (b2.mono b0.size)⟩

theorem enter_of {g : Nat} (h : ∀ args w, (callFunc g args).run Try.prog w = .ok (.enter g args) w) : ∀ args w, (callFunc g args).run Try.prog w = .ok (.enter g args) w := h
set_option maxRecDepth 100000 in
theorem lOn_any (n : Int) (w : World) : Calls Try.prog 45 #[.int .i64 n] w fun e w' => ∃ fv, e = .returned fv ∧ FnAt w' fv (onB n) ∧ Below w.heap.size w w' := by
  have b0 : Below w.heap.size w (w.alloc (.cells #[.int .i64 n] 3)) := (Below.refl _ _).alloc (Nat.le_refl _) _
  have c0 : (w.alloc (.cells #[.int .i64 n] 3)).cell? ⟨w.heap.size, 0, none⟩ = some (.int .i64 n) := cell_new _ _ _ 0
  go_enter Try.func45, Try.ntmps45
  go_wp2
  go_ret
  exact ⟨_, rfl, ⟨_, _, rfl, fun args w => by kernel_rfl, fun W f hb _ => lOn1_any f n w.heap.size W ((hb.cell (p := ⟨w.heap.size, 0, none⟩) (cellLt c0)).trans c0)⟩, b0⟩
set_option maxRecDepth 100000 in
theorem lBeyond_any (n : Int) (w : World) (hn : in64 n) : Calls Try.prog 53 #[.int .i64 n] w fun e w' => ∃ fv, e = .returned fv ∧ FnAt w' fv (beyondB n) ∧ Below w.heap.size w w' := by
  have b0 : Below w.heap.size w (w.alloc (.cells #[.int .i64 n] 3)) := (Below.refl _ _).alloc (Nat.le_refl _) _
  have c0 : (w.alloc (.cells #[.int .i64 n] 3)).cell? ⟨w.heap.size, 0, none⟩ = some (.int .i64 n) := cell_new _ _ _ 0
  have HN := Lib.hid hn
  clear hn
  go_enter Try.func53, Try.ntmps53
  go_wp2
  go_ret
  exact ⟨_, rfl, ⟨_, _, rfl, fun args w => by kernel_rfl, fun W f hb ok => lBeyond1_any f n w.heap.size W ((hb.cell (p := ⟨w.heap.size, 0, none⟩) (cellLt c0)).trans c0) ok.lev HN.out⟩, b0⟩
set_option maxRecDepth 100000 in
theorem lMeets_any (a : Fl) (w : World) : Calls Try.prog 54 #[flV a] w fun e w' => ∃ fv, e = .returned fv ∧ FnAt w' fv (meetsB a) ∧ Below w.heap.size w w' := by
  have b0 : Below w.heap.size w (w.alloc (.cells #[.int .i64 a.num, .int .i64 a.lev, .int .i64 a.size, .string (stx a.first), .string (stx a.last)] 58)) := (Below.refl _ _).alloc (Nat.le_refl _) _
  have c0 := flAt_new w a 58 _ rfl
  have C0 := Lib.hid c0
  clear c0
  unfold flV
  go_enter Try.func54, Try.ntmps54
  go_wp2
  go_ret
  exact ⟨_, rfl, ⟨_, _, rfl, fun args w => by kernel_rfl, fun W f hb _ => lMeets1_any a f w.heap.size W (C0.out.below hb)⟩, b0⟩
set_option maxRecDepth 100000 in
theorem lNot_any (fv : Value) (p : Fl → Bool) (w : World) (hf : FnAt w fv p) : Calls Try.prog 36 #[fv] w fun e w' => ∃ fv', e = .returned fv' ∧ FnAt w' fv' (fun f => !p f) ∧ Below w.heap.size w w' := by
  have b0 : Below w.heap.size w (w.alloc (.cells #[fv] 82)) := (Below.refl _ _).alloc (Nat.le_refl _) _
  have c0 : (w.alloc (.cells #[fv] 82)).cell? ⟨w.heap.size, 0, none⟩ = some fv := cell_new _ _ _ 0
  have HF := Lib.hid (hf.below b0)
  have hf2 := hf
  obtain ⟨g, cb, rfl, _, _⟩ := hf2
  clear hf
  go_enter Try.func36, Try.ntmps36
  go_wp2
  go_ret
  exact ⟨_, rfl, ⟨_, _, rfl, fun args w => by kernel_rfl, fun W f hb ok => lNot1_any f w.heap.size _ p W ((hb.cell (p := ⟨w.heap.size, 0, none⟩) (cellLt c0)).trans c0) (HF.out.below hb) ok⟩, b0⟩
end Go.Proofs.Ytfklhkephdnhaaa
