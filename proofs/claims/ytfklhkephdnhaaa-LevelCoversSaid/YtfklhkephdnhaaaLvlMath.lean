/- Tables of levels as lists: order, the error of a state, what is put together. Conditions: none. -/
import Derived.Test.YtfklhkephdnhaaaEntMath
namespace Go.Proofs.Ytfklhkephdnhaaa

structure Fl where
  num : Int
  lev : Int
  size : Int
  first : List UInt8
  last : List UInt8
theorem Fl.ext5 {a b : Fl} (h1 : a.num = b.num) (h2 : a.lev = b.lev) (h3 : a.size = b.size) (h4 : a.first = b.first) (h5 : a.last = b.last) : a = b := by
  cases a
  cases b
  simp_all
instance : DecidableEq Fl := fun a b =>
  if h : a.num = b.num ∧ a.lev = b.lev ∧ a.size = b.size ∧ a.first = b.first ∧ a.last = b.last then .isTrue (Fl.ext5 h.1 h.2.1 h.2.2.1 h.2.2.2.1 h.2.2.2.2) else .isFalse (fun e => h (by subst e; exact ⟨rfl, rfl, rfl, rfl, rfl⟩))
instance : Inhabited Fl := ⟨⟨0, 0, 0, [], []⟩⟩
structure St where
  next : Int
  log : Int
  files : List Fl

def numB (n : Int) : Bool := decide (0 ≤ n) && decide (n ≤ 1073741824)
def keyB (s : List UInt8) : Bool := decide (0 < s.length) && decide (s.length ≤ 100)
/-- Does a table stand ahead of another one? -/
def aheadB (a b : Fl) : Bool := if a.lev = b.lev then (if a.lev = 0 then decide (b.num < a.num) else decide (a.first < b.first)) else decide (a.lev < b.lev)
def followsB (a b : Fl) : Bool := if 0 < b.lev ∧ b.lev = a.lev then decide (a.first < b.first) && decide (a.last < b.first) else aheadB a b
/-- Are a table's numbers in their bounds, its keys in form? -/
def boundB (next : Int) (f : Fl) : Bool := decide (0 ≤ f.num) && decide (f.num < next) && decide (0 ≤ f.lev) && decide (f.lev ≤ 3) && numB f.size
def formB (f : Fl) : Bool := keyB f.first && keyB f.last && !decide (f.last < f.first)
def seenB (pre : List Fl) (n : Int) : Bool := decide (n ∈ pre.map Fl.num)
def behindB (pre : List Fl) (f : Fl) : Bool := match pre.getLast? with | some p => followsB p f | none => true
/-- The error of a table behind others. -/
def errF (next : Int) (pre : List Fl) (f : Fl) : Int := if boundB next f = false then 1 else if formB f = false ∨ seenB pre f.num = true ∨ behindB pre f = false then 3 else 0
def chkF (next : Int) : List Fl → List Fl → Int
  | _, [] => 0
  | pre, f :: r => if errF next pre f = 0 then chkF next (pre ++ [f]) r else errF next pre f
def chkS (s : St) : Int := if numB s.next = false ∨ numB s.log = false then 1 else if 1000 < s.files.length then 2 else chkF s.next [] s.files

theorem chkF_step (next : Int) (L : List Fl) (i : Nat) (f : Fl) (h : L[i]? = some f) : chkF next (L.take i) (L.drop i) = if errF next (L.take i) f = 0 then chkF next (L.take (i + 1)) (L.drop (i + 1)) else errF next (L.take i) f := by
  obtain ⟨hi, rfl⟩ := List.getElem?_eq_some_iff.1 h
  rw [List.drop_eq_getElem_cons hi, chkF, List.take_add_one, h]
  rfl
theorem chkF_end (next : Int) (L : List Fl) : chkF next (L.take L.length) (L.drop L.length) = 0 := by rw [List.drop_length]; rfl
theorem errF_cases (next : Int) (pre : List Fl) (f : Fl) : errF next pre f = 1 ∨ errF next pre f = 3 ∨ errF next pre f = 0 := by
  unfold errF
  split
  · exact .inl rfl
  · split
    · exact .inr (.inl rfl)
    · exact .inr (.inr rfl)

/-- What a right list of tables is. -/
structure GoodF (next : Int) (L : List Fl) : Prop where
  bound : ∀ f ∈ L, boundB next f = true
  form : ∀ f ∈ L, formB f = true
  nums : L.Pairwise fun a b => a.num ≠ b.num
  order : ∀ i a b, L[i]? = some a → L[i + 1]? = some b → followsB a b = true

theorem errF_zero {next : Int} {pre : List Fl} {f : Fl} : errF next pre f = 0 ↔ boundB next f = true ∧ formB f = true ∧ seenB pre f.num = false ∧ behindB pre f = true := by
  unfold errF
  cases h1 : boundB next f
  · simp
  · cases h2 : formB f <;> cases h3 : seenB pre f.num <;> cases h4 : behindB pre f <;> simp
theorem chkF_good {next : Int} : ∀ {L pre : List Fl}, GoodF next pre → (chkF next pre L = 0 ↔ GoodF next (pre ++ L))
  | [], pre, h => by simpa [chkF] using h
  | f :: r, pre, h => by
    rw [chkF]
    by_cases he : errF next pre f = 0
    · rw [if_pos he]
      obtain ⟨h1, h2, h3, h4⟩ := errF_zero.1 he
      have hg : GoodF next (pre ++ [f]) := by
        refine ⟨fun x hx => ?_, fun x hx => ?_, ?_, fun i a b ha hb => ?_⟩
        · rcases List.mem_append.1 hx with hx | hx
          · exact h.bound x hx
          · rw [List.mem_singleton.1 hx]; exact h1
        · rcases List.mem_append.1 hx with hx | hx
          · exact h.form x hx
          · rw [List.mem_singleton.1 hx]; exact h2
        · refine List.pairwise_append.2 ⟨h.nums, List.pairwise_singleton _ _, fun a ha b hb => ?_⟩
          rw [List.mem_singleton.1 hb]
          intro e
          have : seenB pre f.num = true := decide_eq_true (by rw [← e]; exact List.mem_map_of_mem ha)
          rw [h3] at this
          cases this
        · by_cases hi : i + 1 < pre.length
          · rw [List.getElem?_append_left (by omega)] at ha
            rw [List.getElem?_append_left hi] at hb
            exact h.order i a b ha hb
          · have hl := (List.getElem?_eq_some_iff.1 hb).1
            rw [List.length_append, List.length_singleton] at hl
            obtain hi2 : i + 1 = pre.length := by omega
            rw [List.getElem?_append_left (by omega)] at ha
            rw [List.getElem?_append_right (by omega), hi2, Nat.sub_self] at hb
            obtain rfl : f = b := by simpa using hb
            have hla : pre.getLast? = some a := by rw [List.getLast?_eq_getElem?, ← hi2]; exact ha
            unfold behindB at h4
            rw [hla] at h4
            exact h4
      rw [chkF_good hg, List.append_assoc]
      rfl
    · rw [if_neg he]
      refine ⟨fun e => absurd e he, fun hg => absurd (errF_zero.2 ⟨hg.bound f (by simp), hg.form f (by simp), ?_, ?_⟩) he⟩
      · refine decide_eq_false fun hm => ?_
        obtain ⟨a, ha, e⟩ := List.mem_map.1 hm
        exact (List.pairwise_append.1 hg.nums).2.2 a ha f (by simp) e
      · unfold behindB
        cases hq : pre.getLast? with
        | none => rfl
        | some p =>
          rw [List.getLast?_eq_getElem?] at hq
          have hl := (List.getElem?_eq_some_iff.1 hq).1
          refine hg.order (pre.length - 1) p f ?_ ?_
          · rw [List.getElem?_append_left hl]; exact hq
          · rw [List.getElem?_append_right (by omega), show pre.length - 1 + 1 - pre.length = 0 by omega]; rfl
theorem good_nil (next : Int) : GoodF next [] := ⟨fun f h => absurd h (by simp), fun f h => absurd h (by simp), List.Pairwise.nil, fun i a b h => absurd h (by simp)⟩
theorem chkS_zero {s : St} : chkS s = 0 ↔ numB s.next = true ∧ numB s.log = true ∧ s.files.length ≤ 1000 ∧ GoodF s.next s.files := by
  unfold chkS
  by_cases h1 : numB s.next = false ∨ numB s.log = false
  · rw [if_pos h1]
    refine ⟨fun h => absurd h (by decide), fun h => ?_⟩
    rcases h1 with h1 | h1
    · rw [h.1] at h1; cases h1
    · rw [h.2.1] at h1; cases h1
  · rw [if_neg h1]
    have h2 : numB s.next = true ∧ numB s.log = true := by
      constructor
      · cases hq : numB s.next with
        | true => rfl
        | false => exact absurd (.inl hq) h1
      · cases hq : numB s.log with
        | true => rfl
        | false => exact absurd (.inr hq) h1
    by_cases h3 : 1000 < s.files.length
    · rw [if_pos h3]
      exact ⟨fun h => absurd h (by decide), fun h => absurd h3 (by omega)⟩
    · rw [if_neg h3]
      have := chkF_good (good_nil s.next) (L := s.files)
      rw [List.nil_append] at this
      rw [this]
      exact ⟨fun h => ⟨h2.1, h2.2, by omega, h⟩, fun h => h.2.2.2⟩

/-! What is put together. -/
def onB (n : Int) (f : Fl) : Bool := decide (f.lev = n)
def beyondB (n : Int) (f : Fl) : Bool := decide (n < f.lev) && decide (n < f.lev - 1)
def meetsB (a f : Fl) : Bool := !decide (a.last < f.first) && !decide (f.last < a.first)
def calledB (l : List Int) (f : Fl) : Bool := decide (f.num ∈ l)
def minK (a b : List UInt8) : List UInt8 := if b < a then b else a
def maxK (a b : List UInt8) : List UInt8 := if a < b then b else a
/-- From the least first key to the greatest last one. -/
def spanF : List Fl → Fl
  | [] => ⟨0, 0, 0, [], []⟩
  | f :: r => ⟨0, 0, 0, (f :: r).foldl (fun k x => minK k x.first) f.first, (f :: r).foldl (fun k x => maxK k x.last) f.last⟩
structure Jb where
  lev : Int
  fr : List Int
  to : List Int
def jobF (L : List Fl) (n : Int) (l : List Fl) : Jb := ⟨n, l.map Fl.num, (L.filter fun f => onB (n + 1) f && meetsB (spanF l) f).map Fl.num⟩
def sizeF (l : List Fl) : Int := (l.map Fl.size).sum
def oldF : List Fl → Fl → Fl
  | [], m => m
  | f :: r, m => oldF r (if f.num < m.num then f else m)
def noJob : Jb := ⟨0, [], []⟩
def pickF (s : St) (count size : Int) : Option Jb :=
  if chkS s ≠ 0 ∨ count < 1 ∨ size < 1 ∨ 1073741824 < size then none
  else if count ≤ ((s.files.filter (onB 0)).length : Int) then some (jobF s.files 0 (s.files.filter (onB 0)))
  else if size < sizeF (s.files.filter (onB 1)) then some (jobF s.files 1 [oldF (s.files.filter (onB 1)) ((s.files.filter (onB 1)).headD default)])
  else if size * 8 < sizeF (s.files.filter (onB 2)) then some (jobF s.files 2 [oldF (s.files.filter (onB 2)) ((s.files.filter (onB 2)).headD default)])
  else none
def wholeF' (s : St) : Option Jb :=
  if chkS s ≠ 0 then none else match s.files with
  | [] => none
  | f :: _ => if 0 < f.lev ∧ (s.files.filter (onB f.lev)).length = s.files.length then none else some (jobF s.files f.lev (s.files.filter (onB f.lev)))
def lastF (s : St) (j : Jb) : Bool := !(s.files.filter (calledB (j.fr ++ j.to))).isEmpty && (s.files.filter fun f => beyondB j.lev f && meetsB (spanF (s.files.filter (calledB (j.fr ++ j.to)))) f).isEmpty
end Go.Proofs.Ytfklhkephdnhaaa
