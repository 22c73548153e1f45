/- A journal's disk as segments, each with its texts: plain facts. Conditions: none. -/
import Derived.Test.YtlhdnkfnhdkbkaaGreatDoorCutsMath
import Derived.Test.YtlhdnkfnhdkbkaaGreatDoorDisk10
import Derived.Lib.ItoaNum
import Derived.Lib.ParseIntB
import Derived.Lib.Repeat
namespace Go.Proofs.YtlhdnkfnhdkbkaaGreatDoor
open Go

/-- k decimal digits of n. -/
def pad : Nat → Nat → List UInt8
  | 0, _ => []
  | k + 1, n => pad k (n / 10) ++ [UInt8.ofNat (48 + n % 10)]
/-- The name of segment n. -/
def nm (n : Nat) : List UInt8 := [108, 111, 103, 45] ++ pad 10 n
theorem pad_length : ∀ k n, (pad k n).length = k
  | 0, _ => rfl
  | k + 1, n => by rw [pad, List.length_append, pad_length k]; rfl
theorem nm_length (n : Nat) : (nm n).length = 14 := by rw [nm, List.length_append, pad_length]; rfl
theorem nm_lt_all : ∀ a : Fin 100, ∀ b : Fin 100, a.val < b.val → nm a.val < nm b.val := by decide +kernel
theorem nm_lt {a b : Nat} (h : a < b) (hb : b < 100) : nm a < nm b := nm_lt_all ⟨a, by omega⟩ ⟨b, hb⟩ h
theorem nm_ne {a b : Nat} (ha : a < 100) (hb : b < 100) (h : a ≠ b) : nm a ≠ nm b := by
  rcases Nat.lt_or_gt_of_ne h with h | h
  · exact nlt_ne (nm_lt h hb)
  · exact (nlt_ne (nm_lt h ha)).symm
theorem nm_inj {a b : Nat} (ha : a < 100) (hb : b < 100) (h : nm a = nm b) : a = b := by
  by_cases e : a = b
  · exact e
  · exact absurd h (nm_ne ha hb e)
theorem digits_small {n : Nat} (h : n < 100) : Lib.decDigits n = if n < 10 then [UInt8.ofNat (48 + n)] else [UInt8.ofNat (48 + n / 10), UInt8.ofNat (48 + n % 10)] := by
  rw [Lib.decDigits]
  split
  · rfl
  · rw [Lib.decDigits, dif_pos (by omega)]
    rfl
theorem name_all : ∀ n : Fin 100, [108, 111, 103, 45] ++ Lib.repeatL [48] (10 - (if n.val < 10 then [UInt8.ofNat (48 + n.val)] else [UInt8.ofNat (48 + n.val / 10), UInt8.ofNat (48 + n.val % 10)] : List UInt8).length) ++ (if n.val < 10 then [UInt8.ofNat (48 + n.val)] else [UInt8.ofNat (48 + n.val / 10), UInt8.ofNat (48 + n.val % 10)]) = nm n.val := by decide +kernel
theorem name_is {n : Nat} (h : n < 100) : [108, 111, 103, 45] ++ Lib.repeatL [48] (10 - (Lib.decDigits n).length) ++ Lib.decDigits n = nm n := by
  rw [digits_small h]
  exact name_all ⟨n, h⟩
theorem digits_len {n : Nat} (h : n < 100) : (Lib.decDigits n).length = 1 ∨ (Lib.decDigits n).length = 2 := by
  rw [digits_small h]
  split
  · exact .inl rfl
  · exact .inr rfl
theorem dig8 (d : Nat) (h : d < 10) : (UInt8.ofNat (48 + d)).toNat = 48 + d := by
  rw [UInt8.toNat_ofNat']
  omega
theorem parse_go : ∀ k n, k ≤ 10 → n < 10 ^ k → ∀ r, Lib.parseUintM (2 ^ 64 - 1) 0 (pad k n ++ r) = Lib.parseUintM (2 ^ 64 - 1) n r
  | 0, n, _, h, r => by
    obtain rfl : n = 0 := by simpa using h
    rfl
  | k + 1, n, hk, h, r => by
    have h2 : n / 10 < 10 ^ k := by rw [Nat.pow_succ] at h; omega
    have h3 : 10 ^ k ≤ 10 ^ 9 := Nat.pow_le_pow_right (by decide) (by omega)
    have hd := dig8 (n % 10) (by omega)
    rw [pad, List.append_assoc, parse_go k (n / 10) (by omega) h2]
    show Lib.parseUintM _ (n / 10) (UInt8.ofNat (48 + n % 10) :: r) = _
    rw [Lib.parseUintM, hd, if_pos (by omega), if_neg (by omega), if_neg (by omega)]
    congr 1
    omega
theorem parse_nm {n : Nat} (h : n < 100) : Lib.parseUintB 64 (pad 10 n) = .ok n := by
  have hl := pad_length 10 n
  rw [Lib.parseUintB, if_neg (by intro e; rw [e] at hl; cases hl)]
  have := parse_go 10 n (by decide) (by omega) []
  rw [List.append_nil] at this
  rw [this]
  rfl

/-- A segment: its number, its bytes, how many of them are sure. -/
structure Seg where
  n : Nat
  bytes : List UInt8
  sure : Nat
def sFile (s : Seg) : DFile := ⟨nm s.n, s.bytes, s.sure⟩
def jFiles (l : List Seg) : List DFile := l.map sFile
structure Rise (l : List Seg) (top : Nat) : Prop where
  pw : l.Pairwise (fun a b => a.n < b.n)
  le : ∀ s ∈ l, s.n ≤ top
  few : top < 100
theorem Rise.sorted {l : List Seg} {top : Nat} (h : Rise l top) : dSorted (jFiles l) := by
  unfold dSorted jFiles
  rw [List.pairwise_map]
  refine List.Pairwise.imp_of_mem ?_ h.pw
  intro a b ha hb hab
  exact nm_lt hab (Nat.lt_of_le_of_lt (h.le b hb) h.few)
theorem jnames (l : List Seg) : dNames (jFiles l) = (l.map (·.n)).map nm := by
  unfold dNames jFiles
  rw [List.map_map, List.map_map]
  rfl
theorem Rise.nil {top : Nat} (h : top < 100) : Rise [] top := ⟨List.Pairwise.nil, fun _ h => (by cases h), h⟩
theorem Rise.more {l : List Seg} {top top' : Nat} (h : Rise l top) (h1 : top ≤ top') (h2 : top' < 100) : Rise l top' := ⟨h.pw, fun s hs => Nat.le_trans (h.le s hs) h1, h2⟩
theorem Rise.put {l : List Seg} {top : Nat} (h : Rise l top) {s : Seg} (h1 : top < s.n) (h2 : s.n < 100) : Rise (l ++ [s]) s.n := by
  refine ⟨?_, ?_, h2⟩
  · rw [List.pairwise_append]
    refine ⟨h.pw, List.pairwise_singleton _ _, ?_⟩
    intro a ha b hb
    rw [List.mem_singleton.1 hb]
    exact Nat.lt_of_le_of_lt (h.le a ha) h1
  · intro x hx
    rcases List.mem_append.1 hx with hx | hx
    · exact Nat.le_of_lt (Nat.lt_of_le_of_lt (h.le x hx) h1)
    · rw [List.mem_singleton.1 hx]; exact Nat.le_refl _
/-- A segment at the end: the last one's number, or a greater one. -/
theorem put_end {l : List Seg} {s : Seg} (h : ∀ x ∈ l, x.n < s.n) (hs : s.n < 100) (t : List Seg) (ht : t = [] ∨ ∃ y : Seg, y.n = s.n ∧ t = [y]) : dPut (sFile s) (jFiles (l ++ t)) = jFiles (l ++ [s]) := by
  induction l with
  | nil =>
    rcases ht with rfl | ⟨y, hy, rfl⟩
    · rfl
    · show dPut (sFile s) [sFile y] = [sFile s]
      unfold dPut
      rw [if_neg (by show ¬ nm y.n < nm s.n; rw [hy]; exact nlt_irrefl _)]
      unfold dDrop
      rw [List.filter_cons_of_neg (by show ¬ (decide (nm y.n ≠ nm s.n) = true); rw [hy]; simp)]
      rfl
  | cons a l ih =>
    show dPut (sFile s) (sFile a :: jFiles (l ++ t)) = sFile a :: jFiles (l ++ [s])
    rw [dPut, if_pos (show (sFile a).name < (sFile s).name from nm_lt (h a (by simp)) hs), ih (fun x hx => h x (by simp [hx]))]
theorem find_end {l : List Seg} {s : Seg} (h : ∀ x ∈ l, x.n < s.n) (hs : s.n < 100) : dFind (jFiles (l ++ [s])) (nm s.n) = some (sFile s) := by
  induction l with
  | nil => show dFind [sFile s] (nm s.n) = _; unfold dFind; rw [List.find?_cons]; simp [sFile]
  | cons a l ih =>
    have hn : nm a.n ≠ nm s.n := nlt_ne (nm_lt (h a (by simp)) hs)
    have := ih (fun x hx => h x (by simp [hx]))
    unfold dFind at this ⊢
    show (sFile a :: jFiles (l ++ [s])).find? _ = _
    rw [List.find?_cons, show decide ((sFile a).name = nm s.n) = false from decide_eq_false hn]
    exact this
theorem find_none {l : List Seg} {n : Nat} (h : ∀ x ∈ l, x.n < n) (hn : n < 100) : dFind (jFiles l) (nm n) = none := by
  refine dFind_none.2 fun f hf e => ?_
  obtain ⟨s, hs, rfl⟩ := List.mem_map.1 hf
  exact nlt_ne (nm_lt (h s hs) hn) e
theorem find_mid {l : List Seg} {top : Nat} (h : Rise l top) {s : Seg} (hs : s ∈ l) : dFind (jFiles l) (nm s.n) = some (sFile s) := dFind_mem h.sorted (List.mem_map.2 ⟨s, hs, rfl⟩)
theorem used_put (l : List Seg) (s : Seg) : dUsed (jFiles (l ++ [s])) = dUsed (jFiles l) + s.bytes.length := by
  unfold dUsed jFiles
  rw [List.map_append, List.map_append, List.sum_append]
  rfl
/-! ### what is read of frames -/
theorem allF_step {f : Nat} {l : List UInt8} {n : Nat} (h : opE (l.drop n) = 0) : allF (f + 1) l n = ((opS (l.drop n)) :: (allF f l (n + opN (l.drop n))).1, (allF f l (n + opN (l.drop n))).2) := by rw [allF, if_pos h]
/-- Whole frames ahead are read. -/
theorem allF_cat (L : List UInt8) : ∀ (ts : List (List UInt8)) (f n : Nat) (r : List UInt8), (∀ t ∈ ts, t.length ≤ 65536) → L.drop n = cat ts ++ r → ts.length ≤ f → (allF f L n).1 = ts ++ (allF (f - ts.length) L (n + (cat ts).length)).1
  | [], f, n, r, _, _, _ => by simp [cat]
  | t :: ts, f, n, r, hts, hd, hf => by
    obtain ⟨g, rfl⟩ : ∃ g, f = g + 1 := ⟨f - 1, by simp at hf; omega⟩
    have ht := hts t (by simp)
    obtain ⟨o1, o2, o3⟩ := open_frame t (cat ts ++ r) ht
    have e : L.drop n = frame t ++ (cat ts ++ r) := by rw [hd, cat, List.append_assoc]
    have hd2 : L.drop (n + (8 + t.length)) = cat ts ++ r := by rw [← List.drop_drop, e, ← frame_length t, List.drop_left]
    rw [allF_step (by rw [e]; exact o1), e, o2, o3, allF_cat L ts g (n + (8 + t.length)) r (fun u hu => hts u (by simp [hu])) hd2 (by simpa using hf)]
    simp [cat, frame_length, Nat.add_assoc]
theorem cat_long (ts : List (List UInt8)) : 8 * ts.length ≤ (cat ts).length := by
  induction ts with
  | nil => exact Nat.le_refl _
  | cons t ts ih => rw [cat, List.length_append, frame_length]; simp; omega
theorem all_ahead (ts : List (List UInt8)) (r : List UInt8) (h : ∀ t ∈ ts, t.length ≤ 65536) : ∃ m, (allR (cat ts ++ r)).1 = ts ++ m := by
  have hl := cat_long ts
  exact ⟨_, allF_cat (cat ts ++ r) ts ((cat ts ++ r).length + 1) 0 r h rfl (by rw [List.length_append]; omega)⟩
theorem all_cat (ts : List (List UInt8)) (h : ∀ t ∈ ts, t.length ≤ 65536) : (allR (cat ts)).1 = ts := by
  have := all_of_cut ts (cat ts).length h (Nat.le_refl _)
  have hw : whole ts (cat ts).length = ts.length := by
    have h1 := (whole_iff ts (cat ts).length ts.length (Nat.le_refl _)).1 (by unfold endAt; rw [List.take_length]; exact Nat.le_refl _)
    have h2 := whole_le ts (cat ts).length
    omega
  rw [List.take_length, hw, List.take_length] at this
  rw [this]

/-- The texts of segments. -/
def segT (l : List Seg) : List (List UInt8) := (l.map fun s => (allR s.bytes).1).flatten
theorem segT_append (a b : List Seg) : segT (a ++ b) = segT a ++ segT b := by unfold segT; rw [List.map_append, List.flatten_append]
def tSeg (n : Nat) (ts : List (List UInt8)) : Seg := ⟨n, cat ts, (cat ts).length⟩
/-- The segment that takes texts: it is there if it has some. -/
def curS (now : Nat) (cur : List (List UInt8)) : List Seg := if cur = [] then [] else [tSeg now cur]
/-- A journal on a disk that lives: the segments ahead, the number of the one that takes texts and its texts, the texts of all. -/
structure JS (room : Int) (pre : List Seg) (now : Nat) (cur want : List (List UInt8)) (d : DDisk) : Prop where
  dis : d = ⟨room, -1, false, jFiles (pre ++ curS now cur)⟩
  pw : pre.Pairwise (fun a b => a.n < b.n)
  lt : ∀ s ∈ pre, s.n < now
  few : now < 100
  want : segT (pre ++ curS now cur) = want
  short : ∀ t ∈ cur, t.length ≤ 65536
theorem curS_put (now : Nat) (cur : List (List UInt8)) (s : List UInt8) : curS now (cur ++ [s]) = [tSeg now (cur ++ [s])] := by unfold curS; rw [if_neg (by simp)]
theorem curS_cases (now : Nat) (cur : List (List UInt8)) : (cur = [] ∧ curS now cur = []) ∨ (cur ≠ [] ∧ curS now cur = [tSeg now cur]) := by
  unfold curS
  by_cases h : cur = []
  · exact .inl ⟨h, if_pos h⟩
  · exact .inr ⟨h, if_neg h⟩
theorem segT_cur (now : Nat) (cur : List (List UInt8)) (h : ∀ t ∈ cur, t.length ≤ 65536) : segT (curS now cur) = cur := by
  rcases curS_cases now cur with ⟨h1, h2⟩ | ⟨h1, h2⟩
  · rw [h2, h1]; rfl
  · rw [h2]
    show (allR (cat cur)).1 ++ [] = cur
    rw [List.append_nil, all_cat cur h]
variable {room : Int} {pre : List Seg} {now : Nat} {cur want : List (List UInt8)} {d : DDisk}
theorem JS.rise (h : JS room pre now cur want d) : Rise (pre ++ curS now cur) now := by
  rcases curS_cases now cur with ⟨h1, h2⟩ | ⟨h1, h2⟩
  · rw [h2, List.append_nil]
    exact ⟨h.pw, fun s hs => Nat.le_of_lt (h.lt s hs), h.few⟩
  · rw [h2]
    refine ⟨List.pairwise_append.2 ⟨h.pw, List.pairwise_singleton _ _, fun a ha b hb => ?_⟩, fun s hs => ?_, h.few⟩
    · rw [List.mem_singleton.1 hb]; exact h.lt a ha
    · rcases List.mem_append.1 hs with hs | hs
      · exact Nat.le_of_lt (h.lt s hs)
      · rw [List.mem_singleton.1 hs]; exact Nat.le_refl _
theorem rise_len {l : List Seg} {top : Nat} (h : Rise l top) : l.length ≤ top + 1 := by
  have : ∀ (l : List Seg) (lo top : Nat), l.Pairwise (fun a b => a.n < b.n) → (∀ s ∈ l, lo ≤ s.n ∧ s.n ≤ top) → l.length + lo ≤ top + 1 ∨ l = [] := by
    intro l
    induction l with
    | nil => intro lo top _ _; exact .inr rfl
    | cons a l ih =>
      intro lo top h1 h2
      obtain ⟨h3, h4⟩ := List.pairwise_cons.1 h1
      have ha := h2 a (by simp)
      refine .inl ?_
      rcases ih (a.n + 1) top h4 (fun s hs => ⟨h3 s hs, (h2 s (by simp [hs])).2⟩) with h5 | h5
      · simp; omega
      · rw [h5]; simp; omega
  rcases this l 0 top h.pw (fun s hs => ⟨Nat.zero_le _, h.le s hs⟩) with h1 | h1
  · omega
  · rw [h1]; exact Nat.zero_le _
theorem JS.few_files (h : JS room pre now cur want d) : d.files.length ≤ 100 := by
  have := rise_len h.rise
  have := h.few
  rw [h.dis]
  show (jFiles _).length ≤ _
  unfold jFiles
  rw [List.length_map]
  omega
theorem JS.names (h : JS room pre now cur want d) : listL d = ((pre ++ curS now cur).map (·.n)).map nm := by
  rw [h.dis]
  exact jnames _
theorem JS.find (h : JS room pre now cur want d) : dFind d.files (nm now) = if cur = [] then none else some (sFile (tSeg now cur)) := by
  rw [h.dis]
  show dFind (jFiles _) _ = _
  rcases curS_cases now cur with ⟨h1, h2⟩ | ⟨h1, h2⟩
  · rw [h2, List.append_nil, if_pos h1]
    exact find_none h.lt h.few
  · rw [h2, if_neg h1]
    exact find_end (s := tSeg now cur) h.lt h.few
theorem JS.bad (h : JS room pre now cur want d) (s : List UInt8) : aBad d (nm now) (frame s) = if ((s.length : Int) + 8 > room - dUsed d.files) then 9 else 0 := by
  have h1 := h.few_files
  unfold aBad
  have e : (frame s).length = 8 + s.length := frame_length s
  rw [show d.dead = false by rw [h.dis], if_neg Bool.false_ne_true, if_neg (by unfold dGood; rw [nm_length]; omega), show d.room = room by rw [h.dis], e]
  by_cases hr : (s.length : Int) + 8 > room - dUsed d.files
  · rw [if_pos hr, if_pos (by omega)]
  · rw [if_neg hr, if_neg (by omega), if_neg (by omega)]
theorem put_cur (h : JS room pre now cur want d) (x : Seg) (hx : x.n = now) : dPut (sFile x) (jFiles (pre ++ curS now cur)) = jFiles (pre ++ [x]) := by
  refine put_end (s := x) (by rw [hx]; exact h.lt) (by rw [hx]; exact h.few) _ ?_
  rcases curS_cases now cur with ⟨h1, h2⟩ | ⟨h1, h2⟩
  · exact .inl h2
  · exact .inr ⟨tSeg now cur, hx.symm, h2⟩
/-- A text for which there is room is added. -/
theorem JS.add (h : JS room pre now cur want d) (s : List UInt8) (hs : s.length ≤ 65536) (hr : (s.length : Int) + 8 ≤ room - dUsed d.files) :
    aE d (nm now) (frame s) = 0 ∧ sE (aD d (nm now) (frame s)) (nm now) = 0 ∧ JS room pre now (cur ++ [s]) (want ++ [s]) (sD (aD d (nm now) (frame s)) (nm now)) ∧ dUsed (sD (aD d (nm now) (frame s)) (nm now)).files = dUsed d.files + (s.length + 8) := by
  have hb : aBad d (nm now) (frame s) = 0 := by rw [h.bad, if_neg (by omega)]
  have hfu : d.fuse = -1 := by rw [h.dis]
  have hx : ∃ k, aPut d (nm now) (frame s) = ⟨room, -1, false, jFiles (pre ++ [⟨now, cat (cur ++ [s]), k⟩])⟩ := by
    refine ⟨dSure d.files (nm now), ?_⟩
    have e1 : dBytes d.files (nm now) ++ frame s = cat (cur ++ [s]) := by
      rw [cat_append]
      show _ = cat cur ++ (frame s ++ [])
      rw [List.append_nil]
      congr 1
      unfold dBytes
      rw [h.find]
      by_cases hc : cur = []
      · rw [if_pos hc, hc]; rfl
      · rw [if_neg hc]; rfl
    unfold aPut
    rw [e1]
    have := put_cur h ⟨now, cat (cur ++ [s]), dSure d.files (nm now)⟩ rfl
    have e2 : d.files = jFiles (pre ++ curS now cur) := by rw [h.dis]
    rw [show dPut ⟨nm now, cat (cur ++ [s]), dSure d.files (nm now)⟩ d.files = jFiles (pre ++ [⟨now, cat (cur ++ [s]), dSure d.files (nm now)⟩]) by rw [← this, ← e2]; rfl]
    rw [h.dis]
  obtain ⟨k, hk⟩ := hx
  have ha : aD d (nm now) (frame s) = ⟨room, -1, false, jFiles (pre ++ [⟨now, cat (cur ++ [s]), k⟩])⟩ := by
    unfold aD
    rw [if_pos hb, hk]
    rfl
  have hf : dFind (jFiles (pre ++ [⟨now, cat (cur ++ [s]), k⟩])) (nm now) = some ⟨nm now, cat (cur ++ [s]), k⟩ := find_end (s := ⟨now, cat (cur ++ [s]), k⟩) h.lt h.few
  have hfe : findE (aD d (nm now) (frame s)) (nm now) = 0 := by
    rw [ha]
    unfold findE
    rw [if_neg Bool.false_ne_true, hf]
  have hse : sD (aD d (nm now) (frame s)) (nm now) = ⟨room, -1, false, jFiles (pre ++ curS now (cur ++ [s]))⟩ := by
    unfold sD
    rw [if_pos hfe, ha, curS_put]
    show (⟨room, -1, false, dSyncF (jFiles (pre ++ [⟨now, cat (cur ++ [s]), k⟩])) (nm now)⟩ : DDisk) = _
    unfold dSyncF dBytes
    rw [hf]
    have := put_end (l := pre) (s := tSeg now (cur ++ [s])) h.lt h.few [⟨now, cat (cur ++ [s]), k⟩] (.inr ⟨⟨now, cat (cur ++ [s]), k⟩, rfl, rfl⟩)
    exact congrArg (fun x => (⟨room, -1, false, x⟩ : DDisk)) this
  refine ⟨?_, ?_, ⟨hse, h.pw, h.lt, h.few, ?_, ?_⟩, ?_⟩
  · unfold aE
    rw [if_pos hb]
    unfold deedE
    rw [hfu]
    rfl
  · unfold sE
    rw [if_pos hfe, ha]
    rfl
  · rw [segT_append, segT_cur now (cur ++ [s]) (fun t ht => ?_), ← h.want, segT_append, segT_cur now cur h.short, List.append_assoc]
    rcases List.mem_append.1 ht with ht | ht
    · exact h.short t ht
    · rw [List.mem_singleton.1 ht]; exact hs
  · intro t ht
    rcases List.mem_append.1 ht with ht | ht
    · exact h.short t ht
    · rw [List.mem_singleton.1 ht]; exact hs
  · rw [hse, curS_put]
    show dUsed (jFiles (pre ++ [tSeg now (cur ++ [s])])) = _
    rw [used_put, h.dis]
    show _ = dUsed (jFiles (pre ++ curS now cur)) + _
    have e : (tSeg now (cur ++ [s])).bytes.length = (cat cur).length + (s.length + 8) := by
      show (cat (cur ++ [s])).length = _
      rw [cat_append, List.length_append]
      show _ + (frame s ++ []).length = _
      rw [List.append_nil, frame_length]
      omega
    rw [e]
    rcases curS_cases now cur with ⟨h1, h2⟩ | ⟨h1, h2⟩
    · rw [h2, List.append_nil, h1]
      simp [cat]
    · rw [h2, used_put]
      show _ = _ + (cat cur).length + _
      omega
/-- A text for which there is none. -/
theorem JS.full (h : JS room pre now cur want d) (s : List UInt8) (hr : ¬ (s.length : Int) + 8 ≤ room - dUsed d.files) : aE d (nm now) (frame s) = 9 ∧ aD d (nm now) (frame s) = d := by
  have hb : aBad d (nm now) (frame s) = 9 := by rw [h.bad, if_pos (by omega)]
  unfold aE aD
  rw [if_neg (by rw [hb]; decide), if_neg (by rw [hb]; decide), hb]
  exact ⟨rfl, rfl⟩
theorem JS.turn (h : JS room pre now cur want d) (hn : now + 1 < 100) : JS room (pre ++ curS now cur) (now + 1) [] want d := by
  refine ⟨?_, h.rise.pw, fun s hs => Nat.lt_succ_of_le (h.rise.le s hs), hn, ?_, fun _ ht => (by cases ht)⟩
  · rw [show curS (now + 1) [] = [] from rfl, List.append_nil]; exact h.dis
  · rw [show curS (now + 1) [] = [] from rfl, List.append_nil]; exact h.want
theorem JS.new (room : Int) : JS room [] 0 [] [] ⟨room, -1, false, []⟩ := ⟨rfl, List.Pairwise.nil, fun _ h => (by cases h), by decide, rfl, fun _ h => (by cases h)⟩
end Go.Proofs.YtlhdnkfnhdkbkaaGreatDoor
