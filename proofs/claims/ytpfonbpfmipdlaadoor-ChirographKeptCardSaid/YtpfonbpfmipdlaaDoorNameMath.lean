/- Identities, as lists of bytes and runes: which texts are ones, what is folded, what stands between joints. Conditions: none. -/
import Derived.Test.YtpfonbpfmipdlaaDoorRunes
namespace Go.Proofs.YtpfonbpfmipdlaaDoor
open Go

def among (c : Int) (l : List (Int × Int)) : Bool := l.any fun s => decide (s.1 ≤ c) && decide (c ≤ s.2)
def lettersL : List (Int × Int) := [(97, 122), (65, 90), (192, 214), (216, 246), (248, 383), (913, 929), (931, 937), (945, 969), (1040, 1103)]
def greatsL : List (Int × Int) := [(65, 90), (192, 214), (216, 222), (913, 929), (931, 937), (1040, 1071)]
def digitsL : List (Int × Int) := [(48, 57)]
def great (c : Int) : Bool := among c greatsL
def joint (c : Int) : Bool := c == 46 || c == 45 || c == 95 || c == 64 || c == 43
/-- The kind of a rune. -/
def kind (c : Int) : Nat := if among c lettersL = true then 1 else if among c digitsL = true then 2 else if joint c = true then 3 else 0
theorem kind_le (c : Int) : kind c ≤ 3 := by
  unfold kind
  repeat' split
  all_goals omega
theorem kind_joint (c : Int) : kind c = 3 ↔ joint c = true := by
  unfold kind
  constructor
  · intro h
    repeat' split at h
    all_goals first | assumption | omega
  · intro h
    have hc : c = 46 ∨ c = 45 ∨ c = 95 ∨ c = 64 ∨ c = 43 := by
      simpa [joint, or_assoc] using h
    have h1 : among c lettersL = false := by
      rcases hc with rfl | rfl | rfl | rfl | rfl <;> decide
    have h2 : among c digitsL = false := by
      rcases hc with rfl | rfl | rfl | rfl | rfl <;> decide
    rw [h1, h2, h]
    rfl
theorem joint_cases {c : Int} (h : joint c = true) : c = 46 ∨ c = 45 ∨ c = 95 ∨ c = 64 ∨ c = 43 := by
  simpa [joint, or_assoc] using h
theorem great_cases {c : Int} : great c = true ↔ ((65 ≤ c ∧ c ≤ 90) ∨ (192 ≤ c ∧ c ≤ 214) ∨ (216 ≤ c ∧ c ≤ 222) ∨ (913 ≤ c ∧ c ≤ 929) ∨ (931 ≤ c ∧ c ≤ 937) ∨ (1040 ≤ c ∧ c ≤ 1071)) := by
  simp [great, among, greatsL]
/-- The small one of a rune. -/
def foldC (c : Nat) : Nat := if great c = true then c + 32 else c
theorem foldC_twice (c : Nat) : foldC (foldC c) = foldC c := by
  unfold foldC
  split
  · rename_i h
    have h1 := great_cases.1 h
    rw [if_neg (fun k => ?_)]
    have h2 := great_cases.1 k
    omega
  · rfl
theorem foldC_valid (c : Nat) (h : c < 55296 ∨ (57344 ≤ c ∧ c ≤ 1114111)) : foldC c < 55296 ∨ (57344 ≤ foldC c ∧ foldC c ≤ 1114111) := by
  unfold foldC
  split
  · rename_i k
    have h1 := great_cases.1 k
    omega
  · exact h

/-! ### Check -/
def chkF (n : Nat) : List (Nat × Nat) → Nat → Nat → Nat → Nat × Nat
  | [], _, _, last => if last = 3 then (n, 3) else (0, 0)
  | r :: t, at_, i, last =>
    if r.1 = 65533 then (at_, 4) else if i = 40 then (at_, 2)
    else if kind r.1 = 0 ∨ (kind r.1 = 3 ∧ last = 3) ∨ great r.1 = true then (at_, 3)
    else chkF n t (at_ + r.2) (i + 1) (kind r.1)
/-- Where a text isn't an identity, and why. -/
def chk (l : List UInt8) : Nat × Nat := if l = [] then (0, 5) else chkF l.length (runesL l) 0 0 3

def okK : List Nat → Nat → Bool
  | [], last => last != 3
  | c :: t, last => kind c != 0 && !(kind c == 3 && last == 3) && okK t (kind c)
/-- Is a rune none that is refused wherever it stands? -/
def goodC (c : Nat) : Bool := c != 65533 && !great c
theorem chkF_ok (n : Nat) : ∀ (rs : List (Nat × Nat)) (p i last : Nat), i ≤ 40 → ((chkF n rs p i last).2 = 0 ↔ ((rs.map (·.1)).all goodC = true ∧ i + rs.length ≤ 40 ∧ okK (rs.map (·.1)) last = true))
  | [], p, i, last, hi => by
    unfold chkF
    split
    · rename_i h
      simp [okK, h]
    · rename_i h
      simp [okK, h, hi]
  | r :: t, p, i, last, hi => by
    unfold chkF
    split
    · rename_i h
      simp [goodC, h]
    · rename_i h
      split
      · rename_i h2
        subst h2
        simp
        omega
      · rename_i h2
        split
        · rename_i h3
          constructor
          · intro k
            exact absurd k (fun e => by cases e)
          · rintro ⟨k1, _, k3⟩
            exfalso
            simp only [List.map_cons, List.all_cons, Bool.and_eq_true, goodC, okK, Bool.not_eq_true', bne_iff_ne, ne_eq] at k1 k3
            rcases h3 with h3 | h3 | h3
            · exact k3.1.1 h3
            · have := k3.1.2
              rw [h3.1, h3.2] at this
              exact absurd this (by decide)
            · rw [h3] at k1
              exact absurd k1.1.2 (by decide)
        · rename_i h3
          have ih := chkF_ok n t (p + r.2) (i + 1) (kind r.1) (by omega)
          rw [ih]
          have n1 : kind r.1 ≠ 0 := fun e => h3 (.inl e)
          have n2 : ¬ (kind r.1 = 3 ∧ last = 3) := fun e => h3 (.inr (.inl e))
          have n3 : great (r.1 : Int) = false := by
            cases hg : great (r.1 : Int) with
            | false => rfl
            | true => exact absurd (Or.inr (Or.inr hg)) h3
          have g : goodC r.1 = true := by simp [goodC, h, n3]
          have e2 : (!(kind r.1 == 3 && last == 3)) = true := by
            by_cases h4 : kind r.1 = 3
            · have : last ≠ 3 := fun e => n2 ⟨h4, e⟩
              simp [this]
            · simp [h4]
          simp only [List.map_cons, List.all_cons, g, Bool.true_and, okK, e2, Bool.and_true, List.length_cons]
          have e1 : (kind (r.1 : Int) != 0) = true := by simp [n1]
          rw [e1, Bool.true_and]
          constructor
          · rintro ⟨a, b, c⟩
            exact ⟨a, by omega, c⟩
          · rintro ⟨a, b, c⟩
            exact ⟨a, by omega, c⟩
def codes (l : List UInt8) : List Nat := (runesL l).map (·.1)
def okC (cs : List Nat) : Prop := cs.all goodC = true ∧ cs.length ≤ 40 ∧ okK cs 3 = true
theorem codes_nil : codes [] = [] := rfl
theorem chk_ok (l : List UInt8) : (chk l).2 = 0 ↔ okC (codes l) := by
  unfold chk okC
  split
  · rename_i h
    subst h
    exact ⟨fun k => absurd k (by decide), fun k => absurd k.2.2 (by decide)⟩
  · rw [chkF_ok _ _ _ _ _ (by decide), codes, List.length_map, Nat.zero_add]
theorem chkF_zero (n : Nat) : ∀ (rs : List (Nat × Nat)) (p i last : Nat), (chkF n rs p i last).2 = 0 → (chkF n rs p i last).1 = 0
  | [], p, i, last => by
    unfold chkF
    split
    · intro h; exact absurd h (fun e => by cases e)
    · intro _; rfl
  | r :: t, p, i, last => by
    unfold chkF
    repeat' split
    all_goals first | exact chkF_zero n t _ _ _ | (intro h; exact absurd h (fun e => by cases e))

/-! ### Runes that are written -/
def encC (cs : List Nat) : List UInt8 := cs.flatMap encL
def validC (cs : List Nat) : Prop := ∀ c ∈ cs, c < 55296 ∨ (57344 ≤ c ∧ c ≤ 1114111)
theorem encC_nil : encC [] = [] := rfl
theorem encC_cons (c : Nat) (cs : List Nat) : encC (c :: cs) = encL c ++ encC cs := rfl
theorem encC_append (a b : List Nat) : encC (a ++ b) = encC a ++ encC b := by simp [encC]
theorem codes_enc : ∀ (cs : List Nat), validC cs → codes (encC cs) = cs
  | [], _ => rfl
  | c :: cs, h => by
    rw [encC_cons, codes, runes_enc c (h c (by simp)), List.map_cons]
    congr 1
    exact codes_enc cs fun x hx => h x (by simp [hx])
theorem codes_cons (l : List UInt8) (h : l ≠ []) : codes l = (decL l).1 :: codes (l.drop (decL l).2) := by
  rw [codes, runes_cons l h]
  rfl
theorem codes_valid : ∀ l, validC (codes l) := by
  refine runes_ind ?_ ?_
  · intro c hc
    cases hc
  · intro l hl ih c hc
    rw [codes_cons l hl] at hc
    rcases List.mem_cons.1 hc with rfl | hc
    · exact dec_valid l
    · exact ih c hc
/-- A text without a fault is its runes, written. -/
theorem enc_codes : ∀ l, (codes l).all goodC = true → encC (codes l) = l := by
  refine runes_ind (fun _ => rfl) ?_
  intro l hl ih h
  rw [codes_cons l hl, List.all_cons, Bool.and_eq_true] at h
  rw [codes_cons l hl, encC_cons, ih h.2, enc_dec l hl (fun e => by rw [e] at h; exact absurd h.1 (by decide)), List.take_append_drop]

/-- A text with small letters. -/
def foldL (l : List UInt8) : List UInt8 := encC ((codes l).map foldC)
theorem map_valid {cs : List Nat} (h : validC cs) : validC (cs.map foldC) := by
  intro c hc
  obtain ⟨d, hd, rfl⟩ := List.mem_map.1 hc
  exact foldC_valid d (h d hd)
theorem codes_fold (l : List UInt8) : codes (foldL l) = (codes l).map foldC := codes_enc _ (map_valid (codes_valid l))
theorem fold_twice (l : List UInt8) : foldL (foldL l) = foldL l := by
  unfold foldL
  rw [show codes (encC ((codes l).map foldC)) = (codes l).map foldC from codes_fold l, List.map_map]
  congr 1
  apply List.map_congr_left
  intro c _
  exact foldC_twice c
theorem fold_good (l : List UInt8) (h : (codes l).all goodC = true) : foldL l = l := by
  unfold foldL
  have : (codes l).map foldC = codes l := by
    rw [List.map_congr_left (g := id), List.map_id]
    intro c hc
    have := List.all_eq_true.1 h c hc
    simp only [goodC, Bool.and_eq_true, Bool.not_eq_true'] at this
    unfold foldC
    rw [this.2]
    rfl
  rw [this, enc_codes l h]

/-! ### Parts -/
def partsF : Nat → List UInt8 → List UInt8 → List (List UInt8)
  | 0, cur, _ => [cur]
  | f + 1, cur, l => if l = [] then [cur] else
    if kind (decL l).1 = 3 then cur :: partsF f [] (l.drop (decL l).2) else partsF f (cur ++ l.take (decL l).2) (l.drop (decL l).2)
def partsL (l : List UInt8) : List (List UInt8) := partsF l.length [] l
/-- A joint has one byte. -/
theorem joint_one (l : List UInt8) (h : l ≠ []) (hk : kind (decL l).1 = 3) : (decL l).2 = 1 ∧ ∃ r, l = UInt8.ofNat (decL l).1 :: r ∧ (decL l).1 < 128 := by
  have hc := joint_cases ((kind_joint _).1 hk)
  have hlt : (decL l).1 < 128 := by omega
  match l, h with
  | x :: r, _ =>
    have key : decL (x :: r) = (x.toNat, 1) := by
      unfold decL at hlt ⊢
      simp only [List.getD_cons_zero] at hlt ⊢
      generalize x.toNat = b0 at *
      generalize ((x :: r).getD 1 0).toNat = b1 at *
      generalize ((x :: r).getD 2 0).toNat = b2 at *
      generalize ((x :: r).getD 3 0).toNat = b3 at *
      generalize (x :: r).length = n at *
      unfold Lib.decodeN at hlt ⊢
      repeat' split at hlt
      all_goals first | (rw [if_pos (by assumption)]) | (exfalso; simp only at hlt; omega)
    rw [key] at hlt ⊢
    exact ⟨rfl, r, by simp, hlt⟩
/-- Parts, with joints between them, are a text. -/
def Joined : List (List UInt8) → List UInt8 → Prop
  | [], _ => False
  | [p], l => l = p
  | p :: q :: r, l => ∃ j m, l = p ++ j :: m ∧ kind (j.toNat : Int) = 3 ∧ Joined (q :: r) m
theorem Joined.cons {p : List UInt8} {ps : List (List UInt8)} {j : UInt8} {m : List UInt8} (h : Joined ps m) (hk : kind (j.toNat : Int) = 3) : Joined (p :: ps) (p ++ j :: m) := by
  match ps, h with
  | q :: r, h => exact ⟨j, m, rfl, hk, h⟩
theorem parts_joined : ∀ (f : Nat) (cur l : List UInt8), l.length ≤ f → Joined (partsF f cur l) (cur ++ l)
  | 0, cur, l, h => by
    have : l = [] := List.length_eq_zero_iff.1 (by omega)
    subst this
    exact List.append_nil cur
  | f + 1, cur, l, h => by
    unfold partsF
    by_cases hl : l = []
    · rw [if_pos hl, hl]
      exact List.append_nil cur
    · rw [if_neg hl]
      have hp := dec_pos l
      have hl2 := List.length_pos_iff.2 hl
      have ih := fun cur => parts_joined f cur (l.drop (decL l).2) (by rw [List.length_drop]; omega)
      split
      · rename_i hk
        obtain ⟨h1, r, h2, h3⟩ := joint_one l hl hk
        have i1 := ih []
        rw [h1, List.nil_append] at i1
        rw [h1]
        have hc : ((UInt8.ofNat (decL l).1).toNat : Int) = ((decL l).1 : Int) := by
          rw [UInt8.toNat_ofNat', Nat.mod_eq_of_lt (by omega)]
        have i2 := Joined.cons (p := cur) (j := UInt8.ofNat (decL l).1) i1 (by rw [hc]; exact hk)
        have e : cur ++ l = cur ++ UInt8.ofNat (decL l).1 :: l.drop 1 := by
          conv => lhs; rw [h2]
          rw [show l.drop 1 = r by rw [h2]; rfl]
        rw [e]
        exact i2
      · have := ih (cur ++ l.take (decL l).2)
        rwa [List.append_assoc, List.take_append_drop] at this
theorem partsL_joined (l : List UInt8) : Joined (partsL l) l := parts_joined l.length [] l (Nat.le_refl _)

def splitC : List Nat → List Nat → List (List Nat)
  | cur, [] => [cur]
  | cur, c :: cs => if kind c = 3 then cur :: splitC [] cs else splitC (cur ++ [c]) cs
theorem parts_split : ∀ (cs : List Nat) (f : Nat) (cur : List Nat), validC cs → (encC cs).length ≤ f → partsF f (encC cur) (encC cs) = (splitC cur cs).map encC
  | [], f, cur, _, _ => by
    cases f with
    | zero => rfl
    | succ f => rfl
  | c :: cs, f, cur, hv, hf => by
    have hd := dec_enc c (hv c (by simp)) (encC cs)
    have h1 : 1 ≤ (encL c).length := by
      have := Lib.encodeRuneZ_length (c : Int)
      rw [encL, Lib.encodeRune, List.length_map]
      omega
    have hne : encC (c :: cs) ≠ [] := by
      intro e
      have := congrArg List.length e
      rw [encC_cons, List.length_append, List.length_nil] at this
      omega
    rw [encC_cons, List.length_append] at hf
    obtain ⟨g, rfl⟩ : ∃ g, f = g + 1 := ⟨f - 1, by omega⟩
    unfold partsF splitC
    rw [if_neg hne, encC_cons, hd]
    simp only [List.drop_left, List.take_left]
    have hv2 : validC cs := fun x hx => hv x (by simp [hx])
    split
    · rw [List.map_cons]
      congr 1
      exact parts_split cs g [] hv2 (by omega)
    · rw [← parts_split cs g (cur ++ [c]) hv2 (by omega), encC_append]
      congr 1
      simp [encC]
def plainC (cs : List Nat) : Prop := ∀ c ∈ cs, kind c ≠ 0 ∧ kind c ≠ 3
theorem okK_plain : ∀ (cs : List Nat) (last : Nat), plainC cs → (cs = [] → last ≠ 3) → okK cs last = true
  | [], last, _, h => by simp [okK, h rfl]
  | c :: cs, last, h, _ => by
    have hc := h c (by simp)
    have ih := okK_plain cs (kind c) (fun x hx => h x (by simp [hx])) (fun _ => hc.2)
    simp [okK, hc.1, hc.2, ih]
theorem split_ok : ∀ (cs cur : List Nat) (last : Nat), okK cs last = true → (last = 3 ↔ cur = []) → plainC cur → ∀ r ∈ splitC cur cs, r ≠ [] ∧ plainC r ∧ ∀ c ∈ r, c ∈ cur ∨ c ∈ cs
  | [], cur, last, h, hl, hp, r, hr => by
    simp only [splitC, List.mem_singleton] at hr
    subst hr
    refine ⟨fun e => ?_, hp, fun c hc => .inl hc⟩
    rw [hl.2 e] at h
    exact absurd h (by decide)
  | c :: cs, cur, last, h, hl, hp, r, hr => by
    simp only [okK, Bool.and_eq_true, bne_iff_ne, ne_eq, Bool.not_eq_true'] at h
    unfold splitC at hr
    split at hr
    · rename_i hk
      rw [hk] at h
      rcases List.mem_cons.1 hr with rfl | hr
      · refine ⟨fun e => ?_, hp, fun c hc => .inl hc⟩
        rw [hl.2 e] at h
        exact absurd h.1.2 (by decide)
      · obtain ⟨a, b, k⟩ := split_ok cs [] 3 h.2 ⟨fun _ => rfl, fun _ => rfl⟩ (fun x hx => by cases hx) r hr
        refine ⟨a, b, fun x hx => ?_⟩
        rcases k x hx with q | q
        · cases q
        · exact .inr (by simp [q])
    · rename_i hk
      obtain ⟨a, b, k⟩ := split_ok cs (cur ++ [c]) (kind c) h.2 ⟨fun e => absurd e hk, fun e => by simp at e⟩ (fun x hx => by
        rcases List.mem_append.1 hx with q | q
        · exact hp x q
        · rw [List.mem_singleton.1 q]
          exact ⟨h.1.1, hk⟩) r hr
      refine ⟨a, b, fun x hx => ?_⟩
      rcases k x hx with q | q
      · rcases List.mem_append.1 q with q | q
        · exact .inl q
        · exact .inr (by simp [List.mem_singleton.1 q])
      · exact .inr (by simp [q])
theorem split_len : ∀ (cs cur : List Nat), ∀ r ∈ splitC cur cs, r.length ≤ cur.length + cs.length
  | [], cur, r, hr => by
    simp only [splitC, List.mem_singleton] at hr
    subst hr
    simp
  | c :: cs, cur, r, hr => by
    unfold splitC at hr
    split at hr
    · rcases List.mem_cons.1 hr with rfl | hr
      · omega
      · have := split_len cs [] r hr
        simp at this ⊢
        omega
    · have := split_len cs _ r hr
      simp at this ⊢
      omega
/-- The parts of an identity are identities. -/
theorem parts_ok (l : List UInt8) (h : (chk l).2 = 0) : ∀ p ∈ partsL l, (chk p).2 = 0 := by
  obtain ⟨h1, h2, h3⟩ := (chk_ok l).1 h
  have hv := codes_valid l
  have he := enc_codes l h1
  intro p hp
  have hps := parts_split (codes l) l.length [] hv (by rw [he]; exact Nat.le_refl _)
  rw [he, encC_nil] at hps
  unfold partsL at hp
  rw [hps] at hp
  obtain ⟨r, hr, rfl⟩ := List.mem_map.1 hp
  obtain ⟨a, b, k⟩ := split_ok (codes l) [] 3 h3 ⟨fun _ => rfl, fun _ => rfl⟩ (fun x hx => by cases hx) r hr
  have k' : ∀ c ∈ r, c ∈ codes l := fun c hc => (k c hc).elim (fun q => by cases q) id
  rw [chk_ok, codes_enc r fun c hc => hv c (k' c hc)]
  refine ⟨List.all_eq_true.2 fun c hc => List.all_eq_true.1 h1 c (k' c hc), ?_, okK_plain r 3 b fun e => absurd e a⟩
  have := split_len _ _ r hr
  simp at this
  omega

/-! ### Two identities -/
theorem okK_append : ∀ (a b : List Nat) (last : Nat), okK a last = true → okK b 3 = true → okK (a ++ b) last = true
  | [], b, last, h, hb => by
    match b, hb with
    | c :: t, hb =>
      simp only [List.nil_append, okK, Bool.and_eq_true, bne_iff_ne, ne_eq, Bool.not_eq_true'] at hb h ⊢
      refine ⟨⟨hb.1.1, ?_⟩, hb.2⟩
      cases hk : (kind (c : Int) == 3) with
      | false => rfl
      | true => rw [hk] at hb; exact absurd hb.1.2 (by decide)
  | c :: a, b, last, h, hb => by
    simp only [List.cons_append, okK, Bool.and_eq_true] at h ⊢
    exact ⟨h.1, okK_append a b _ h.2 hb⟩
theorem okK_joint : ∀ (a b : List Nat) (last j : Nat), kind j = 3 → okK a last = true → okK b 3 = true → okK (a ++ j :: b) last = true
  | [], b, last, j, hj, h, hb => by
    simp only [List.nil_append, okK, hj, hb]
    simp only [okK] at h
    have : last ≠ 3 := by simpa using h
    simp [this]
  | c :: a, b, last, j, hj, h, hb => by
    simp only [List.cons_append, okK, Bool.and_eq_true] at h ⊢
    exact ⟨h.1, okK_joint a b _ j hj h.2 hb⟩
theorem okK_joints : ∀ (a b : List Nat) (last j : Nat), kind j = 3 → okK (a ++ j :: j :: b) last = false
  | [], b, last, j, hj => by simp [okK, hj]
  | c :: a, b, last, j, hj => by
    simp only [List.cons_append, okK, okK_joints a b _ j hj, Bool.and_false]
theorem enc_joint (j : UInt8) (h : joint (j.toNat : Int) = true) : encL j.toNat = [j] := by
  have hc := joint_cases h
  unfold encL Lib.encodeRune
  rw [Lib.encodeRuneZ_one (by omega) (by omega)]
  simp
theorem joint_good (j : Nat) (h : joint (j : Int) = true) : goodC j = true := by
  have hc := joint_cases h
  have : great (j : Int) = false := by
    cases hg : great (j : Int) with
    | false => rfl
    | true => have := great_cases.1 hg; omega
  simp [goodC, this]
  omega
theorem joins (a b : List UInt8) (j : UInt8) (ha : (chk a).2 = 0) (hb : (chk b).2 = 0) (hj : joint (j.toNat : Int) = true) :
    ((chk (a ++ [j] ++ b)).2 = 0 ↔ (codes a).length + (codes b).length < 40) ∧ ((chk (a ++ b)).2 = 0 ↔ (codes a).length + (codes b).length ≤ 40) ∧ (chk (a ++ [j, j] ++ b)).2 ≠ 0 := by
  obtain ⟨a1, a2, a3⟩ := (chk_ok a).1 ha
  obtain ⟨b1, b2, b3⟩ := (chk_ok b).1 hb
  have va := codes_valid a
  have vb := codes_valid b
  have ea := enc_codes a a1
  have eb := enc_codes b b1
  have ej := enc_joint j hj
  have hk := (kind_joint (j.toNat : Int)).2 hj
  have gj := joint_good j.toNat hj
  have vj : j.toNat < 55296 ∨ (57344 ≤ j.toNat ∧ j.toNat ≤ 1114111) := .inl (by have := j.toNat_lt; omega)
  have c1 : codes (a ++ [j] ++ b) = codes a ++ j.toNat :: codes b := by
    have := codes_enc (codes a ++ j.toNat :: codes b) (fun c hc => by
      rcases List.mem_append.1 hc with q | q
      · exact va c q
      · rcases List.mem_cons.1 q with rfl | q
        · exact vj
        · exact vb c q)
    rw [encC_append, encC_cons, ea, eb, ej] at this
    rw [List.append_assoc]
    exact this
  have c2 : codes (a ++ b) = codes a ++ codes b := by
    have := codes_enc (codes a ++ codes b) (fun c hc => by
      rcases List.mem_append.1 hc with q | q
      · exact va c q
      · exact vb c q)
    rwa [encC_append, ea, eb] at this
  have c3 : codes (a ++ [j, j] ++ b) = codes a ++ j.toNat :: j.toNat :: codes b := by
    have := codes_enc (codes a ++ j.toNat :: j.toNat :: codes b) (fun c hc => by
      rcases List.mem_append.1 hc with q | q
      · exact va c q
      · rcases List.mem_cons.1 q with rfl | q
        · exact vj
        · rcases List.mem_cons.1 q with rfl | q
          · exact vj
          · exact vb c q)
    rw [encC_append, encC_cons, encC_cons, ea, eb, ej] at this
    rw [List.append_assoc]
    exact this
  refine ⟨?_, ?_, ?_⟩
  · rw [chk_ok, okC, c1]
    have k1 : (codes a ++ j.toNat :: codes b).all goodC = true := by rw [List.all_append, List.all_cons, a1, gj, b1]; rfl
    have k2 := okK_joint (codes a) (codes b) 3 j.toNat hk a3 b3
    rw [k1, k2, List.length_append, List.length_cons]
    constructor
    · rintro ⟨_, h, _⟩
      omega
    · intro h
      exact ⟨rfl, by omega, rfl⟩
  · rw [chk_ok, okC, c2]
    have k1 : (codes a ++ codes b).all goodC = true := by rw [List.all_append, a1, b1]; rfl
    have k2 := okK_append (codes a) (codes b) 3 a3 b3
    rw [k1, k2, List.length_append]
    constructor
    · rintro ⟨_, h, _⟩
      omega
    · intro h
      exact ⟨rfl, by omega, rfl⟩
  · intro h
    rw [chk_ok, okC, c3, okK_joints _ _ _ _ hk] at h
    exact absurd h.2.2 (by decide)
end Go.Proofs.YtpfonbpfmipdlaaDoor
