/- The words of a text, said over lists of bytes: plain functions, no program. -/
import Derived.Lib.Bytealg
import Derived.Lib.Strings
namespace Go.Proofs.YtdooeghicdaakaaGreatDoor

def blankB (c : UInt8) : Bool := c.toNat == 32 || c.toNat == 9 || c.toNat == 10 || c.toNat == 13
def digitB (c : UInt8) : Bool := decide (48 ≤ c.toNat) && decide (c.toNat ≤ 57)
def greatB (c : UInt8) : Bool := decide (65 ≤ c.toNat) && decide (c.toNat ≤ 90)
def beginB (c : UInt8) : Bool := decide (97 ≤ c.toNat) && decide (c.toNat ≤ 122) || greatB c || c.toNat == 95
def innerB (c : UInt8) : Bool := beginB c || digitB c || c.toNat == 39
def opsL : List (List UInt8) := [[61, 61], [47, 61], [60], [60, 61], [62], [62, 61], [43], [45], [42]]
def marksL : List (List UInt8) := [[40], [41], [123], [125], [44], [59], [61], [45, 62], [61, 62], [58, 58], [92], [124]]
def wordsL : List (List UInt8) := [[100, 97, 116, 97], [99, 108, 97, 115, 115], [105, 110, 115, 116, 97, 110, 99, 101], [119, 104, 101, 114, 101], [108, 101, 116], [105, 110], [99, 97, 115, 101], [111, 102], [105, 102], [116, 104, 101, 110], [101, 108, 115, 101], [100, 101, 114, 105, 118, 105, 110, 103]]

/-- How many bytes at the head of a text are blanks or remarks; the mark: within a remark. -/
def sk : Bool → List UInt8 → Nat
  | _, [] => 0
  | false, c :: r => if blankB c then sk false r + 1 else if c == 45 && r.head? == some 45 then sk true r + 1 else 0
  | true, c :: r => if c == 10 then sk false r + 1 else sk true r + 1

theorem sk_le (b : Bool) (l : List UInt8) : sk b l ≤ l.length := by
  induction l generalizing b with
  | nil => cases b <;> simp [sk]
  | cons c r ih =>
    cases b
    · unfold sk
      split
      · have := ih false; simp; omega
      · split
        · have := ih true; simp; omega
        · simp
    · unfold sk
      split
      · have := ih false; simp; omega
      · have := ih true; simp; omega

/-- A remark's end: from its line's end on, or nothing is left. -/
theorem sk_remark (l : List UInt8) : (Lib.indexByte l 10 = -1 → sk true l = l.length) ∧
    (∀ n : Nat, Lib.indexByte l 10 = n → sk true l = n + sk false (l.drop n)) := by
  induction l with
  | nil => exact ⟨fun _ => rfl, fun n h => by simp [Lib.indexByte] at h⟩
  | cons c r ih =>
    have hge := Lib.indexByte_ge r 10
    by_cases hc : c = 10
    · subst hc
      refine ⟨fun h => by simp [Lib.indexByte] at h, fun n h => ?_⟩
      have : n = 0 := by simp [Lib.indexByte] at h; omega
      subst this
      simp [sk, blankB]
    · refine ⟨fun h => ?_, fun n h => ?_⟩
      · have h' : Lib.indexByte r 10 = -1 := by
          simp [Lib.indexByte, hc] at h
          by_cases e : Lib.indexByte r 10 = -1
          · exact e
          · simp [e] at h; omega
        simp [sk, hc, ih.1 h']
      · have e : ¬ Lib.indexByte r 10 = -1 := by
          intro e
          simp [Lib.indexByte, hc, e] at h
        have h2 : Lib.indexByte r 10 + 1 = n := by simpa [Lib.indexByte, hc, e] using h
        obtain ⟨m, rfl⟩ : ∃ m, n = m + 1 := ⟨n - 1, by omega⟩
        have := ih.2 m (by omega)
        simp [sk, hc, this]; omega

/-- The first place from p on that is neither blank nor in a remark. -/
def skipTo (l : List UInt8) (p : Nat) : Nat := p + sk false (l.drop p)
theorem skipTo_le (l : List UInt8) (p : Nat) (h : p ≤ l.length) : skipTo l p ≤ l.length := by
  have := sk_le false (l.drop p)
  simp at this
  unfold skipTo
  omega
theorem skipTo_ge (l : List UInt8) (p : Nat) : p ≤ skipTo l p := by unfold skipTo; omega
theorem skipTo_end (l : List UInt8) (p : Nat) (h : l.length ≤ p) : skipTo l p = p := by
  unfold skipTo
  rw [List.drop_of_length_le h]
  rfl
theorem drop_cons (l : List UInt8) (p : Nat) (h : p < l.length) : l.drop p = l[p] :: l.drop (p + 1) := by simp
theorem skipTo_blank (l : List UInt8) (p : Nat) (h : p < l.length) (hb : blankB l[p] = true) : skipTo l p = skipTo l (p + 1) := by
  unfold skipTo
  rw [drop_cons l p h, sk, if_pos hb]
  omega
theorem skipTo_word (l : List UInt8) (p : Nat) (h : p < l.length) (hb : blankB l[p] = false) (hd : Lib.hasPrefix (l.drop p) [45, 45] = false) : skipTo l p = p := by
  unfold skipTo
  have e : (l[p] == 45 && (l.drop (p + 1)).head? == some 45) = false := by
    rw [drop_cons l p h] at hd
    unfold Lib.hasPrefix at hd
    revert hd
    cases hl : l.drop (p + 1) with
    | nil => simp
    | cons x y => simp [List.isPrefixOf]; intro a b c; exact a b.symm c.symm
  rw [drop_cons l p h, sk, if_neg (by simp [hb]), if_neg (by simp only [e]; decide)]
  rfl
theorem skipTo_remark (l : List UInt8) (p : Nat) (h : p < l.length) (hb : blankB l[p] = false) (hd : Lib.hasPrefix (l.drop p) [45, 45] = true) :
    (Lib.indexByte (l.drop p) 10 = -1 → skipTo l p = l.length) ∧ (∀ n : Nat, Lib.indexByte (l.drop p) 10 = n → skipTo l p = skipTo l (p + n)) := by
  have e : (l[p] == 45 && (l.drop (p + 1)).head? == some 45) = true := by
    rw [drop_cons l p h] at hd
    unfold Lib.hasPrefix at hd
    revert hd
    cases hl : l.drop (p + 1) with
    | nil => simp
    | cons x y => simp [List.isPrefixOf]; intro a b; exact ⟨a.symm, b.symm⟩
  have e0 : l[p] ≠ 10 := by
    intro e0
    rw [e0] at e
    simp at e
  have e2 : sk false (l.drop p) = sk true (l.drop p) := by
    rw [drop_cons l p h, sk, sk, if_neg (by simp [hb]), if_pos e, if_neg (by simp [e0])]
  have r := sk_remark (l.drop p)
  unfold skipTo
  rw [e2]
  refine ⟨fun hn => ?_, fun n hn => ?_⟩
  · rw [r.1 hn]; simp; omega
  · rw [r.2 n hn, List.drop_drop]; omega

/-- The end of the line that p is in. -/
def lineE (l : List UInt8) (p : Nat) : Nat := if Lib.indexByte (l.drop p) 10 = -1 then l.length else p + (Lib.indexByte (l.drop p) 10).toNat
theorem lineE_none (l : List UInt8) (p : Nat) (h : Lib.indexByte (l.drop p) 10 < 0) : lineE l p = l.length := by
  have := Lib.indexByte_ge (l.drop p) 10
  unfold lineE
  rw [if_pos (by omega)]
theorem lineE_some (l : List UInt8) (p : Nat) (h : 0 ≤ Lib.indexByte (l.drop p) 10) : ((lineE l p : Nat) : Int) = p + Lib.indexByte (l.drop p) 10 := by
  unfold lineE
  rw [if_neg (by omega)]
  omega
theorem indexByte_lt (l : List UInt8) (c : UInt8) : Lib.indexByte l c ≤ l.length := by
  induction l with
  | nil => simp [Lib.indexByte]
  | cons b r ih =>
    unfold Lib.indexByte
    split
    · simp; omega
    · split
      · simp; omega
      · simp; omega
theorem lineE_le (l : List UInt8) (p : Nat) (hp : p ≤ l.length) : lineE l p ≤ l.length := by
  have h1 := indexByte_lt (l.drop p) 10
  have h2 := Lib.indexByte_ge (l.drop p) 10
  rw [List.length_drop] at h1
  unfold lineE
  split
  · exact Nat.le_refl _
  · omega
theorem lineE_gt (l : List UInt8) (p : Nat) (h : p < l.length) (hb : blankB l[p] = false) : p < lineE l p := by
  unfold lineE
  split
  · exact h
  · rename_i e
    rw [drop_cons l p h] at e ⊢
    have hc : l[p] ≠ 10 := by intro e; rw [e] at hb; simp [blankB] at hb
    have h2 := Lib.indexByte_ge (l.drop (p + 1)) 10
    by_cases k : Lib.indexByte (l.drop (p + 1)) 10 = -1
    · exact absurd (by simp [Lib.indexByte, hc, k]) e
    · have : Lib.indexByte (l[p] :: l.drop (p + 1)) 10 = Lib.indexByte (l.drop (p + 1)) 10 + 1 := by simp [Lib.indexByte, hc, k]
      rw [this]; omega
theorem skipTo_line (l : List UInt8) (p : Nat) (h : p < l.length) (hb : blankB l[p] = false) (hd : Lib.hasPrefix (l.drop p) [45, 45] = true) : skipTo l p = skipTo l (lineE l p) := by
  have r := skipTo_remark l p h hb hd
  have hge := Lib.indexByte_ge (l.drop p) 10
  by_cases e : Lib.indexByte (l.drop p) 10 = -1
  · rw [lineE_none l p (by omega), r.1 e, skipTo_end l _ (Nat.le_refl _)]
  · rw [r.2 (Lib.indexByte (l.drop p) 10).toNat (by omega)]
    unfold lineE
    rw [if_neg e]

/-- How many signs of a name stand at the head. -/
def innerLen : List UInt8 → Nat
  | [] => 0
  | c :: r => if innerB c then innerLen r + 1 else 0
def nameLen : List UInt8 → Nat
  | [] => 0
  | c :: r => if beginB c then innerLen r + 1 else 0
theorem innerLen_le (l : List UInt8) : innerLen l ≤ l.length := by
  induction l with
  | nil => exact Nat.le_refl _
  | cons c r ih => unfold innerLen; split <;> simp <;> omega
theorem nameLen_le (l : List UInt8) : nameLen l ≤ l.length := by
  cases l with
  | nil => exact Nat.le_refl _
  | cons c r =>
    have := innerLen_le r
    show (if beginB c then innerLen r + 1 else 0) ≤ r.length + 1
    split <;> omega
theorem innerLen_step (l : List UInt8) (k : Nat) (h : k < l.length) (hi : innerB l[k] = true) : k + innerLen (l.drop k) = k + 1 + innerLen (l.drop (k + 1)) := by
  rw [drop_cons l k h, innerLen, if_pos hi]; omega
theorem innerLen_stop (l : List UInt8) (k : Nat) (h : k < l.length) (hi : innerB l[k] = false) : k + innerLen (l.drop k) = k := by
  rw [drop_cons l k h, innerLen, if_neg (by simp [hi])]; omega
theorem innerLen_end (l : List UInt8) : l.length + innerLen (l.drop l.length) = l.length := by
  rw [List.drop_length]; rfl
theorem nameLen_begin (l : List UInt8) (h : 0 < l.length) (hi : beginB l[0] = true) : 1 + innerLen (l.drop 1) = nameLen l := by
  match l, h, hi with
  | c :: r, _, hi => simp at hi; rw [nameLen, if_pos hi]; simp; omega
theorem nameLen_none (l : List UInt8) (h : 0 < l.length) (hi : beginB l[0] = false) : nameLen l = 0 := by
  match l, h, hi with
  | c :: r, _, hi => simp at hi; rw [nameLen, if_neg (by simp [hi])]
theorem nameLen_pos (l : List UInt8) (h : nameLen l ≠ 0) : 0 < l.length := by
  cases l with
  | nil => exact absurd rfl h
  | cons c r => simp

/-- What all of l is as a name: 1 Low, 2 High, 6 Mark; 0: none. -/
def kindOf (l : List UInt8) : Int :=
  if nameLen l = 0 ∨ nameLen l < l.length ∨ 40 < nameLen l then 0 else if l = [95] ∨ l ∈ wordsL then 6 else if greatB (l.headD 0) then 2 else 1
theorem kindOf_none (l : List UInt8) (h : nameLen l = 0 ∨ nameLen l < l.length ∨ 40 < nameLen l) : kindOf l = 0 := by unfold kindOf; rw [if_pos h]
theorem kindOf_mark (l : List UInt8) (h : ¬ (nameLen l = 0 ∨ nameLen l < l.length ∨ 40 < nameLen l)) (h2 : l = [95] ∨ l ∈ wordsL) : kindOf l = 6 := by unfold kindOf; rw [if_neg h, if_pos h2]
theorem kindOf_name (l : List UInt8) (h : ¬ (nameLen l = 0 ∨ nameLen l < l.length ∨ 40 < nameLen l)) (h2 : ¬ (l = [95] ∨ l ∈ wordsL)) (h0 : 0 < l.length) : kindOf l = if greatB l[0] then 2 else 1 := by
  unfold kindOf; rw [if_neg h, if_neg h2]
  match l, h0 with
  | c :: r, _ => rfl

/-- How many digits stand at the head, and what they come to. -/
def digLen : List UInt8 → Nat
  | [] => 0
  | c :: r => if digitB c then digLen r + 1 else 0
def valOf (l : List UInt8) : Int := l.foldl (fun a c => a * 10 + ((c.toNat : Int) - 48)) 0
theorem digLen_le (l : List UInt8) : digLen l ≤ l.length := by
  induction l with
  | nil => exact Nat.le_refl _
  | cons c r ih =>
    show (if digitB c then digLen r + 1 else 0) ≤ r.length + 1
    split <;> omega
theorem digLen_step (l : List UInt8) (k : Nat) (h : k < l.length) (hi : digitB l[k] = true) : k + digLen (l.drop k) = k + 1 + digLen (l.drop (k + 1)) := by
  rw [drop_cons l k h, digLen, if_pos hi]; omega
theorem digLen_stop (l : List UInt8) (k : Nat) (h : k < l.length) (hi : digitB l[k] = false) : k + digLen (l.drop k) = k := by
  rw [drop_cons l k h, digLen, if_neg (by simp [hi])]; omega
theorem digLen_end (l : List UInt8) : l.length + digLen (l.drop l.length) = l.length := by
  rw [List.drop_length]; rfl
theorem valOf_step (l : List UInt8) (k : Nat) (h : k < l.length) : valOf (l.take (k + 1)) = valOf (l.take k) * 10 + ((l[k].toNat : Int) - 48) := by
  unfold valOf
  rw [List.take_succ_eq_append_getElem h, List.foldl_append]
  rfl
theorem digitB_iff (c : UInt8) : digitB c = true ↔ 48 ≤ c.toNat ∧ c.toNat ≤ 57 := by unfold digitB; simp
def allDig (l : List UInt8) : Prop := ∀ c ∈ l, digitB c = true
theorem valOf_bound (l : List UInt8) (h : allDig l) : 0 ≤ valOf l ∧ valOf l < 10 ^ l.length := by
  suffices H : ∀ (l : List UInt8) (a : Int) (n : Nat), 0 ≤ a → a < 10 ^ n → allDig l → 0 ≤ l.foldl (fun a c => a * 10 + ((c.toNat : Int) - 48)) a ∧ l.foldl (fun a c => a * 10 + ((c.toNat : Int) - 48)) a < 10 ^ (n + l.length) by
    have := H l 0 0 (by omega) (by decide) h
    simpa [valOf] using this
  intro l
  induction l with
  | nil => intro a n h0 h1 _; exact ⟨h0, by simpa using h1⟩
  | cons c r ih =>
    intro a n h0 h1 hd
    have hc := (digitB_iff c).1 (hd c (by simp))
    have hp : (10 : Int) ^ (n + 1) = 10 ^ n * 10 := by rw [Int.pow_succ]
    have := ih (a * 10 + ((c.toNat : Int) - 48)) (n + 1) (by omega) (by omega) (fun x hx => hd x (by simp [hx]))
    simp only [List.foldl_cons, List.length_cons]
    rw [show n + (r.length + 1) = n + 1 + r.length from by omega]
    exact this
theorem allDig_take (l : List UInt8) (k : Nat) (h : k ≤ digLen l) : allDig (l.take k) := by
  induction l generalizing k with
  | nil => simp [allDig]
  | cons c r ih =>
    cases k with
    | zero => simp [allDig]
    | succ k =>
      have hd : digitB c = true := by
        cases e : digitB c with
        | true => rfl
        | false => simp [digLen, e] at h
      simp [digLen, hd] at h
      intro x hx
      simp at hx
      rcases hx with rfl | hx
      · exact hd
      · exact ih k h x hx

theorem valOf_small (l : List UInt8) (k : Nat) (h : k ≤ digLen l) (hk : k ≤ 15) : 0 ≤ valOf (l.take k) ∧ valOf (l.take k) < 1000000000000000 := by
  have b := valOf_bound _ (allDig_take l k h)
  have hp : ∀ k : Fin 16, (10 : Int) ^ k.val ≤ 1000000000000000 := by decide
  have := hp ⟨(l.take k).length, by simp; omega⟩
  simp only at this
  omega

/-- A letter: quote, one sign or a backslash and one, quote: its length and its code. -/
def escV (c : UInt8) : Int := if c.toNat = 110 then 10 else if c.toNat = 39 ∨ c.toNat = 92 then c.toNat else 0
def escB (c : UInt8) : Bool := c.toNat == 110 || c.toNat == 39 || c.toNat == 92
def plainB (c : UInt8) : Bool := decide (32 ≤ c.toNat) && decide (c.toNat ≤ 126) && c.toNat != 39
def letterOf : List UInt8 → Option (Int × Nat × Int)
  | _ :: c :: d :: r =>
    if c.toNat = 92 then (if escB d = true ∧ r.head? = some 39 then some (4, 4, escV d) else none)
    else if plainB c = true ∧ d = 39 then some (4, 3, c.toNat) else none
  | _ => none

theorem letterOf_short (l : List UInt8) (h : l.length < 3) : letterOf l = none := by
  match l, h with
  | [], _ => rfl
  | [_], _ => rfl
  | [_, _], _ => rfl
theorem letterOf_plain (l : List UInt8) (h : 2 < l.length) (hc : l[1].toNat ≠ 92) : letterOf l = if plainB l[1] = true ∧ l[2] = 39 then some ((4, 3, (l[1].toNat : Int)) : Int × Nat × Int) else none := by
  match l, h, hc with
  | _ :: c :: d :: r, _, hc => exact if_neg hc
theorem letterOf_esc (l : List UInt8) (h : 2 < l.length) (hc : l[1].toNat = 92) (h3 : l.length = 3 ∨ escB l[2] = false) : letterOf l = none := by
  match l, h, hc, h3 with
  | _ :: c :: d :: r, _, hc, h3 =>
    refine (if_pos hc).trans (if_neg ?_)
    rintro ⟨a, b⟩
    rcases h3 with h3 | h3
    · simp at h3; rw [h3] at b; simp at b
    · simp at h3; rw [h3] at a; cases a
theorem letterOf_esc4 (l : List UInt8) (h : 3 < l.length) (hc : l[1].toNat = 92) (hd : escB l[2] = true) : letterOf l = if l[3] = 39 then some ((4, 4, escV l[2]) : Int × Nat × Int) else none := by
  match l, h, hc, hd with
  | _ :: c :: d :: x :: r, _, hc, hd =>
    refine (if_pos hc).trans ?_
    by_cases e : x = 39
    · rw [if_pos ⟨hd, by simp [e]⟩]; exact (if_pos e).symm
    · rw [if_neg (by simp [e])]; exact (if_neg e).symm

/-- An operator or a mark of n bytes, or of fewer. -/
def signAt (l : List UInt8) (n : Nat) : Option (Int × Nat × Int) := if l.take n ∈ opsL then some (5, n, 0) else if l.take n ∈ marksL then some (6, n, 0) else none
def signFrom (l : List UInt8) : Nat → Option (Int × Nat × Int)
  | 0 => none
  | n + 1 => (signAt l (n + 1)).or (signFrom l n)

/-- The word at the head of a text: its kind, its length, its number. -/
def nameOf (l : List UInt8) : Option (Int × Nat × Int) := if kindOf (l.take (nameLen l)) = 0 then none else some (kindOf (l.take (nameLen l)), nameLen l, 0)
def numberOf (l : List UInt8) : Option (Int × Nat × Int) := if digLen l ≤ 15 then some (3, digLen l, valOf (l.take (digLen l))) else none
def wordOf (l : List UInt8) : Option (Int × Nat × Int) :=
  if beginB (l.headD 0) then nameOf l else if digitB (l.headD 0) then numberOf l else if (l.headD 0).toNat = 39 then letterOf l else signFrom l (min 2 l.length)

theorem digLen_pos (l : List UInt8) (h : digitB (l.headD 0) = true) : 1 ≤ digLen l := by
  cases l with
  | nil => simp [digitB] at h
  | cons c r => simp at h; simp [digLen, h]
theorem nameLen_pos' (l : List UInt8) (h : beginB (l.headD 0) = true) : 1 ≤ nameLen l := by
  cases l with
  | nil => simp [beginB, greatB] at h
  | cons c r => simp at h; simp [nameLen, h]
theorem letterOf_len (l : List UInt8) (k : Int) (n : Nat) (v : Int) (h : letterOf l = some (k, n, v)) : 1 ≤ n ∧ n ≤ l.length := by
  match l, h with
  | [], h => simp [letterOf] at h
  | [_], h => simp [letterOf] at h
  | [_, _], h => simp [letterOf] at h
  | _ :: c :: d :: r, h =>
    simp only [letterOf] at h
    by_cases hc : c.toNat = 92
    · rw [if_pos hc] at h
      by_cases e : escB d = true ∧ r.head? = some 39
      · rw [if_pos e] at h
        cases r with
        | nil => simp at e
        | cons x y => simp at h; simp; omega
      · rw [if_neg e] at h; simp at h
    · rw [if_neg hc] at h
      by_cases e : plainB c = true ∧ d = 39
      · rw [if_pos e] at h; simp at h; simp; omega
      · rw [if_neg e] at h; simp at h
theorem signAt_len (l : List UInt8) (j : Nat) (k : Int) (n : Nat) (v : Int) (h : signAt l j = some (k, n, v)) : n = j := by
  unfold signAt at h
  split at h
  · simp at h; omega
  · split at h
    · simp at h; omega
    · simp at h
theorem signFrom_len (l : List UInt8) (j : Nat) (k : Int) (n : Nat) (v : Int) (h : signFrom l j = some (k, n, v)) : 1 ≤ n ∧ n ≤ j := by
  induction j with
  | zero => simp [signFrom] at h
  | succ j ih =>
    unfold signFrom at h
    cases hs : signAt l (j + 1) with
    | none => rw [hs] at h; have := ih h; omega
    | some r =>
      rw [hs] at h
      have h' : r = (k, n, v) := by simpa using h
      subst h'
      have := signAt_len l (j + 1) k n v hs
      omega
theorem wordOf_len (l : List UInt8) (k : Int) (n : Nat) (v : Int) (h : wordOf l = some (k, n, v)) : 1 ≤ n ∧ n ≤ l.length := by
  unfold wordOf at h
  split at h
  · rename_i e
    unfold nameOf at h
    split at h
    · simp at h
    · simp at h
      have := nameLen_pos' l e
      have := nameLen_le l
      omega
  · split at h
    · rename_i e
      unfold numberOf at h
      split at h
      · simp at h
        have := digLen_pos l e
        have := digLen_le l
        omega
      · simp at h
    · split at h
      · exact letterOf_len l k n v h
      · have := signFrom_len l _ k n v h
        omega

/-- A word: its kind, its place, its length, its number. -/
structure Tok where
  kind : Int
  pos : Nat
  len : Nat
  num : Int

/-- The words from p on, and the place at which none begins; f bounds the rounds. -/
def lexF (l : List UInt8) : Nat → Nat → List Tok × Option Nat
  | 0, _ => ([], none)
  | f + 1, p => if l.length ≤ p then ([], none) else match wordOf (l.drop p) with
    | none => ([], some p)
    | some r => (⟨r.1, p, r.2.1, r.2.2⟩ :: (lexF l f (skipTo l (p + r.2.1))).1, (lexF l f (skipTo l (p + r.2.1))).2)
/-- From p on, where a word stands or the end, there are the words ts, and then the end or the place e. -/
def Runs (l : List UInt8) (p : Nat) (ts : List Tok) (e : Option Nat) : Prop := ∃ f, l.length < p + f ∧ lexF l f p = (ts, e)
theorem runs_some (l : List UInt8) (p : Nat) : Runs l p (lexF l (l.length + 1) p).1 (lexF l (l.length + 1) p).2 := ⟨l.length + 1, by omega, rfl⟩
theorem runs_stop (l : List UInt8) (p : Nat) (ts : List Tok) (e : Option Nat) (h : l.length ≤ p) (r : Runs l p ts e) : ts = [] ∧ e = none := by
  obtain ⟨f, _, hf⟩ := r
  cases f with
  | zero => simp [lexF] at hf; exact ⟨hf.1, hf.2.symm⟩
  | succ f => simp [lexF, h] at hf; exact ⟨hf.1, hf.2.symm⟩
theorem runs_bad (l : List UInt8) (p : Nat) (ts : List Tok) (e : Option Nat) (h : p < l.length) (hw : wordOf (l.drop p) = none) (r : Runs l p ts e) : ts = [] ∧ e = some p := by
  obtain ⟨f, hlt, hf⟩ := r
  cases f with
  | zero => omega
  | succ f => simp [lexF, Nat.not_le.2 h, hw] at hf; exact ⟨hf.1, hf.2.symm⟩
theorem runs_word (l : List UInt8) (p : Nat) (ts : List Tok) (e : Option Nat) (h : p < l.length) (k : Int) (n : Nat) (v : Int) (hw : wordOf (l.drop p) = some (k, n, v)) (r : Runs l p ts e) :
    ∃ ts', ts = ⟨k, p, n, v⟩ :: ts' ∧ Runs l (skipTo l (p + n)) ts' e := by
  obtain ⟨f, hlt, hf⟩ := r
  cases f with
  | zero => omega
  | succ f =>
    have hn := (wordOf_len _ k n v hw).1
    have hsk := skipTo_ge l (p + n)
    simp [lexF, Nat.not_le.2 h, hw] at hf
    exact ⟨_, hf.1.symm, f, by omega, by rw [← hf.2]⟩
end Go.Proofs.YtdooeghicdaakaaGreatDoor
