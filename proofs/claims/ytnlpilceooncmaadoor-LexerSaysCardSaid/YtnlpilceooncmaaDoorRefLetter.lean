/- The reference's letters. -/
import Derived.Test.YtnlpilceooncmaaDoorRefName
import Derived.WalkSmall
namespace Go.Proofs.YtnlpilceooncmaaDoor
open Go.RowKit

/-- A letter's length and code as the reference tells them: 0, 0 for none. -/
def letLen (l : List UInt8) : Int := match letterOf l with | some r => (r.2.1 : Nat) | none => 0
def letVal (l : List UInt8) : Int := match letterOf l with | some r => r.2.2 | none => 0
theorem let_none (l : List UInt8) (h : letterOf l = none) : letLen l = 0 ∧ letVal l = 0 := by unfold letLen letVal; rw [h]; exact ⟨rfl, rfl⟩
theorem let_some (l : List UInt8) (k : Int) (n : Nat) (v : Int) (h : letterOf l = some (k, n, v)) : letLen l = n ∧ letVal l = v := by unfold letLen letVal; rw [h]; exact ⟨rfl, rfl⟩

theorem letter_short (a : Option Addr) (cap : Nat) (s : ByteArray) (w : World) (hs : s.size < 3) :
    Calls Tryd.prog 45 #[.slice a s.size cap] w fun e w' => e = .returned (.tuple #[.int .i64 (letLen s.data.toList), .int .i64 (letVal s.data.toList)]) ∧ Below w.heap.size w w' := by
  obtain ⟨h1, h2⟩ := let_none _ (letterOf_short s.data.toList (by rw [length_data]; exact hs))
  rw [h1, h2]
  clear h1 h2
  go_enter Tryd.func45, Tryd.ntmps45
  go_wp2
  go_ret2
  exact ⟨rfl, Below.refl _ _⟩

theorem ret_ii {k l : IntKind} {a b x y : Int} (h : a = b) (g : x = y) : Ending.returned (.tuple #[.int k a, .int l x]) = .returned (.tuple #[.int k b, .int l y]) := by rw [h, g]
theorem byte_eq (c : UInt8) : (c = 39) = (c.toNat = 39) := by
  rw [eq_iff_iff]; exact ⟨fun h => by rw [h]; rfl, fun h => UInt8.toNat_inj.1 h⟩
theorem let_three (c0 c1 c2 : UInt8) : letterOf [c0, c1, c2] = if 32 ≤ c1.toNat ∧ c1.toNat ≤ 126 ∧ c1.toNat ≠ 39 ∧ c1.toNat ≠ 92 ∧ c2.toNat = 39 then some (4, 3, (c1.toNat : Int)) else none := by
  unfold letterOf plainB
  dsimp only
  by_cases h : c1.toNat = 92
  · rw [if_pos h, if_neg (by simp), if_neg (by omega)]
  · rw [if_neg h]
    simp only [byte_eq]
    by_cases g : 32 ≤ c1.toNat ∧ c1.toNat ≤ 126 ∧ c1.toNat ≠ 39 ∧ c1.toNat ≠ 92 ∧ c2.toNat = 39
    · rw [if_pos g, if_pos (by simp; omega)]
    · rw [if_neg g, if_neg (by simp; omega)]
theorem let_four (c0 c1 c2 c3 : UInt8) (r : List UInt8) : letterOf (c0 :: c1 :: c2 :: c3 :: r) =
    if c1.toNat = 92 then (if c3.toNat = 39 then (if c2.toNat = 110 then some (4, 4, 10) else if c2.toNat = 39 ∨ c2.toNat = 92 then some (4, 4, (c2.toNat : Int)) else none) else none)
    else if 32 ≤ c1.toNat ∧ c1.toNat ≤ 126 ∧ c1.toNat ≠ 39 ∧ c1.toNat ≠ 92 ∧ c2.toNat = 39 then some (4, 3, (c1.toNat : Int)) else none := by
  unfold letterOf plainB escB escV
  dsimp only
  by_cases h : c1.toNat = 92
  · rw [if_pos h, if_pos h]
    simp only [List.head?_cons, Option.some.injEq]
    simp only [byte_eq]
    by_cases g : c3.toNat = 39
    · rw [if_pos g]
      by_cases q : c2.toNat = 110
      · rw [if_pos (by simp [g, q]), if_pos q, if_pos q]
      · by_cases q2 : c2.toNat = 39 ∨ c2.toNat = 92
        · rw [if_pos (by simp [g, q]; exact q2), if_neg q, if_pos q2, if_neg q, if_pos q2]
        · rw [if_neg (by simp [g, q]; omega), if_neg q, if_neg q2]
    · rw [if_neg (by simp [g]), if_neg g]
  · rw [if_neg h, if_neg h]
    simp only [byte_eq]
    by_cases g : 32 ≤ c1.toNat ∧ c1.toNat ≤ 126 ∧ c1.toNat ≠ 39 ∧ c1.toNat ≠ 92 ∧ c2.toNat = 39
    · rw [if_pos g, if_pos (by simp; omega)]
    · rw [if_neg g, if_neg (by simp; omega)]

theorem let3 (c0 c1 c2 : UInt8) : letLen [c0, c1, c2] = (if 32 ≤ c1.toNat ∧ c1.toNat ≤ 126 ∧ c1.toNat ≠ 39 ∧ c1.toNat ≠ 92 ∧ c2.toNat = 39 then 3 else 0) ∧ letVal [c0, c1, c2] = (if 32 ≤ c1.toNat ∧ c1.toNat ≤ 126 ∧ c1.toNat ≠ 39 ∧ c1.toNat ≠ 92 ∧ c2.toNat = 39 then (c1.toNat : Int) else 0) := by
  unfold letLen letVal
  rw [let_three]
  by_cases h : 32 ≤ c1.toNat ∧ c1.toNat ≤ 126 ∧ c1.toNat ≠ 39 ∧ c1.toNat ≠ 92 ∧ c2.toNat = 39
  · rw [if_pos h, if_pos h, if_pos h]; exact ⟨rfl, rfl⟩
  · rw [if_neg h, if_neg h, if_neg h]; exact ⟨rfl, rfl⟩
theorem let4 (c0 c1 c2 c3 : UInt8) (r : List UInt8) :
    letLen (c0 :: c1 :: c2 :: c3 :: r) = (if c1.toNat = 92 then (if c3.toNat = 39 then (if c2.toNat = 110 then 4 else if c2.toNat = 39 ∨ c2.toNat = 92 then 4 else 0) else 0) else if 32 ≤ c1.toNat ∧ c1.toNat ≤ 126 ∧ c1.toNat ≠ 39 ∧ c1.toNat ≠ 92 ∧ c2.toNat = 39 then 3 else 0) ∧
    letVal (c0 :: c1 :: c2 :: c3 :: r) = (if c1.toNat = 92 then (if c3.toNat = 39 then (if c2.toNat = 110 then 10 else if c2.toNat = 39 ∨ c2.toNat = 92 then (c2.toNat : Int) else 0) else 0) else if 32 ≤ c1.toNat ∧ c1.toNat ≤ 126 ∧ c1.toNat ≠ 39 ∧ c1.toNat ≠ 92 ∧ c2.toNat = 39 then (c1.toNat : Int) else 0) := by
  unfold letLen letVal
  rw [let_four]
  by_cases h1 : c1.toNat = 92
  · rw [if_pos h1, if_pos h1, if_pos h1]
    by_cases h2 : c3.toNat = 39
    · rw [if_pos h2, if_pos h2, if_pos h2]
      by_cases h3 : c2.toNat = 110
      · rw [if_pos h3, if_pos h3, if_pos h3]; exact ⟨rfl, rfl⟩
      · rw [if_neg h3, if_neg h3, if_neg h3]
        by_cases h4 : c2.toNat = 39 ∨ c2.toNat = 92
        · rw [if_pos h4, if_pos h4, if_pos h4]; exact ⟨rfl, rfl⟩
        · rw [if_neg h4, if_neg h4, if_neg h4]; exact ⟨rfl, rfl⟩
    · rw [if_neg h2, if_neg h2, if_neg h2]; exact ⟨rfl, rfl⟩
  · rw [if_neg h1, if_neg h1, if_neg h1]
    by_cases h : 32 ≤ c1.toNat ∧ c1.toNat ≤ 126 ∧ c1.toNat ≠ 39 ∧ c1.toNat ≠ 92 ∧ c2.toNat = 39
    · rw [if_pos h, if_pos h, if_pos h]; exact ⟨rfl, rfl⟩
    · rw [if_neg h, if_neg h, if_neg h]; exact ⟨rfl, rfl⟩
set_option maxHeartbeats 2000000 in
theorem letter_three (b o cap : Nat) (c0 c1 c2 : UInt8) (w : World) (k1 : w.cell? ⟨b, o + 1, none⟩ = some (.int .u8 (c1.toNat : Int))) (k2 : w.cell? ⟨b, o + 2, none⟩ = some (.int .u8 (c2.toNat : Int))) :
    Calls Tryd.prog 45 #[.slice (some ⟨b, o, none⟩) 3 cap] w fun e w' => e = .returned (.tuple #[.int .i64 (letLen [c0, c1, c2]), .int .i64 (letVal [c0, c1, c2])]) ∧ Below w.heap.size w w' := by
  have HB : ∀ n, Below w.heap.size w (w.drewN n) := fun n => below_drewN (Below.refl _ _) n
  have HB := Lib.hid HB
  go_enter Tryd.func45, Tryd.ntmps45
  go_wp2
  all_goals try (go_quiet ((fail)); go_wp2)
  all_goals try simp only [beq_iff_eq, beq_eq_false_iff_ne, bne_iff_ne, bne_eq_false_iff_eq, ne_eq] at *
  all_goals go_ret2
  all_goals refine ⟨ret_ii ?_ ?_, by first | exact Below.refl _ _ | exact HB.out _⟩
  all_goals (have hb1 := c1.toNat_lt; have hb2 := c2.toNat_lt)
  all_goals try rw [wrap_small _ (by omega) (by omega)]
  all_goals (first | rw [(let3 _ _ _).1] | rw [(let3 _ _ _).2])
  all_goals repeat (first | omega | split)

set_option maxHeartbeats 2000000 in
theorem letter_four (b o n cap : Nat) (c0 c1 c2 c3 : UInt8) (r : List UInt8) (w : World) (hn : 4 ≤ n) (hn2 : n ≤ 1000000) (k1 : w.cell? ⟨b, o + 1, none⟩ = some (.int .u8 (c1.toNat : Int))) (k2 : w.cell? ⟨b, o + 2, none⟩ = some (.int .u8 (c2.toNat : Int))) (k3 : w.cell? ⟨b, o + 3, none⟩ = some (.int .u8 (c3.toNat : Int))) :
    Calls Tryd.prog 45 #[.slice (some ⟨b, o, none⟩) n cap] w fun e w' => e = .returned (.tuple #[.int .i64 (letLen (c0 :: c1 :: c2 :: c3 :: r)), .int .i64 (letVal (c0 :: c1 :: c2 :: c3 :: r))]) ∧ Below w.heap.size w w' := by
  have HB : ∀ n, Below w.heap.size w (w.drewN n) := fun n => below_drewN (Below.refl _ _) n
  have HB := Lib.hid HB
  go_enter Tryd.func45, Tryd.ntmps45
  go_wp2
  all_goals try (go_quiet ((fail)); go_wp2)
  all_goals try simp only [beq_iff_eq, beq_eq_false_iff_ne, bne_iff_ne, bne_eq_false_iff_eq, ne_eq] at *
  all_goals go_ret2
  all_goals refine ⟨ret_ii ?_ ?_, by first | exact Below.refl _ _ | exact HB.out _⟩
  all_goals (have hb1 := c1.toNat_lt; have hb2 := c2.toNat_lt)
  all_goals try rw [wrap_small _ (by omega) (by omega)]
  all_goals (first | rw [(let4 _ _ _ _ _).1] | rw [(let4 _ _ _ _ _).2])
  all_goals repeat (first | omega | split)

theorem rletter_any (a : Option Addr) (cap : Nat) (s : ByteArray) (w : World) (ha : s.size = 0 ∨ ∃ b o, a = some ⟨b, o, none⟩ ∧ Lib.Bytes w b o s) (hs : s.size ≤ 1000000) :
    Calls Tryd.prog 45 #[.slice a s.size cap] w fun e w' => e = .returned (.tuple #[.int .i64 (letLen s.data.toList), .int .i64 (letVal s.data.toList)]) ∧ Below w.heap.size w w' := by
  by_cases h3 : s.size < 3
  · exact letter_short a cap s w h3
  · obtain ⟨b, o, rfl, hb⟩ : ∃ b o, a = some ⟨b, o, none⟩ ∧ Lib.Bytes w b o s := by
      rcases ha with h | h
      · omega
      · exact h
    have hl := length_data s
    have hg := getElem_data s
    have k1 := hb 1 (by omega)
    have k2 := hb 2 (by omega)
    rw [← hg] at k1 k2
    by_cases h4 : s.size = 3
    · match hd : s.data.toList, hl.trans h4 with
      | [c0, c1, c2], _ =>
        rw [h4]
        refine letter_three b o cap c0 c1 c2 w ?_ ?_
        · simpa [hd] using k1
        · simpa [hd] using k2
    · have k3 := hb 3 (by omega)
      rw [← hg] at k3
      match hd : s.data.toList, (show 4 ≤ s.data.toList.length by omega) with
      | c0 :: c1 :: c2 :: c3 :: r, _ =>
        refine letter_four b o s.size cap c0 c1 c2 c3 r w (by omega) hs ?_ ?_ ?_
        · simpa [hd] using k1
        · simpa [hd] using k2
        · simpa [hd] using k3
end Go.Proofs.YtnlpilceooncmaaDoor
