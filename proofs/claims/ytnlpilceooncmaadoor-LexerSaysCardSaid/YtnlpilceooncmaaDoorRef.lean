/- The reference's own small helpers: kinds of signs, the lists of reserved words and of operators, whether a text is among some. -/
import Derived.Test.YtnlpilceooncmaaDoorSee
namespace Go.Proofs.YtnlpilceooncmaaDoor
open Go.RowKit

def smallB (c : UInt8) : Bool := decide (97 ≤ c.toNat) && decide (c.toNat ≤ 122) || c.toNat == 95
theorem beginB_eq (c : UInt8) : beginB c = (smallB c || greatB c) := by
  unfold beginB smallB
  cases h1 : (decide (97 ≤ c.toNat) && decide (c.toNat ≤ 122)) <;> cases h2 : greatB c <;> cases h3 : (c.toNat == 95) <;> rfl

set_option maxHeartbeats 400000 in
theorem rsmall_any (c : UInt8) (w : World) :
    Calls Tryd.prog 38 #[.int .u8 (c.toNat : Int)] w fun e w' => e = .returned (.bool (smallB c)) ∧ w = w' := by
  go_enter Tryd.func38, Tryd.ntmps38
  go_wp2
  all_goals go_ret
  all_goals exact ⟨ret_bool (by unfold smallB; rw [Bool.eq_iff_iff]; simp; omega), rfl⟩

set_option maxHeartbeats 400000 in
theorem rgreat_any (c : UInt8) (w : World) :
    Calls Tryd.prog 39 #[.int .u8 (c.toNat : Int)] w fun e w' => e = .returned (.bool (greatB c)) ∧ w = w' := by
  go_enter Tryd.func39, Tryd.ntmps39
  go_wp2
  all_goals go_ret
  all_goals exact ⟨ret_bool (by unfold greatB; rw [Bool.eq_iff_iff]; simp; omega), rfl⟩

set_option maxHeartbeats 400000 in
theorem rdigit_any (c : UInt8) (w : World) :
    Calls Tryd.prog 44 #[.int .u8 (c.toNat : Int)] w fun e w' => e = .returned (.bool (digitB c)) ∧ w = w' := by
  go_enter Tryd.func44, Tryd.ntmps44
  go_wp2
  all_goals go_ret
  all_goals exact ⟨ret_bool (by unfold digitB; rw [Bool.eq_iff_iff]; simp; omega), rfl⟩

set_option maxHeartbeats 1000000 in
theorem rinner_any (c : UInt8) (w : World) :
    Calls Tryd.prog 43 #[.int .u8 (c.toNat : Int)] w fun e w' => e = .returned (.bool (innerB c)) ∧ w = w' := by
  go_enter Tryd.func43, Tryd.ntmps43
  go_wp2_with (first | (go_at_call 38; refine (rsmall_any _ _).mono ?_; rintro e w' ⟨rfl, rfl⟩) | (go_at_call 39; refine (rgreat_any _ _).mono ?_; rintro e w' ⟨rfl, rfl⟩) | (go_at_call 44; refine (rdigit_any _ _).mono ?_; rintro e w' ⟨rfl, rfl⟩))
  all_goals go_ret
  all_goals exact ⟨ret_bool (by unfold innerB; rw [beginB_eq]; generalize smallB c = g at *; generalize greatB c = h at *; generalize digitB c = d at *; rw [Bool.eq_iff_iff]; cases g <;> cases h <;> cases d <;> simp at * <;> omega), rfl⟩

def asStr (l : List UInt8) : ByteArray := ⟨l.toArray⟩
theorem asStr_mem (s : ByteArray) (L : List (List UInt8)) : s ∈ L.map asStr ↔ s.data.toList ∈ L := by
  rw [List.mem_map]
  constructor
  · rintro ⟨l, hl, rfl⟩; simpa [asStr] using hl
  · intro h
    exact ⟨_, h, by unfold asStr; apply ByteArray.ext; simp⟩
/-- Block g holds these texts. -/
def StrsAt (w : World) (g : Nat) (ts : List ByteArray) : Prop := ∀ j (h : j < ts.length), w.cell? ⟨g, j, none⟩ = some (.string ts[j])
theorem StrsAt.later {w w' : World} {g : Nat} {ts : List ByteArray} (h : StrsAt w g ts) (hb : Below w.heap.size w w') : StrsAt w' g ts := fun j hj =>
  (hb.cell (p := ⟨g, j, none⟩) (World.block_lt_of_cell? _ _ (h j hj))).trans (h j hj)
theorem strs_new (w : World) (ts : List ByteArray) (t : TypeId) : StrsAt (w.alloc (.cells (ts.map Value.string).toArray t)) w.heap.size ts := fun j hj => by
  have := World.alloc_heap_new w (.cells (ts.map Value.string).toArray t)
  simp only [World.cell?, this]
  simp [hj]

set_option maxHeartbeats 1000000 in
theorem place_any (g : Nat) (ts : List ByteArray) (s : ByteArray) (w : World) (h : StrsAt w g ts) (hl : ts.length ≤ 1000) :
    Calls Tryd.prog 59 #[.slice (some ⟨g, 0, none⟩) ts.length ts.length, .string s] w fun e w' => (∃ r : Int, e = .returned (.int .i64 r) ∧ (0 ≤ r ↔ s ∈ ts)) ∧ Below w.heap.size w w' := by
  have H := Lib.hid h; clear h
  go_enter Tryd.func59, Tryd.ntmps59
  go_wp2_with fail
  go_loopw [5] (fun vi wr => ∃ i : Nat, vi = .int .i64 (i : Int) ∧ i ≤ ts.length ∧ Hid (¬ s ∈ ts.take i) ∧ Hid (StrsAt wr g ts) ∧ Below w.heap.size w wr) (fun vi _ => ts.length - (intOf vi).toNat)
  case atStart => exact ⟨0, rfl, Nat.zero_le _, Lib.hid (by simp), H, Below.refl _ _⟩
  case round =>
    clear H
    obtain ⟨i, rfl, hi, hno, H, hB⟩ := hrel
    by_cases hlt : i < ts.length
    · have hc := H.out i hlt
      by_cases he : ts[i] = s
      · have hmem : s ∈ ts := he ▸ List.getElem_mem hlt
        have HM := Lib.hid hmem; clear hmem
        rw [he] at hc
        clear he
        have heb : (s.toList == s.toList) = true := by simp
        go_wp2
        go_ret
        exact ⟨⟨_, rfl, by simp [HM.out]⟩, hB⟩
      · have hno' : Hid (¬ s ∈ ts.take (i + 1)) := Lib.hid (by
          rw [List.take_succ_eq_append_getElem hlt, List.mem_append, List.mem_singleton]
          rintro (h | h)
          · exact hno.out h
          · exact he h.symm)
        obtain ⟨t, ht⟩ : ∃ t, ts[i] = t := ⟨_, rfl⟩
        rw [ht] at he hc
        clear ht
        have heb : (t.toList == s.toList) = false := by
          rw [beq_eq_false_iff_ne, Lib.toList_data, Lib.toList_data]
          intro h
          exact he (ByteArray.ext (Array.toList_inj.1 h))
        go_wp2
        go_roundw
        case rel => exact ⟨i + 1, by go_num, by omega, hno', H, hB⟩
        case measure => simp [intOf]; omega
    · obtain rfl : i = ts.length := by omega
      have hno2 : ¬ s ∈ ts := by have := hno.out; rwa [List.take_length] at this
      have HN := Lib.hid hno2; clear hno2
      go_wp2
      go_ret
      exact ⟨⟨_, rfl, by simp [HN.out]⟩, hB⟩

set_option maxHeartbeats 1000000 in
theorem has_list (g : Nat) (ts : List ByteArray) (s : ByteArray) (w : World) (h : StrsAt w g ts) (hl : ts.length ≤ 1000) :
    Calls Tryd.prog 40 #[.slice (some ⟨g, 0, none⟩) ts.length ts.length, .string s] w fun e w' => (∃ b : Bool, e = .returned (.bool b) ∧ (b = true ↔ s ∈ ts)) ∧ Below w.heap.size w w' := by
  have H := Lib.hid h; clear h
  go_enter Tryd.func40, Tryd.ntmps40
  go_wp2_with (go_at_call 59; refine (place_any g ts s _ H.out hl).mono ?_; rintro e w1 ⟨⟨r, rfl, hr⟩, hb1⟩)
  go_ret
  exact ⟨⟨_, rfl, by rw [← hr]; simp⟩, hb1⟩
theorem has_any (g : Nat) (L : List (List UInt8)) (n : Nat) (hn : n = L.length) (s : ByteArray) (w : World) (h : StrsAt w g (L.map asStr)) (hl : n ≤ 1000) :
    Calls Tryd.prog 40 #[.slice (some ⟨g, 0, none⟩) n n, .string s] w fun e w' => e = .returned (.bool (inL s L)) ∧ Below w.heap.size w w' := by
  have hz : (L.map asStr).length = n := by rw [List.length_map, hn]
  have hp := has_list g (L.map asStr) s w h (by rw [hz]; exact hl)
  rw [hz] at hp
  exact hp.mono fun _ _ ⟨⟨b, he, hb⟩, hw⟩ => ⟨he.trans (ret_bool (by rw [Bool.eq_iff_iff, inL_iff, ← asStr_mem, hb])), hw⟩

set_option maxHeartbeats 1000000 in
theorem reserved_new (w : World) : Calls Tryd.prog 42 #[] w fun e w' => e = .returned (.slice (some ⟨w.heap.size, 0, none⟩) 12 12) ∧ Below w.heap.size w w' ∧ StrsAt w' w.heap.size (wordsL.map asStr) ∧ w.heap.size < w'.heap.size := by
  go_enter Tryd.func42, Tryd.ntmps42
  go_wp2
  go_ret
  exact ⟨rfl, (Below.refl _ _).alloc (Nat.le_refl _) _, strs_new w (wordsL.map asStr) _, by simp⟩

def opsR : List (List UInt8) := [[61, 61], [47, 61], [60, 61], [62, 61], [60], [62], [43], [45], [42]]
set_option maxHeartbeats 1000000 in
theorem operators_new (w : World) : Calls Tryd.prog 41 #[] w fun e w' => e = .returned (.slice (some ⟨w.heap.size, 0, none⟩) 9 9) ∧ Below w.heap.size w w' ∧ StrsAt w' w.heap.size (opsR.map asStr) ∧ w.heap.size < w'.heap.size := by
  go_enter Tryd.func41, Tryd.ntmps41
  go_wp2
  go_ret
  exact ⟨rfl, (Below.refl _ _).alloc (Nat.le_refl _) _, strs_new w (opsR.map asStr) _, by simp⟩

set_option maxHeartbeats 1000000 in
theorem rreserved_any (s : ByteArray) (w : World) :
    Calls Tryd.prog 25 #[.string s] w fun e w' => e = .returned (.bool (inL s wordsL)) ∧ Below w.heap.size w w' := by
  go_enter Tryd.func25, Tryd.ntmps25
  go_wp2_with (first | (go_at_call 42; refine (reserved_new _).mono ?_; rintro e w1 ⟨rfl, hb1, hs1, hz1⟩) | (go_at_call 40; refine (has_any _ wordsL 12 rfl s _ hs1 (by decide)).mono ?_; rintro e w2 ⟨rfl, hb2⟩))
  go_ret
  exact ⟨rfl, hb1.trans (hb2.mono hb1.size)⟩

set_option maxHeartbeats 1000000 in
theorem roperator_any (s : ByteArray) (w : World) :
    Calls Tryd.prog 23 #[.string s] w fun e w' => e = .returned (.bool (inL s opsL)) ∧ Below w.heap.size w w' := by
  go_enter Tryd.func23, Tryd.ntmps23
  go_wp2_with (first | (go_at_call 41; refine (operators_new _).mono ?_; rintro e w1 ⟨rfl, hb1, hs1, hz1⟩) | (go_at_call 40; refine (has_any _ opsR 9 rfl s _ hs1 (by decide)).mono ?_; rintro e w2 ⟨rfl, hb2⟩))
  go_ret
  exact ⟨ret_bool (by rw [Bool.eq_iff_iff, inL_iff, inL_iff]; simp [opsR, opsL]; grind), hb1.trans (hb2.mono hb1.size)⟩
end Go.Proofs.YtnlpilceooncmaaDoor
