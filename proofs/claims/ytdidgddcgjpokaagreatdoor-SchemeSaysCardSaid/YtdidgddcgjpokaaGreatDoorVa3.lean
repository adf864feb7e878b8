/- Merged: ScZero, ScVars, ScName, ScNew, SbGet, RegLast, SbOthersR, ScFive, SbRGet, SpCmp, SbPr, SbMkPr, SbThen, SbThenA, SbThenB, SbPreds, SpRow, RegMark, SpSwK, SpSwR, SpIns, SpCompact, SpSort, SpPreds, FrSet, Told, Range, SbIter, SbNext. -/
import Derived.Test.YtdidgddcgjpokaaGreatDoorVa2
import Derived.Lib.Bytes
import Derived.Test.YtdidgddcgjpokaaGreatDoorVa1
import Derived.Deep.AppendLies
import Derived.Deep.RegionLaw
import Derived.Lib.QuietBelow
import Derived.RangeFuncNested
import Derived.RangeFuncBound
import Derived.RangeFuncCalls
import Derived.RangeFuncLeaves
import Derived.Stop.RegionWithIn
import Derived.OwnWalkIn
import Derived.TacticsInMore
import Derived.LoopNIn
import Derived.LoopIn
/- Contexts of nothing: Preds, SortFunc, CompactFunc, scheme.SortPreds of an empty row. -/
namespace Go.Proofs.YtdidgddcgjpokaaGreatDoor
open Go.RowKit
attribute [local go_sem] Oper.semAt_some

theorem bitsLen64_0 (w : World) : Calls Tryz.prog 89 #[.int .u64 0] w fun e w' => e = .returned (.int .i64 0) ∧ w = w' := by
  go_enter Tryz.func89, Tryz.ntmps89
  go_wp2
  go_ret
  exact ⟨by kernel_rfl, rfl⟩
theorem bitsLen_0 (w : World) : Calls Tryz.prog 68 #[.int .u64 0] w fun e w' => e = .returned (.int .i64 0) ∧ w = w' := by
  go_enter Tryz.func68, Tryz.ntmps68
  go_wp2_with (go_at_call 89; refine (bitsLen64_0 _).mono ?_; rintro e w' ⟨rfl, rfl⟩)
  go_ret
  exact ⟨rfl, rfl⟩
theorem insertion0 (a : Option Addr) (c : Nat) (g : Value) (w : World) : Calls Tryz.prog 80 #[.slice a 0 c, .int .i64 0, .int .i64 0, g] w fun e w' => e = .returned (.tuple #[]) ∧ w = w' := by
  go_enter Tryz.func80, Tryz.ntmps80
  go_wp2
  refine wp_loop_rounds 1 ?_
  rw [rounds_succ]
  go_wp2
  go_end0
  exact ⟨rfl, rfl⟩
set_option maxRecDepth 100000 in
set_option maxHeartbeats 1000000 in
theorem pdq0 (a : Option Addr) (c : Nat) (g : Value) (w : World) : Calls Tryz.prog 67 #[.slice a 0 c, .int .i64 0, .int .i64 0, .int .i64 0, g] w fun e w' => e = .returned (.tuple #[]) ∧ w = w' := by
  go_enter Tryz.func67, Tryz.ntmps67
  go_wp2
  refine wp_loop_rounds 1 ?_
  rw [rounds_succ]
  go_wp2_with (go_at_call 80; refine (insertion0 _ _ _ _).mono ?_)
  rintro e w' ⟨rfl, rfl⟩
  go_wp2
  exact bodyPost_ret (v := .tuple #[]) (by simp [results, Tryz.results67, go_sem]) rfl ⟨rfl, rfl⟩
theorem sort0 (a : Option Addr) (c : Nat) (g : Value) (w : World) : Calls Tryz.prog 43 #[.slice a 0 c, g] w fun e w' => e = .returned (.tuple #[]) ∧ w = w' := by
  go_enter Tryz.func43, Tryz.ntmps43
  go_wp2_with (first
    | (go_at_call 68; refine (bitsLen_0 _).mono ?_; rintro e w' ⟨rfl, rfl⟩)
    | (go_at_call 67; refine (pdq0 _ _ _ _).mono ?_; rintro e w' ⟨rfl, rfl⟩))
  go_end0
  exact ⟨rfl, rfl⟩
set_option maxRecDepth 100000 in
theorem compact0 (a : Option Addr) (c : Nat) (g : Value) (w : World) : Calls Tryz.prog 45 #[.slice a 0 c, g] w fun e w' => e = .returned (.slice a 0 c) ∧ w = w' := by
  go_enter Tryz.func45, Tryz.ntmps45
  go_wp2
  go_ret
  exact ⟨rfl, rfl⟩
end Go.Proofs.YtdidgddcgjpokaaGreatDoor
/- scheme.variables of a type alone. -/
namespace Go.Proofs.YtdidgddcgjpokaaGreatDoor
open Go.RowKit Go.Maps
attribute [local go_sem] Oper.semAt_some

theorem Tryz.infoTyS : (Tryz.prog.info? 31).map (fun i => (i.zero, i.size, i.bytes)) = some (some (.agg #[.int .i64 0, .string ⟨#[]⟩, .slice none 0 0]), 3, 48) := by kernel_rfl
end Go.Proofs.YtdidgddcgjpokaaGreatDoor
/- scheme.Name: the first letters; the chapter's examples. -/
namespace Go.Proofs.YtdidgddcgjpokaaGreatDoor
open Go.RowKit
attribute [local go_sem] Oper.semAt_some

def nameAt (i : Nat) : ByteArray := ⟨#[UInt8.ofNat (97 + i)]⟩
set_option maxRecDepth 100000 in
theorem name_low (i : Nat) (hi : i < 8) (w : World) : Calls Tryz.prog 21 #[.int .i64 (i : Int)] w fun e w' => e = .returned (.string (nameAt i)) ∧ w = w' := by
  have h : i = 0 ∨ i = 1 ∨ i = 2 ∨ i = 3 ∨ i = 4 ∨ i = 5 ∨ i = 6 ∨ i = 7 := by omega
  rcases h with rfl | rfl | rfl | rfl | rfl | rfl | rfl | rfl
  all_goals
    go_enter Tryz.func21, Tryz.ntmps21
    go_wp2
    go_ret
    exact ⟨by kernel_rfl, rfl⟩
set_option maxRecDepth 100000 in
theorem name_neg (w : World) : Calls Tryz.prog 21 #[.int .i64 (-3)] w fun e w' => e = .returned (.string ⟨#[97]⟩) ∧ w = w' := by
  go_enter Tryz.func21, Tryz.ntmps21
  go_wp2
  go_ret
  exact ⟨by kernel_rfl, rfl⟩
set_option maxRecDepth 100000 in
theorem small_1 (w : World) : Calls Tryz.prog 96 #[.int .i64 1] w fun e w' => e = .returned (.string ⟨#[49]⟩) ∧ w = w' := by
  go_enter Tryz.func96, Tryz.ntmps96
  go_wp2
  go_ret
  exact ⟨by kernel_rfl, rfl⟩
theorem fmt_1 (w : World) : Calls Tryz.prog 95 #[.int .i64 1, .int .i64 10] w fun e w' => e = .returned (.string ⟨#[49]⟩) ∧ w = w' := by
  go_enter Tryz.func95, Tryz.ntmps95
  go_wp2_with (go_at_call 96; refine (small_1 _).mono ?_; rintro e w' ⟨rfl, rfl⟩)
  go_ret
  exact ⟨by kernel_rfl, rfl⟩
theorem iItoa_1 (w : World) : Calls Tryz.prog 72 #[.int .i64 1] w fun e w' => e = .returned (.string ⟨#[49]⟩) ∧ w = w' := by
  go_enter Tryz.func72, Tryz.ntmps72
  go_wp2_with (go_at_call 95; refine (fmt_1 _).mono ?_; rintro e w' ⟨rfl, rfl⟩)
  go_ret
  exact ⟨rfl, rfl⟩
theorem itoa_1 (w : World) : Calls Tryz.prog 49 #[.int .i64 1] w fun e w' => e = .returned (.string ⟨#[49]⟩) ∧ w = w' := by
  go_enter Tryz.func49, Tryz.ntmps49
  go_wp2_with (go_at_call 72; refine (iItoa_1 _).mono ?_; rintro e w' ⟨rfl, rfl⟩)
  go_ret
  exact ⟨rfl, rfl⟩
set_option maxRecDepth 100000 in
theorem name_27 (w : World) : Calls Tryz.prog 21 #[.int .i64 27] w fun e w' => e = .returned (.string ⟨#[98, 49]⟩) ∧ w = w' := by
  go_enter Tryz.func21, Tryz.ntmps21
  go_wp2_with (go_at_call 49; refine (itoa_1 _).mono ?_; rintro e w' ⟨rfl, rfl⟩)
  go_ret
  exact ⟨by kernel_rfl, rfl⟩
theorem name_0 (w : World) : Calls Tryz.prog 21 #[.int .i64 0] w fun e w' => e = .returned (.string ⟨#[97]⟩) ∧ w = w' := by
  have h := name_low 0 (by decide) w
  have e : nameAt 0 = ⟨#[97]⟩ := by decide
  rw [e] at h
  exact h
set_option maxRecDepth 100000 in
theorem first8_any (w : World) : Calls Tryz.prog 5 #[] w fun e w' => e = .returned (.bool true) ∧ w = w' := by
  go_enter Tryz.func5, Tryz.ntmps5
  go_wp2_with (go_at_call 21; fail)
  refine (name_27 _).mono ?_
  rintro e w' ⟨rfl, rfl⟩
  go_wp2_with (go_at_call 21; fail)
  refine (name_0 _).mono ?_
  rintro e w' ⟨rfl, rfl⟩
  go_wp2_with (go_at_call 21; fail)
  refine (name_neg _).mono ?_
  rintro e w' ⟨rfl, rfl⟩
  go_wp2
  go_ret
  exact ⟨rfl, rfl⟩
end Go.Proofs.YtdidgddcgjpokaaGreatDoor
/- scheme.newNames: the first names that are not taken. -/
namespace Go.Proofs.YtdidgddcgjpokaaGreatDoor
open Go.RowKit Go.Maps
attribute [local go_sem] Oper.semAt_some

theorem nodup_lenS {α : Type} [DecidableEq α] {l R : List α} (hn : l.Nodup) (hs : ∀ i ∈ l, i ∈ R) : l.length ≤ R.length := by
  induction l generalizing R with
  | nil => exact Nat.zero_le _
  | cons a l ih =>
    have hp := List.perm_cons_erase (hs a (by simp))
    have hn' := List.nodup_cons.1 hn
    have := ih (R := R.erase a) hn'.2 fun j hj => (List.mem_erase_of_ne (fun e => hn'.1 (by rw [← e]; exact hj))).2 (hs j (List.mem_cons_of_mem _ hj))
    rw [hp.length_eq, List.length_cons, List.length_cons]; omega
open Classical in
theorem grown_apart2 {base M m : Nat} {S : ByteArray → Bool} {va vb v4 : Value} {p q : List ByteArray} {nm : ByteArray} {w wr W4 : World} {o1 o2 : Obj} (hva : OwnT base va p wr) (hvb : OwnT base vb q wr) (hap : va.ownBlock = none ∨ va.ownBlock ≠ vb.ownBlock) (hM : SetV M m S wr) (hb : Below w.heap.size w wr) (hbase : w.heap.size ≤ base)
    (ho : W4.ownsRow base 9 1 v4 (p.length + 1) (p.map Value.string ++ [.string nm])) (hg : ((wr.alloc o1).alloc o2).grownBy W4 va.ownBlock) (hat : v4.ownBlock = va.ownBlock ∨ v4.ownBlock = some ((wr.alloc o1).alloc o2).heap.size) :
    OwnT base v4 (p ++ [nm]) W4 ∧ OwnT base vb q W4 ∧ (v4.ownBlock = none ∨ v4.ownBlock ≠ vb.ownBlock) ∧ SetV M m S W4 ∧ Below w.heap.size w W4 :=
  grown_apart hva hvb hap hM hb hbase ho hg (by simpa using hat)
/-- The first i names, but those that are taken. -/
noncomputable def newsTo (taken : List ByteArray) (i : Nat) : List ByteArray := ((List.range i).map nameAt).filter fun x => !inB taken x
theorem newsTo_succ (taken : List ByteArray) (i : Nat) : newsTo taken (i + 1) = if inB taken (nameAt i) = true then newsTo taken i else newsTo taken i ++ [nameAt i] := by
  unfold newsTo
  rw [List.range_succ, List.map_append, List.filter_append]
  cases h : inB taken (nameAt i) <;> simp [h]
theorem nameAt_inj {i j : Nat} (hi : i < 100) (hj : j < 100) (h : nameAt i = nameAt j) : i = j := by
  have h1 : UInt8.ofNat (97 + i) = UInt8.ofNat (97 + j) := by simpa [nameAt] using h
  have h2 := congrArg UInt8.toNat h1
  simp only [UInt8.toNat_ofNat'] at h2
  omega
theorem names_nodup (i : Nat) (hi : i ≤ 100) : ((List.range i).map nameAt).Nodup := by
  rw [List.nodup_iff_pairwise_ne, List.pairwise_map]
  refine List.Pairwise.imp_of_mem (fun {a b} ha hb hab e => hab (nameAt_inj (by have := List.mem_range.1 ha; omega) (by have := List.mem_range.1 hb; omega) e)) List.nodup_range
theorem newsTo_nodup (taken : List ByteArray) (i : Nat) (hi : i ≤ 100) : (newsTo taken i).Nodup := (names_nodup i hi).filter _
theorem newsTo_free {taken : List ByteArray} {i : Nat} {x : ByteArray} (h : x ∈ newsTo taken i) : x ∉ taken := fun hx => by
  have := (List.mem_filter.1 h).2
  rw [inB_iff.2 hx] at this
  cases this
theorem newsTo_size {taken : List ByteArray} {i : Nat} {x : ByteArray} (h : x ∈ newsTo taken i) : x.size = 1 := by
  obtain ⟨k, _, rfl⟩ := List.mem_map.1 (List.mem_filter.1 h).1
  rfl
/-- Of so many no more than are taken are left out. -/
theorem newsTo_len (taken : List ByteArray) (i : Nat) (hi : i ≤ 100) : i ≤ (newsTo taken i).length + taken.length := by
  have h1 : ((List.range i).map nameAt).length = i := by simp
  have h2 := nodup_lenS ((names_nodup i hi).filter (fun x => inB taken x)) (R := taken) (fun x hx => inB_iff.1 (List.mem_filter.1 hx).2)
  have h3 : ∀ l : List ByteArray, l.length = (l.filter fun x => !inB taken x).length + (l.filter fun x => inB taken x).length := by
    intro l
    induction l with
    | nil => rfl
    | cons a l ih => cases h : inB taken a <;> simp [h] <;> omega
  have h4 := h3 ((List.range i).map nameAt)
  unfold newsTo
  omega
theorem newsTo_next {taken : List ByteArray} {i n : Nat} (h : i + 1 ≤ n + taken.length) (hlt : (newsTo taken i).length < n) (e : newsTo taken (i + 1) = if inB taken (nameAt i) = true then newsTo taken i else newsTo taken i ++ [nameAt i]) : i + 1 ≤ n + taken.length ∧ (newsTo taken (i + 1)).length ≤ n := by
  refine ⟨h, ?_⟩
  rw [e]
  by_cases hx : inB taken (nameAt i) = true
  · rw [if_pos hx]; omega
  · rw [if_neg hx, List.length_append, List.length_singleton]; omega
/-- What newNames hands back. -/
def NewN (n : Nat) (taken names : List ByteArray) : Prop := names.length = n ∧ names.Nodup ∧ (∀ x ∈ names, x ∉ taken ∧ x.size = 1)
/-- Where its loop stands. -/
def NewI (w : World) (M m : Nat) (taken : List ByteArray) (i : Nat) (v : Value) (wr : World) : Prop :=
  OwnT w.heap.size v (newsTo taken i) wr ∧ SetV M m (inB taken) wr ∧ Below w.heap.size w wr
theorem own_made (base : Nat) (w : World) (n : Nat) (hb : base ≤ w.heap.size) (hn : n ≤ 1000000) : OwnT base (.slice (some ⟨w.heap.size, 0, none⟩) 0 n) [] (w.alloc (.cells (madeCells #[.string ⟨#[]⟩] n) 9)) :=
  World.ownsRow_made (base := base) (e := 9) (size := 1) w _ n hb (by unfold maxLen; omega) (by rw [size_madeCells, Nat.mul_one])
theorem newI_a {w w1 : World} {n M m : Nat} {taken : List ByteArray} (hn : n ≤ 1000000) (hM : SetV M m (inB taken) w1) (hb : Below (w.alloc (.cells (madeCells #[.string ⟨#[]⟩] n) 9)).drew.heap.size (w.alloc (.cells (madeCells #[.string ⟨#[]⟩] n) 9)).drew w1) : NewI w M m taken 0 (.slice (some ⟨w.heap.size, 0, none⟩) 0 n) w1 :=
  ⟨OwnT.below (w := (w.alloc (.cells (madeCells #[.string ⟨#[]⟩] n) 9)).drew) (own_made w.heap.size w n (Nat.le_refl _) hn) hb, hM, (((Below.refl w.heap.size w).alloc (Nat.le_refl _) (.cells (madeCells #[.string ⟨#[]⟩] n) 9)).drew).trans (hb.mono (by show w.heap.size ≤ (w.alloc _).heap.size; simp))⟩
theorem newI_b {w w1 : World} {n M m : Nat} {taken : List ByteArray} (hn : n ≤ 1000000) (hM : SetV M m (inB taken) w1) (hb : Below w.drew.heap.size w.drew w1) : NewI w M m taken 0 (.slice (some ⟨w1.heap.size, 0, none⟩) 0 n) (w1.alloc (.cells (madeCells #[.string ⟨#[]⟩] n) 9)) :=
  ⟨own_made w.heap.size w1 n hb.size hn, hM.below ((Below.refl _ w1).alloc (Nat.le_refl _) _), (((Below.refl w.heap.size w).drew).trans hb).alloc hb.size _⟩
end Go.Proofs.YtdidgddcgjpokaaGreatDoor
/- (Subst).Get. -/
namespace Go.Proofs.YtdidgddcgjpokaaGreatDoor
open Go.RowKit Go.Sort Go.Lib
attribute [local go_sem] Oper.semAt_some

end Go.Proofs.YtdidgddcgjpokaaGreatDoor
/- A region that draws its order and ends with a store: all but its last operation by an invariant, the last one when all else has come up. -/
namespace Go.Proofs.YtdidgddcgjpokaaGreatDoor

section
variable {P : Program} {ops : Array Oper} {Q : Exit → Act → World → Prop} {fr : (Nat → Value) → Act} {S : World → Prop} {Rel : World → World → Prop} {Vals : Nat → Value → World → Prop} {s : Nat}

theorem getD_tt {l : Array Bool} {j : Nat} (h : l.getD j false = true) : l.getD j true = true := by
  by_cases hj : j < l.size
  · simp [hj] at h ⊢; exact h
  · simp [hj]
/-- Where operation s can come up, all ahead of it have. -/
theorem all_ahead {listed : Array Bool} (hcov : ∀ i, i < s → ∃ j o e, i < j ∧ j ≤ s ∧ ops[j]? = some o ∧ e ∈ o.after ∧ Region.binds .any e = true ∧ e.on = i)
    (hcl : ∀ j o, listed.getD j false = true → ops[j]? = some o → ∀ e ∈ o.after, Region.binds .any e = true → listed.getD e.on false = true)
    (hs : ∀ o, ops[s]? = some o → ∀ e ∈ o.after, Region.binds .any e = true → listed.getD e.on false = true) : ∀ n i, i + n = s → 0 < n → listed.getD i false = true := by
  intro n
  induction n using Nat.strongRecOn with
  | ind n ih =>
    intro i hi hn
    obtain ⟨j, o, e, hij, hjs, ho, he, hb, rfl⟩ := hcov i (by omega)
    by_cases hj : j = s
    · subst hj; exact hs o ho e he hb
    · exact hcl j o (ih (s - j) (by omega) j (by omega) (by omega)) ho e he hb

theorem last_any (hsz : ops.size = s + 1) (hput : ∀ i o, i < s → ops[i]? = some o → StepAt P fr S Rel Vals ops Q i o)
    (hbs : ∀ o, ops[s]? = some o → ∀ e ∈ o.after, Region.binds .any e = true → e.on < s)
    (hcov : ∀ i, i < s → ∃ j o e, i < j ∧ j ≤ s ∧ ops[j]? = some o ∧ e ∈ o.after ∧ Region.binds .any e = true ∧ e.on = i)
    (hrel : ∀ w w', S w → Rel w w' → S w') (hval : ∀ i v w w', S w → Vals i v w → Rel w w' → Vals i v w')
    (hlast : ∀ o x w, ops[s]? = some o → S w → (∀ i, i < s → Vals i (x i) w) → ∀ K : Act → World → Prop, (∀ v w', Q .normal ((fr x).put o.dst v) w' → K ((fr x).put o.dst v) w') →
      if Region.wanted o (yielded ops (fr x).tmps) = true then Oper.wp P o (fr x) w K Q else K ((fr x).put o.dst undef) w) :
    ∀ (fuel : Nat) (listed : Array Bool) (x : Nat → Value) (w : World), listed.size = ops.size → ops.size ≤ fuel + listed.toList.count true → S w → listed.getD s false = false →
      (∀ j o, listed.getD j false = true → ops[j]? = some o → ∀ e ∈ o.after, Region.binds .any e = true → listed.getD e.on false = true) →
      (∀ i, listed.getD i false = true → Vals i (x i) w) → wpAny P .any ops Q fuel listed (fr x) w := by
  have hback : ∀ i o, ops[i]? = some o → ∀ e ∈ o.after, Region.binds .any e = true → e.on < i := fun i o ho => by
    have hi : i < s + 1 := by rw [← hsz]; exact (Array.getElem?_eq_some_iff.1 ho).1
    by_cases e : i = s
    · subst e; exact hbs o ho
    · exact (hput i o (by omega) ho).back
  have hend : ∀ (listed : Array Bool), listed.size = ops.size → listed.getD s false = false → Region.ready .any ops listed = [] → False := fun listed hz h0 h => by
    have := all_of_none hback hz h s (by omega)
    rw [h0] at this; cases this
  intro fuel
  induction fuel with
  | zero =>
    intro listed x w hz hc hS h0 hcl hV
    have hall : listed.toList.count true = listed.toList.length := by
      have := List.count_le_length (a := true) (l := listed.toList)
      simp at this hc ⊢; omega
    have hlt : s < listed.size := by omega
    have := List.count_eq_length.1 hall listed[s] (by simp)
    simp [hlt] at h0
    rw [h0] at this; cases this
  | succ fuel ih =>
    intro listed x w hz hc hS h0 hcl hV
    refine ⟨fun h => (hend listed hz h0 h).elim, fun i hi => ?_⟩
    obtain ⟨hi0, o, ho, hdep⟩ := mem_ready.1 hi
    have hlt : i < listed.size := by rw [hz]; exact (Array.getElem?_eq_some_iff.1 ho).1
    have hi0' : listed[i] = false := by simpa [hlt] using hi0
    have hsetD : ∀ j, (listed.setIfInBounds i true).getD j false = true → j = i ∨ listed.getD j false = true := fun j hj => by
      by_cases hji : j = i
      · exact .inl hji
      · rw [getD_set_ne false (Ne.symm hji)] at hj; exact .inr hj
    have hsetI : (listed.setIfInBounds i true).getD i false = true := by simp [hlt]
    have hmono : ∀ j, listed.getD j false = true → (listed.setIfInBounds i true).getD j false = true := fun j hj => by
      by_cases hji : j = i
      · subst hji; exact hsetI
      · rw [getD_set_ne false (Ne.symm hji)]; exact hj
    by_cases his : i = s
    · subst his
      have hK : ∀ v w', Q .normal ((fr x).put o.dst v) w' → wpAny P .any ops Q fuel (listed.setIfInBounds i true) ((fr x).put o.dst v) w' := fun v w' hq => by
        have hnone : Region.ready .any ops (listed.setIfInBounds i true) = [] := by
          cases h : Region.ready .any ops (listed.setIfInBounds i true) with
          | nil => rfl
          | cons j l =>
            have hj : j ∈ Region.ready .any ops (listed.setIfInBounds i true) := by rw [h]; simp
            obtain ⟨hj0, oj, hoj, _⟩ := mem_ready.1 hj
            have hjl : j < i + 1 := by rw [← hsz]; exact (Array.getElem?_eq_some_iff.1 hoj).1
            by_cases e : j = i
            · subst e; rw [getD_tt hsetI] at hj0; cases hj0
            · have := hmono j (all_ahead hcov hcl (fun o' ho' => by rw [ho] at ho'; cases ho'; exact hdep) (i - j) j (by omega) (by omega))
              rw [getD_tt this] at hj0; cases hj0
        cases fuel with
        | zero => exact ⟨hnone, hq⟩
        | succ fuel => exact ⟨fun _ => hq, fun j hj => by rw [hnone] at hj; cases hj⟩
      have := hlast o x w ho hS (fun j hj => hV j (all_ahead hcov hcl (fun o' ho' => by rw [ho] at ho'; cases ho'; exact hdep) (i - j) j (by omega) (by omega))) _ hK
      unfold wpOp
      simp only [ho]
      split
      · rename_i hw; rw [if_pos hw] at this; exact .inl this
      · rename_i hw; rw [if_neg hw] at this; exact this
    · have hil : i < s := by omega
      have H := hput i o hil ho
      have hK : ∀ v w', Rel w w' → Vals i v w' → wpAny P .any ops Q fuel (listed.setIfInBounds i true) ((fr x).put o.dst v) w' := fun v w' hr hv => by
        rw [H.put]
        refine ih _ _ _ (by simpa using hz) ?_ (hrel w w' hS hr) (by rw [getD_set_ne false his]; exact h0) (fun j oj hj hoj e he hb => ?_) fun j hj => ?_
        · have : (listed.setIfInBounds i true).toList.count true = listed.toList.count true + 1 := by
            rw [Array.toList_setIfInBounds, List.count_set (by simpa using hlt)]
            simp [hi0']
          omega
        · rcases hsetD j hj with rfl | hj'
          · rw [ho] at hoj; cases hoj
            exact hmono _ (hdep e he hb)
          · exact hmono _ (hcl j oj hj' hoj e he hb)
        · by_cases hji : j = i
          · subst hji; rw [upd_same]; exact hv
          · rw [upd_other x v hji]
            exact hval _ _ _ _ hS (hV j (by rw [getD_set_ne false (Ne.symm hji)] at hj; exact hj)) hr
      have := H.run x w hS (fun e he hb => hV e.on (hdep e he hb)) _ hK
      unfold wpOp
      simp only [ho]
      split
      · rename_i hw; rw [if_pos hw] at this; exact .inl this
      · rename_i hw; rw [if_neg hw] at this; exact this

/-- Each operation ahead of the last is asked for by a later one. -/
def covered (ops : Array Oper) (s : Nat) : Bool := (List.range s).all fun i => (List.range (s + 1)).any fun j => decide (i < j) && (match ops[j]? with
  | some o => o.after.any fun e => Region.binds .any e && e.on == i
  | none => false)
theorem covered_get (h : covered ops s = true) : ∀ i, i < s → ∃ j o e, i < j ∧ j ≤ s ∧ ops[j]? = some o ∧ e ∈ o.after ∧ Region.binds .any e = true ∧ e.on = i := by
  intro i hi
  unfold covered at h
  rw [List.all_eq_true] at h
  have h1 := h i (List.mem_range.2 hi)
  rw [List.any_eq_true] at h1
  obtain ⟨j, hj, h2⟩ := h1
  rw [Bool.and_eq_true, decide_eq_true_eq] at h2
  cases ho : ops[j]? with
  | none => rw [ho] at h2; exact absurd h2.2 (by simp)
  | some o =>
    rw [ho] at h2
    have h3 := h2.2
    simp only at h3
    rw [Array.any_eq_true'] at h3
    obtain ⟨e, he, h4⟩ := h3
    rw [Bool.and_eq_true, beq_iff_eq] at h4
    exact ⟨j, o, e, h2.1, by have := List.mem_range.1 hj; omega, ho, he, h4.1, h4.2⟩

/-- What is asked of all but the last operation, and of the last. -/
def AllBut (f : Nat → Oper → Prop) (g : Oper → Prop) : Nat → List Oper → Prop
  | _, [] => True
  | _, [o] => g o
  | n, o :: o' :: os => f n o ∧ AllBut f g (n + 1) (o' :: os)
theorem AllBut.get {f : Nat → Oper → Prop} {g : Oper → Prop} : ∀ {l : List Oper} {n : Nat}, AllBut f g n l → ∀ {i : Nat} {o : Oper}, l[i]? = some o → (i + 1 < l.length → f (n + i) o) ∧ (i + 1 = l.length → g o)
  | [], _, _, i, o, h => by simp at h
  | [a], n, hl, 0, o, h => by simp at h; subst h; exact ⟨fun h => by simp at h, fun _ => hl⟩
  | [a], n, hl, i + 1, o, h => by simp at h
  | a :: b :: l, n, hl, 0, o, h => by simp at h; subst h; exact ⟨fun _ => hl.1, fun h => by simp at h⟩
  | a :: b :: l, n, hl, i + 1, o, h => by
    obtain ⟨h1, h2⟩ := AllBut.get hl.2 (i := i) (o := o) (by simpa using h)
    refine ⟨fun hi => ?_, fun hi => h2 (by simpa using hi)⟩
    have := h1 (by simpa using hi)
    rw [show n + (i + 1) = n + 1 + i by omega]; exact this

/-- What is asked of the last operation. -/
structure LastAt (P : Program) (fr : (Nat → Value) → Act) (S : World → Prop) (Vals : Nat → Value → World → Prop) (ops : Array Oper) (Q : Exit → Act → World → Prop) (s : Nat) (o : Oper) : Prop where
  back : ∀ e ∈ o.after, Region.binds .any e = true → e.on < s
  run : ∀ (x : Nat → Value) (w : World), S w → (∀ i, i < s → Vals i (x i) w) → ∀ K : Act → World → Prop, (∀ v w', Q .normal ((fr x).put o.dst v) w' → K ((fr x).put o.dst v) w') →
      if Region.wanted o (yielded ops (fr x).tmps) = true then Oper.wp P o (fr x) w K Q else K ((fr x).put o.dst undef) w

theorem region_last (fr : (Nat → Value) → Act) (S : World → Prop) (Rel : World → World → Prop) (Vals : Nat → Value → World → Prop) (x0 : Nat → Value) (s : Nat) {id : Nat} {a : Act} {w : World}
    (hm : P.follows .mixedOrders = true) (ha : a = fr x0) (hS : S w.drew) (hsz : ops.size = s + 1) (hcov : covered ops s = true)
    (hrel : ∀ w w', S w → Rel w w' → S w') (hval : ∀ i v w w', S w → Vals i v w → Rel w w' → Vals i v w')
    (hops : AllBut (StepAt P fr S Rel Vals ops Q) (LastAt P fr S Vals ops Q s) 0 ops.toList) : (Code.region id ops true).wp P Q a w := by
  subst ha
  refine wp_region_any hm ?_
  have hg := fun (i : Nat) (o : Oper) (h : ops[i]? = some o) => hops.get (i := i) (o := o) (by simpa using h)
  refine last_any hsz (fun i o hi h => ?_) (fun o h => ?_) (covered_get hcov) hrel hval (fun o x w h hS hV K hK => ?_) _ _ _ _ (by simp) (by simp) hS (by simp [hsz]) (fun j o hj => ?_) (fun i hi => ?_)
  · have := (hg i o h).1 (by simp [hsz]; omega); rwa [Nat.zero_add] at this
  · exact ((hg s o h).2 (by simp [hsz])).back
  · exact ((hg s o h).2 (by simp [hsz])).run x w hS hV K hK
  · by_cases h : j < ops.size
    · simp [h] at hj
    · simp [h] at hj
  · by_cases h : i < ops.size
    · simp [h] at hi
    · simp [h] at hi
end
end Go.Proofs.YtdidgddcgjpokaaGreatDoor
/- SubstOthers: its last statement, a region of 42 operations that draws its order, by an invariant. (Made by a program.) -/
namespace Go.Proofs.YtdidgddcgjpokaaGreatDoor
open Go.RowKit Go.Sort Go.Lib
attribute [local go_sem] Oper.semAt_some

def regionIn : Nat → Code → Array Oper
  | n, .region id ops _ => if id == n then ops else #[]
  | n, .seq a b => regionIn n a ++ regionIn n b
  | n, .cond _ a b => regionIn n a ++ regionIn n b
  | n, .block _ b => regionIn n b
  | n, .loop b => regionIn n b
  | n, .rangeFunc _ _ a b => regionIn n a ++ regionIn n b
  | n, .scope b => regionIn n b
  | _, _ => #[]
theorem depOf {o : Oper} {Vals : Nat → Value → World → Prop} {x : Nat → Value} {V : World} (h : ∀ e ∈ o.after, Region.binds .any e = true → Vals e.on (x e.on) V) (j : Nat)
    (hj : (o.after.any fun e => Region.binds .any e && e.on == j) = true) : Vals j (x j) V := by
  rw [Array.any_eq_true'] at hj
  obtain ⟨e, he, hj⟩ := hj
  simp only [Bool.and_eq_true, beq_iff_eq] at hj
  have := h e he hj.1
  rw [hj.2] at this; exact this
theorem kfit {K : Act → World → Prop} {a a' : Act} {w : World} (h : K a w) (e : a = a') : K a' w := e ▸ h
theorem run_bare {P : Program} {o : Oper} {ops : Array Oper} {a : Act} {w : World} {K : Act → World → Prop} {Q : Exit → Act → World → Prop} {C : Prop} (hg : o.guard = none) (h : Oper.wp P o a w K Q) :
    if Region.wanted o (yielded ops a.tmps) = true then Oper.wp P o a w K Q else C := by
  rw [if_pos (by simp [Region.wanted, hg])]; exact h
theorem run_guard {P : Program} {o : Oper} {ops : Array Oper} {a : Act} {w : World} {K : Act → World → Prop} {Q : Exit → Act → World → Prop} {C : Prop} (g k : Nat) (v : Value) (hg : o.guard = some (g, true))
    (hk : (ops[g]?).bind (·.dst) = some k) (hv : a.tmps[k]? = some v) (e : v = .bool true) (h : Oper.wp P o a w K Q) :
    if Region.wanted o (yielded ops a.tmps) = true then Oper.wp P o a w K Q else C := by
  rw [if_pos (by simp [Region.wanted, hg, yielded, hk, hv, e])]; exact h
theorem below_a (X : World) (o : Obj) : Below X.heap.size X (X.alloc o) := (Below.refl _ X).alloc (Nat.le_refl _) o
theorem below_d (X : World) : Below X.heap.size X X.drew := (Below.refl _ X).drew

end Go.Proofs.YtdidgddcgjpokaaGreatDoor
/- Schemes in memory: their five cells. -/
namespace Go.Proofs.YtdidgddcgjpokaaGreatDoor
open Go.RowKit Go.Sort Go.Lib
attribute [local go_sem] Oper.semAt_some

def set5 (W : World) (r : Nat) (x y z u v : Value) : World := ((((W.setCell ⟨r, 0, none⟩ x).setCell ⟨r, 1, none⟩ y).setCell ⟨r, 2, none⟩ z).setCell ⟨r, 3, none⟩ u).setCell ⟨r, 4, none⟩ v
theorem cells5 {w : World} {p : Nat} {x y z u v : Value} {T : TypeId} {fz : Nat × Nat} (h : w.heap[p]? = some (.cells #[x, y, z, u, v] T fz)) : w.cell? ⟨p, 0, none⟩ = some x ∧ w.cell? ⟨p, 1, none⟩ = some y ∧ w.cell? ⟨p, 2, none⟩ = some z ∧ w.cell? ⟨p, 3, none⟩ = some u ∧ w.cell? ⟨p, 4, none⟩ = some v := by
  refine ⟨?_, ?_, ?_, ?_, ?_⟩ <;> (rw [Lib.cell_of_heap h]; rfl)
theorem set5_block {W : World} {r : Nat} {x0 y0 z0 u0 v0 : Value} {T : TypeId} (h : W.heap[r]? = some (.cells #[x0, y0, z0, u0, v0] T (0, 0))) (x y z u v : Value) : (set5 W r x y z u v).heap[r]? = some (.cells #[x, y, z, u, v] T (0, 0)) :=
  blk_set (o := 4) (blk_set (o := 3) (blk_set (o := 2) (blk_set (o := 1) (blk_set (o := 0) h x) y) z) u) v
theorem set5_other (W : World) (r : Nat) (x y z u v : Value) {k : Nat} (hk : k ≠ r) : (set5 W r x y z u v).heap[k]? = W.heap[k]? :=
  (Below.heap_setCell _ ⟨r, 4, none⟩ _ k hk).trans ((Below.heap_setCell _ ⟨r, 3, none⟩ _ k hk).trans ((Below.heap_setCell _ ⟨r, 2, none⟩ _ k hk).trans ((Below.heap_setCell _ ⟨r, 1, none⟩ _ k hk).trans (Below.heap_setCell _ ⟨r, 0, none⟩ _ k hk))))
theorem below_set5 {B : Nat} {w W : World} (h : Below B w W) {r : Nat} (hB : B ≤ r) (x y z u v : Value) : Below B w (set5 W r x y z u v) :=
  ((((h.setCell (p := ⟨r, 0, none⟩) hB x).setCell (p := ⟨r, 1, none⟩) hB y).setCell (p := ⟨r, 2, none⟩) hB z).setCell (p := ⟨r, 3, none⟩) hB u).setCell (p := ⟨r, 4, none⟩) hB v
theorem TextsAt.strs {w : World} {v : Value} {l : List ByteArray} (h : TextsAt w v l) : StrsP v l w := by
  obtain ⟨a, cap, rfl, h⟩ := h
  rcases h with rfl | ⟨g, rfl, hc, cs, fz, hg, hr⟩
  · exact .inl ⟨rfl, a, cap, rfl⟩
  · refine .inr ⟨g, 0, cap, rfl, (Array.getElem?_eq_some_iff.1 hg).1, fun i hi => ?_⟩
    rw [Nat.zero_add, Lib.cell_of_heap hg, show (cs[(⟨g, i, none⟩ : Addr).off]? : Option Value) = cs[i]? from rfl, hr i hi]
    simp [List.getD, hi]
/-- Block b holds a scheme: its variables, its context, its type. -/
def SchB (b : Nat) (xv cv : Value) (t : T) (ta : Option Addr) (tc : Nat) (V : World) : Prop := V.heap[b]? = some (.cells #[xv, cv, .int .i64 t.kind, .string t.name, .slice ta t.kids.length tc] 33 (0, 0)) ∧ TysAt V (.slice ta t.kids.length tc) t.kids
theorem SchB.below {b : Nat} {xv cv : Value} {t : T} {ta : Option Addr} {tc : Nat} {V Y : World} (h : SchB b xv cv t ta tc V) (hb : Below V.heap.size V Y) : SchB b xv cv t ta tc Y := ⟨(hb.block b (Array.getElem?_eq_some_iff.1 h.1).1).trans h.1, h.2.keep (KeepT.of_below hb)⟩
theorem SchB.new {xv cv : Value} {t : T} {ta : Option Addr} {tc : Nat} {V : World} (h : TysAt V (.slice ta t.kids.length tc) t.kids) : SchB V.heap.size xv cv t ta tc (V.alloc (.cells #[xv, cv, .int .i64 t.kind, .string t.name, .slice ta t.kids.length tc] 33)) := ⟨alloc_new V _, h.keep (keepT_alloc V _)⟩
/-- A block that is to hold a scheme. -/
def Sch0 (b : Nat) (V : World) : Prop := V.heap[b]? = some (.cells #[.slice none 0 0, .slice none 0 0, .int .i64 0, .string ⟨#[]⟩, .slice none 0 0] 33 (0, 0))
theorem Sch0.below {b : Nat} {V Y : World} (h : Sch0 b V) (hb : Below V.heap.size V Y) : Sch0 b Y := (hb.block b (Array.getElem?_eq_some_iff.1 h).1).trans h
/-- What rename's last statement keeps. -/
def SR (w : World) (b3 b6 b10 : Nat) (xv cv : Value) (t : T) (ta : Option Addr) (tc : Nat) (sa : Option Addr) (sc : Nat) (l : List PR) (V : World) : Prop :=
  SchB b3 xv cv t ta tc V ∧ Sch0 b6 V ∧ BoxS b10 (.slice sa l.length sc) l V ∧ Below w.heap.size w V
theorem SR.below {w : World} {b3 b6 b10 : Nat} {xv cv : Value} {t : T} {ta : Option Addr} {tc : Nat} {sa : Option Addr} {sc : Nat} {l : List PR} {V Y : World} (h : SR w b3 b6 b10 xv cv t ta tc sa sc l V) (hb : Below V.heap.size V Y) : SR w b3 b6 b10 xv cv t ta tc sa sc l Y :=
  ⟨h.1.below hb, h.2.1.below hb, h.2.2.1.below hb, h.2.2.2.trans (hb.mono h.2.2.2.size)⟩
/-- What Close's last statement keeps. -/
def SC (w : World) (b4 b6 b9 : Nat) (t : T) (ta : Option Addr) (tc : Nat) (V : World) : Prop := BoxT b4 t ta tc V ∧ Sch0 b6 V ∧ BoxS b9 (.slice none 0 0) [] V ∧ Below w.heap.size w V
theorem SC.below {w : World} {b4 b6 b9 : Nat} {t : T} {ta : Option Addr} {tc : Nat} {V Y : World} (h : SC w b4 b6 b9 t ta tc V) (hb : Below V.heap.size V Y) : SC w b4 b6 b9 t ta tc Y :=
  ⟨h.1.below hb, h.2.1.below hb, h.2.2.1.below hb, h.2.2.2.trans (hb.mono h.2.2.2.size)⟩
end Go.Proofs.YtdidgddcgjpokaaGreatDoor
/- The document's get: the first of a name. -/
namespace Go.Proofs.YtdidgddcgjpokaaGreatDoor
open Go.RowKit Go.Sort Go.Lib
attribute [local go_sem] Oper.semAt_some

theorem RowG.lt {T : TypeId} {g : Nat} {l : List PR} {w : World} (h : RowG T g l w) : g < w.heap.size := by
  obtain ⟨cs, h1, _⟩ := h; exact (Array.getElem?_eq_some_iff.1 h1).1
theorem RowG.same {T : TypeId} {g : Nat} {l : List PR} {w w' : World} (h : RowG T g l w) (k : w'.heap[g]? = w.heap[g]?) : RowG T g l w' := by
  obtain ⟨cs, h1, h2⟩ := h; exact ⟨cs, k.trans h1, h2⟩
theorem RowG.below {T : TypeId} {g : Nat} {l : List PR} {w w' : World} (h : RowG T g l w) (k : Below w.heap.size w w') : RowG T g l w' := h.same (k.block g h.lt)
theorem RowG.cells {T : TypeId} {g : Nat} {l : List PR} {w : World} (h : RowG T g l w) {i : Nat} (hi : i < l.length) :
    w.cell? ⟨g, i * 4, none⟩ = some (.string (l.getD i noP).n) ∧ w.cell? ⟨g, i * 4 + 1, none⟩ = some (.int .i64 (l.getD i noP).t.kind) ∧ w.cell? ⟨g, i * 4 + 2, none⟩ = some (.string (l.getD i noP).t.name) ∧ w.cell? ⟨g, i * 4 + 3, none⟩ = some (.slice (l.getD i noP).a (l.getD i noP).t.kids.length (l.getD i noP).c) := by
  obtain ⟨cs, h1, _, h3⟩ := h
  rw [Lib.cell_of_heap h1, Lib.cell_of_heap h1, Lib.cell_of_heap h1, Lib.cell_of_heap h1]
  exact h3 i hi
theorem GivenG.shape {T : TypeId} {v : Value} {d : List PR} {w : World} (h : GivenG T v d w) : ∃ a c, v = .slice a d.length c ∧ ∀ i, i < d.length → ∃ g, a = some ⟨g, 0, none⟩ ∧ RowG T g d w := by
  rcases h with ⟨rfl, rfl⟩ | ⟨_, g, cap, rfl, hr⟩
  · exact ⟨none, 0, rfl, fun i hi => absurd hi (Nat.not_lt_zero _)⟩
  · exact ⟨_, cap, rfl, fun i _ => ⟨g, rfl, hr⟩⟩
theorem GivenG.below {T : TypeId} {v : Value} {d : List PR} {w w' : World} (h : GivenG T v d w) (hb : Below w.heap.size w w') : GivenG T v d w' := by
  rcases h with h | ⟨h0, g, cap, e, hr⟩
  · exact .inl h
  · exact .inr ⟨h0, g, cap, e, hr.below hb⟩
theorem lk_ahead (n : ByteArray) : ∀ (l : List PR) (i : Nat), i < l.length → (∀ j, j < i → (l.getD j noP).n ≠ n) → (l.getD i noP).n = n → lk n l = some (l.getD i noP)
  | [], i, hi, _, _ => absurd hi (Nat.not_lt_zero _)
  | x :: l, 0, _, _, h => by rw [lk_cons]; exact if_pos h
  | x :: l, i + 1, hi, ha, h => by
    rw [lk_cons, if_neg (show ¬ x.n = n from ha 0 (Nat.succ_pos _))]
    exact lk_ahead n l i (by simpa using hi) (fun j hj => ha (j + 1) (by omega)) h
theorem lk_none (n : ByteArray) : ∀ (l : List PR), (∀ j, j < l.length → (l.getD j noP).n ≠ n) → lk n l = none
  | [], _ => rfl
  | x :: l, ha => by
    rw [lk_cons, if_neg (show ¬ x.n = n from ha 0 (Nat.succ_pos _))]
    exact lk_none n l (fun j hj => ha (j + 1) (by simpa using hj))

theorem next_none {d : List PR} {n : ByteArray} {i : Nat} (hA : ∀ j, j < i → (d.getD j noP).n ≠ n) (h : (d.getD i noP).n ≠ n) : ∀ j, j < i + 1 → (d.getD j noP).n ≠ n := by
  intro j hj
  by_cases e : j = i
  · rw [e]; exact h
  · exact hA j (by omega)
set_option maxRecDepth 100000 in
set_option maxHeartbeats 2000000 in
theorem rget_any (v : Value) (d : List PR) (n : ByteArray) (w : World) (h : GivenG 53 v d w) (hl : d.length < 1152921504606846976) :
    Calls Tryz.prog 55 #[v, .string n] w fun e w' => e = .returned (.tuple #[fv' (lk n d), .bool (lk n d).isSome]) ∧ Below w.heap.size w w' := by
  obtain ⟨a, c, rfl, hr⟩ := h.shape
  have HR := Lib.hid hr
  have HB0 := Lib.hid (fun o => (Below.refl _ w).alloc (Nat.le_refl _) o)
  clear h hr
  obtain ⟨res, hres⟩ : ∃ r, lk n d = r := ⟨_, rfl⟩
  have HRes := Lib.hid hres
  rw [hres]
  clear hres
  go_enter Tryz.func55, Tryz.ntmps55
  go_wp2
  go_loopw [6] (fun vi wr => ∃ i : Nat, i ≤ d.length ∧ vi = .int .i64 i ∧ Hid (∀ j, j < i → (d.getD j noP).n ≠ n) ∧ Hid (Below w.heap.size w wr) ∧ Hid (wr.heap[w.heap.size]? = some (.cells #[.int .i64 0, .string ⟨#[]⟩, .slice none 0 0] 31 (0, 0)))) (fun vi _ => d.length - (intOf vi).toNat)
  case atStart => exact ⟨0, Nat.zero_le _, rfl, Lib.hid (fun j hj => absurd hj (Nat.not_lt_zero _)), Lib.hid (HB0.out _), Lib.hid (alloc_new w _)⟩
  case round =>
    obtain ⟨i, hi, rfl, hA, hB, hZ⟩ := hrel
    obtain ⟨z0, z1, z2⟩ := three_cells hZ.out
    have u0 := Lib.frozen_of_heap hZ.out 0
    have u1 := Lib.frozen_of_heap hZ.out 1
    have u2 := Lib.frozen_of_heap hZ.out 2
    have lz := (Array.getElem?_eq_some_iff.1 hZ.out).1
    by_cases hlt : i < d.length
    · obtain ⟨g, rfl, hr⟩ := HR.out i hlt
      obtain ⟨x0, x1, x2, x3⟩ := (hr.below hB.out).cells hlt
      have hiz : (i : Int) < (d.length : Int) := by omega
      have HN := Lib.hid (fun h => lk_ahead n d i hlt hA.out h)
      have HE := Lib.hid (next_none (d := d) (n := n) hA.out)
      clear hr HR
      generalize d.getD i noP = x at x0 x1 x2 x3 HN HE
      by_cases hq : x.n = n
      · have hqB : (x.n.toList == n.toList) = true := by rw [bytes_beq]; exact eqB_true hq
        have hs : res = some x := by rw [← HRes.out]; exact HN.out hq
        subst hs
        clear HRes HN HE hq
        go_wp2
        have hs3 := set3_block hZ.out (.int .i64 x.t.kind) (.string x.t.name) (.slice x.a x.t.kids.length x.c)
        have hc := three_cells hs3
        refine bodyPost_ret (v := .tuple #[.agg #[.int .i64 x.t.kind, .string x.t.name, .slice x.a x.t.kids.length x.c], .bool true]) (by simp [results, Tryz.results55, go_sem, hc.1, hc.2.1, hc.2.2]) rfl ⟨rfl, below_set3 hB.out (Nat.le_refl _) _ _ _⟩
      · have hqB : (x.n.toList == n.toList) = false := by rw [bytes_beq]; exact eqB_false hq
        have HQ := Lib.hid hq
        clear hq HN
        go_wp2
        go_roundw
        case rel => exact ⟨i + 1, by omega, by go_num, Lib.hid (HE.out HQ.out), hB, hZ⟩
        case measure => simp [intOf]; omega
    · obtain rfl : i = d.length := by omega
      have hs : res = none := by rw [← HRes.out]; exact lk_none n d hA.out
      subst hs
      clear HRes HR
      go_wp2
      have hs3 := set3_block hZ.out (.int .i64 0) (.string ⟨#[]⟩) (.slice none 0 0)
      have hc := three_cells hs3
      refine bodyPost_ret (v := .tuple #[.agg #[.int .i64 0, .string ⟨#[]⟩, .slice none 0 0], .bool false]) (by simp [results, Tryz.results55, go_sem, hc.1, hc.2.1, hc.2.2]) rfl ⟨rfl, below_set3 hB.out (Nat.le_refl _) _ _ _⟩
end Go.Proofs.YtdidgddcgjpokaaGreatDoor
/- Predicates are compared: by class, then by type. -/
namespace Go.Proofs.YtdidgddcgjpokaaGreatDoor
open Go.RowKit Go.Sort Go.Lib
attribute [local go_sem] Oper.semAt_some

def cmpR (x y : PR) : Int := orI (cmpL x.n.data.toList y.n.data.toList) (cmpT x.t y.t)
theorem cmpR_neg (x y : PR) : cmpR y x = - cmpR x y := by
  unfold cmpR; rw [cmpL_neg, cmp_neg, orI_neg]
theorem cmpR_unit (x y : PR) : Unit1 (cmpR x y) := orI_unit (cmpL_unit _ _) (cmp_unit _ _)
theorem cmpR_zero (x y : PR) : cmpR x y = 0 ↔ x.n = y.n ∧ x.t = y.t := by
  unfold cmpR
  rw [orI_zero, cmpL_zero, cmp_zero]
  constructor
  · rintro ⟨h1, h2⟩
    refine ⟨?_, h2⟩
    cases hx : x.n with | mk a => cases hy : y.n with | mk b =>
      rw [hx, hy] at h1
      congr 1
      exact Array.toList_inj.1 h1
  · rintro ⟨h1, h2⟩; rw [h1, h2]; exact ⟨rfl, rfl⟩
theorem cmpR_tri (x y z : PR) : Tri (cmpR x y) (cmpR y z) (cmpR x z) := orI_tri (cmpL_tri _ _ _) (cmp_tri _ _ _)
theorem cmpR_le {x y z : PR} (h1 : cmpR x y ≤ 0) (h2 : cmpR y z ≤ 0) : cmpR x z ≤ 0 := by
  have := cmpR_tri x y z
  unfold Tri at this
  obtain ⟨a1, a2, a3, a4⟩ := this
  have u1 := cmpR_unit x y; have u2 := cmpR_unit y z; have u3 := cmpR_unit x z
  unfold Unit1 at u1 u2 u3
  omega
set_option maxRecDepth 100000 in
set_option maxHeartbeats 1000000 in
theorem cmpQ_any (x y : PR) (w : World) (hf : Fits x.t) (hx : TysAt w (.slice x.a x.t.kids.length x.c) x.t.kids) (hy : TysAt w (.slice y.a y.t.kids.length y.c) y.t.kids) :
    Calls Tryz.prog 44 #[pairV x, pairV y] w fun e w' => e = .returned (.int .i64 (cmpR x y)) ∧ Below w.heap.size w w' := by
  have HC := Lib.hid (fun W => cmpStr_any x.n y.n W)
  have HT := Lib.hid (fun (W : World) (k : Below w.heap.size w W) => compare_any (w := W) hf (hx.keep (KeepT.of_below k)) (hy.keep (KeepT.of_below k)))
  have HB := Lib.hid (show ∀ o1 o2 : Obj, Below w.heap.size w ((w.alloc o1).alloc o2) from fun o1 o2 => ((Below.refl _ w).alloc (Nat.le_refl _) _).alloc (by simp) _)
  obtain ⟨p, hp⟩ : ∃ p, cmpL x.n.data.toList y.n.data.toList = p := ⟨_, rfl⟩
  have hr : cmpR x y = orI p (cmpT x.t y.t) := by unfold cmpR; rw [hp]
  rw [hp] at HC
  rw [hr]
  clear hr hp hf hx hy
  generalize cmpT x.t y.t = q at *
  simp only [pairV, tyV] at *
  go_enter Tryz.func44, Tryz.ntmps44
  by_cases h0 : p = 0
  · have e : orI p q = q := by rw [orI, if_pos h0]
    rw [e]
    subst h0
    clear e
    go_wp2_with (first
      | (go_at_call 69; refine (HC.out _).mono ?_; rintro e w2 ⟨rfl, rfl⟩)
      | (go_at_call 70; refine (HT.out _ (HB.out _ _)).mono ?_; rintro e w3 ⟨rfl, hb3⟩; have HB3 := Lib.hid ((HB.out _ _).trans (hb3.mono (HB.out _ _).size)); clear hb3))
    go_ret
    exact ⟨rfl, HB3.out⟩
  · have e : orI p q = p := by rw [orI, if_neg h0]
    rw [e]
    clear e
    go_wp2_with (first
      | (go_at_call 69; refine (HC.out _).mono ?_; rintro e w2 ⟨rfl, rfl⟩))
    go_ret
    exact ⟨rfl, HB.out _ _⟩
set_option maxRecDepth 100000 in
set_option maxHeartbeats 1000000 in
theorem sameQ_any (x y : PR) (w : World) (hf : Fits x.t) (hx : TysAt w (.slice x.a x.t.kids.length x.c) x.t.kids) (hy : TysAt w (.slice y.a y.t.kids.length y.c) y.t.kids) :
    Calls Tryz.prog 46 #[pairV x, pairV y] w fun e w' => e = .returned (.bool (cmpR x y == 0)) ∧ Below w.heap.size w w' := by
  have HT := Lib.hid (fun (W : World) (k : Below w.heap.size w W) => cmpQ_any x y W hf (hx.keep (KeepT.of_below k)) (hy.keep (KeepT.of_below k)))
  have HB := Lib.hid (show ∀ o1 o2 : Obj, Below w.heap.size w ((w.alloc o1).alloc o2) from fun o1 o2 => ((Below.refl _ w).alloc (Nat.le_refl _) _).alloc (by simp) _)
  clear hf hx hy
  generalize cmpR x y = q at *
  simp only [pairV] at *
  go_enter Tryz.func46, Tryz.ntmps46
  go_wp2_with (first
    | (go_at_call 44; refine (HT.out _ (by first | exact HB.out _ _ | exact Below.refl _ _)).mono ?_; rintro e w3 ⟨rfl, hb3⟩; have HB3 := Lib.hid hb3; clear hb3))
  go_ret
  exact ⟨by first | rfl | simp, by first | exact HB3.out | exact (HB.out _ _).trans (HB3.out.mono (HB.out _ _).size)⟩
end Go.Proofs.YtdidgddcgjpokaaGreatDoor
/- Predicates in memory; whether two, two rows of them are the same. -/
namespace Go.Proofs.YtdidgddcgjpokaaGreatDoor
open Go.RowKit
attribute [local go_sem] Oper.semAt_some

abbrev Pr := ByteArray × T
def prV (p : Pr) (v : Value) : Value := .agg #[.string p.1, .int .i64 p.2.kind, .string p.2.name, v]
/-- v is a slice of the predicates l. -/
def PrsAt (w : World) (v : Value) (l : List Pr) : Prop :=
  (l = [] ∧ ∃ a c, v = .slice a 0 c) ∨ ∃ g cap cs fz, ∃ u : Nat → Value, v = .slice (some ⟨g, 0, none⟩) l.length cap ∧ w.heap[g]? = some (.cells cs 55 fz) ∧ l.length ≤ cap ∧
    ∀ i (h : i < l.length), (cs[i * 4]? = some (.string l[i].1) ∧ cs[i * 4 + 1]? = some (.int .i64 l[i].2.kind) ∧ cs[i * 4 + 2]? = some (.string l[i].2.name) ∧ cs[i * 4 + 3]? = some (u i)) ∧ TysAt w (u i) l[i].2.kids
def KeepP (w w' : World) : Prop := ∀ (k : Nat) (cs : Array Value) (fz : Nat × Nat), w.heap[k]? = some (.cells cs 55 fz) → w'.heap[k]? = some (.cells cs 55 fz)
theorem KeepP.trans {a b c : World} (h : KeepP a b) (k : KeepP b c) : KeepP a c := fun i cs fz hi => k i cs fz (h i cs fz hi)
theorem KeepP.of_below {w w' : World} (h : Below w.heap.size w w') : KeepP w w' := fun k _ _ hk => (h.block k (Array.getElem?_eq_some_iff.1 hk).1).trans hk
theorem keepP_alloc (w : World) (o : Obj) : KeepP w (w.alloc o) := .of_below ((Below.refl _ w).alloc (Nat.le_refl _) o)
theorem PrsAt.keep {w w' : World} (hk : KeepT w w') (hp : KeepP w w') {v : Value} {l : List Pr} (h : PrsAt w v l) : PrsAt w' v l := by
  rcases h with h | ⟨g, cap, cs, fz, u, rfl, h1, h2, h3⟩
  · exact .inl h
  · exact .inr ⟨g, cap, cs, fz, u, rfl, hp _ _ _ h1, h2, fun i hi => ⟨(h3 i hi).1, (h3 i hi).2.keep hk⟩⟩
theorem PrsAt.shape {w : World} {v : Value} {l : List Pr} (h : PrsAt w v l) : ∃ a c, v = .slice a l.length c := by
  rcases h with ⟨rfl, a, c, rfl⟩ | ⟨g, cap, cs, fz, u, rfl, _⟩
  · exact ⟨a, c, rfl⟩
  · exact ⟨_, _, rfl⟩
theorem PrsAt.row {w : World} {v : Value} {l : List Pr} (h : PrsAt w v l) (h0 : l ≠ []) : ∃ g cap, v = .slice (some ⟨g, 0, none⟩) l.length cap ∧ g < w.heap.size ∧ l.length ≤ cap ∧
    ∀ i (h : i < l.length), ∃ a c, w.cell? ⟨g, i * 4, none⟩ = some (.string l[i].1) ∧ w.cell? ⟨g, i * 4 + 1, none⟩ = some (.int .i64 l[i].2.kind) ∧ w.cell? ⟨g, i * 4 + 2, none⟩ = some (.string l[i].2.name) ∧ w.cell? ⟨g, i * 4 + 3, none⟩ = some (.slice a l[i].2.kids.length c) ∧
      TysAt w (.slice a l[i].2.kids.length c) l[i].2.kids := by
  rcases h with ⟨h, _⟩ | ⟨g, cap, cs, fz, u, rfl, h1, h2, h3⟩
  · exact absurd h h0
  · refine ⟨g, cap, rfl, (Array.getElem?_eq_some_iff.1 h1).1, h2, fun i hi => ?_⟩
    obtain ⟨⟨c0, c1, c2, c3⟩, ht⟩ := h3 i hi
    obtain ⟨a, c, e⟩ := ht.shape
    rw [e] at c3 ht
    refine ⟨a, c, ?_, ?_, ?_, ?_, ht⟩
    · simp only [World.cell?, h1]; simpa using c0
    · simp only [World.cell?, h1]; simpa using c1
    · simp only [World.cell?, h1]; simpa using c2
    · simp only [World.cell?, h1]; simpa using c3

set_option maxRecDepth 100000 in
set_option maxHeartbeats 1000000 in
theorem samePred_any (q q' : Pr) (hf : Fits q.2) (a b : Option Addr) (c d : Nat) (w : World) (h : TysAt w (.slice a q.2.kids.length c) q.2.kids) (h' : TysAt w (.slice b q'.2.kids.length d) q'.2.kids) :
    Calls Tryz.prog 42 #[prV q (.slice a q.2.kids.length c), prV q' (.slice b q'.2.kids.length d)] w fun e w' => e = .returned (.bool (eqB q q')) ∧ Below w.heap.size w w' := by
  have HC := Lib.hid (fun (W : World) (k : KeepT w W) => sameType_any hf (h.keep k) (h'.keep k))
  have HZ := Lib.hid (fun o1 o2 : Obj => (keepT_alloc w o1).trans (keepT_alloc (w.alloc o1) o2))
  have HB := Lib.hid (fun o1 o2 : Obj => ((Below.refl _ w).alloc (Nat.le_refl _) o1).alloc (show w.heap.size ≤ (w.alloc o1).heap.size by simp) o2)
  obtain ⟨n, t⟩ := q
  obtain ⟨n', t'⟩ := q'
  have e1 := bytes_beq n n'
  clear hf h h'
  obtain ⟨res, hres⟩ : ∃ r, eqB (n, t) (n', t') = r := ⟨_, rfl⟩
  have HR := Lib.hid hres
  rw [hres]; clear hres
  simp only [tyV, prV] at HC ⊢
  by_cases hm : n = n'
  · rw [eqB_true hm] at e1
    have HM := Lib.hid hm; clear hm
    go_enter Tryz.func42, Tryz.ntmps42
    go_wp2_with (go_at_call 35; refine (HC.out _ (HZ.out _ _)).mono ?_)
    rintro e w2 ⟨rfl, hb2⟩
    have HB2 := Lib.hid hb2; clear hb2
    go_wp2
    go_ret
    refine ⟨?_, (HB.out _ _).trans (HB2.out.mono (by simp; omega))⟩
    rw [← HR.out]
    by_cases hq : t = t'
    · rw [eqB_true hq, eqB_true (show (n, t) = (n', t') by rw [HM.out, hq])]
      rfl
    · rw [eqB_false hq, eqB_false (fun e => hq (Prod.mk.inj e).2)]
      rfl
  · rw [eqB_false hm] at e1
    have hr : res = false := by rw [← HR.out]; exact eqB_false (fun e => hm (Prod.mk.inj e).1)
    subst hr
    clear HR hm
    go_enter Tryz.func42, Tryz.ntmps42
    go_wp2_with (first | fail)
    go_ret
    exact ⟨rfl, HB.out _ _⟩

set_option maxRecDepth 100000 in
set_option maxHeartbeats 600000 in
theorem samePreds_of (l l' : List Pr) (H : ∀ q ∈ l, Fits q.2) (a b : Option Addr) (c d : Nat) (w : World) (h : PrsAt w (.slice a l.length c) l) (h' : PrsAt w (.slice b l'.length d) l') (hn : l.length < 1152921504606846976) :
    Calls Tryz.prog 18 #[.slice a l.length c, .slice b l'.length d] w fun e w' => e = .returned (.bool (eqB l l')) ∧ Below w.heap.size w w' := by
  by_cases hl : l.length = l'.length
  · by_cases h0 : l = []
    · subst h0
      obtain rfl : l' = [] := List.length_eq_zero_iff.1 hl.symm
      rw [eqB_true rfl]
      clear h h' H
      go_enter Tryz.func18, Tryz.ntmps18
      go_wp2
      go_loopw [5] (fun vi wr => vi = .int .i64 0 ∧ Hid (Below w.heap.size w wr)) (fun _ _ => 0)
      case atStart => exact ⟨rfl, Lib.hid (Below.refl _ _)⟩
      case round =>
        obtain ⟨rfl, hB⟩ := hrel
        go_wp2
        go_ret
        exact ⟨rfl, hB.out⟩
    · have h0' : l' ≠ [] := by intro e; rw [e] at hl; exact h0 (List.length_eq_zero_iff.1 hl)
      obtain ⟨g1, c1, e1, hg1, hc1, r1⟩ := h.row h0
      obtain ⟨g2, c2, e2, hg2, hc2, r2⟩ := h'.row h0'
      cases e1; cases e2
      have HR1 := Lib.hid r1; clear r1
      have HR2 := Lib.hid r2; clear r2
      have HS := Lib.hid H; clear H
      obtain ⟨res, hres⟩ : ∃ r, eqB l l' = r := ⟨_, rfl⟩
      have HRes := Lib.hid hres
      rw [hres]; clear hres h h'
      rw [← hl] at hc2 ⊢
      have HL := Lib.hid hl; clear hl
      have hm : ((l.length : Int) != (l.length : Int)) = false := by simp
      go_enter Tryz.func18, Tryz.ntmps18
      go_wp2
      go_loopw [5] (fun vi wr => ∃ i : Nat, i ≤ l.length ∧ vi = .int .i64 i ∧ Hid (Below w.heap.size w wr) ∧ Hid (∀ j (h1 : j < l.length) (h2 : j < l'.length), j < i → l[j] = l'[j])) (fun vi _ => l.length - (intOf vi).toNat)
      case atStart => exact ⟨0, Nat.zero_le _, rfl, Lib.hid (Below.refl _ _), Lib.hid (fun j _ _ h => absurd h (by omega))⟩
      case round =>
        obtain ⟨i, hi, rfl, hB, hS⟩ := hrel
        by_cases hlt : i < l.length
        · have hlt' : i < l'.length := HL.out ▸ hlt
          obtain ⟨pa, ca, x0, x1, x2, x3, xk⟩ := HR1.out i hlt
          obtain ⟨pb, cb, y0, y1, y2, y3, yk⟩ := HR2.out i hlt'
          have f1 := fun o => hB.out.cell (p := ⟨g1, o, none⟩) hg1
          have f2 := fun o => hB.out.cell (p := ⟨g2, o, none⟩) hg2
          rw [← f1] at x0 x1 x2 x3; rw [← f2] at y0 y1 y2 y3
          have hcall := samePred_any l[i] l'[i] (HS.out l[i] (List.getElem_mem hlt)) pa pb ca cb
          have XK := Lib.hid xk; have YK := Lib.hid yk
          clear xk yk f1 f2
          have HE := Lib.hid (show l[i] = l[i] ∧ l'[i] = l'[i] from ⟨rfl, rfl⟩)
          obtain ⟨t, ht⟩ : ∃ t, l[i] = t := ⟨_, rfl⟩
          obtain ⟨u, hu⟩ : ∃ u, l'[i] = u := ⟨_, rfl⟩
          have HT := Lib.hid ht; have HU := Lib.hid hu
          rw [ht] at x0 x1 x2 x3 hcall XK
          rw [hu] at y0 y1 y2 y3 hcall YK
          simp only [prV] at hcall
          clear ht hu HE
          have HC := Lib.hid (fun W (k : KeepT w W) => hcall W (XK.out.keep k) (YK.out.keep k)); clear hcall
          have HK : Hid (KeepT w wr.drew) := Lib.hid (fun k cs fz h => KeepT.of_below hB.out k cs fz h)
          go_wp2
          by_cases hq : t = u
          · rw [eqB_true hq] at HC
            have HQ := Lib.hid hq; clear hq
            go_region_with (first
              | (go_at_call 42; refine (HC.out _ ?kk).mono ?_; (case kk => exact HK.out); rintro e w2 ⟨rfl, hb2⟩; have HB2 := Lib.hid hb2; clear hb2))
            all_goals go_wp2
            all_goals
              go_roundw
              case rel => exact ⟨i + 1, by omega, by go_num, Lib.hid (hB.out.drew.trans (HB2.out.mono hB.out.size)), Lib.hid (fun j h1 h2 hj => by
                by_cases hji : j = i
                · subst hji; rw [HT.out, HU.out]; exact HQ.out
                · exact hS.out j h1 h2 (by omega))⟩
              case measure => simp [intOf]; omega
          · rw [eqB_false hq] at HC
            have hres : res = false := by
              rw [← HRes.out]
              refine eqB_false fun e => hq ?_
              rw [← HT.out, ← HU.out]
              exact List.getElem_of_eq e hlt
            clear HT HU HRes hq
            subst hres
            go_region_with (first
              | (go_at_call 42; refine (HC.out _ ?kk).mono ?_; (case kk => exact HK.out); rintro e w2 ⟨rfl, hb2⟩; have HB2 := Lib.hid hb2; clear hb2))
            all_goals go_wp2
            all_goals go_ret
            all_goals exact ⟨rfl, hB.out.drew.trans (HB2.out.mono hB.out.size)⟩
        · obtain rfl : i = l.length := by omega
          have hres : res = true := by
            rw [← HRes.out]
            exact eqB_true (List.ext_getElem HL.out (fun j h1 h2 => hS.out j h1 h2 h1))
          clear HRes
          subst hres
          go_wp2
          go_ret
          exact ⟨rfl, hB.out⟩
  · have hm : ((l.length : Int) != (l'.length : Int)) = true := by simp; omega
    rw [eqB_false (fun e => hl (by rw [e]))]
    clear h h' H
    go_enter Tryz.func18, Tryz.ntmps18
    go_wp2
    go_ret
    exact ⟨rfl, Below.refl _ _⟩

end Go.Proofs.YtdidgddcgjpokaaGreatDoor
/- Predicates, rows of them, that are made of numbers. -/
namespace Go.Proofs.YtdidgddcgjpokaaGreatDoor
open Go.RowKit
attribute [local go_sem] Oper.semAt_some
attribute [local go_sem ↓] Go.wp_at_zero Go.wp_at_succ

/-- Nothing but block r has turned. -/
structure Else (r : Nat) (w w' : World) : Prop where
  below : ∀ B, B ≤ r → Below B w w'
  block : ∀ k, k ≠ r → w'.heap[k]? = w.heap[k]?
theorem Else.set (w : World) (r o : Nat) (v : Value) : Else r w (w.setCell ⟨r, o, none⟩ v) := ⟨fun B hB => (Below.refl B w).setCell (p := ⟨r, o, none⟩) hB v, fun k hk => Below.heap_setCell w ⟨r, o, none⟩ v k hk⟩
theorem Else.trans {r : Nat} {a b c : World} (h : Else r a b) (k : Else r b c) : Else r a c := ⟨fun B hB => (h.below B hB).trans (k.below B hB), fun i hi => (k.block i hi).trans (h.block i hi)⟩
theorem KeepT.else {r : Nat} {w w' : World} {cs : Array Value} {T : TypeId} {fz : Nat × Nat} (h : Else r w w') (hr : w.heap[r]? = some (.cells cs T fz)) (hT : T ≠ 31) : KeepT w w' := by
  intro k cs' fz' hk
  refine (h.block k fun e => ?_).trans hk
  subst e
  rw [hr] at hk
  cases hk
  exact hT rfl
/-- The end of a maker whose result lies in a block of its own. -/
theorem else_fin {B p r : Nat} {a : Option Addr} {n c k : Nat} {w W W' : World} {O : Obj} (hr : r = w.heap.size) (hs : SeqAt B p a n c k W) (hfr : MkFr B p (w.alloc O) W) (hp : p < w.heap.size) (he : Else r W W') :
    SeqAt B p a n c k W' ∧ MkFr B p w W' := by
  subst hr
  have hB := hs.1.1
  refine ⟨⟨⟨hB, (he.block p (by omega)).trans hs.1.2⟩, hs.2.keep (he.below B (by omega))⟩, ?_, ?_⟩
  · exact (((Below.refl B w).alloc (by omega) O).trans hfr.1).trans (he.below B (by omega))
  · intro i o hi hip
    have hlt := (Array.getElem?_eq_some_iff.1 hi).1
    exact (he.block i (by omega)).trans (hfr.2 i o ((Below.heap_alloc w O i hlt).trans hi) hip)

theorem four_strs {w : World} {g : Nat} {x y z u : Value} (h : w.heap[g]? = some (.cells #[x, y, z, u] 9 (0, 0))) : w.cell? ⟨g, 0, none⟩ = some x ∧ w.cell? ⟨g, 1, none⟩ = some y ∧ w.cell? ⟨g, 2, none⟩ = some z ∧ w.cell? ⟨g, 3, none⟩ = some u := four_cells h

theorem set4_cells {W : World} {r : Nat} {x0 y0 z0 u0 : Value} {T : TypeId} (h : W.heap[r]? = some (.cells #[x0, y0, z0, u0] T (0, 0))) (x y z u : Value) :
    ((((W.setCell ⟨r, 0, none⟩ x).setCell ⟨r, 1, none⟩ y).setCell ⟨r, 2, none⟩ z).setCell ⟨r, 3, none⟩ u).cell? ⟨r, 0, none⟩ = some x ∧ ((((W.setCell ⟨r, 0, none⟩ x).setCell ⟨r, 1, none⟩ y).setCell ⟨r, 2, none⟩ z).setCell ⟨r, 3, none⟩ u).cell? ⟨r, 1, none⟩ = some y ∧ ((((W.setCell ⟨r, 0, none⟩ x).setCell ⟨r, 1, none⟩ y).setCell ⟨r, 2, none⟩ z).setCell ⟨r, 3, none⟩ u).cell? ⟨r, 2, none⟩ = some z ∧ ((((W.setCell ⟨r, 0, none⟩ x).setCell ⟨r, 1, none⟩ y).setCell ⟨r, 2, none⟩ z).setCell ⟨r, 3, none⟩ u).cell? ⟨r, 3, none⟩ = some u :=
  four_cells (block_set (o := 3) (block_set (o := 2) (block_set (o := 1) (block_set (o := 0) h x) y) z) u)
theorem Tryz.infoPred : (Tryz.prog.info? 55).map (fun i => (i.zero, i.size, i.bytes)) = some (some (.agg #[.string ⟨#[]⟩, .int .i64 0, .string ⟨#[]⟩, .slice none 0 0]), 4, 64) := by kernel_rfl

def prCells (x : Pr × Value) : List Value := [.string x.1.1, .int .i64 x.1.2.kind, .string x.1.2.name, x.2]
def prRow (q : List (Pr × Value)) : List Value := q.flatMap prCells
theorem prRow_snoc (q : List (Pr × Value)) (x : Pr × Value) : prRow (q ++ [x]) = prRow q ++ prCells x := by simp [prRow]
theorem prRow_at (q : List (Pr × Value)) (i j : Nat) (hi : i < q.length) (hj : j < 4) : (prRow q)[i * 4 + j]? = (prCells q[i])[j]? := by
  induction q generalizing i with
  | nil => cases hi
  | cons a r ih =>
    cases i with
    | zero =>
      have : (prCells a ++ prRow r)[j]? = (prCells a)[j]? := List.getElem?_append_left (by simp [prCells]; omega)
      simpa [prRow] using this
    | succ i =>
      have e : (i + 1) * 4 + j = (prCells a).length + (i * 4 + j) := by simp [prCells]; omega
      have h1 : (prCells a ++ prRow r)[(prCells a).length + (i * 4 + j)]? = (prRow r)[i * 4 + j]? := by rw [List.getElem?_append_right (by omega)]; congr 1; omega
      have h2 := ih i (by simpa using hi)
      rw [e]
      simpa [prRow] using h1.trans h2
theorem prs_of_row {W : World} {base : Nat} {v : Value} {q : List (Pr × Value)} (h : W.ownsRow base 55 4 v q.length (prRow q)) (hq : ∀ x ∈ q, TysAt W x.2 x.1.2.kids) : PrsAt W v (q.map (·.1)) := by
  rcases h.2 with ⟨rfl, h0⟩ | ⟨g, cap, cur, rfl, _, hg, hc, hm, hcs, htk⟩
  · have : q = [] := List.length_eq_zero_iff.1 h0
    subst this
    exact .inl ⟨rfl, none, 0, rfl⟩
  · refine .inr ⟨g, cap, cur, _, fun i => (q[i]?.map (·.2)).getD undef, by simp, hg, by simpa using hc, fun i hi => ?_⟩
    have hi' : i < q.length := by simpa using hi
    have cell : ∀ j, j < 4 → cur[i * 4 + j]? = (prCells q[i])[j]? := fun j hj => by
      have hlt : i * 4 + j < q.length * 4 := by omega
      rw [← prRow_at q i j hi' hj, ← htk, List.getElem?_take, if_pos hlt, Array.getElem?_toList]
    have e : (q.map (·.1))[i] = q[i].1 := by simp
    rw [e]
    refine ⟨⟨(cell 0 (by omega)).trans rfl, (cell 1 (by omega)).trans rfl, (cell 2 (by omega)).trans rfl, (cell 3 (by omega)).trans ?_⟩, ?_⟩
    · simp [prCells, hi']
    · simpa [hi'] using hq q[i] (List.getElem_mem hi')
end Go.Proofs.YtdidgddcgjpokaaGreatDoor
/- (Subst).Then: one after the other. -/
namespace Go.Proofs.YtdidgddcgjpokaaGreatDoor
open Go.RowKit Go.Sort Go.Lib
attribute [local go_sem] Oper.semAt_some

theorem cellsP_get (d : List PR) (j : Nat) (hj : j < d.length * 4) : (cellsP d)[j]? = (encP (d.getD (j / 4) noP))[j % 4]? := by
  have := cellsP_at d (j / 4) (j % 4) (by omega) (by omega)
  rwa [show j / 4 * 4 + j % 4 = j by omega] at this
theorem cellsP_one (l : List PR) : ∀ u ∈ cellsP l, u.oneCell' = true := by
  intro u hu
  obtain ⟨x, _, hx⟩ := List.mem_flatMap.1 hu
  exact encP_one x u hx
end Go.Proofs.YtdidgddcgjpokaaGreatDoor
/- SubstThen: what its statements keep; calls whose results are told. -/
namespace Go.Proofs.YtdidgddcgjpokaaGreatDoor
open Go.RowKit Go.Sort Go.Lib
attribute [local go_sem] Oper.semAt_some

/-! A box that is still empty is filled: all else stays. -/
end Go.Proofs.YtdidgddcgjpokaaGreatDoor
/- SubstThen: the pairs it is given, kept; its calls ahead of the regions. -/
namespace Go.Proofs.YtdidgddcgjpokaaGreatDoor
open Go.RowKit Go.Sort Go.Lib
attribute [local go_sem] Oper.semAt_some

end Go.Proofs.YtdidgddcgjpokaaGreatDoor
/- (Subst).Preds. -/
namespace Go.Proofs.YtdidgddcgjpokaaGreatDoor
open Go.RowKit Go.Sort Go.Lib
attribute [local go_sem] Oper.semAt_some

theorem make_rowP (n : Nat) (hn : n ≤ 1000000000) (w : World) :
    (Instr.makeSlice 28 (.int .i64 (n : Int)) (.int .i64 (n : Int))).run Tryz.prog w = .ok (.slice (some ⟨w.heap.size, 0, none⟩) n n) (w.alloc (.cells (zeros4 n) 55)) := by
  obtain ⟨i, hi, hzz⟩ := Option.map_eq_some_iff.1 Tryz.infoPred
  simp only [Prod.mk.injEq] at hzz
  obtain ⟨hz, hs, hb⟩ := hzz
  have hr := run_make (P := Tryz.prog) w 28 55 i _ Tryz.underlying28 hi hz .i64 .i64 n n (by omega) (Int.le_refl _) (by rw [hb]; omega) (by omega)
  simp only [Int.toNat_natCast, hs] at hr
  exact hr

/-- A row of k places, of which the first hold the pairs l. -/
def RowKP (g k : Nat) (l : List PR) (w : World) : Prop :=
  ∃ cs, w.heap[g]? = some (.cells cs 55 (0, 0)) ∧ cs.size = k * 4 ∧ l.length ≤ k ∧ ∀ i, i < l.length →
    cs[i * 4]? = some (.string (l.getD i noP).n) ∧ cs[i * 4 + 1]? = some (.int .i64 (l.getD i noP).t.kind) ∧ cs[i * 4 + 2]? = some (.string (l.getD i noP).t.name) ∧ cs[i * 4 + 3]? = some (.slice (l.getD i noP).a (l.getD i noP).t.kids.length (l.getD i noP).c)
theorem RowKP.row {g k : Nat} {l : List PR} {w : World} (h : RowKP g k l w) : RowG 55 g l w := by
  obtain ⟨cs, h1, h2, h3, h4⟩ := h; exact ⟨cs, h1, by omega, h4⟩
theorem RowKP.same {g k : Nat} {l : List PR} {w w' : World} (h : RowKP g k l w) (e : w'.heap[g]? = w.heap[g]?) : RowKP g k l w' := by
  obtain ⟨cs, h1, h2⟩ := h; exact ⟨cs, e.trans h1, h2⟩
theorem RowKP.lt {g k : Nat} {l : List PR} {w : World} (h : RowKP g k l w) : g < w.heap.size := h.row.lt
theorem RowKP.below {g k : Nat} {l : List PR} {w w' : World} (h : RowKP g k l w) (hb : Below w.heap.size w w') : RowKP g k l w' := h.same (hb.block g h.lt)
theorem RowKP.cells {g k : Nat} {l : List PR} {w : World} (h : RowKP g k l w) {i : Nat} (hi : i < k) : ∃ x y z u, w.cell? ⟨g, i * 4, none⟩ = some x ∧ w.cell? ⟨g, i * 4 + 1, none⟩ = some y ∧ w.cell? ⟨g, i * 4 + 2, none⟩ = some z ∧ w.cell? ⟨g, i * 4 + 3, none⟩ = some u := by
  obtain ⟨cs, h1, h2, _⟩ := h
  refine ⟨cs[i * 4]'(by omega), cs[i * 4 + 1]'(by omega), cs[i * 4 + 2]'(by omega), cs[i * 4 + 3]'(by omega), ?_, ?_, ?_, ?_⟩ <;> (rw [Lib.cell_of_heap h1]; simp)
theorem RowKP.push {g k : Nat} {l : List PR} {w : World} (h : RowKP g k l w) (hk : l.length < k) (x : PR) : RowKP g k (l ++ [x]) (set4 w g l.length x) := by
  obtain ⟨cs, h1, h2, h3, h4⟩ := h
  refine ⟨(((cs.setIfInBounds (l.length * 4) (.string x.n)).setIfInBounds (l.length * 4 + 1) (.int .i64 x.t.kind)).setIfInBounds (l.length * 4 + 2) (.string x.t.name)).setIfInBounds (l.length * 4 + 3) (.slice x.a x.t.kids.length x.c), blk_set (blk_set (blk_set (blk_set h1 _) _) _) _, by simpa using h2, by simp; omega, fun j hj => ?_⟩
  by_cases e : j = l.length
  · subst e
    have e2 : (l ++ [x]).getD l.length noP = x := by simp [List.getD]
    rw [e2]
    refine ⟨?_, ?_, ?_, ?_⟩ <;> (simp [Array.getElem?_setIfInBounds]; omega)
  · have hj' : j < l.length := by simp at hj; omega
    have e2 : (l ++ [x]).getD j noP = l.getD j noP := by simp [List.getD, List.getElem?_append_left hj']
    rw [e2]
    obtain ⟨a1, a2, a3, a4⟩ := h4 j hj'
    refine ⟨?_, ?_, ?_, ?_⟩
    · rw [Array.getElem?_setIfInBounds_ne (by omega), Array.getElem?_setIfInBounds_ne (by omega), Array.getElem?_setIfInBounds_ne (by omega), Array.getElem?_setIfInBounds_ne (by omega)]; exact a1
    · rw [Array.getElem?_setIfInBounds_ne (by omega), Array.getElem?_setIfInBounds_ne (by omega), Array.getElem?_setIfInBounds_ne (by omega), Array.getElem?_setIfInBounds_ne (by omega)]; exact a2
    · rw [Array.getElem?_setIfInBounds_ne (by omega), Array.getElem?_setIfInBounds_ne (by omega), Array.getElem?_setIfInBounds_ne (by omega), Array.getElem?_setIfInBounds_ne (by omega)]; exact a3
    · rw [Array.getElem?_setIfInBounds_ne (by omega), Array.getElem?_setIfInBounds_ne (by omega), Array.getElem?_setIfInBounds_ne (by omega), Array.getElem?_setIfInBounds_ne (by omega)]; exact a4
theorem RowKP.start (g k : Nat) (w : World) (h : w.heap[g]? = some (.cells (zeros4 k) 55 (0, 0))) : RowKP g k [] w :=
  ⟨_, h, by simp [zeros4, size_madeCells], Nat.zero_le _, fun _ hi => absurd hi (Nat.not_lt_zero _)⟩

def prOf (x : PR) : Pr := (x.n, x.t)
theorem prs_of_rowG {g cap : Nat} {l : List PR} {w : World} (h : RowG 55 g l w) (ht : Typ l w) (hc : l.length ≤ cap) : PrsAt w (.slice (some ⟨g, 0, none⟩) l.length cap) (l.map prOf) := by
  obtain ⟨cs, h1, h2, h3⟩ := h
  refine .inr ⟨g, cap, cs, (0, 0), fun i => .slice (l.getD i noP).a (l.getD i noP).t.kids.length (l.getD i noP).c, by simp, h1, by simpa using hc, fun i hi => ?_⟩
  have hi' : i < l.length := by simpa using hi
  have e : (l.map prOf)[i] = prOf (l.getD i noP) := by simp [List.getD, hi']
  rw [e]
  exact ⟨h3 i hi', ht _ (getD_mem hi')⟩
/-- Each one with types in variables' places. -/
noncomputable def appP (d : List PR) (l : List Pr) : List Pr := l.map fun q => (q.1, app d q.2)
theorem keepT_of_fr {g : Nat} {w w' : World} {cs : Array Value} {T : TypeId} (h : Fr g w w') (hg : w.heap[g]? = some (.cells cs T (0, 0))) (hT : T ≠ 31) : KeepT w w' := fun k cs' fz hk => by
  refine (h.2 k (Array.getElem?_eq_some_iff.1 hk).1 ?_).trans hk
  rintro rfl
  rw [hg] at hk; cases hk; exact hT rfl
theorem RowKP.keepT {g k : Nat} {l : List PR} {w w' : World} (h : RowKP g k l w) (hf : Fr g w w') : KeepT w w' := by
  obtain ⟨cs, h1, _⟩ := h
  exact keepT_of_fr hf h1 (by decide)

end Go.Proofs.YtdidgddcgjpokaaGreatDoor
/- Rows of predicates; an order by insertion, as plain data. -/
namespace Go.Proofs.YtdidgddcgjpokaaGreatDoor
open Go.RowKit Go.Sort Go.Lib
attribute [local go_sem] Oper.semAt_some

theorem RowG.free' {T : TypeId} {g : Nat} {l : List PR} {w : World} (h : RowG T g l w) (o : Nat) : w.frozen? ⟨g, o, none⟩ = false := by
  obtain ⟨cs, h1, _⟩ := h; exact Lib.frozen_of_heap h1 o
theorem RowG.set {T : TypeId} {g : Nat} {l : List PR} {w : World} (h : RowG T g l w) (i : Nat) (x : PR) : RowG T g (l.set i x) (set4 w g i x) := by
  obtain ⟨cs, h1, h2, h3⟩ := h
  refine ⟨(((cs.setIfInBounds (i * 4) (.string x.n)).setIfInBounds (i * 4 + 1) (.int .i64 x.t.kind)).setIfInBounds (i * 4 + 2) (.string x.t.name)).setIfInBounds (i * 4 + 3) (.slice x.a x.t.kids.length x.c), blk_set (blk_set (blk_set (blk_set h1 _) _) _) _, by simpa using h2, fun j hj => ?_⟩
  have hj' : j < l.length := by simpa using hj
  by_cases e : j = i
  · subst e
    have e2 : (l.set j x).getD j noP = x := by simp [List.getD, hj']
    rw [e2]
    refine ⟨?_, ?_, ?_, ?_⟩ <;> (simp [Array.getElem?_setIfInBounds]; omega)
  · have e2 : (l.set i x).getD j noP = l.getD j noP := by simp [List.getD, Ne.symm e]
    rw [e2]
    obtain ⟨a1, a2, a3, a4⟩ := h3 j hj'
    refine ⟨?_, ?_, ?_, ?_⟩
    · rw [Array.getElem?_setIfInBounds_ne (by omega), Array.getElem?_setIfInBounds_ne (by omega), Array.getElem?_setIfInBounds_ne (by omega), Array.getElem?_setIfInBounds_ne (by omega)]; exact a1
    · rw [Array.getElem?_setIfInBounds_ne (by omega), Array.getElem?_setIfInBounds_ne (by omega), Array.getElem?_setIfInBounds_ne (by omega), Array.getElem?_setIfInBounds_ne (by omega)]; exact a2
    · rw [Array.getElem?_setIfInBounds_ne (by omega), Array.getElem?_setIfInBounds_ne (by omega), Array.getElem?_setIfInBounds_ne (by omega), Array.getElem?_setIfInBounds_ne (by omega)]; exact a3
    · rw [Array.getElem?_setIfInBounds_ne (by omega), Array.getElem?_setIfInBounds_ne (by omega), Array.getElem?_setIfInBounds_ne (by omega), Array.getElem?_setIfInBounds_ne (by omega)]; exact a4
theorem RowG.keepT {T : TypeId} {g : Nat} {l : List PR} {w w' : World} (h : RowG T g l w) (hT : T ≠ 31) (hf : Fr g w w') : KeepT w w' := by
  obtain ⟨cs, h1, _⟩ := h; exact keepT_of_fr hf h1 hT
/-- The first k are in order. -/
def LeTo (k : Nat) (d : List PR) : Prop := ∀ p q, p < q → q < k → cmpR (d.getD p noP) (d.getD q noP) ≤ 0
/-- All but the one at j are. -/
def InsI (i j : Nat) (d : List PR) : Prop := j ≤ i ∧ (∀ p q, p < q → q ≤ i → p ≠ j → q ≠ j → cmpR (d.getD p noP) (d.getD q noP) ≤ 0) ∧ ∀ q, j < q → q ≤ i → cmpR (d.getD j noP) (d.getD q noP) ≤ 0
def SameM (d l : List PR) : Prop := d.length = l.length ∧ ∀ x, x ∈ d ↔ x ∈ l
def swapL (d : List PR) (j : Nat) : List PR := (d.set (j + 1) (d.getD j noP)).set j (d.getD (j + 1) noP)
theorem swapL_get {d : List PR} {j : Nat} (h : j + 1 < d.length) (k : Nat) : (swapL d j).getD k noP = if k = j then d.getD (j + 1) noP else if k = j + 1 then d.getD j noP else d.getD k noP := by
  unfold swapL
  by_cases e : k = j
  · subst e; rw [if_pos rfl]; simp [List.getD, show k < d.length by omega]
  · rw [if_neg e]
    by_cases e2 : k = j + 1
    · subst e2; rw [if_pos rfl]; simp [List.getD, h]
    · rw [if_neg e2]; simp [List.getD, Ne.symm e, Ne.symm e2]
theorem swapL_len (d : List PR) (j : Nat) : (swapL d j).length = d.length := by simp [swapL]
theorem getD_memR {d : List PR} {k : Nat} (h : k < d.length) : d.getD k noP ∈ d := by
  rw [show d.getD k noP = d[k] by simp [List.getD, h]]; exact List.getElem_mem h
theorem mem_getD {d : List PR} {x : PR} (h : x ∈ d) : ∃ k, k < d.length ∧ d.getD k noP = x := by
  obtain ⟨k, hk, e⟩ := List.mem_iff_getElem.1 h
  exact ⟨k, hk, by simp [List.getD, hk, e]⟩
theorem SameM.swap {d l : List PR} {j : Nat} (h : SameM d l) (hj : j + 1 < d.length) : SameM (swapL d j) l := by
  refine ⟨(swapL_len d j).trans h.1, fun x => ?_⟩
  rw [← h.2]
  constructor
  · intro hx
    obtain ⟨k, hk, e⟩ := mem_getD hx
    rw [swapL_get hj] at e
    rw [swapL_len] at hk
    subst e
    split
    · exact getD_memR hj
    · split
      · exact getD_memR (by omega)
      · exact getD_memR hk
  · intro hx
    obtain ⟨k, hk, rfl⟩ := mem_getD hx
    by_cases e : k = j
    · subst e
      have := getD_memR (d := swapL d k) (k := k + 1) (by rw [swapL_len]; exact hj)
      rwa [swapL_get hj, if_neg (by omega), if_pos rfl] at this
    · by_cases e2 : k = j + 1
      · subst e2
        have := getD_memR (d := swapL d j) (k := j) (by rw [swapL_len]; omega)
        rwa [swapL_get hj, if_pos rfl] at this
      · have := getD_memR (d := swapL d j) (k := k) (by rw [swapL_len]; exact hk)
        rwa [swapL_get hj, if_neg e, if_neg e2] at this
theorem InsI.start {i : Nat} {d : List PR} (h : LeTo i d) : InsI i i d := ⟨Nat.le_refl _, fun p q h1 h2 _ h4 => h p q h1 (by omega), fun q h1 h2 => absurd h1 (by omega)⟩
theorem InsI.step {i j : Nat} {d : List PR} (h : InsI i (j + 1) d) (hi : i < d.length) (hc : cmpR (d.getD (j + 1) noP) (d.getD j noP) ≤ 0) : InsI i j (swapL d j) := by
  obtain ⟨h1, h2, h3⟩ := h
  have hj : j + 1 < d.length := by omega
  refine ⟨by omega, fun p q hpq hq hp hqj => ?_, fun q hq hqi => ?_⟩
  · rw [swapL_get hj, swapL_get hj, if_neg hp, if_neg hqj]
    by_cases e : p = j + 1
    · rw [if_pos e, if_neg (by omega)]; exact h2 j q (by omega) hq (by omega) (by omega)
    · rw [if_neg e]
      by_cases e2 : q = j + 1
      · rw [if_pos e2]; exact h2 p j (by omega) (by omega) e (by omega)
      · rw [if_neg e2]; exact h2 p q hpq hq e e2
  · rw [swapL_get hj, swapL_get hj, if_pos rfl, if_neg (by omega)]
    by_cases e2 : q = j + 1
    · rw [if_pos e2]; exact hc
    · rw [if_neg e2]; exact h3 q (by omega) hqi
theorem InsI.stop {i j : Nat} {d : List PR} (h : InsI i j d) (hc : j = 0 ∨ 0 ≤ cmpR (d.getD j noP) (d.getD (j - 1) noP)) : LeTo (i + 1) d := by
  obtain ⟨h1, h2, h3⟩ := h
  intro p q hpq hq
  by_cases e : p = j
  · subst e; exact h3 q hpq (by omega)
  · by_cases e2 : q = j
    · subst e2
      rcases hc with hc | hc
      · omega
      · have hn := cmpR_neg (d.getD q noP) (d.getD (q - 1) noP)
        by_cases e3 : p = q - 1
        · rw [e3, hn]; omega
        · exact cmpR_le (h2 p (q - 1) (by omega) (by omega) e (by omega)) (by rw [hn]; omega)
    · exact h2 p q hpq (by omega) e e2
/-- What the sort keeps. -/
def SrtI (w : World) (g : Nat) (l d : List PR) (wr : World) : Prop := SameM d l ∧ RowG 55 g d wr ∧ Fr g w wr
theorem SrtI.below {w : World} {g : Nat} {l d : List PR} {X Y : World} (h : SrtI w g l d X) (hb : Below X.heap.size X Y) : SrtI w g l d Y := ⟨h.1, h.2.1.below hb, h.2.2.trans (Fr.of_below hb)⟩
theorem SrtI.swap {w : World} {g : Nat} {l d : List PR} {X : World} {j : Nat} (h : SrtI w g l d X) (hj : j + 1 < d.length) : SrtI w g l (swapL d j) (set4 (set4 X g (j + 1) (d.getD j noP)) g j (d.getD (j + 1) noP)) :=
  ⟨h.1.swap hj, (h.2.1.set (j + 1) (d.getD j noP)).set j (d.getD (j + 1) noP), (h.2.2.trans (Fr.set4 g (j + 1) X _)).trans (Fr.set4 g j _ _)⟩
end Go.Proofs.YtdidgddcgjpokaaGreatDoor
/- A region that draws its order, by an invariant and a mark: what holds between some of its operations alone (a row that one makes and another takes). -/
namespace Go.Proofs.YtdidgddcgjpokaaGreatDoor

def updB (L : Nat → Bool) (i : Nat) : Nat → Bool := fun j => if j = i then true else L j
theorem updB_same (L : Nat → Bool) (i : Nat) : updB L i i = true := by simp [updB]
theorem updB_other (L : Nat → Bool) {i j : Nat} (h : j ≠ i) : updB L i j = L j := by simp [updB, h]

/-- What is asked of an operation that the mark speaks of. -/
structure MarkAt (P : Program) (fr : (Nat → Value) → Act) (S : World → Prop) (Vals : Nat → Value → World → Prop) (Mk : (Nat → Bool) → (Nat → Value) → World → Prop)
    (ops : Array Oper) (Q : Exit → Act → World → Prop) (i : Nat) (o : Oper) : Prop where
  back : ∀ e ∈ o.after, Region.binds .any e = true → e.on < i
  put : ∀ x v, (fr x).put o.dst v = fr (upd x i v)
  run : ∀ (L : Nat → Bool) (x : Nat → Value) (w : World), S w → (∀ j, L j = true → Vals j (x j) w) → Mk L x w → L i = false → (∀ e ∈ o.after, Region.binds .any e = true → L e.on = true) →
    ∀ K : Act → World → Prop, (∀ v w', S w' → (∀ j, L j = true → Vals j (x j) w') → Vals i v w' → Mk (updB L i) (upd x i v) w' → K ((fr x).put o.dst v) w') →
      if Region.wanted o (yielded ops (fr x).tmps) = true then Oper.wp P o (fr x) w K Q else K ((fr x).put o.dst undef) w

section
variable {P : Program} {ops : Array Oper} {Q : Exit → Act → World → Prop} {fr : (Nat → Value) → Act} {S : World → Prop} {Rel : World → World → Prop} {Vals : Nat → Value → World → Prop} {Mk : (Nat → Bool) → (Nat → Value) → World → Prop} {sp : Nat → Bool}

theorem mark_any (hput : ∀ i o, ops[i]? = some o → sp i = false → StepAt P fr S Rel Vals ops Q i o) (hmark : ∀ i o, ops[i]? = some o → sp i = true → MarkAt P fr S Vals Mk ops Q i o)
    (hrel : ∀ w w', S w → Rel w w' → S w') (hval : ∀ i v w w', S w → Vals i v w → Rel w w' → Vals i v w') (hmk : ∀ i L x v w w', sp i = false → S w → Mk L x w → Rel w w' → Mk (updB L i) (upd x i v) w')
    (hfin : ∀ L x w, S w → (∀ i, i < ops.size → L i = true ∧ Vals i (x i) w) → Mk L x w → Q .normal (fr x) w) :
    ∀ (fuel : Nat) (listed : Array Bool) (x : Nat → Value) (w : World), listed.size = ops.size → ops.size ≤ fuel + listed.toList.count true → S w →
      (∀ i, listed.getD i false = true → Vals i (x i) w) → Mk (fun i => listed.getD i false) x w → wpAny P .any ops Q fuel listed (fr x) w := by
  have hback : ∀ i o, ops[i]? = some o → ∀ e ∈ o.after, Region.binds .any e = true → e.on < i := fun i o h => by
    cases hs : sp i with
    | false => exact (hput i o h hs).back
    | true => exact (hmark i o h hs).back
  have hend : ∀ (listed : Array Bool) (x : Nat → Value) (w : World), listed.size = ops.size → S w → (∀ i, listed.getD i false = true → Vals i (x i) w) → Mk (fun i => listed.getD i false) x w →
      Region.ready .any ops listed = [] → Q .normal (fr x) w := fun listed x w hz hS hV hM h =>
    hfin _ x w hS (fun i hi => ⟨all_of_none hback hz h i hi, hV i (all_of_none hback hz h i hi)⟩) hM
  intro fuel
  induction fuel with
  | zero =>
    intro listed x w hz hc hS hV hM
    have hall : listed.toList.count true = listed.toList.length := by
      have := List.count_le_length (a := true) (l := listed.toList)
      simp at this hc ⊢; omega
    have hr : Region.ready .any ops listed = [] := by
      cases h : Region.ready .any ops listed with
      | nil => rfl
      | cons i l =>
        have hi : i ∈ Region.ready .any ops listed := by rw [h]; simp
        obtain ⟨h0, o, ho, _⟩ := mem_ready.1 hi
        have hlt : i < listed.size := by rw [hz]; exact (Array.getElem?_eq_some_iff.1 ho).1
        have := List.count_eq_length.1 hall listed[i] (by simp)
        simp [hlt] at h0
        rw [h0] at this; cases this
    exact ⟨hr, hend listed x w hz hS hV hM hr⟩
  | succ fuel ih =>
    intro listed x w hz hc hS hV hM
    refine ⟨hend listed x w hz hS hV hM, fun i hi => ?_⟩
    obtain ⟨h0, o, ho, hdep⟩ := mem_ready.1 hi
    have hlt : i < listed.size := by rw [hz]; exact (Array.getElem?_eq_some_iff.1 ho).1
    have h0' : listed[i] = false := by simpa [hlt] using h0
    have hcnt : ops.size ≤ fuel + (listed.setIfInBounds i true).toList.count true := by
      have : (listed.setIfInBounds i true).toList.count true = listed.toList.count true + 1 := by
        rw [Array.toList_setIfInBounds, List.count_set (by simpa using hlt)]
        simp [h0']
      omega
    have hL : (fun j => (listed.setIfInBounds i true).getD j false) = updB (fun j => listed.getD j false) i := by
      funext j
      by_cases e : j = i
      · subst e; rw [updB_same]; simp [hlt]
      · rw [updB_other _ e, getD_set_ne false (Ne.symm e)]
    have hVs : ∀ v w', (∀ j, listed.getD j false = true → Vals j (x j) w') → Vals i v w' → ∀ j, (listed.setIfInBounds i true).getD j false = true → Vals j (upd x i v j) w' := fun v w' h1 h2 j hj => by
      by_cases hji : j = i
      · subst hji; rw [upd_same]; exact h2
      · rw [upd_other x v hji]
        exact h1 j (by rw [getD_set_ne false (Ne.symm hji)] at hj; exact hj)
    cases hs : sp i with
    | false =>
      have H := hput i o ho hs
      have hK : ∀ v w', Rel w w' → Vals i v w' → wpAny P .any ops Q fuel (listed.setIfInBounds i true) ((fr x).put o.dst v) w' := fun v w' hr hv => by
        rw [H.put]
        exact ih _ _ _ (by simpa using hz) hcnt (hrel w w' hS hr) (hVs v w' (fun j hj => hval _ _ _ _ hS (hV j hj) hr) hv) (by rw [hL]; exact hmk i _ x v w w' hs hS hM hr)
      have := H.run x w hS (fun e he hb => hV e.on (hdep e he hb)) _ hK
      unfold wpOp
      simp only [ho]
      split
      · rename_i hw; rw [if_pos hw] at this; exact .inl this
      · rename_i hw; rw [if_neg hw] at this; exact this
    | true =>
      have H := hmark i o ho hs
      have hK : ∀ v w', S w' → (∀ j, listed.getD j false = true → Vals j (x j) w') → Vals i v w' → Mk (updB (fun j => listed.getD j false) i) (upd x i v) w' → wpAny P .any ops Q fuel (listed.setIfInBounds i true) ((fr x).put o.dst v) w' := fun v w' hS' hV' hv hM' => by
        rw [H.put]
        exact ih _ _ _ (by simpa using hz) hcnt hS' (hVs v w' hV' hv) (by rw [hL]; exact hM')
      have := H.run (fun j => listed.getD j false) x w hS hV hM (by simp [hlt, h0']) hdep _ hK
      unfold wpOp
      simp only [ho]
      split
      · rename_i hw; rw [if_pos hw] at this; exact .inl this
      · rename_i hw; rw [if_neg hw] at this; exact this

theorem region_mark (fr : (Nat → Value) → Act) (S : World → Prop) (Rel : World → World → Prop) (Vals : Nat → Value → World → Prop) (Mk : (Nat → Bool) → (Nat → Value) → World → Prop) (sp : Nat → Bool) (x0 : Nat → Value) {id : Nat} {a : Act} {w : World}
    (hm : P.follows .mixedOrders = true) (ha : a = fr x0) (hS : S w.drew) (hM : Mk (fun _ => false) x0 w.drew)
    (hrel : ∀ w w', S w → Rel w w' → S w') (hval : ∀ i v w w', S w → Vals i v w → Rel w w' → Vals i v w') (hmk : ∀ i L x v w w', sp i = false → S w → Mk L x w → Rel w w' → Mk (updB L i) (upd x i v) w')
    (hops : AllAt (fun i o => (sp i = false → StepAt P fr S Rel Vals ops Q i o) ∧ (sp i = true → MarkAt P fr S Vals Mk ops Q i o)) 0 ops.toList)
    (hfin : ∀ L x w, S w → (∀ i, i < ops.size → L i = true ∧ Vals i (x i) w) → Mk L x w → Q .normal (fr x) w) : (Code.region id ops true).wp P Q a w := by
  subst ha
  refine wp_region_any hm ?_
  have hg := fun (i : Nat) (o : Oper) (h : ops[i]? = some o) => hops.get (i := i) (o := o) (by simpa using h)
  have hnone : ∀ i, (Array.replicate ops.size false).getD i false = false := fun i => by
    by_cases h : i < ops.size
    · simp [h]
    · simp [h]
  refine mark_any (fun i o h hs => by have := (hg i o h).1 (by rwa [Nat.zero_add]); rwa [Nat.zero_add] at this) (fun i o h hs => by have := (hg i o h).2 (by rwa [Nat.zero_add]); rwa [Nat.zero_add] at this) hrel hval hmk hfin _ _ _ _ (by simp) (by simp) hS
    (fun i hi => by rw [hnone] at hi; cases hi) ?_
  rw [show (fun i => (Array.replicate ops.size false).getD i false) = fun _ => false from funext hnone]
  exact hM
end
end Go.Proofs.YtdidgddcgjpokaaGreatDoor
/- The sort's exchange: what stands in memory until it is done. -/
namespace Go.Proofs.YtdidgddcgjpokaaGreatDoor
open Go.RowKit Go.Sort Go.Lib
attribute [local go_sem] Oper.semAt_some

theorem depL {o : Oper} {L : Nat → Bool} (h : ∀ e ∈ o.after, Region.binds .any e = true → L e.on = true) (j : Nat)
    (hj : (o.after.any fun e => Region.binds .any e && e.on == j) = true) : L j = true := by
  rw [Array.any_eq_true'] at hj
  obtain ⟨e, he, hj⟩ := hj
  simp only [Bool.and_eq_true, beq_iff_eq] at hj
  have := h e he hj.1
  rw [hj.2] at this; exact this
structure SwK (w : World) (g : Nat) (ls ds : List PR) (jp : Nat) (L : Nat → Bool) (x : Nat → Value) (V : World) : Prop where
  s0 : L 15 = false → SrtI w g ls ds V
  s1 : L 15 = true → L 17 = false → ∃ V0, SrtI w g ls ds V0 ∧ V = set4 V0 g (jp + 1) (ds.getD jp noP)
  s2 : L 17 = true → L 15 = true ∧ SrtI w g ls (swapL ds jp) V
  d15 : L 15 = true → L 9 = true ∧ L 13 = true
section
variable {w V : World} {g : Nat} {ls ds : List PR} {jp : Nat} {L : Nat → Bool} {x : Nat → Value}
theorem SwK.start (h : SrtI w g ls ds V) : SwK w g ls ds jp (fun _ => false) x V := ⟨fun _ => h, (fun e => nomatch e), (fun e => nomatch e), (fun e => nomatch e)⟩
theorem SwK.keep (h : SwK w g ls ds jp L x V) {i : Nat} (hi : (i == 15 || i == 17) = false) (v : Value) : SwK w g ls ds jp (updB L i) (upd x i v) V := by
  simp only [Bool.or_eq_false_iff, beq_eq_false_iff_ne] at hi
  have e15 : updB L i 15 = L 15 := updB_other L (Ne.symm hi.1)
  have e17 : updB L i 17 = L 17 := updB_other L (Ne.symm hi.2)
  have mono : ∀ j, L j = true → updB L i j = true := fun j hj => by
    by_cases e : j = i
    · subst e; exact updB_same _ _
    · rw [updB_other L e]; exact hj
  exact ⟨fun e => h.s0 (by rwa [e15] at e), fun e e2 => h.s1 (by rwa [e15] at e) (by rwa [e17] at e2), fun e => by rw [e17] at e; rw [e15]; exact h.s2 e, fun e => by rw [e15] at e; exact ⟨mono 9 (h.d15 e).1, mono 13 (h.d15 e).2⟩⟩
theorem SwK.st1 (h : SwK w g ls ds jp L x V) (hLi : L 15 = false) (q9 : L 9 = true) (q13 : L 13 = true) (v : Value) : SwK w g ls ds jp (updB L 15) (upd x 15 v) (set4 V g (jp + 1) (ds.getD jp noP)) := by
  have e17 : updB L 15 17 = L 17 := updB_other L (by decide)
  have n17 : L 17 = false := by
    cases e : L 17 with
    | false => rfl
    | true => have := (h.s2 e).1; rw [hLi] at this; cases this
  exact ⟨(fun e => by rw [updB_same] at e; cases e), fun _ _ => ⟨V, h.s0 hLi, rfl⟩, (fun e => by rw [e17, n17] at e; cases e), fun _ => ⟨by rw [updB_other L (by decide)]; exact q9, by rw [updB_other L (by decide)]; exact q13⟩⟩
theorem SwK.st2 (h : SwK w g ls ds jp L x V) (hj : jp + 1 < ds.length) (hLi : L 17 = false) (q15 : L 15 = true) (v : Value) : SwK w g ls ds jp (updB L 17) (upd x 17 v) (set4 V g jp (ds.getD (jp + 1) noP)) := by
  have e15 : updB L 17 15 = L 15 := updB_other L (by decide)
  obtain ⟨V0, h0, e⟩ := h.s1 q15 hLi
  subst e
  exact ⟨(fun e => by rw [e15, q15] at e; cases e), fun _ e => (by rw [updB_same] at e; cases e), fun _ => ⟨by rw [e15]; exact q15, h0.swap hj⟩, fun _ => ⟨by rw [updB_other L (by decide)]; exact (h.d15 q15).1, by rw [updB_other L (by decide)]; exact (h.d15 q15).2⟩⟩
theorem SwK.row0 (h : SwK w g ls ds jp L x V) (h9 : L 9 = false ∨ L 13 = false) : SrtI w g ls ds V := h.s0 (by
  cases e : L 15 with
  | false => rfl
  | true =>
    obtain ⟨a, b⟩ := h.d15 e
    rcases h9 with h9 | h9
    · rw [h9] at a; cases a
    · rw [h9] at b; cases b)
theorem SwK.row1 (h : SwK w g ls ds jp L x V) (hLi : L 17 = false) (q15 : L 15 = true) : RowG 55 g (ds.set (jp + 1) (ds.getD jp noP)) V := by
  obtain ⟨V0, h0, e⟩ := h.s1 q15 hLi
  subst e
  exact h0.2.1.set _ _
end
end Go.Proofs.YtdidgddcgjpokaaGreatDoor
/- the sort's exchange: its last statement, a region of 18 operations that draws its order, by an invariant. (Made by a program.) -/
namespace Go.Proofs.YtdidgddcgjpokaaGreatDoor
open Go.RowKit Go.Sort Go.Lib
attribute [local go_sem] Oper.semAt_some

noncomputable def swpOps : Array Oper := regionIn 6 (Tryz.f80.body.getD .skip)
def swpFr (b : Nat → Value) (d : List Deferred) (x : Nat → Value) : Act := { tmps := #[b 0, b 1, b 2, b 3, b 4, b 5, b 6, b 7, b 8, b 9, b 10, b 11, b 12, b 13, b 14, b 15, b 16, b 17, b 18, b 19, b 20, b 21, b 22, b 23, b 24, b 25, b 26, b 27, b 28, b 29, b 30, b 31, b 32, b 33, b 34, b 35, b 36, x 0, x 1, x 2, x 3, x 4, x 5, x 6, x 7, x 8, x 9, x 10, x 11, x 12, x 13, x 14, x 16], defers := d }

def swpVals (g n cap jp : Nat) (px py : PR) (i : Nat) (v : Value) (_ : World) : Prop :=
  match i with
  | 0 => v = .slice (some ⟨g, 0, none⟩) n cap
  | 1 => v = .int .i64 ((jp : Int) + 1)
  | 2 => v = .slice (some ⟨g, 0, none⟩) n cap
  | 3 => v = .int .i64 ((jp : Int) + 1)
  | 4 => v = .int .i64 (jp : Int)
  | 5 => v = .slice (some ⟨g, 0, none⟩) n cap
  | 6 => v = .int .i64 ((jp : Int) + 1)
  | 7 => v = .int .i64 (jp : Int)
  | 8 => v = .pointer (some ⟨g, jp * 4, none⟩)
  | 9 => v = .agg #[.string py.n, .int .i64 py.t.kind, .string py.t.name, .slice py.a py.t.kids.length py.c]
  | 10 => v = .slice (some ⟨g, 0, none⟩) n cap
  | 11 => v = .int .i64 ((jp : Int) + 1)
  | 12 => v = .pointer (some ⟨g, (jp + 1) * 4, none⟩)
  | 13 => v = .agg #[.string px.n, .int .i64 px.t.kind, .string px.t.name, .slice px.a px.t.kids.length px.c]
  | 14 => v = .pointer (some ⟨g, (jp + 1) * 4, none⟩)
  | 15 => ∃ zu, v = zu ∧ True
  | 16 => v = .pointer (some ⟨g, jp * 4, none⟩)
  | 17 => ∃ zu, v = zu ∧ True
  | _ => True

theorem swpVals_keep {g n cap jp : Nat} {px py : PR} (i : Nat) (v : Value) (V Y : World) (h : swpVals g n cap jp px py i v V) (_ : Y = V) : swpVals g n cap jp px py i v Y := by
  unfold swpVals at *
  split at h <;> first
    | exact h
    | (obtain ⟨zu, e, h⟩ := h; exact ⟨zu, e, h⟩)

theorem swpVals_any {g n cap jp : Nat} {px py : PR} (i : Nat) (v : Value) (V Y : World) (h : swpVals g n cap jp px py i v V) : swpVals g n cap jp px py i v Y := by
  unfold swpVals at *
  split at h <;> exact h

theorem swp_size : swpOps.size = 18 := by kernel_rfl
set_option linter.unusedSimpArgs false in
set_option maxRecDepth 100000 in
set_option maxHeartbeats 8000000 in
theorem swp_region {w : World} {g n cap jp : Nat} {ls ds : List PR} {px py : PR} (hpx : Hid (ds.getD (jp + 1) noP = px)) (hpy : Hid (ds.getD jp noP = py)) (hj : jp + 1 < ds.length) (jz : (jp : Int) + 1 < (n : Int)) (jz1 : (jp : Int) < (n : Int)) (p0 : (0 : Int) ≤ (jp : Int) + 1) (e00 : ((jp : Int) + 1).toNat = jp + 1) (hwp : IntKind.i64.wrap (jp : Int) = (jp : Int)) {b : Nat → Value} {d : List Deferred}
    (h0 : b 0 = .slice (some ⟨g, 0, none⟩) n cap) (h9 : b 9 = .int .i64 ((jp : Int) + 1))
    
    {Q : Exit → Act → World → Prop} {ops : Array Oper} (hops : ops = swpOps) (x0 : Nat → Value) (X : World) (hS : True) (hX : SrtI w g ls ds X.drew)
    (hfin : ∀ (x : Nat → Value) V, SrtI w g ls (swapL ds jp) V → Q .normal (swpFr b d x) V) : (Code.region 6 ops true).wp Tryz.prog Q (swpFr b d x0) X := by
  refine region_mark (swpFr b d) (fun V => True) (fun V Y => Y = V) (swpVals g n cap jp px py) (fun L x V => SwK w g ls ds jp L x V) (fun i => i == 9 || i == 13 || i == 15 || i == 17) x0 (by kernel_rfl) rfl hS (SwK.start hX) (fun V Y h hb => trivial) (fun i v V Y _ h hb => swpVals_keep  i v V Y h hb) (fun i L x v w' w'' hs _ hM hr => by subst hr; exact hM.keep (by simp only [Bool.or_eq_false_iff, beq_eq_false_iff_ne] at hs ⊢; exact ⟨hs.1.2, hs.2⟩) v) ?_ (fun L x V hS hall hM => hfin x V (hM.s2 (hall 17 (by rw [hops, swp_size]; decide)).1).2)
  clear hfin hS
  obtain ⟨f, hf⟩ : ∃ qq, (fun i o => ((fun i => i == 9 || i == 13 || i == 15 || i == 17) i = false → StepAt Tryz.prog (swpFr b d) (fun V => True) (fun V Y => Y = V) (swpVals g n cap jp px py) ops Q i o) ∧ ((fun i => i == 9 || i == 13 || i == 15 || i == 17) i = true → MarkAt Tryz.prog (swpFr b d) (fun V => True) (swpVals g n cap jp px py) (fun L x V => SwK w g ls ds jp L x V) ops Q i o)) = qq := ⟨_, rfl⟩
  rw [hf, hops]
  simp only [swpOps, Tryz.f80, regionIn, Option.getD_some, Nat.reduceBEq, Bool.false_eq_true, if_false, if_true, beq_self_eq_true, Array.append_empty, Array.empty_append, List.append_eq, List.cons_append, List.nil_append, AllAt, Nat.reduceAdd, Nat.zero_add]
  -- 0: slot 37 := Op.move t0
  refine And.intro ?_ ?_
  · rw [← hf]; clear hf
    refine ⟨fun _ => ⟨by decide +kernel, fun x v => by kernel_rfl, fun x V hV hdep K hK => ?_⟩, fun h => absurd h (by decide)⟩
    clear hdep
    refine run_bare (by kernel_rfl) ?_
    unfold swpFr
    go_simp
    refine kfit (hK _ _ (rfl) rfl) ?_
    first | (simp only [swpFr, Act.put, List.setIfInBounds_toArray, List.set_cons_zero, List.set_cons_succ, h0, h9]; done) | (simp only [swpFr, Act.put, List.setIfInBounds_toArray, List.set_cons_zero, List.set_cons_succ, h0, h9]; rfl)
  -- 1: slot 38 := Op.move t9
  refine And.intro ?_ ?_
  · rw [← hf]; clear hf
    refine ⟨fun _ => ⟨by decide +kernel, fun x v => by kernel_rfl, fun x V hV hdep K hK => ?_⟩, fun h => absurd h (by decide)⟩
    clear hdep
    refine run_bare (by kernel_rfl) ?_
    unfold swpFr
    go_simp
    refine kfit (hK _ _ (rfl) rfl) ?_
    first | (simp only [swpFr, Act.put, List.setIfInBounds_toArray, List.set_cons_zero, List.set_cons_succ, h0, h9]; done) | (simp only [swpFr, Act.put, List.setIfInBounds_toArray, List.set_cons_zero, List.set_cons_succ, h0, h9]; rfl)
  -- 2: slot 39 := Op.move t0
  refine And.intro ?_ ?_
  · rw [← hf]; clear hf
    refine ⟨fun _ => ⟨by decide +kernel, fun x v => by kernel_rfl, fun x V hV hdep K hK => ?_⟩, fun h => absurd h (by decide)⟩
    clear hdep
    refine run_bare (by kernel_rfl) ?_
    unfold swpFr
    go_simp
    refine kfit (hK _ _ (rfl) rfl) ?_
    first | (simp only [swpFr, Act.put, List.setIfInBounds_toArray, List.set_cons_zero, List.set_cons_succ, h0, h9]; done) | (simp only [swpFr, Act.put, List.setIfInBounds_toArray, List.set_cons_zero, List.set_cons_succ, h0, h9]; rfl)
  -- 3: slot 40 := Op.move t9
  refine And.intro ?_ ?_
  · rw [← hf]; clear hf
    refine ⟨fun _ => ⟨by decide +kernel, fun x v => by kernel_rfl, fun x V hV hdep K hK => ?_⟩, fun h => absurd h (by decide)⟩
    clear hdep
    refine run_bare (by kernel_rfl) ?_
    unfold swpFr
    go_simp
    refine kfit (hK _ _ (rfl) rfl) ?_
    first | (simp only [swpFr, Act.put, List.setIfInBounds_toArray, List.set_cons_zero, List.set_cons_succ, h0, h9]; done) | (simp only [swpFr, Act.put, List.setIfInBounds_toArray, List.set_cons_zero, List.set_cons_succ, h0, h9]; rfl)
  -- 4: slot 41 := Op.binOp BinOp.sub 3 t40 (const (1:i64)) 3
  refine And.intro ?_ ?_
  · rw [← hf]; clear hf
    refine ⟨fun _ => ⟨by decide +kernel, fun x v => by kernel_rfl, fun x V hV hdep K hK => ?_⟩, fun h => absurd h (by decide)⟩
    have e3 : x 3 = .int .i64 ((jp : Int) + 1) := depOf hdep 3 (by decide +kernel)
    clear hdep
    refine run_bare (by kernel_rfl) ?_
    unfold swpFr
    go_simp
    refine kfit (hK _ _ (rfl) rfl) ?_
    first | (simp only [swpFr, Act.put, List.setIfInBounds_toArray, List.set_cons_zero, List.set_cons_succ, h0, h9, e3]; done) | (simp only [swpFr, Act.put, List.setIfInBounds_toArray, List.set_cons_zero, List.set_cons_succ, h0, h9, e3]; rfl)
  -- 5: slot 42 := Op.move t0
  refine And.intro ?_ ?_
  · rw [← hf]; clear hf
    refine ⟨fun _ => ⟨by decide +kernel, fun x v => by kernel_rfl, fun x V hV hdep K hK => ?_⟩, fun h => absurd h (by decide)⟩
    clear hdep
    refine run_bare (by kernel_rfl) ?_
    unfold swpFr
    go_simp
    refine kfit (hK _ _ (rfl) rfl) ?_
    first | (simp only [swpFr, Act.put, List.setIfInBounds_toArray, List.set_cons_zero, List.set_cons_succ, h0, h9]; done) | (simp only [swpFr, Act.put, List.setIfInBounds_toArray, List.set_cons_zero, List.set_cons_succ, h0, h9]; rfl)
  -- 6: slot 43 := Op.move t9
  refine And.intro ?_ ?_
  · rw [← hf]; clear hf
    refine ⟨fun _ => ⟨by decide +kernel, fun x v => by kernel_rfl, fun x V hV hdep K hK => ?_⟩, fun h => absurd h (by decide)⟩
    clear hdep
    refine run_bare (by kernel_rfl) ?_
    unfold swpFr
    go_simp
    refine kfit (hK _ _ (rfl) rfl) ?_
    first | (simp only [swpFr, Act.put, List.setIfInBounds_toArray, List.set_cons_zero, List.set_cons_succ, h0, h9]; done) | (simp only [swpFr, Act.put, List.setIfInBounds_toArray, List.set_cons_zero, List.set_cons_succ, h0, h9]; rfl)
  -- 7: slot 44 := Op.binOp BinOp.sub 3 t43 (const (1:i64)) 3
  refine And.intro ?_ ?_
  · rw [← hf]; clear hf
    refine ⟨fun _ => ⟨by decide +kernel, fun x v => by kernel_rfl, fun x V hV hdep K hK => ?_⟩, fun h => absurd h (by decide)⟩
    have e6 : x 6 = .int .i64 ((jp : Int) + 1) := depOf hdep 6 (by decide +kernel)
    clear hdep
    refine run_bare (by kernel_rfl) ?_
    unfold swpFr
    go_simp
    refine kfit (hK _ _ (rfl) rfl) ?_
    first | (simp only [swpFr, Act.put, List.setIfInBounds_toArray, List.set_cons_zero, List.set_cons_succ, h0, h9, e6]; done) | (simp only [swpFr, Act.put, List.setIfInBounds_toArray, List.set_cons_zero, List.set_cons_succ, h0, h9, e6]; rfl)
  -- 8: slot 45 := Op.indexAddr 55 t42 t44
  refine And.intro ?_ ?_
  · rw [← hf]; clear hf
    refine ⟨fun _ => ⟨by decide +kernel, fun x v => by kernel_rfl, fun x V hV hdep K hK => ?_⟩, fun h => absurd h (by decide)⟩
    have e5 : x 5 = .slice (some ⟨g, 0, none⟩) n cap := depOf hdep 5 (by decide +kernel)
    have e7 : x 7 = .int .i64 (jp : Int) := depOf hdep 7 (by decide +kernel)
    clear hdep
    refine run_bare (by kernel_rfl) ?_
    unfold swpFr
    go_simp
    refine kfit (hK _ _ (rfl) rfl) ?_
    first | (simp only [swpFr, Act.put, List.setIfInBounds_toArray, List.set_cons_zero, List.set_cons_succ, h0, h9, e5, e7]; done) | (simp only [swpFr, Act.put, List.setIfInBounds_toArray, List.set_cons_zero, List.set_cons_succ, h0, h9, e5, e7]; rfl)
  -- 9: slot 46 := Op.load 60 t45
  refine And.intro ?_ ?_
  · rw [← hf]; clear hf
    refine ⟨fun h => absurd h (by decide), fun _ => ⟨by decide +kernel, fun x v => by kernel_rfl, fun L x V hV hVs hMk hLi hdep K hK => ?_⟩⟩
    have e8 : x 8 = .pointer (some ⟨g, jp * 4, none⟩) := hVs 8 (depL hdep 8 (by decide +kernel))
    have hr := hMk.row0 (.inl hLi)
    obtain ⟨c0, c1, c2, c3⟩ := hr.2.1.cells (i := jp) (by omega)
    rw [hpy.out] at c0 c1 c2 c3
    refine run_bare (by kernel_rfl) ?_
    have H := Lib.hid (fun v => hMk.keep (i := 9) rfl v)
    have HVs := Lib.hid hVs
    clear hVs hMk hdep hr
    unfold swpFr at hK ⊢
    go_simp
    refine kfit (hK _ _ trivial HVs.out rfl (H.out _)) ?_
    first | (simp only [Act.put, List.setIfInBounds_toArray, List.set_cons_zero, List.set_cons_succ, h0, h9, e8]; done) | (simp only [Act.put, List.setIfInBounds_toArray, List.set_cons_zero, List.set_cons_succ, h0, h9, e8]; rfl)
  -- 10: slot 47 := Op.move t0
  refine And.intro ?_ ?_
  · rw [← hf]; clear hf
    refine ⟨fun _ => ⟨by decide +kernel, fun x v => by kernel_rfl, fun x V hV hdep K hK => ?_⟩, fun h => absurd h (by decide)⟩
    clear hdep
    refine run_bare (by kernel_rfl) ?_
    unfold swpFr
    go_simp
    refine kfit (hK _ _ (rfl) rfl) ?_
    first | (simp only [swpFr, Act.put, List.setIfInBounds_toArray, List.set_cons_zero, List.set_cons_succ, h0, h9]; done) | (simp only [swpFr, Act.put, List.setIfInBounds_toArray, List.set_cons_zero, List.set_cons_succ, h0, h9]; rfl)
  -- 11: slot 48 := Op.move t9
  refine And.intro ?_ ?_
  · rw [← hf]; clear hf
    refine ⟨fun _ => ⟨by decide +kernel, fun x v => by kernel_rfl, fun x V hV hdep K hK => ?_⟩, fun h => absurd h (by decide)⟩
    clear hdep
    refine run_bare (by kernel_rfl) ?_
    unfold swpFr
    go_simp
    refine kfit (hK _ _ (rfl) rfl) ?_
    first | (simp only [swpFr, Act.put, List.setIfInBounds_toArray, List.set_cons_zero, List.set_cons_succ, h0, h9]; done) | (simp only [swpFr, Act.put, List.setIfInBounds_toArray, List.set_cons_zero, List.set_cons_succ, h0, h9]; rfl)
  -- 12: slot 49 := Op.indexAddr 55 t47 t48
  refine And.intro ?_ ?_
  · rw [← hf]; clear hf
    refine ⟨fun _ => ⟨by decide +kernel, fun x v => by kernel_rfl, fun x V hV hdep K hK => ?_⟩, fun h => absurd h (by decide)⟩
    have e10 : x 10 = .slice (some ⟨g, 0, none⟩) n cap := depOf hdep 10 (by decide +kernel)
    have e11 : x 11 = .int .i64 ((jp : Int) + 1) := depOf hdep 11 (by decide +kernel)
    clear hdep
    refine run_bare (by kernel_rfl) ?_
    unfold swpFr
    go_simp
    refine kfit (hK _ _ (rfl) rfl) ?_
    first | (simp only [swpFr, Act.put, List.setIfInBounds_toArray, List.set_cons_zero, List.set_cons_succ, h0, h9, e10, e11]; done) | (simp only [swpFr, Act.put, List.setIfInBounds_toArray, List.set_cons_zero, List.set_cons_succ, h0, h9, e10, e11]; rfl)
  -- 13: slot 50 := Op.load 60 t49
  refine And.intro ?_ ?_
  · rw [← hf]; clear hf
    refine ⟨fun h => absurd h (by decide), fun _ => ⟨by decide +kernel, fun x v => by kernel_rfl, fun L x V hV hVs hMk hLi hdep K hK => ?_⟩⟩
    have e12 : x 12 = .pointer (some ⟨g, (jp + 1) * 4, none⟩) := hVs 12 (depL hdep 12 (by decide +kernel))
    have hr := hMk.row0 (.inr hLi)
    obtain ⟨c0, c1, c2, c3⟩ := hr.2.1.cells (i := jp + 1) (by omega)
    rw [hpx.out] at c0 c1 c2 c3
    refine run_bare (by kernel_rfl) ?_
    have H := Lib.hid (fun v => hMk.keep (i := 13) rfl v)
    have HVs := Lib.hid hVs
    clear hVs hMk hdep hr
    unfold swpFr at hK ⊢
    go_simp
    refine kfit (hK _ _ trivial HVs.out rfl (H.out _)) ?_
    first | (simp only [Act.put, List.setIfInBounds_toArray, List.set_cons_zero, List.set_cons_succ, h0, h9, e12]; done) | (simp only [Act.put, List.setIfInBounds_toArray, List.set_cons_zero, List.set_cons_succ, h0, h9, e12]; rfl)
  -- 14: slot 51 := Op.indexAddr 55 t37 t38
  refine And.intro ?_ ?_
  · rw [← hf]; clear hf
    refine ⟨fun _ => ⟨by decide +kernel, fun x v => by kernel_rfl, fun x V hV hdep K hK => ?_⟩, fun h => absurd h (by decide)⟩
    have e0 : x 0 = .slice (some ⟨g, 0, none⟩) n cap := depOf hdep 0 (by decide +kernel)
    have e1 : x 1 = .int .i64 ((jp : Int) + 1) := depOf hdep 1 (by decide +kernel)
    clear hdep
    refine run_bare (by kernel_rfl) ?_
    unfold swpFr
    go_simp
    refine kfit (hK _ _ (rfl) rfl) ?_
    first | (simp only [swpFr, Act.put, List.setIfInBounds_toArray, List.set_cons_zero, List.set_cons_succ, h0, h9, e0, e1]; done) | (simp only [swpFr, Act.put, List.setIfInBounds_toArray, List.set_cons_zero, List.set_cons_succ, h0, h9, e0, e1]; rfl)
  -- 15: slot none := Op.store 60 t51 t46
  refine And.intro ?_ ?_
  · rw [← hf]; clear hf
    refine ⟨fun h => absurd h (by decide), fun _ => ⟨by decide +kernel, fun x v => by kernel_rfl, fun L x V hV hVs hMk hLi hdep K hK => ?_⟩⟩
    have q9 := depL hdep 9 (by decide +kernel)
    have q13 := depL hdep 13 (by decide +kernel)
    have e14 : x 14 = .pointer (some ⟨g, (jp + 1) * 4, none⟩) := hVs 14 (depL hdep 14 (by decide +kernel))
    have e9 : x 9 = .agg #[.string py.n, .int .i64 py.t.kind, .string py.t.name, .slice py.a py.t.kids.length py.c] := hVs 9 q9
    have hr := (hMk.s0 hLi).2.1
    obtain ⟨c0, c1, c2, c3⟩ := hr.cells (i := jp + 1) hj
    have z0 := hr.free' ((jp + 1) * 4); have z1 := hr.free' ((jp + 1) * 4 + 1); have z2 := hr.free' ((jp + 1) * 4 + 2); have z3 := hr.free' ((jp + 1) * 4 + 3)
    refine run_bare (by kernel_rfl) ?_
    have H := hMk.st1 hLi q9 q13
    rw [hpy.out] at H
    have H := Lib.hid H
    have HVs := Lib.hid hVs
    clear hVs hMk hdep hr
    unfold swpFr at hK ⊢
    unfold set4 at H
    go_simp
    refine kfit (hK undef _ trivial (fun j hj => swpVals_any j _ V _ (HVs.out j hj)) ⟨undef, rfl, trivial⟩ (H.out undef)) ?_
    first | (simp only [Act.put, List.setIfInBounds_toArray, List.set_cons_zero, List.set_cons_succ, h0, h9, e9, e14]; done) | (simp only [Act.put, List.setIfInBounds_toArray, List.set_cons_zero, List.set_cons_succ, h0, h9, e9, e14]; rfl)
  -- 16: slot 52 := Op.indexAddr 55 t39 t41
  refine And.intro ?_ ?_
  · rw [← hf]; clear hf
    refine ⟨fun _ => ⟨by decide +kernel, fun x v => by kernel_rfl, fun x V hV hdep K hK => ?_⟩, fun h => absurd h (by decide)⟩
    have e2 : x 2 = .slice (some ⟨g, 0, none⟩) n cap := depOf hdep 2 (by decide +kernel)
    have e4 : x 4 = .int .i64 (jp : Int) := depOf hdep 4 (by decide +kernel)
    clear hdep
    refine run_bare (by kernel_rfl) ?_
    unfold swpFr
    go_simp
    refine kfit (hK _ _ (rfl) rfl) ?_
    first | (simp only [swpFr, Act.put, List.setIfInBounds_toArray, List.set_cons_zero, List.set_cons_succ, h0, h9, e2, e4]; done) | (simp only [swpFr, Act.put, List.setIfInBounds_toArray, List.set_cons_zero, List.set_cons_succ, h0, h9, e2, e4]; rfl)
  -- 17: slot none := Op.store 60 t52 t50
  refine And.intro ?_ ?_
  · rw [← hf]; clear hf
    refine ⟨fun h => absurd h (by decide), fun _ => ⟨by decide +kernel, fun x v => by kernel_rfl, fun L x V hV hVs hMk hLi hdep K hK => ?_⟩⟩
    have q13 := depL hdep 13 (by decide +kernel)
    have q15 := depL hdep 15 (by decide +kernel)
    have e16 : x 16 = .pointer (some ⟨g, jp * 4, none⟩) := hVs 16 (depL hdep 16 (by decide +kernel))
    have e13 : x 13 = .agg #[.string px.n, .int .i64 px.t.kind, .string px.t.name, .slice px.a px.t.kids.length px.c] := hVs 13 q13
    have hr := hMk.row1 hLi q15
    obtain ⟨c0, c1, c2, c3⟩ := hr.cells (i := jp) (by simp; omega)
    have z0 := hr.free' (jp * 4); have z1 := hr.free' (jp * 4 + 1); have z2 := hr.free' (jp * 4 + 2); have z3 := hr.free' (jp * 4 + 3)
    refine run_bare (by kernel_rfl) ?_
    have H := hMk.st2 hj hLi q15
    rw [hpx.out] at H
    have H := Lib.hid H
    have HVs := Lib.hid hVs
    clear hVs hMk hdep hr
    unfold swpFr at hK ⊢
    unfold set4 at H
    go_simp
    refine kfit (hK undef _ trivial (fun j hj => swpVals_any j _ V _ (HVs.out j hj)) ⟨undef, rfl, trivial⟩ (H.out undef)) ?_
    first | (simp only [Act.put, List.setIfInBounds_toArray, List.set_cons_zero, List.set_cons_succ, h0, h9, e13, e16]; done) | (simp only [Act.put, List.setIfInBounds_toArray, List.set_cons_zero, List.set_cons_succ, h0, h9, e13, e16]; rfl)
  exact trivial
theorem swp_here {w : World} {g n cap jp : Nat} {ls ds : List PR} {px py : PR} (hpx : Hid (ds.getD (jp + 1) noP = px)) (hpy : Hid (ds.getD jp noP = py)) (hj : jp + 1 < ds.length) (jz : (jp : Int) + 1 < (n : Int)) (jz1 : (jp : Int) < (n : Int)) (p0 : (0 : Int) ≤ (jp : Int) + 1) (e00 : ((jp : Int) + 1).toNat = jp + 1) (hwp : IntKind.i64.wrap (jp : Int) = (jp : Int))
    
    {Q : Exit → Act → World → Prop} {ops : Array Oper} {a : Act} (X : World) (hops : ops = swpOps)
    (h0 : a.tmps.getD 0 undef = .slice (some ⟨g, 0, none⟩) n cap) (h9 : a.tmps.getD 9 undef = .int .i64 ((jp : Int) + 1))
    (ha : a = swpFr (fun j => a.tmps.getD j undef) a.defers (fun i => a.tmps.getD (if i = 16 then 52 else 37 + i) undef)) (hS : True) (hX : SrtI w g ls ds X.drew)
    (hfin : ∀ (x : Nat → Value) V, SrtI w g ls (swapL ds jp) V → Q .normal (swpFr (fun j => a.tmps.getD j undef) a.defers x) V) : (Code.region 6 ops true).wp Tryz.prog Q a X :=
  cast (congrArg (fun z => (Code.region 6 ops true).wp Tryz.prog Q z X) ha.symm) (swp_region hpx hpy hj jz jz1 p0 e00 hwp (b := fun j => a.tmps.getD j undef) (d := a.defers) h0 h9  hops _ X hS hX hfin)
end Go.Proofs.YtdidgddcgjpokaaGreatDoor
/- A row of predicates is sorted by insertion: slices.insertionSortCmpFunc. -/
namespace Go.Proofs.YtdidgddcgjpokaaGreatDoor
open Go.RowKit Go.Sort Go.Lib
attribute [local go_sem] Oper.semAt_some

set_option maxRecDepth 100000 in
set_option maxHeartbeats 4000000 in
theorem insQ_any (g cap : Nat) (l : List PR) (w : World) (h : RowG 55 g l w) (ht : Typ l w) (hf : FitsAll l) (hl : l.length ≤ 1000000) :
    Calls Tryz.prog 80 #[.slice (some ⟨g, 0, none⟩) l.length cap, .int .i64 0, .int .i64 (l.length : Int), .func (.func 44) #[] #[]] w fun e w' =>
      e = .returned (.tuple #[]) ∧ ∃ d, LeTo d.length d ∧ SrtI w g l d w' := by
  have HCmp := Lib.hid (fun (d : List PR) (wr : World) (hs : SrtI w g l d wr) (i j : Nat) (hi : i < d.length) (hj : j < d.length) => (show Calls Tryz.prog 44 #[pairV (d.getD i noP), pairV (d.getD j noP)] wr fun e w' => e = .returned (.int .i64 (cmpR (d.getD i noP) (d.getD j noP))) ∧ Below wr.heap.size wr w' from
    have hk := h.keepT (by decide) hs.2.2
    cmpQ_any _ _ wr (hf _ ((hs.1.2 _).1 (getD_memR hi))) ((ht _ ((hs.1.2 _).1 (getD_memR hi))).keep hk) ((ht _ ((hs.1.2 _).1 (getD_memR hj))).keep hk)))
  have HS0 := Lib.hid (show SrtI w g l l w from ⟨⟨rfl, fun _ => Iff.rfl⟩, h, Fr.refl _ _⟩)
  clear h ht hf
  go_enter Tryz.func80, Tryz.ntmps80
  go_wp2
  go_loopw [8] (fun vi wr => ∃ (i : Nat) (d : List PR), i ≤ l.length + 1 ∧ vi = .int .i64 i ∧ Hid (1 ≤ i ∧ LeTo i d) ∧ Hid (SrtI w g l d wr)) (fun vi _ => l.length + 1 - (intOf vi).toNat)
  case atStart => exact ⟨1, l, by omega, by go_num, Lib.hid ⟨Nat.le_refl _, fun p q h1 h2 => by omega⟩, HS0⟩
  case round =>
    obtain ⟨i, d, hi, rfl, hL, hS⟩ := hrel
    by_cases hlt : i < l.length
    · have hltI : (i : Int) < (l.length : Int) := by omega
      have HI0 := Lib.hid (InsI.start hL.out.2)
      go_wp2
      go_loopw [9] (fun vj wr => ∃ (j : Nat) (d : List PR), j ≤ i ∧ vj = .int .i64 j ∧ Hid (InsI i j d) ∧ Hid (SrtI w g l d wr)) (fun vj _ => (intOf vj).toNat)
      case atStart => exact ⟨i, d, Nat.le_refl _, rfl, HI0, hS⟩
      case round =>
        obtain ⟨j, d, hj, rfl, hI, hS⟩ := hrel
        have hlen := hS.out.1.1
        have OUT := Lib.hid (fun (h : j = 0 ∨ 0 ≤ cmpR (d.getD j noP) (d.getD (j - 1) noP)) => hI.out.stop h)
        clear HI0
        by_cases hj0 : 0 < j
        · obtain ⟨jp, rfl⟩ : ∃ jp, j = jp + 1 := ⟨j - 1, by omega⟩
          have jz0 : (0 : Int) < (jp : Int) + 1 := by omega
          have jz : (jp : Int) + 1 < (l.length : Int) := by omega
          have jz1 : (jp : Int) < (l.length : Int) := by omega
          have p0 : (0 : Int) ≤ (jp : Int) + 1 := by omega
          have e0 : ((jp : Int) + 1).toNat = jp + 1 := by omega
          have hwp : IntKind.i64.wrap (jp : Int) = (jp : Int) := by rw [IntKind.wrap_i64]; omega
          obtain ⟨x0, x1, x2, x3⟩ := hS.out.2.1.cells (i := jp + 1) (by omega)
          obtain ⟨y0, y1, y2, y3⟩ := hS.out.2.1.cells (i := jp) (by omega)
          have X0 := cell_regrown x0; have X1 := cell_regrown x1; have X2 := cell_regrown x2; have X3 := cell_regrown x3
          have Y0 := cell_regrown y0; have Y1 := cell_regrown y1; have Y2 := cell_regrown y2; have Y3 := cell_regrown y3
          have HC := Lib.hid (fun dd os => Calls.regrown_of (HCmp.out d _ (hS.out.below (below_regrown wr dd os)) (jp + 1) jp (by omega) (by omega)))
          have HSt := Lib.hid (fun (h : cmpR (d.getD (jp + 1) noP) (d.getD jp noP) ≤ 0) => hI.out.step (by omega) h)
          have HSw := Lib.hid (fun (Y : World) (h : SrtI w g l d Y) => h.swap (j := jp) (by omega))
          have HCe := Lib.hid (fun (Y : World) (h : SrtI w g l d Y) => (And.intro (h.2.1.cells (i := jp + 1) (by omega)) (h.2.1.cells (i := jp) (by omega))))
          have HO := Lib.hid (fun (h : 0 ≤ cmpR (d.getD (jp + 1) noP) (d.getD jp noP)) => OUT.out (.inr h))
          clear OUT x0 x1 x2 x3 y0 y1 y2 y3
          generalize hxx : d.getD (jp + 1) noP = x at *
          generalize hyy : d.getD jp noP = y at *
          have HXX := Lib.hid hxx; have HYY := Lib.hid hyy
          clear hxx hyy
          obtain ⟨r, hr⟩ : ∃ r, cmpR x y = r := ⟨_, rfl⟩
          rw [hr] at HC HSt HO
          simp only [pairV] at HC
          clear hr
          have hH := HC.out
          by_cases hlv : r < 0
          · go_wp2_with fail
            refine wp_region_quiet_below (by kernel_rfl) (by kernel_rfl) ?_
            repeat (quiet_step (first | exact hH _ _ | (go_at_fn 44; exact hH _ _)))
            refine wpQuiet_nil ?_
            intro _ hw'
            obtain ⟨⟨dq, osq⟩, hw''⟩ := hw'
            subst hw''
            have HS5 := Lib.hid (hS.out.below (below_regrown wr dq osq))
            clear X0 X1 X2 X3 Y0 Y1 Y2 Y3 hH HC HCe HSw
            generalize grow (redrawn wr dq) osq = wr5 at *
            go_wp2_with fail
            refine swp_here (w := w) (g := g) (n := l.length) (cap := cap) (jp := jp) (ls := l) (ds := d) (px := x) (py := y) HXX HYY (by omega) jz jz1 p0 e0 hwp _ (by kernel_rfl) (by kernel_rfl) (by kernel_rfl) (by kernel_rfl) trivial (HS5.out.below (below_d _)) ?_
            intro xx V hV
            have HEnd := Lib.hid hV
            clear hV HS5
            simp only [swpFr]
            simp only [Array.getD_eq_getD_getElem?, List.getElem?_toArray, List.getElem?_cons_zero, List.getElem?_cons_succ, Option.getD_some]
            go_wp2_with fail
            go_roundw
            case rel => exact ⟨jp, swapL d jp, by omega, by go_num, Lib.hid (HSt.out (by omega)), HEnd⟩
            case measure => simp [intOf]
          · go_wp2_with fail
            refine wp_region_quiet_below (by kernel_rfl) (by kernel_rfl) ?_
            repeat (quiet_step (first | exact hH _ _ | (go_at_fn 44; exact hH _ _)))
            refine wpQuiet_nil ?_
            intro _ hw'
            obtain ⟨⟨dq, osq⟩, hw''⟩ := hw'
            subst hw''
            have HS5 := Lib.hid (hS.out.below (below_regrown wr dq osq))
            clear X0 X1 X2 X3 Y0 Y1 Y2 Y3 hH HC HCe
            generalize grow (redrawn wr dq) osq = wr5 at *
            go_wp2_with fail
            go_roundw
            case rel => exact ⟨i + 1, d, by omega, by go_num, Lib.hid ⟨by omega, HO.out (by omega)⟩, HS5⟩
            case measure => simp [intOf]; omega
        · have hjz : ¬ (0 : Int) < (j : Int) := by omega
          have hjd : decide ((j : Int) > (0 : Int)) = false := decide_eq_false (by omega)
          have HS5 := Lib.hid (hS.out.below (below_d wr))
          go_wp2_with fail
          go_region
          all_goals
            go_wp2_with fail
            go_roundw
          case rel => exact ⟨i + 1, d, by omega, by go_num, Lib.hid ⟨by omega, OUT.out (.inl (by omega))⟩, HS5⟩
          case measure => simp [intOf]; omega
    · have hltI : ¬ (i : Int) < (l.length : Int) := by omega
      have HE := Lib.hid (show ∃ d, LeTo d.length d ∧ SrtI w g l d _ from ⟨d, by rw [hS.out.1.1]; exact fun p q h1 h2 => hL.out.2 p q h1 (by omega), hS.out⟩)
      go_wp2_with fail
      go_end0
      exact ⟨rfl, HE.out⟩
end Go.Proofs.YtdidgddcgjpokaaGreatDoor
/- slices.CompactFunc of a row of predicates. -/
namespace Go.Proofs.YtdidgddcgjpokaaGreatDoor
open Go.RowKit Go.Sort Go.Lib
attribute [local go_sem] Oper.semAt_some

def kpQ (d : Array PR) (j : Nat) : Bool := decide (j = 0 ∨ cmpR d[j]! d[j - 1]! ≠ 0)
theorem kpQ_true {d : Array PR} {j : Nat} (h : j = 0 ∨ cmpR d[j]! d[j - 1]! ≠ 0) : kpQ d j = true := decide_eq_true h
theorem kpQ_false {d : Array PR} {j : Nat} (h : ¬ (j = 0 ∨ cmpR d[j]! d[j - 1]! ≠ 0)) : kpQ d j = false := decide_eq_false h
theorem bang_memR {d : Array PR} {j : Nat} (h : j < d.size) : d[j]! ∈ d.toList := by
  rw [← getD_bang d j h]; exact getD_memR (by simpa using h)
theorem RowG.take' {T : TypeId} {g : Nat} {l : List PR} {w : World} (h : RowG T g l w) (k : Nat) : RowG T g (l.take k) w := by
  obtain ⟨cs, h1, h2, h3⟩ := h
  have hl : (l.take k).length ≤ l.length := by simp; omega
  refine ⟨cs, h1, by omega, fun i hi => ?_⟩
  have e : (l.take k).getD i noP = l.getD i noP := by
    have : i < k := by simp at hi; omega
    simp [List.getD, this]
  rw [e]
  exact h3 i (by omega)
theorem RowG.of_eq' {T : TypeId} {g : Nat} {l m : List PR} {w : World} (h : RowG T g l w) (e : l = m) : RowG T g m w := e ▸ h
theorem RowG.setCells {T : TypeId} {g : Nat} {l : List PR} {w : World} (h : RowG T g l w) (k : Nat) (hk : k ≤ l.length) (vs : List Value) : RowG T g (l.take k) (w.setCells g (k * 4) vs) := by
  obtain ⟨cs, h1, h2, h3⟩ := h.take' k
  obtain ⟨cs', e1, e2, e3⟩ := block_setCells g vs (k * 4) w cs h1
  refine ⟨cs', e1, by omega, fun i hi => ?_⟩
  have hik : i < k := by simp at hi; omega
  rw [e3 _ (by omega), e3 _ (by omega), e3 _ (by omega), e3 _ (by omega)]
  exact h3 i hi
theorem run_clearQ (w : World) (g k : Nat) (l : List PR) (h : RowG 55 g l w) (hk : k < l.length) (c : Nat) (ty : TypeId) :
    (Builtin.clear_ #[28] ty #[.slice (some ⟨g, k * 4, none⟩) (l.length - k) c]).run Tryz.prog w = .ok (.tuple #[]) (w.setCells g (k * 4) (Builtin.zeroCells zeroP (l.length - k)).toList) := by
  have hz : ∀ w, (zeroValue 55).run Tryz.prog w = .ok (.agg zeroP) w := fun _ => by kernel_rfl
  have hlen : (Builtin.zeroCells zeroP (l.length - k)).toList.length = (l.length - k) * 4 := by simp [Builtin.zeroCells, zeroP]
  obtain ⟨cs, h1, h2, _⟩ := h
  have hst := run_storeCells_cells (P := Tryz.prog) g (k * 4) (Builtin.zeroCells zeroP (l.length - k)).toList 0 w (fun j hj => by rw [hlen] at hj; rw [Lib.cell_of_heap h1, Array.getElem?_eq_getElem (by omega)]; rfl) (fun j _ => Lib.frozen_of_heap h1 _) (zeroCells_one _)
  simp only [Nat.add_zero] at hst
  obtain ⟨m, hm⟩ : ∃ m, l.length - k = m + 1 := ⟨l.length - k - 1, by omega⟩
  rw [hm] at hst ⊢
  simp [Builtin.clear_, run_underlying (Tryz.underlying28), hz, Value.cells, hst]

set_option maxRecDepth 100000 in
set_option maxHeartbeats 4000000 in
theorem compactQ_any (g cap : Nat) (d : List PR) (w : World) (h : RowG 55 g d w) (ht : Typ d w) (hf : FitsAll d) (hc : d.length ≤ cap) (hl : d.length < 1152921504606846976) (h0 : d ≠ []) :
    Calls Tryz.prog 45 #[.slice (some ⟨g, 0, none⟩) d.length cap, .func (.func 46) #[] #[]] w fun e w' =>
      e = .returned (.slice (some ⟨g, 0, none⟩) (keptUpTo (kpQ d.toArray) d.toArray d.length).length cap) ∧ RowG 55 g (keptUpTo (kpQ d.toArray) d.toArray d.length) w' ∧ Fr g w w' := by
  have HH := Lib.hid h
  have HQQ := Lib.hid (fun (x y : PR) (hx : x ∈ d) (hy : y ∈ d) (W : World) (hW : Fr g w W) => (show Calls Tryz.prog 46 #[pairV x, pairV y] W fun e w' => e = .returned (.bool (cmpR x y == 0)) ∧ Below W.heap.size W w' from
    have hk := h.keepT (by decide) hW
    sameQ_any x y W (hf x hx) ((ht x hx).keep hk) ((ht y hy).keep hk)))
  clear ht hf
  have hpos : 0 < d.length := List.length_pos_iff.2 h0
  obtain ⟨A, hA⟩ : ∃ A, d.toArray = A := ⟨_, rfl⟩
  have hAs : A.size = d.length := by rw [← hA]; simp
  have hAl : A.toList = d := by rw [← hA]
  rw [hA]
  have HA := Lib.hid hAl
  clear h hA hAl h0
  by_cases h2 : d.length < 2
  · have h1 : d.length = 1 := by omega
    have hk : keptUpTo (kpQ A) A 1 = d := by
      have : keptUpTo (kpQ A) A 1 = [A[0]!] := by rw [keptUpTo_succ, kpQ_true (.inl rfl)]; rfl
      rw [this, ← getD_bang A 0 (by omega), HA.out]
      match d, h1 with
      | [x], _ => rfl
    rw [h1, hk]
    clear hk
    rw [h1] at *
    go_enter Tryz.func45, Tryz.ntmps45
    go_wp2
    go_ret
    exact ⟨rfl, HH.out, Fr.refl _ _⟩
  · have h2i : ¬ ((d.length : Int) < 2) := by omega
    obtain ⟨res, hres⟩ : ∃ r, keptUpTo (kpQ A) A d.length = r := ⟨_, rfl⟩
    have HR := Lib.hid hres
    rw [hres]
    clear hres
    go_enter Tryz.func45, Tryz.ntmps45
    go_wp2
    go_loopw [5] (fun vk wr => ∃ k : Nat, (1 ≤ k ∧ k ≤ d.length) ∧ vk = .int .i64 k ∧ Hid (Below w.heap.size w wr) ∧ Hid (∀ j, j < k → kpQ A j = true)) (fun vk _ => d.length - (intOf vk).toNat)
    case atStart => exact ⟨1, ⟨Nat.le_refl _, by omega⟩, rfl, Lib.hid (Below.refl _ _), Lib.hid fun j hj => kpQ_true (.inl (by omega))⟩
    case round =>
      obtain ⟨k, ⟨hk1, hk⟩, rfl, hB, hall⟩ := hrel
      by_cases hlt : k < d.length
      · obtain ⟨q, rfl⟩ : ∃ q, k = q + 1 := ⟨k - 1, by omega⟩
        have HRr := Lib.hid (HH.out.below hB.out)
        obtain ⟨x0, x1, x2, x3⟩ := HRr.out.cells hlt
        obtain ⟨y0, y1, y2, y3⟩ := HRr.out.cells (i := q) (by omega)
        have e1 : d.getD (q + 1) noP = A[q + 1]! := by rw [← HA.out]; exact getD_bang A _ (by omega)
        have e2 : d.getD q noP = A[q]! := by rw [← HA.out]; exact getD_bang A _ (by omega)
        have HK := Lib.hid (show (cmpR (d.getD (q + 1) noP) (d.getD q noP) == 0) = (cmpR A[q + 1]! A[q]! == 0) by rw [e1, e2])
        have HC := Lib.hid (fun dd os => Calls.regrown_of (HQQ.out (d.getD (q + 1) noP) (d.getD q noP) (getD_memR hlt) (getD_memR (by omega)) _ ((Fr.of_below (g := g) hB.out).trans (Fr.of_below (below_regrown wr dd os)))))
        have X0 := cell_regrown x0; have X1 := cell_regrown x1; have X2 := cell_regrown x2; have X3 := cell_regrown x3
        have Y0 := cell_regrown y0; have Y1 := cell_regrown y1; have Y2 := cell_regrown y2; have Y3 := cell_regrown y3
        clear x0 x1 x2 x3 y0 y1 y2 y3
        clear e1 e2
        generalize d.getD (q + 1) noP = x at *
        generalize d.getD q noP = y at *
        simp only [pairV] at HC
        obtain ⟨bb, hbb⟩ : ∃ b, (cmpR x y == 0) = b := ⟨_, rfl⟩
        rw [hbb] at HC HK
        clear hbb
        have hwp : IntKind.i64.wrap (q : Int) = (q : Int) := by rw [IntKind.wrap_i64]; omega
        have hwp2 : IntKind.i64.wrap (((q + 1 : Nat) : Int) - 1) = (q : Int) := by rw [IntKind.wrap_i64]; omega
        have jz : (q : Int) + 1 < (d.length : Int) := by omega
        have jz1 : (q : Int) < (d.length : Int) := by omega
        have p0 : (0 : Int) ≤ (q : Int) + 1 := by omega
        have e0 : ((q : Int) + 1).toNat = q + 1 := by omega
        have hH := HC.out
        go_wp2_with fail
        refine wp_region_quiet_below (by kernel_rfl) (by kernel_rfl) ?_
        repeat (quiet_step (first | exact hH _ _ | (go_at_fn 46; exact hH _ _)))
        refine wpQuiet_nil ?_
        intro _ hw'
        obtain ⟨⟨dq, osq⟩, hw''⟩ := hw'
        subst hw''
        have HB2 := Lib.hid (below_regrown wr dq osq)
        clear X0 X1 X2 X3 Y0 Y1 Y2 Y3 hH HC
        generalize grow (redrawn wr dq) osq = wr5 at *
        cases bb with
        | true =>
            have HD := Lib.hid (show cmpR A[q + 1]! A[q]! = 0 from by have := HK.out; simpa using this.symm)
            have HFr := Lib.hid ((Fr.of_below (g := g) hB.out).trans (Fr.of_below HB2.out))
            have HRw := Lib.hid (HRr.out.below HB2.out)
            clear HK hB HB2 HRr
            have hjc : (q : Int) + 1 ≤ (cap : Int) := by omega
            go_wp2
            generalize hm2 : d.length - (q + 1) = m2
            generalize cap - (q + 1) = c2
            go_loopw [5, 7] (fun vk vk2 wr => ∃ (k k2 : Nat) (dk : Array PR), (1 ≤ k2 ∧ q + 1 + k2 ≤ d.length) ∧ vk = .int .i64 k ∧ vk2 = .int .i64 k2 ∧ Hid (KeptInv (kpQ A) A (q + 1 + k2) k dk) ∧ Hid (RowG 55 g dk.toList wr) ∧ Hid (Fr g w wr)) (fun _ vk2 _ => d.length - (intOf vk2).toNat)
            case atStart =>
              refine ⟨q + 1, 1, A, ⟨Nat.le_refl _, by omega⟩, by go_num, by go_num, Lib.hid (KeptInv.start hall.out (kpQ_false ?_)), Lib.hid (by rw [HA.out]; exact HRw.out), HFr⟩
              rintro (h | h)
              · omega
              · exact h (by simpa using HD.out)
            case round =>
              obtain ⟨k, k2, dk, ⟨hk21, hk2⟩, rfl, rfl, hI, hRow, hF⟩ := hrel
              have hsz : dk.size = d.length := hI.out.size.trans hAs
              have hkm := hI.out.lt
              by_cases hlt2 : k2 < m2
              · obtain ⟨r, rfl⟩ : ∃ r, k2 = r + 1 := ⟨k2 - 1, by omega⟩
                have hlt3 : q + 1 + (r + 1) < d.length := by omega
                obtain ⟨x0, x1, x2, x3⟩ := hRow.out.cells (i := q + 1 + (r + 1)) (by simp; omega)
                obtain ⟨y0, y1, y2, y3⟩ := hRow.out.cells (i := q + 1 + r) (by simp; omega)
                have e1 : dk.toList.getD (q + 1 + (r + 1)) noP = A[q + 1 + (r + 1)]! := by rw [getD_bang dk _ (by omega)]; exact hI.out.high _ (by omega)
                have e2 : dk.toList.getD (q + 1 + r) noP = A[q + 1 + r]! := by rw [getD_bang dk _ (by omega)]; exact hI.out.high _ (by omega)
                rw [e1] at x0 x1 x2 x3
                rw [e2] at y0 y1 y2 y3
                have ea : (q + 1 + (r + 1)) * 4 = (q + 1) * 4 + (r + 1) * 4 := by omega
                have eb : (q + 1 + r) * 4 = (q + 1) * 4 + r * 4 := by omega
                rw [ea] at x0 x1 x2 x3
                rw [eb] at y0 y1 y2 y3
                have HC := Lib.hid (fun dd os => Calls.regrown_of (HQQ.out A[q + 1 + (r + 1)]! A[q + 1 + r]! (by rw [← HA.out]; exact bang_memR (by omega)) (by rw [← HA.out]; exact bang_memR (by omega)) _ (hF.out.trans (Fr.of_below (below_regrown wr dd os)))))
                have X0 := cell_regrown x0; have X1 := cell_regrown x1; have X2 := cell_regrown x2; have X3 := cell_regrown x3
                have Y0 := cell_regrown y0; have Y1 := cell_regrown y1; have Y2 := cell_regrown y2; have Y3 := cell_regrown y3
                clear x0 x1 x2 x3 y0 y1 y2 y3
                have HKt := Lib.hid (fun (h : ¬ cmpR A[q + 1 + (r + 1)]! A[q + 1 + r]! = 0) => hI.out.keep (by omega) (kpQ_true (d := A) (j := q + 1 + (r + 1)) (.inr fun e => h (by simpa using e))))
                have HKf := Lib.hid (fun (h : cmpR A[q + 1 + (r + 1)]! A[q + 1 + r]! = 0) => hI.out.skip (kpQ_false (d := A) (j := q + 1 + (r + 1)) (by rintro (h' | h'); omega; exact h' (by simpa using h))))
                have HX := Lib.hid (fun (W : World) (h : Below wr.heap.size wr W) => (hRow.out.below h).cells (i := q + 1 + (r + 1)) (by simp; omega))
                rw [e1, ea] at HX
                clear e1 e2 ea eb
                generalize A[q + 1 + (r + 1)]! = x' at *
                generalize A[q + 1 + r]! = y' at *
                simp only [pairV] at HC
                obtain ⟨bb, hbb⟩ : ∃ b, (cmpR x' y' == 0) = b := ⟨_, rfl⟩
                rw [hbb] at HC
                have HE := Lib.hid hbb
                clear hbb
                have hwp3 : IntKind.i64.wrap (r : Int) = (r : Int) := by rw [IntKind.wrap_i64]; omega
                have hwp4 : IntKind.i64.wrap (((r + 1 : Nat) : Int) - 1) = (r : Int) := by rw [IntKind.wrap_i64]; omega
                have jz3 : (r : Int) + 1 < (m2 : Int) := by omega
                have jz4 : (r : Int) < (m2 : Int) := by omega
                have p3 : (0 : Int) ≤ (r : Int) + 1 := by omega
                have e3 : ((r : Int) + 1).toNat = r + 1 := by omega
                have kz : (k : Int) < (d.length : Int) := by omega
                have hH := HC.out
                go_wp2_with fail
                refine wp_region_quiet_below (by kernel_rfl) (by kernel_rfl) ?_
                repeat (quiet_step (first | exact hH _ _ | (go_at_fn 46; exact hH _ _)))
                refine wpQuiet_nil ?_
                intro _ hw'
                obtain ⟨⟨dq, osq⟩, hw''⟩ := hw'
                subst hw''
                have HB2 := Lib.hid (below_regrown wr dq osq)
                clear X0 X1 X2 X3 Y0 Y1 Y2 Y3 hH HC
                generalize grow (redrawn wr dq) osq = wr5 at *
                have HRw2 := Lib.hid (hRow.out.below HB2.out)
                have HFr2 := Lib.hid (hF.out.trans (Fr.of_below HB2.out))
                cases bb with
                | true =>
                  have HQ := Lib.hid (show cmpR x' y' = 0 from by simpa using HE.out)
                  go_wp2
                  go_roundw
                  case rel => exact ⟨k, r + 1 + 1, dk, ⟨by omega, by omega⟩, rfl, by go_num, Lib.hid (HKf.out HQ.out), HRw2, HFr2⟩
                  case measure => simp [intOf]; omega
                | false =>
                  have HQ := Lib.hid (show ¬ cmpR x' y' = 0 from by simpa using HE.out)
                  obtain ⟨x0, x1, x2, x3⟩ := HX.out _ HB2.out
                  obtain ⟨o0, o1, o2, o3⟩ := HRw2.out.cells (i := k) (by simp; omega)
                  have z0 := HRw2.out.free' (k * 4)
                  have z1 := HRw2.out.free' (k * 4 + 1)
                  have z2 := HRw2.out.free' (k * 4 + 2)
                  have z3 := HRw2.out.free' (k * 4 + 3)
                  clear HB2
                  go_wp2
                  go_roundw
                  case rel => exact ⟨k + 1, r + 1 + 1, dk.setIfInBounds k x', ⟨by omega, by omega⟩, by go_num, by go_num, Lib.hid (HKt.out HQ.out), Lib.hid ((HRw2.out.set k x').of_eq' (by simp)), Lib.hid (HFr2.out.trans (Fr.set4 g k _ x'))⟩
                  case measure => simp [intOf]; omega
              · have hm : q + 1 + k2 = d.length := by omega
                obtain rfl : k2 = m2 := by omega
                have hcl : ∀ ty c, (Builtin.clear_ #[28] ty #[.slice (some ⟨g, k * 4, none⟩) (d.length - k) c]).run Tryz.prog wr = .ok (.tuple #[]) (wr.setCells g (k * 4) (Builtin.zeroCells zeroP (d.length - k)).toList) := fun ty c => by
                  have := run_clearQ wr g k dk.toList hRow.out (by simp; omega) c ty
                  rwa [show dk.toList.length = d.length by simpa using hsz] at this
                have hlow := hI.out.low
                have hlen := hI.out.len
                rw [hm, HR.out] at hlow hlen
                have HT : Hid (dk.toList.take k = res) := Lib.hid (by
                  apply List.ext_getElem?
                  intro j
                  by_cases hj : j < k
                  · rw [hlow j hj, List.getElem?_take_of_lt hj, ← getD_bang dk j (by omega)]
                    simp [List.getD, show j < dk.size by omega]
                  · rw [List.getElem?_eq_none (by simp; omega), List.getElem?_eq_none (by omega)])
                have HL := Lib.hid hlen
                have kz : (k : Int) ≤ (d.length : Int) := by omega
                have kz2 : (k : Int) ≤ (cap : Int) := by omega
                clear hlow hlen HR
                go_wp2
                go_ret
                exact ⟨by rw [HL.out]; rfl, (hRow.out.setCells k (by simp; omega) _).of_eq' HT.out, hF.out.trans (Fr.setCells g _ _ _)⟩
        | false =>
          have HQ := Lib.hid (show ¬ cmpR A[q + 1]! A[q]! = 0 from by have := HK.out; simpa using this.symm)
          go_wp2
          go_roundw
          case rel =>
            refine ⟨q + 1 + 1, ⟨by omega, by omega⟩, by go_num, Lib.hid (hB.out.trans (HB2.out.mono hB.out.size)), Lib.hid fun j hj => ?_⟩
            by_cases e : j = q + 1
            · subst e; exact kpQ_true (.inr (by simpa using HQ.out))
            · exact hall.out j (by omega)
          case measure => simp [intOf]; omega
      · obtain rfl : k = d.length := by omega
        have hres : res = d := by
          rw [← HR.out, keptUpTo_all _ _ _ hall.out, ← hAs, range_map_get, HA.out]
        subst hres
        clear HR
        go_wp2
        go_ret
        exact ⟨rfl, HH.out.below hB.out, Fr.of_below hB.out⟩
end Go.Proofs.YtdidgddcgjpokaaGreatDoor
/- slices.SortFunc of at most twelve predicates. -/
namespace Go.Proofs.YtdidgddcgjpokaaGreatDoor
open Go.RowKit Go.Sort Go.Lib
attribute [local go_sem] Oper.semAt_some

set_option maxHeartbeats 2000000 in
theorem bitsLen64_s (n : Nat) (hn : n ≤ 12) (w : World) : Calls Tryz.prog 89 #[.int .u64 (n : Int)] w fun e w' => (∃ r : Int, e = .returned (.int .i64 r)) ∧ w = w' := by
  have h : n = 0 ∨ n = 1 ∨ n = 2 ∨ n = 3 ∨ n = 4 ∨ n = 5 ∨ n = 6 ∨ n = 7 ∨ n = 8 ∨ n = 9 ∨ n = 10 ∨ n = 11 ∨ n = 12 := by omega
  rcases h with rfl | rfl | rfl | rfl | rfl | rfl | rfl | rfl | rfl | rfl | rfl | rfl | rfl
  all_goals
    go_enter Tryz.func89, Tryz.ntmps89
    go_wp2
    go_ret
    exact ⟨⟨_, rfl⟩, rfl⟩
theorem bitsLen_s (n : Nat) (hn : n ≤ 12) (w : World) : Calls Tryz.prog 68 #[.int .u64 (n : Int)] w fun e w' => (∃ r : Int, e = .returned (.int .i64 r)) ∧ w = w' := by
  have HL := Lib.hid (fun W => bitsLen64_s n hn W)
  go_enter Tryz.func68, Tryz.ntmps68
  go_wp2_with (go_at_call 89; refine (HL.out _).mono ?_; rintro e w' ⟨⟨r, rfl⟩, rfl⟩)
  go_ret
  exact ⟨⟨_, rfl⟩, rfl⟩
set_option maxRecDepth 100000 in
set_option maxHeartbeats 2000000 in
theorem pdqQ_any (g cap : Nat) (l : List PR) (r : Int) (w : World) (h : RowG 55 g l w) (ht : Typ l w) (hf : FitsAll l) (hl : l.length ≤ 12) :
    Calls Tryz.prog 67 #[.slice (some ⟨g, 0, none⟩) l.length cap, .int .i64 0, .int .i64 (l.length : Int), .int .i64 r, .func (.func 44) #[] #[]] w fun e w' =>
      e = .returned (.tuple #[]) ∧ ∃ d, LeTo d.length d ∧ SrtI w g l d w' := by
  have HI := Lib.hid (fun W => fun (e : W = w) => (by subst e; exact insQ_any g cap l W h ht hf (by omega) : Calls Tryz.prog 80 #[.slice (some ⟨g, 0, none⟩) l.length cap, .int .i64 0, .int .i64 (l.length : Int), .func (.func 44) #[] #[]] W fun e w' => e = .returned (.tuple #[]) ∧ ∃ d, LeTo d.length d ∧ SrtI W g l d w'))
  have hz : (l.length : Int) ≤ 12 := by omega
  have hz2 : ¬ (12 : Int) < (l.length : Int) := by omega
  have hw : wrap64 ((l.length : Int) - 0) = (l.length : Int) := by unfold wrap64; omega
  clear h ht hf
  go_enter Tryz.func67, Tryz.ntmps67
  go_wp2
  refine wp_loop_rounds 1 ?_
  rw [rounds_succ]
  go_wp2_with (go_at_call 80; refine (HI.out _ rfl).mono ?_)
  rintro e w' ⟨rfl, d, hd, hs⟩
  have HD := Lib.hid (And.intro hd hs)
  clear hd hs
  go_wp2
  exact bodyPost_ret (v := .tuple #[]) (by simp [results, Tryz.results67, go_sem]) rfl ⟨rfl, d, HD.out⟩
theorem sortQ_any (g cap : Nat) (l : List PR) (w : World) (h : RowG 55 g l w) (ht : Typ l w) (hf : FitsAll l) (hl : l.length ≤ 12) :
    Calls Tryz.prog 43 #[.slice (some ⟨g, 0, none⟩) l.length cap, .func (.func 44) #[] #[]] w fun e w' =>
      e = .returned (.tuple #[]) ∧ ∃ d, LeTo d.length d ∧ SrtI w g l d w' := by
  have HP := Lib.hid (fun r => pdqQ_any g cap l r w h ht hf hl)
  have HB := Lib.hid (fun W => bitsLen_s l.length hl W)
  have hw : IntKind.u64.wrap (l.length : Int) = (l.length : Int) := by rw [IntKind.wrap_u64]; omega
  clear h ht hf
  go_enter Tryz.func43, Tryz.ntmps43
  go_wp2_with (first
    | (go_at_call 68; refine (HB.out _).mono ?_; rintro e w' ⟨⟨r, rfl⟩, rfl⟩)
    | (go_at_call 67; refine (HP.out _).mono ?_; rintro e w' ⟨rfl, d, hd, hs⟩; have HD := Lib.hid (And.intro hd hs); clear hd hs))
  go_end0
  exact ⟨rfl, d, HD.out⟩
end Go.Proofs.YtdidgddcgjpokaaGreatDoor
/- scheme.SortPreds of at most twelve predicates: each once, in order. -/
namespace Go.Proofs.YtdidgddcgjpokaaGreatDoor
open Go.RowKit Go.Sort Go.Lib
attribute [local go_sem] Oper.semAt_some

set_option maxRecDepth 100000 in
set_option maxHeartbeats 4000000 in
theorem predsG_any (s v : Value) (d : List PR) (l : List Pr) (w : World) (hl : d.length < 1000000) (hd : SizedAll d) (hs : SubAt s d w) (h : PrsAt w v l) (hq : ∀ q ∈ l, tsize q.2 ≤ 1000000000) (hn : l.length ≤ 1000000) :
    Calls Tryz.prog 40 #[.agg #[s], v] w fun e w' => (∃ ls, ls.map prOf = appP d l ∧ e = .returned (.slice (some ⟨w.heap.size + 1, 0, none⟩) l.length l.length) ∧ RowG 55 (w.heap.size + 1) ls w' ∧ Typ ls w') ∧ Below w.heap.size w w' := by
  obtain ⟨av, cv, rfl⟩ := h.shape
  have hmk := make_rowP l.length (by omega)
  have HS := Lib.hid hs
  obtain ⟨sa, sc, rfl⟩ := hs.shape
  have HRow := Lib.hid (fun (i : Nat) (hi : i < l.length) => (by obtain ⟨g, cap, e, hg, hc, hr⟩ := h.row (by rintro rfl; cases hi); exact ⟨g, cap, e, hg, hc, hr i hi⟩ : ∃ g cap, Value.slice av l.length cv = .slice (some ⟨g, 0, none⟩) l.length cap ∧ g < w.heap.size ∧ l.length ≤ cap ∧ ∃ a c, w.cell? ⟨g, i * 4, none⟩ = some (.string l[i].1) ∧ w.cell? ⟨g, i * 4 + 1, none⟩ = some (.int .i64 l[i].2.kind) ∧ w.cell? ⟨g, i * 4 + 2, none⟩ = some (.string l[i].2.name) ∧ w.cell? ⟨g, i * 4 + 3, none⟩ = some (.slice a l[i].2.kids.length c) ∧ TysAt w (.slice a l[i].2.kids.length c) l[i].2.kids))
  have HQ := Lib.hid hq
  have HB2 := Lib.hid (fun o1 o2 => below_two w o1 o2)
  clear hs h hq
  go_enter Tryz.func40, Tryz.ntmps40
  go_wp2
  go_loopw [13] (fun vi wr => ∃ (i : Nat) (ls : List PR), i ≤ l.length ∧ vi = .int .i64 i ∧ Hid ((ls.length = i ∧ ls.map prOf = appP d (l.take i)) ∧ RowKP (w.heap.size + 1) l.length ls wr ∧ Typ ls wr ∧ Below w.heap.size w wr) ∧ Hid (wr.heap[w.heap.size]? = some (.cells #[.slice sa d.length sc] 73 (0, 0)))) (fun vi _ => l.length - (intOf vi).toNat)
  case atStart =>
    exact ⟨0, [], Nat.zero_le _, rfl, Lib.hid ⟨⟨rfl, rfl⟩, RowKP.start _ _ _ (new_two w _ _), (fun _ h => nomatch h), HB2.out _ _⟩, Lib.hid ((Below.heap_alloc _ _ _ (by simp)).trans (alloc_new w _))⟩
  case round =>
    obtain ⟨i, ls, hi, rfl, hF, hBx⟩ := hrel
    have y0 : wr.cell? ⟨w.heap.size, 0, none⟩ = some (.slice sa d.length sc) := by rw [Lib.cell_of_heap hBx.out]; rfl
    have ly := (Array.getElem?_eq_some_iff.1 hBx.out).1
    have lG := hF.out.2.1.lt
    by_cases hlt : i < l.length
    · obtain ⟨⟨hll, hmap⟩, hRow, hTy, hB⟩ := hF.out
      obtain ⟨g, cap, e1, hg, hcap, pa, pc, x0, x1, x2, x3, xk⟩ := HRow.out i hlt
      cases e1
      have f1 := fun o => hB.cell (p := ⟨g, o, none⟩) hg
      rw [← f1] at x0 x1 x2 x3
      have hgw : g < wr.heap.size := Nat.lt_of_lt_of_le hg hB.size
      have hqs := HQ.out l[i] (List.getElem_mem hlt)
      have HA := Lib.hid (fun (V : World) (hb : Below w.heap.size w V) => apply_any (d := d) (t := l[i].2) (s := .slice sa d.length sc) (v := .slice pa l[i].2.kids.length pc) (w := V) (by omega) hd hqs (HS.out.below hb) (xk.keep (KeepT.of_below hb)))
      have HM := Lib.hid (show appP d (l.take (i + 1)) = appP d (l.take i) ++ [(l[i].1, app d l[i].2)] by unfold appP; rw [List.take_succ_eq_append_getElem hlt, List.map_append]; rfl)
      have HLen := Lib.hid hll; have HMap := Lib.hid hmap; have HRw := Lib.hid hRow; have HTy := Lib.hid hTy; have HB := Lib.hid hB
      clear f1 xk hqs hF hll hmap hRow hTy hB hmk HRow
      generalize l[i] = q at x0 x1 x2 x3 HA HM
      obtain ⟨cn, t⟩ := q
      simp only at x0 x1 x2 x3 HA HM
      simp only [ResT, tyV] at HA
      have hiz : (i : Int) < (l.length : Int) := by omega
      go_wp2
      have hbx := alloc_new wr (.cells #[.string cn, .int .i64 t.kind, .string t.name, .slice pa t.kids.length pc] 55)
      have hbb := below_a wr (.cells #[.string cn, .int .i64 t.kind, .string t.name, .slice pa t.kids.length pc] 55)
      have y0' : (wr.alloc (.cells #[.string cn, .int .i64 t.kind, .string t.name, .slice pa t.kids.length pc] 55)).cell? ⟨w.heap.size, 0, none⟩ = some (.slice sa d.length sc) := (hbb.cell (p := ⟨w.heap.size, 0, none⟩) ly).trans y0
      obtain ⟨V, hV⟩ : ∃ V, wr.alloc (.cells #[.string cn, .int .i64 t.kind, .string t.name, .slice pa t.kids.length pc] 55) = V := ⟨_, rfl⟩
      rw [hV] at hbx hbb y0' ⊢
      obtain ⟨v0, v1, v2, v3⟩ := four_cells hbx
      have HBX := Lib.hid hbx; have HBB := Lib.hid hbb
      have lV := (Array.getElem?_eq_some_iff.1 hbx).1
      clear hV hbx hbb x0 x1 x2 x3 y0
      go_region_with (first
        | (go_at_call 41; refine (HA.out _ ((HB.out.trans (HBB.out.mono HB.out.size)).drew)).mono ?_; rintro e w4 ⟨⟨a4, c4, rfl, g1⟩, g2⟩; have hB4 : Below wr.heap.size wr w4 := (HBB.out.drew).trans (g2.mono HBB.out.size); have hR4 := HRw.out.below hB4; obtain ⟨o0, o1, o2, o3, k0, k1, k2, k3⟩ := hR4.cells hlt; have f0 := Lib.frozen_of_heap hR4.row.choose_spec.1 (i * 4); have f1 := Lib.frozen_of_heap hR4.row.choose_spec.1 (i * 4 + 1); have f2 := Lib.frozen_of_heap hR4.row.choose_spec.1 (i * 4 + 2); have f3 := Lib.frozen_of_heap hR4.row.choose_spec.1 (i * 4 + 3); obtain ⟨n0, n1, n2, n3⟩ := four_cells ((g2.block _ lV).trans HBX.out); have HB4 := Lib.hid hB4; have HR4 := Lib.hid hR4; have HG1 := Lib.hid g1.tys; clear g1 g2 hB4 hR4))
      all_goals
        go_wp2
        have HP := HR4.out.push (by rw [HLen.out]; exact hlt) (⟨cn, app d t, a4, c4⟩ : PR)
        rw [HLen.out] at HP
        have HF4 := Lib.hid ((Fr.of_below (g := w.heap.size + 1) HB4.out).trans (Fr.set4 (w.heap.size + 1) i w4 (⟨cn, app d t, a4, c4⟩ : PR)))
        have hk1 := HR4.out.keepT (Fr.set4 (w.heap.size + 1) i w4 (⟨cn, app d t, a4, c4⟩ : PR))
        have hk2 : KeepT wr w4 := KeepT.of_below HB4.out
        go_roundw
        case rel =>
          refine ⟨i + 1, ls ++ [⟨cn, app d t, a4, c4⟩], by omega, by go_num, Lib.hid ⟨⟨by simp [HLen.out], ?_⟩, HP, ?_, HB.out.trans (HF4.out.below (by omega) HB.out.size)⟩, Lib.hid ((HF4.out.2 _ ly (by omega)).trans hBx.out)⟩
          · rw [List.map_append, HMap.out, HM.out]; rfl
          · intro y hy
            rcases List.mem_append.1 hy with hy | hy
            · exact ((HTy.out y hy).keep hk2).keep hk1
            · obtain rfl := List.mem_singleton.1 hy
              exact HG1.out.keep hk1
        case measure => simp [intOf]; omega
    · obtain rfl : i = l.length := by omega
      have hm := hF.out.1.2
      rw [List.take_length] at hm
      have HE := Lib.hid (And.intro hm (And.intro hF.out.2.1.row hF.out.2.2.1)); have HBz := Lib.hid hF.out.2.2.2
      clear hm hmk HRow hF
      go_wp2
      go_ret
      exact ⟨⟨ls, HE.out.1, rfl, HE.out.2⟩, HBz.out⟩
theorem appP_nil (l : List Pr) : appP [] l = l := by
  unfold appP
  rw [List.map_congr_left (g := id) fun q _ => by rw [app_nil]; rfl, List.map_id]
theorem kept_strict {A : Array PR} (h : LeTo A.size A.toList) : (keptUpTo (kpQ A) A A.size).Pairwise (fun x y => cmpR x y < 0) := by
  unfold keptUpTo
  rw [List.pairwise_map]
  refine List.Pairwise.imp_of_mem ?_ ((List.pairwise_lt_range (n := A.size)).filter (kpQ A))
  intro p q hp hq hlt
  obtain ⟨hq1, hq2⟩ := List.mem_filter.1 hq
  have hqs : q < A.size := List.mem_range.1 hq1
  have hk : q = 0 ∨ cmpR A[q]! A[q - 1]! ≠ 0 := of_decide_eq_true hq2
  have hk := hk.resolve_left (by omega)
  have e : ∀ i, i < A.size → A.toList.getD i noP = A[i]! := fun i hi => getD_bang A i hi
  have h1 := h (q - 1) q (by omega) hqs
  rw [e _ (by omega), e _ hqs] at h1
  have hn := cmpR_neg A[q]! A[q - 1]!
  by_cases hpq : p = q - 1
  · rw [hpq]; omega
  · have h2 := h p (q - 1) (by omega) (by omega)
    have h3 := h p q hlt hqs
    rw [e _ (by omega), e _ (by omega)] at h2
    rw [e _ (by omega), e _ hqs] at h3
    have ht := cmpR_tri A[p]! A[q - 1]! A[q]!
    unfold Tri at ht
    have ht3 := ht.2.2.1 h2 h1
    by_cases h0 : cmpR A[p]! A[q]! = 0
    · have := (ht3 h0).2; omega
    · omega
theorem kept_mem {A : Array PR} (q : Pr) : q ∈ (keptUpTo (kpQ A) A A.size).map prOf ↔ q ∈ A.toList.map prOf := by
  constructor
  · intro h
    obtain ⟨x, hx, rfl⟩ := List.mem_map.1 h
    unfold keptUpTo at hx
    obtain ⟨j, hj, rfl⟩ := List.mem_map.1 hx
    exact List.mem_map.2 ⟨_, bang_memR (List.mem_range.1 (List.mem_filter.1 hj).1), rfl⟩
  · intro h
    obtain ⟨x, hx, rfl⟩ := List.mem_map.1 h
    obtain ⟨j, hj, rfl⟩ := mem_getD hx
    have hj' : j < A.size := by simpa using hj
    rw [getD_bang A j hj']
    have key : ∀ j, j < A.size → prOf A[j]! ∈ (keptUpTo (kpQ A) A A.size).map prOf := by
      intro j
      induction j with
      | zero => intro hj; exact List.mem_map.2 ⟨_, List.mem_map.2 ⟨0, List.mem_filter.2 ⟨List.mem_range.2 hj, kpQ_true (.inl rfl)⟩, rfl⟩, rfl⟩
      | succ j ih =>
        intro hj
        by_cases hk : cmpR A[j + 1]! A[j]! = 0
        · have e := (cmpR_zero _ _).1 hk
          have : prOf A[j + 1]! = prOf A[j]! := by unfold prOf; rw [e.1, e.2]
          rw [this]; exact ih (by omega)
        · exact List.mem_map.2 ⟨_, List.mem_map.2 ⟨j + 1, List.mem_filter.2 ⟨List.mem_range.2 hj, kpQ_true (.inr (by simpa using hk))⟩, rfl⟩, rfl⟩
    exact key j hj'
end Go.Proofs.YtdidgddcgjpokaaGreatDoor
/- Schemes with a context. -/
namespace Go.Proofs.YtdidgddcgjpokaaGreatDoor
open Go.RowKit Go.Sort Go.Lib
attribute [local go_sem] Oper.semAt_some

/-- What rename's last statement keeps, with a context. -/
def SRc (w : World) (b3 b6 b10 : Nat) (xv : Value) (xa : Option Addr) (xc : Nat) (lc : List Pr) (t : T) (ta : Option Addr) (tc : Nat) (sa : Option Addr) (sc : Nat) (l : List PR) (V : World) : Prop :=
  SR w b3 b6 b10 xv (.slice xa lc.length xc) t ta tc sa sc l V ∧ PrsAt V (.slice xa lc.length xc) lc
theorem SRc.below {w : World} {b3 b6 b10 : Nat} {xv : Value} {xa : Option Addr} {xc : Nat} {lc : List Pr} {t : T} {ta : Option Addr} {tc : Nat} {sa : Option Addr} {sc : Nat} {l : List PR} {V Y : World} (h : SRc w b3 b6 b10 xv xa xc lc t ta tc sa sc l V) (hb : Below V.heap.size V Y) : SRc w b3 b6 b10 xv xa xc lc t ta tc sa sc l Y :=
  ⟨h.1.below hb, h.2.keep (KeepT.of_below hb) (KeepP.of_below hb)⟩
end Go.Proofs.YtdidgddcgjpokaaGreatDoor
/- A loop over an iterator whose rounds are told something of the memory beside what they are handed (an error that the iterator has just made), and that goes on reading blocks of its own behind a round: our own contract and our own law for the caller, over the library's steps of the loop's record. -/
namespace Go.Proofs.YtdidgddcgjpokaaGreatDoor
open Go.RowKit

end Go.Proofs.YtdidgddcgjpokaaGreatDoor
/- A loop over an iterator, once more: the rounds are told of the memory since the last round's end; the loop may be left by one jump (a return, or a break); what a round's frame holds may hang on what the body keeps. -/
namespace Go.Proofs.YtdidgddcgjpokaaGreatDoor
open Go.RowKit

end Go.Proofs.YtdidgddcgjpokaaGreatDoor
/- (Subst).Pairs: the pairs, told one by one. -/
namespace Go.Proofs.YtdidgddcgjpokaaGreatDoor
open Go.RowKit Go.Sort Go.Lib
attribute [local go_sem] Oper.semAt_some

/-- Rows of types, all of them in blocks that are ok. -/
theorem TyAt.inside {ok : Nat → Prop} {w : World} (hk : ∀ (k : Nat) (cs : Array Value) (fz : Nat × Nat), w.heap[k]? = some (.cells cs 31 fz) → ok k) {t : T} {k n v : Value} (h : TyAt w t k n v) : TyIn ok w t v := by
  induction h with
  | leaf t a c h => exact .leaf t a c h
  | row t g cap cs fz x y z h1 h2 h3 h4 ih =>
    refine .row t g cap cs fz z (hk _ _ _ h1) h1 h2 (fun i hi => ?_) ih
    obtain ⟨e1, e2, _⟩ := (h4 i hi).shape
    obtain ⟨c1, c2, c3⟩ := h3 i hi
    exact ⟨by rw [c1, e1], by rw [c2, e2], c3⟩
theorem TysAt.inside {ok : Nat → Prop} {w : World} (hk : ∀ (k : Nat) (cs : Array Value) (fz : Nat × Nat), w.heap[k]? = some (.cells cs 31 fz) → ok k) {t : T} {v : Value} (h : TysAt w v t.kids) : TyIn ok w t v := (TyAt.mk t h).inside hk
def KeepK (K : Nat → Prop) (X W : World) : Prop := ∀ k, K k → k < X.heap.size → W.heap[k]? = X.heap[k]?
theorem KeepK.trans {K : Nat → Prop} {X Y Z : World} (h : KeepK K X Y) (k : KeepK K Y Z) (hs : X.heap.size ≤ Y.heap.size) : KeepK K X Z := fun i hi hx => (k i hi (by omega)).trans (h i hi hx)
theorem TyIn.keepK {K : Nat → Prop} {X W : World} {t : T} {v : Value} (h : TyIn K X t v) (hk : KeepK K X W) : TyIn K W t v := h.keep fun k _ _ h1 h2 => (hk k h1 (Array.getElem?_eq_some_iff.1 h2).1).trans h2
end Go.Proofs.YtdidgddcgjpokaaGreatDoor
/- (Subst).Pairs as a call; small facts of loops over it. -/
namespace Go.Proofs.YtdidgddcgjpokaaGreatDoor
open Go.RowKit Go.Sort Go.Lib
attribute [local go_sem] Oper.semAt_some

end Go.Proofs.YtdidgddcgjpokaaGreatDoor
