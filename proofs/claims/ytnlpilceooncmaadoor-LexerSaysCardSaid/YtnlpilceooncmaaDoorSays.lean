/- The words of any bytes, told by the program and by the reference: the law's walk. -/
import Derived.Test.YtnlpilceooncmaaDoorSameToks
import Derived.Test.YtnlpilceooncmaaDoorPlacesPlain
namespace Go.Proofs.YtnlpilceooncmaaDoor
open Go.RowKit
attribute [local go_sem] Oper.semAt_some

theorem split_ok (v : Value) (s : ByteArray) (hs : s.size ≤ 20000) (aL : Addr) (ts : List Tok) (hr : Runs s.data.toList (skipTo s.data.toList 0) ts none) (w : World)
    (hv : BytesAt w v s) (hE : w.cell? ⟨0, 0, none⟩ = some (errL aL)) :
    Calls Tryd.prog 10 #[v] w fun e W => (∃ u, e = .returned (.tuple #[u, .nilIface]) ∧ TokRow W u s ts) ∧ Below w.heap.size w W :=
  (split_any v s hs aL ts none hr w hv hE).mono fun _ _ ⟨hb, h⟩ => by
    rcases h with ⟨_, u, he, hrow⟩ | ⟨p, b, he, _⟩
    · exact ⟨⟨u, he, TokRow.of_row hrow⟩, hb⟩
    · cases he
theorem split_bad (v : Value) (s : ByteArray) (hs : s.size ≤ 20000) (aL : Addr) (ts : List Tok) (p : Nat) (hr : Runs s.data.toList (skipTo s.data.toList 0) ts (some p)) (w : World)
    (hv : BytesAt w v s) (hE : w.cell? ⟨0, 0, none⟩ = some (errL aL)) :
    Calls Tryd.prog 10 #[v] w fun e W => (∃ b, e = .returned (.tuple #[.slice none 0 0, errVal b]) ∧ AtBlock W b p (errL aL)) ∧ Below w.heap.size w W :=
  (split_any v s hs aL ts (some p) hr w hv hE).mono fun _ _ ⟨hb, h⟩ => by
    rcases h with ⟨he, _⟩ | ⟨p', b, he, h1, h2⟩
    · cases he
    · cases he; exact ⟨⟨b, h1, h2⟩, hb⟩
theorem rsplit_ok (a : Option Addr) (cap : Nat) (s : ByteArray) (hs : s.size ≤ 20000) (hcap : s.size ≤ cap) (ts : List Tok) (hr : Runs s.data.toList (skipTo s.data.toList 0) ts none) (w : World)
    (ha : BytesAt w (.slice a s.size cap) s) :
    Calls Tryd.prog 11 #[.slice a s.size cap] w fun e W => (∃ u, e = .returned (.tuple #[u, faultV 0 false 0]) ∧ TokRow W u s ts) ∧ Below w.heap.size w W :=
  (rsplit_any a cap s hs hcap ts none hr w (by obtain ⟨a', cap', e, h⟩ := ha; cases e; exact h)).mono fun _ _ ⟨hb, h⟩ => by
    rcases h with ⟨_, u, he, hrow⟩ | ⟨p, he, _⟩
    · exact ⟨⟨u, he, TokRow.of_row hrow⟩, hb⟩
    · cases he
theorem rsplit_bad (a : Option Addr) (cap : Nat) (s : ByteArray) (hs : s.size ≤ 20000) (hcap : s.size ≤ cap) (ts : List Tok) (p : Nat) (hr : Runs s.data.toList (skipTo s.data.toList 0) ts (some p)) (w : World)
    (ha : BytesAt w (.slice a s.size cap) s) :
    Calls Tryd.prog 11 #[.slice a s.size cap] w fun e W => e = .returned (.tuple #[.slice none 0 0, faultV 101 true p]) ∧ Below w.heap.size w W :=
  (rsplit_any a cap s hs hcap ts (some p) hr w (by obtain ⟨a', cap', e, h⟩ := ha; cases e; exact h)).mono fun _ _ ⟨hb, h⟩ => by
    rcases h with ⟨he, _⟩ | ⟨p', he, h1⟩
    · cases he
    · cases he; exact ⟨h1, hb⟩
theorem same_nil (w : World) : Calls Tryd.prog 13 #[.nilIface, faultV 0 false 0] w fun e w' => e = .returned (.bool true) ∧ Below w.heap.size w w' :=
  same_gen _ _ _ _ w fun W _ => fault_nil W

/-- What both tell of a text: the words and no error, or the place of the first that is none. -/
def Told2 (er : Option Nat) (c p : Int) (pl : Bool) (tr ts : List Tok) : Prop :=
  (er = none ∧ c = 0 ∧ pl = false ∧ p = 0 ∧ tr = ts) ∨ (∃ k : Nat, er = some k ∧ c = 101 ∧ pl = true ∧ p = k ∧ tr = [])
def ErrIs (W : World) (ev : Value) (aL : Addr) (c p : Int) (pl : Bool) : Prop :=
  (ev = .nilIface ∧ c = 0 ∧ pl = false ∧ p = 0) ∨ (∃ (k b : Nat), ev = errVal b ∧ c = 101 ∧ pl = true ∧ p = k ∧ AtBlock W b k (errL aL))
theorem ErrIs.later {W W' : World} {ev : Value} {aL : Addr} {c p : Int} {pl : Bool} (h : ErrIs W ev aL c p pl) (hb : Below W.heap.size W W') : ErrIs W' ev aL c p pl := by
  rcases h with h | ⟨k, b, h1, h2, h3, h4, h5⟩
  · exact .inl h
  · exact .inr ⟨k, b, h1, h2, h3, h4, (hb.block b (Array.getElem?_eq_some_iff.1 h5).1).trans h5⟩
theorem split_gen (v : Value) (s : ByteArray) (hs : s.size ≤ 20000) (aL : Addr) (ts tr : List Tok) (er : Option Nat) (c p : Int) (pl : Bool) (hT : Told2 er c p pl tr ts) (hr : Runs s.data.toList (skipTo s.data.toList 0) ts er) (w : World)
    (hv : BytesAt w v s) (hE : w.cell? ⟨0, 0, none⟩ = some (errL aL)) :
    Calls Tryd.prog 10 #[v] w fun e W => (∃ u ev, e = .returned (.tuple #[u, ev]) ∧ TokRow W u s tr ∧ ErrIs W ev aL c p pl) ∧ Below w.heap.size w W := by
  rcases hT with ⟨rfl, rfl, rfl, rfl, rfl⟩ | ⟨k, rfl, rfl, rfl, rfl, rfl⟩
  · refine (split_ok v s hs aL _ hr w hv hE).mono ?_
    rintro e W ⟨⟨u, he, hr2⟩, hb⟩
    exact ⟨⟨u, _, he, hr2, .inl ⟨rfl, rfl, rfl, rfl⟩⟩, hb⟩
  · refine (split_bad v s hs aL _ k hr w hv hE).mono ?_
    rintro e W ⟨⟨b, he, hat⟩, hb⟩
    exact ⟨⟨_, _, he, .inl ⟨rfl, rfl⟩, .inr ⟨k, b, rfl, rfl, rfl, rfl, hat⟩⟩, hb⟩
theorem rsplit_gen (a : Option Addr) (cap : Nat) (s : ByteArray) (hs : s.size ≤ 20000) (hcap : s.size ≤ cap) (ts tr : List Tok) (er : Option Nat) (c p : Int) (pl : Bool) (hT : Told2 er c p pl tr ts) (hr : Runs s.data.toList (skipTo s.data.toList 0) ts er) (w : World)
    (ha : BytesAt w (.slice a s.size cap) s) :
    Calls Tryd.prog 11 #[.slice a s.size cap] w fun e W => (∃ u, e = .returned (.tuple #[u, .agg #[.int .i64 c, .bool pl, .int .i64 p]]) ∧ TokRow W u s tr) ∧ Below w.heap.size w W := by
  rcases hT with ⟨rfl, rfl, rfl, rfl, rfl⟩ | ⟨k, rfl, rfl, rfl, rfl, rfl⟩
  · exact rsplit_ok a cap s hs hcap _ hr w ha
  · refine (rsplit_bad a cap s hs hcap _ k hr w ha).mono ?_
    rintro e W ⟨he, hb⟩
    exact ⟨⟨_, he, .inl ⟨rfl, rfl⟩⟩, hb⟩
theorem same_both (ev : Value) (aL : Addr) (c p : Int) (pl : Bool) (w : World) (h : ErrIs w ev aL c p pl) (hE : w.cell? ⟨0, 0, none⟩ = some (errL aL)) (hA : ErrsAt w) :
    Calls Tryd.prog 13 #[ev, .agg #[.int .i64 c, .bool pl, .int .i64 p]] w fun e w' => e = .returned (.bool true) ∧ Below w.heap.size w w' := by
  rcases h with ⟨rfl, rfl, rfl, rfl⟩ | ⟨k, b, rfl, rfl, rfl, rfl, hat⟩
  · exact same_nil w
  · exact same_at aL b k w hE hA hat
theorem sameFault_both (c p : Int) (pl : Bool) (w : World) :
    Calls Tryd.prog 17 #[.agg #[.int .i64 c, .bool pl, .int .i64 p], .agg #[.int .i64 c, .bool pl, .int .i64 p]] w fun e w' => e = .returned (.bool true) ∧ Below w.heap.size w w' := sameFault_eq c p pl w
/-- Block D holds a fault. -/
def FD (W : World) (D : Nat) (c p : Int) (pl : Bool) : Prop := W.heap[D]? = some (.cells #[.int .i64 c, .bool pl, .int .i64 p] 30 (0, 0))
theorem FD.cells {W : World} {D : Nat} {c p : Int} {pl : Bool} (h : FD W D c p pl) : (W.cell? ⟨D, 0, none⟩ = some (.int .i64 c) ∧ W.cell? ⟨D, 1, none⟩ = some (.bool pl) ∧ W.cell? ⟨D, 2, none⟩ = some (.int .i64 p)) ∧
    W.frozen? ⟨D, 0, none⟩ = false ∧ W.frozen? ⟨D, 1, none⟩ = false ∧ W.frozen? ⟨D, 2, none⟩ = false := by
  have h' : W.heap[D]? = some (.cells #[.int .i64 c, .bool pl, .int .i64 p] 30 (0, 0)) := h
  exact ⟨⟨by simp [World.cell?, h'], by simp [World.cell?, h'], by simp [World.cell?, h']⟩, by simp [World.frozen?, h'], by simp [World.frozen?, h'], by simp [World.frozen?, h']⟩
theorem FD.later {W W' : World} {D : Nat} {c p : Int} {pl : Bool} {N : Nat} (h : FD W D c p pl) (hb : Below N W W') (hD : D < N) : FD W' D c p pl := (hb.block D hD).trans h
theorem FD.new (W : World) (c p : Int) (pl : Bool) : FD (W.alloc (.cells #[.int .i64 c, .bool pl, .int .i64 p] 30)) W.heap.size c p pl := World.alloc_heap_new W _

def codeOf : Option Nat → Int | none => 0 | some _ => 101
def posOf : Option Nat → Int | none => 0 | some k => k
def plOf : Option Nat → Bool | none => false | some _ => true
def tailI : Option Nat → Nat → List Item | none, _ => [] | some k, b => [.inr (k, b)]
theorem others_of_below {X Y : World} (h : Below X.heap.size X Y) : KeepsOthers X Y := ⟨h.size, fun k _ hk _ => (h.block k (Array.getElem?_eq_some_iff.1 hk).1).trans hk⟩
/-- Three stores into a fault's block. -/
def set3 (W : World) (D : Nat) (c p : Int) (pl : Bool) : World := ((W.setCell ⟨D, 0, none⟩ (.int .i64 c)).setCell ⟨D, 1, none⟩ (.bool pl)).setCell ⟨D, 2, none⟩ (.int .i64 p)
theorem set3_block (W : World) (D : Nat) (c p : Int) (pl : Bool) (k : Nat) (h : k ≠ D) : (set3 W D c p pl).heap[k]? = W.heap[k]? :=
  (Below.heap_setCell _ _ _ k h).trans ((Below.heap_setCell _ _ _ k h).trans (Below.heap_setCell _ _ _ k h))
theorem set3_size (W : World) (D : Nat) (c p : Int) (pl : Bool) : (set3 W D c p pl).heap.size = W.heap.size := by simp [set3]
theorem block_set {W : World} {b o : Nat} {cs : Array Value} {T : TypeId} {m : Nat × Nat} (h : W.heap[b]? = some (.cells cs T m)) (v : Value) : (W.setCell ⟨b, o, none⟩ v).heap[b]? = some (.cells (cs.setIfInBounds o v) T m) := by
  obtain ⟨hlt, hk⟩ := Array.getElem?_eq_some_iff.1 h
  show (W.heap.modify b _)[b]? = _
  rw [Array.getElem?_eq_getElem (by rw [Array.size_modify]; exact hlt), Array.getElem_modify_self, hk]
  rfl
theorem set3_FD {W : World} {D : Nat} {c p c' p' : Int} {pl pl' : Bool} (h : FD W D c p pl) : FD (set3 W D c' p' pl') D c' p' pl' := by
  have := block_set (o := 2) (block_set (o := 1) (block_set (o := 0) h (.int .i64 c')) (.bool pl')) (.int .i64 p')
  exact this
theorem set3_grown (W : World) (D : Nat) (c p : Int) (pl : Bool) : W.grownBy (set3 W D c p pl) (some D) :=
  ⟨rfl, rfl, rfl, by rw [set3_size]; exact Nat.le_refl _, fun k _ hk => set3_block W D c p pl k (fun e => hk (by rw [e]))⟩
theorem set3_below {n : Nat} {W0 W : World} {D : Nat} (h : Below n W0 W) (hD : n ≤ D) (c p : Int) (pl : Bool) : Below n W0 (set3 W D c p pl) :=
  ((h.setCell (p := ⟨D, 0, none⟩) hD _).setCell (p := ⟨D, 1, none⟩) hD _).setCell (p := ⟨D, 2, none⟩) hD _
theorem set3_others (W : World) (D : Nat) (c p : Int) (pl : Bool) : KeepsOthers W (set3 W D c p pl) := ((KeepsOthers.setCell _ _ _).trans (KeepsOthers.setCell _ _ _)).trans (KeepsOthers.setCell _ _ _)
theorem set3_four (W : World) (D : Nat) (c p : Int) (pl : Bool) (x y z v : Value) (T : TypeId) : ∀ j u, [x, y, z, v][j]? = some u → ((set3 W D c p pl).alloc (.cells #[x, y, z, v] T)).cell? ((⟨W.heap.size, 0, none⟩ : Addr).add j) = some u := by
  have := cell_four_new (set3 W D c p pl) x y z v T
  rwa [set3_size] at this
theorem FD_not_row {W : World} {D : Nat} {c p : Int} {pl : Bool} (h : FD W D c p pl) {base : Nat} {v : Value} {n : Nat} {xs : List Value} (hr : W.ownsRow base 40 4 v n xs) : some D ≠ v.ownBlock := by
  rcases hr.2 with ⟨rfl, _⟩ | ⟨g, cap, cur, rfl, _, hgb, _⟩
  · simp [Value.ownBlock]
  · intro e
    obtain rfl : D = g := by simpa [Value.ownBlock] using e
    have := (show W.heap[D]? = _ from h).symm.trans hgb
    simp at this
theorem pre_end (ts q : List Tok) (er st : Option Nat) (b : Nat) (h : SAll ts er (q.map .inl ++ tailI st b)) : (er = none ∧ st = none ∧ q = ts) ∨ ∃ k, er = some k ∧ st = some k := by
  rcases h with ⟨he, h⟩ | ⟨k, b', he, h⟩
  · cases st with
    | none => exact .inl ⟨he, rfl, map_inl_inj (by simpa [tailI] using h)⟩
    | some k => exact (map_inl_no h.symm).elim
  · cases st with
    | none => exact (map_inl_no (by simpa [tailI] using h)).elim
    | some k' =>
      have := List.append_inj_right' h rfl
      simp [tailI] at this
      exact .inr ⟨k, he, by rw [this.1]⟩
theorem no_two (ts : List Tok) (er : Option Nat) (q : List Item) (r : Nat × Nat) (y : Item) (h : SpAll ts er (q ++ [.inr r, y])) : False := by
  rcases h with ⟨q', _, h⟩ | ⟨k, b, _, h⟩
  · have : (Sum.inr r : Item) ∈ (q'.map Sum.inl : List Item) := by rw [← h]; simp
    simp at this
  · have h2 : (q ++ [.inr r]) ++ [y] = ts.map .inl ++ [.inr (k, b)] := by simpa using h
    have := List.append_inj_left' h2 rfl
    exact map_inl_no this.symm

set_option maxRecDepth 100000 in
set_option maxHeartbeats 4000000 in
theorem says_any (a : Option Addr) (cap : Nat) (s t : ByteArray) (hs : s.size ≤ 500) (ht : t.size ≤ 80) (hcap : s.size ≤ cap) (aL : Addr) (ts tr : List Tok) (er : Option Nat) (c p : Int) (pl : Bool) (hT : Told2 er c p pl tr ts)
    (hr : Runs s.data.toList (skipTo s.data.toList 0) ts er) (w : World) (hv : BytesAt w (.slice a s.size cap) s) (hE : w.cell? ⟨0, 0, none⟩ = some (errL aL)) (hA : ErrsAt w) :
    Calls Tryd.prog 3 #[.slice a s.size cap, .string t] w fun e w' => e = .returned (.bool true) ∧ Below w.heap.size w w' := by
  obtain ⟨i0, hi, hz0, hz1, hz2⟩ := info_parts Tryd.info40
  have hg := World.block_lt_of_cell? _ _ hE
  have hlen := runs_length _ _ _ _ hr
  rw [length_data] at hlen
  have htr : tr.length ≤ ts.length := by
    rcases hT with ⟨_, _, _, _, h⟩ | ⟨_, _, _, _, _, h⟩ <;> rw [h] <;> simp
  have Hr := Lib.hid hr; clear hr
  have HT := Lib.hid hT; clear hT
  have HV := Lib.hid hv; clear hv
  have HE := Lib.hid (fun W (h : Below w.heap.size w W) => (h.cell (p := ⟨0, 0, none⟩) hg).trans hE); clear hE
  have HA := Lib.hid hA; clear hA
  have hd500 : decide ((500 : Int) < (s.size : Int)) = false := by simp; omega
  have hd80 : decide ((80 : Int) < (t.size : Int)) = false := by simp; omega
  have HNN := Lib.hid (fun W => none_any W)
  unfold faultV at HNN
  have HB0 := Lib.hid (fun o : Obj => (Below.refl w.heap.size w).alloc (Nat.le_refl _) o)
  refine (callsIn_wide (n := 3)).1 ?_
  refine callsIn_of_wp_marks Tryd.func3 rfl trivial ?_ rfl
  simp only [Tryd.ntmps3, List.size_toArray, List.length_cons, List.length_nil, Nat.reduceAdd, Nat.reduceSub, Array.replicate_succ, Array.replicate_zero, List.push_toArray, List.append_toArray, List.nil_append, List.cons_append]
  gi_wp2_with (first
    | (refine ⟨trivial, ?_⟩; gi_at_call 9; refine (callsIn_wide.2 (first_any aL _ (HE.out _ (HB0.out _)))).mono ?_; rintro e w1 ⟨rfl, hb1⟩
       have HR1 := Lib.hid (show Boxed w1 w.heap.size 4 (.bool false) from (hb1.block w.heap.size (by simp)).trans (Boxed.new w _ _))
       have HB1 := Lib.hid ((HB0.out _).trans (hb1.mono (by simp)))
       have hz1w : w.heap.size < w1.heap.size := by have := hb1.size; simp at this; omega
       clear hb1)
    | (refine ⟨trivial, ?_⟩; gi_at_call 10; refine (callsIn_wide.2 (split_gen _ s (by omega) aL ts tr er c p pl HT.out Hr.out _ (HV.out.later HB1.out) (HE.out _ HB1.out))).mono ?_; rintro e w2 ⟨⟨ul, ev, rfl, hrow2, her2⟩, hb2⟩
       have HR2 := Lib.hid (show Boxed w2 w.heap.size 4 (.bool false) from (hb2.block w.heap.size hz1w).trans HR1.out)
       have HB2 := Lib.hid (HB1.out.trans (hb2.mono HB1.out.size)); have HL2 := Lib.hid hrow2; have HER2 := Lib.hid her2
       have hz2w : w1.heap.size ≤ w2.heap.size := hb2.size
       clear hb2 hrow2 her2)
    | (refine ⟨trivial, ?_⟩; gi_at_call 11; refine (callsIn_wide.2 (rsplit_gen a cap s (by omega) hcap ts tr er c p pl HT.out Hr.out _ (HV.out.later HB2.out))).mono ?_; rintro e w3 ⟨⟨ux, rfl, hrow3⟩, hb3⟩
       have HR3 := Lib.hid (show Boxed w3 w.heap.size 4 (.bool false) from (hb3.block w.heap.size (by omega)).trans HR2.out)
       have HB3 := Lib.hid (HB2.out.trans (hb3.mono HB2.out.size)); have HX3 := Lib.hid hrow3; have HL3 := Lib.hid (HL2.out.later hb3); have HER3 := Lib.hid (HER2.out.later hb3)
       have hz3w : w2.heap.size ≤ w3.heap.size := hb3.size
       clear hb3 hrow3)
    | (refine ⟨trivial, ?_⟩; gi_at_call 12; refine (callsIn_wide.2 (sameToks_any ul ux s tr _ (by omega) (HL3.out.later ((Below.refl _ _).alloc (Nat.le_refl _) _)) (HX3.out.later ((Below.refl _ _).alloc (Nat.le_refl _) _)))).mono ?_; rintro e w4 ⟨rfl, hb4⟩
       have HF4 := Lib.hid ((FD.new w3 c p pl).later hb4 (by simp))
       obtain ⟨⟨f0, f1, f2⟩, _⟩ := HF4.out.cells
       have hb34 := ((Below.refl w3.heap.size w3).alloc (Nat.le_refl _) (.cells #[.int .i64 c, .bool pl, .int .i64 p] 30)).trans (hb4.mono (by simp))
       have HR4 := Lib.hid (show Boxed w4 w.heap.size 4 (.bool false) from (hb34.block w.heap.size (by omega)).trans HR3.out)
       have HB4 := Lib.hid (HB3.out.trans (hb34.mono HB3.out.size))
       have HX4 := Lib.hid (HX3.out.later hb34)
       have HER4 := Lib.hid (HER3.out.later hb34)
       have hz4 : w3.heap.size < w4.heap.size := by have := hb4.size; simp at this; omega
       clear hb4 hb34)
    | (refine ⟨trivial, ?_⟩; gi_at_call 13; refine (callsIn_wide.2 (same_both ev aL c p pl _ HER4.out (HE.out _ HB4.out) (HA.out.later HB4.out))).mono ?_; rintro e w5 ⟨rfl, hb5⟩
       have HF5 := Lib.hid (HF4.out.later hb5 hz4)
       have HR5 := Lib.hid (show Boxed w5 w.heap.size 4 (.bool false) from (hb5.block w.heap.size (by omega)).trans HR4.out)
       have HB5 := Lib.hid (HB4.out.trans (hb5.mono HB4.out.size))
       have HX5 := Lib.hid (HX4.out.later hb5)
       have hz5 : w4.heap.size ≤ w5.heap.size := hb5.size
       clear hb5 f0 f1 f2)
    | (refine ⟨trivial, ?_⟩; gi_at_call 14; refine (callsIn_wide.2 (HNN.out _)).mono ?_; rintro e w6 ⟨rfl, hb6⟩
       have HM6 := Lib.hid (show Boxed w6 w5.heap.size 24 (.slice none 0 0) from (hb6.block w5.heap.size (by simp)).trans (Boxed.new w5 _ _))
       have hb56 := ((Below.refl w5.heap.size w5).alloc (Nat.le_refl _) (.cells #[.slice none 0 0] 24)).trans (hb6.mono (by simp))
       have HB56 := Lib.hid hb56
       have HB6 := Lib.hid (HB5.out.trans (hb56.mono HB5.out.size))
       have hz6 : w5.heap.size < w6.heap.size := by have := hb6.size; simp at this; omega
       clear hb6 hb56)
    | (refine ⟨trivial, ?_⟩; gi_at_call 15; refine (callsIn_wide.2 (all_any _ s _ (HV.out.later (HB6.out.alloc HB6.out.size _)) (by omega))).mono ?_; rintro e w' ⟨rfl, rfl⟩))
  have bM : Boxed ((w6.alloc (.cells #[.int .i64 0, .bool false, .int .i64 0] 30)).alloc (.cells #[.string s] 9)) w5.heap.size 24 (.slice none 0 0) := (HM6.out.alloc _).alloc _
  have bD : FD ((w6.alloc (.cells #[.int .i64 0, .bool false, .int .i64 0] 30)).alloc (.cells #[.string s] 9)) w6.heap.size 0 0 false := (Below.heap_alloc _ _ _ (by simp)).trans (FD.new w6 0 0 false)
  have bS := Boxed.new (w6.alloc (.cells #[.int .i64 0, .bool false, .int .i64 0] 30)) 9 (.string s)
  simp only [World.size_alloc] at bS
  have h50 := ((HB56.out.alloc HB56.out.size (.cells #[.int .i64 0, .bool false, .int .i64 0] 30)).alloc (by have := HB56.out.size; simp; omega) (.cells #[.string s] 9))
  have hB0 := ((HB6.out.alloc HB6.out.size (.cells #[.int .i64 0, .bool false, .int .i64 0] 30)).alloc (by have := HB6.out.size; simp; omega) (.cells #[.string s] 9))
  have hsz : ((w6.alloc (.cells #[.int .i64 0, .bool false, .int .i64 0] 30)).alloc (.cells #[.string s] 9)).heap.size = w6.heap.size + 2 := by simp
  obtain ⟨W0, hW0⟩ : ∃ W0, (w6.alloc (.cells #[.int .i64 0, .bool false, .int .i64 0] 30)).alloc (.cells #[.string s] 9) = W0 := ⟨_, rfl⟩
  rw [hW0] at bM bD bS h50 hB0 hsz ⊢
  clear hW0 HM6 HB56 HB6 HNN HB0 HB1 HR1 HB2 HL2 HR2 HER2 HR3 HB3 HX3 HL3 HER3 HF4 HR4 HB4 HX4 HER4 HB5
  have BF5 := HF5.out
  have BR5 := HR5.out
  have BX5 := HX5.out
  obtain ⟨M, hM⟩ : ∃ M, w5.heap.size = M := ⟨_, rfl⟩
  obtain ⟨D, hD⟩ : ∃ D, w6.heap.size = D := ⟨_, rfl⟩
  obtain ⟨F, hF⟩ : ∃ F, w3.heap.size = F := ⟨_, rfl⟩
  have hRM : w.heap.size < M := by omega
  have hFM : F < M := by omega
  have hMD : M < D := by omega
  rw [hM] at bM h50 ⊢
  rw [hD] at bD bS hsz ⊢
  rw [hF] at BF5 ⊢
  have BX := Lib.hid (fun W (h : Below M w5 W) => BX5.later (hM ▸ h)); clear BX5
  clear HF5 HR5 HX5 hz1w hz2w hz3w hz4 hz5 hz6 hM hD hF
  have hE0 : W0.cell? ⟨0, 0, none⟩ = some (errL aL) := HE.out _ hB0
  refine range_told (n := 3) (σ := Value × Option Nat) (by omega) (gf := 31) (lb := #[.pointer (some ⟨D + 1, 0, none⟩)]) rfl (enters_of Tryd.func31 (by kernel_rfl) rfl)
    (all1_told 2 (by omega) s (by omega) (D + 1) aL ts er Hr.out W0 bS.cell hE0)
    (fun k hk => by rcases hk with rfl | rfl <;> omega) (Below.refl _ _) (fun x => by cases x <;> rfl)
    (fun σ pre W => (Boxed W M 24 σ.1 ∧ FD W D (codeOf σ.2) (posOf σ.2) (plOf σ.2)) ∧ Boxed W (D + 1) 9 (.string s) ∧ (∃ q b, pre = q.map .inl ++ tailI σ.2 b ∧ W.ownsRow M 40 4 σ.1 q.length (rowOf s q)) ∧ Below M W0 W)
    (fun pre _ => ∃ q r y, pre = q ++ [.inr r, y])
    (fun σ k => k = M ∨ k = D ∨ σ.1.ownBlock = some k)
    ?hI ?hIx ?hT ⟨(.slice none 0 0, none), ⟨bM, bD⟩, bS, ⟨[], 0, rfl, World.ownsRow_nil _ _ _ _⟩, Below.refl _ _⟩
    (fun x a' W => ∃ Bx, (D + 1 < Bx ∧ W.heap[Bx]? = some (.cells (itemCells s x) 40 (0, 0))) ∧ ExI (errL aL) x W ∧ a' = { tmps := #[.slice a s.size cap, .string t, undef, undef, .pointer (some ⟨w.heap.size, 0, none⟩), .bool true, ul, ev, ux, .pointer (some ⟨F, 0, none⟩), .pointer (some ⟨M, 0, none⟩), .pointer (some ⟨D, 0, none⟩), .pointer (some ⟨Bx, 0, none⟩), itemErr x, .bool true, .bool true, .bool false, .slice a s.size cap, .int IntKind.i64 ↑s.size, .bool false, .bool false, .string t, .int IntKind.i64 ↑t.size, .bool false, .bool false, undef, .tuple #[ul, ev], .slice a s.size cap, .tuple #[ul, ev], ul, ev, .tuple #[ux, .agg #[.int IntKind.i64 c, .bool pl, .int IntKind.i64 p]], .slice a s.size cap, .tuple #[ux, .agg #[.int IntKind.i64 c, .bool pl, .int IntKind.i64 p]], ux, .agg #[.int IntKind.i64 c, .bool pl, .int IntKind.i64 p], ul, ux, .bool true, .bool false, .bool false, ev, .agg #[.int IntKind.i64 c, .bool pl, .int IntKind.i64 p], .bool true, .bool false, .bool false, .agg #[.int IntKind.i64 0, .bool false, .int IntKind.i64 0], .slice a s.size cap, .func (.func 31) #[] #[.pointer (some ⟨D + 1, 0, none⟩)], .agg (itemCells s x), itemErr x, undef, undef, undef, undef, undef, undef, undef, undef, undef, undef, undef, undef, undef, undef, undef, undef, undef, undef, undef, undef, undef, undef, undef, undef, undef, undef, undef, undef, undef, undef, undef, undef, undef, undef, undef, undef, undef, undef, undef, undef, undef, undef, undef, undef, undef, undef, undef, undef, undef, undef, undef, undef, undef, undef, undef, undef, undef, undef, undef], defers := [] })
    ?hAx ?assign ?body ?done ?stop
  case hI => exact fun σ pre X Y row ⟨⟨k1, k2⟩, k3, ⟨q, b, hq, hrow⟩, hB⟩ hgr hrr => ⟨⟨block_kept k1 hgr (fun r e => (hrr r e).2), block_kept k2 hgr (fun r e => (hrr r e).2)⟩, block_kept k3 hgr (fun r e => (hrr r e).2), ⟨q, b, hq, row_kept hrow hgr (fun r e => (hrr r e).2)⟩, ownFrom_below (β := Unit) (by omega) (by omega) () X Y row hB hgr hrr⟩
  case hIx => exact fun pre X Y row h _ _ => h
  case hT =>
    rintro ⟨u, st⟩ pre X k ⟨⟨b1, b2⟩, b3, ⟨q, b, _, hrow⟩, _⟩ ht
    rcases ht with rfl | rfl | ht
    · exact ⟨b1.lt, fun hk => by rcases hk with hk | hk <;> omega⟩
    · exact ⟨(Array.getElem?_eq_some_iff.1 b2).1, fun hk => by rcases hk with hk | hk <;> omega⟩
    · have hl := hrow.lt k ht
      refine ⟨hl.2, fun hk => ?_⟩
      rcases hk with rfl | rfl
      · exact b3.not_row (by decide) hrow ht.symm
      · omega
  case hAx => exact fun x a' _ X Y row ⟨Bx, ⟨k1, k2⟩, k3, k4⟩ hgr hrr => ⟨Bx, ⟨k1, block_kept k2 hgr (fun r e => (hrr r e).2)⟩, exI_kept k3 hgr (fun r e => (hrr r e).2), k4⟩
  case assign =>
    rintro l ⟨u, st⟩ pre x X C ⟨⟨b1, b2⟩, b3, hq, hB⟩ hex hC
    cases x with
    | inl t =>
      dsimp only [encI, tokVal, tokV]
      gi_wp2
      exact hC _ _ ((KeepsOthers.alloc _ _).from _) ((Below.refl _ X).alloc (Nat.le_refl _) _) ⟨X.heap.size, ⟨b3.lt, World.alloc_heap_new X _⟩, trivial, rfl⟩
    | inr r =>
      dsimp only [encI, errVal, tokV]
      gi_wp2
      exact hC _ _ ((KeepsOthers.alloc _ _).from _) ((Below.refl _ X).alloc (Nat.le_refl _) _) ⟨X.heap.size, ⟨b3.lt, World.alloc_heap_new X _⟩, (Below.heap_alloc X _ _ (Array.getElem?_eq_some_iff.1 hex).1).trans hex, rfl⟩
  case body =>
    rintro l ⟨u, st⟩ pre x a' X ⟨⟨b1, b2⟩, b3, ⟨q, bq, rfl, hrow⟩, hB⟩ hlen ⟨Bx, ⟨hBx, hcx⟩, hex, rfl⟩
    dsimp only at b1 b2 hrow ⊢
    have hsX := hB.size
    have hBX : Below w.heap.size w X := hB0.trans (hB.mono (by omega))
    have hMX : M < X.heap.size := b1.lt
    have hDX : D < X.heap.size := (Array.getElem?_eq_some_iff.1 b2).1
    have hBxX : Bx < X.heap.size := (Array.getElem?_eq_some_iff.1 hcx).1
    have hneMD : ¬ M = D := by omega
    have hneDM : ¬ D = M := by omega
    have hneBD : ¬ Bx = D := by omega
    cases st with
    | some kk =>
      have bR : Boxed X w.heap.size 4 (.bool false) := (hB.block _ hRM).trans ((h50.block _ hRM).trans BR5)
      have hcR := bR.cell
      have hfR := bR.frozen
      obtain ⟨⟨d0, d1, d2⟩, d3, d4, d5⟩ := b2.cells
      simp only [codeOf, posOf, plOf] at d0 d1 d2
      clear hcx hex hE0 BX
      gi_wp2
      exact ⟨(KeepsOthers.setCell _ _ _).from _, q.map .inl, kk, bq, x, by simp [tailI]⟩
    | none =>
      simp only [codeOf, posOf, plOf] at b2
      obtain ⟨⟨d0, d1, d2⟩, d3, d4, d5⟩ := b2.cells
      cases x with
      | inl tk =>
        dsimp only [itemErr, itemCells, tokCells] at hcx ⊢
        have x0 : X.cell? ⟨Bx, 0, none⟩ = some (.int .i64 tk.kind) := by simp [World.cell?, hcx]
        have x1 : X.cell? ⟨Bx, 1, none⟩ = some (.int .i64 tk.pos) := by simp [World.cell?, hcx]
        have x2 : X.cell? ⟨Bx, 2, none⟩ = some (.string ((s.extract tk.pos s.size).extract 0 tk.len)) := by simp [World.cell?, hcx]
        have x3 : X.cell? ⟨Bx, 3, none⟩ = some (.int .i64 tk.num) := by simp [World.cell?, hcx]
        have c1 := b1.cell
        have HQ : q.length ≤ 600 := by simp [tailI] at hlen; omega
        have HFN := Lib.hid (fun W => fault_nil W)
        unfold faultV at HFN
        clear hcx hex hE0 BX
        gi_wp2_with (first
          | (refine ⟨trivial, ?_⟩; gi_at_call 16; refine (callsIn_wide.2 (HFN.out _)).mono ?_; rintro e Y0 ⟨rfl, hbY⟩
             have yD : FD Y0 D 0 0 false := b2.later hbY hDX
             have yM : Boxed Y0 M 24 u := (hbY.block M hMX).trans b1
             have yS : Boxed Y0 (D + 1) 9 (.string s) := (hbY.block _ (by omega)).trans b3
             have yrow := row_kept hrow (grown_of_below hbY) (fun r e => by cases e)
             obtain ⟨⟨e0, e1', e2⟩, e3, e4, e5⟩ := yD.cells
             have m1 := yM.cell
             have z0 := (hbY.cell (p := ⟨Bx, 0, none⟩) hBxX).trans x0
             have z1 := (hbY.cell (p := ⟨Bx, 1, none⟩) hBxX).trans x1
             have z2 := (hbY.cell (p := ⟨Bx, 2, none⟩) hBxX).trans x2
             have z3 := (hbY.cell (p := ⟨Bx, 3, none⟩) hBxX).trans x3
             have HBY := Lib.hid hbY
             have Y1D := Lib.hid (set3_FD (c' := 0) (p' := 0) (pl' := false) yD)
             have Y1M : Hid (Boxed (set3 Y0 D 0 0 false) M 24 u) := Lib.hid ((set3_block Y0 D 0 0 false M hneMD).trans yM)
             have Y1S : Hid (Boxed (set3 Y0 D 0 0 false) (D + 1) 9 (.string s)) := Lib.hid ((set3_block Y0 D 0 0 false (D + 1) (by omega)).trans yS)
             have Y1R := Lib.hid (yrow.kept (set3_grown Y0 D 0 0 false) (.inr (FD_not_row yD yrow).symm))
             have hszY := hbY.size
             clear hbY yD yM yS yrow d0 d1 d2 d3 d4 d5 x0 x1 x2 x3 c1)
          | (gi_at_builtin; go_loud (refine wpListIn_append_own _ rfl _ _ 24 rfl M 40 i0 (.agg #[.int .i64 0, .int .i64 0, .string ⟨#[]⟩, .int .i64 0]) 4 40 Tryd.underlying24 hi hz0 hz1 hz2 rfl (by decide) _ _ _ rfl (Y1R.out.alloc _) ⟨Y0.heap.size, 0, none⟩ 1 1 (tokCells s tk) rfl rfl (set3_four Y0 D 0 0 false _ _ _ _ _) (by simp [tokCells, Value.oneCell']) (by unfold maxLen; omega) (by omega) (by simp [set3_size]; omega) ?_); intro v' wl hown' hgrow _; obtain ⟨g', cap', rfl⟩ := ownsRow_succ hown'; obtain ⟨hv1, hv2, hr2, hk2, hb2⟩ := Y1M.out.appended (by decide) Y1R.out (by rw [set3_size]; omega) (Nat.le_refl _) hown' hgrow; have hc1 := hv1.cell; have hf1 := hv1.frozen
             have HV2 := Lib.hid hv2; have HRW2 := Lib.hid hr2; have HK2 := Lib.hid hk2; have HBL2 := Lib.hid hb2; have HGR := Lib.hid hgrow
             clear hv1 hv2 hr2 hk2 hb2 hgrow hown'))
        have hneSM : ¬ D + 1 = M := by omega
        refine ⟨(((others_of_below HBY.out).trans (set3_others _ _ _ _ _)).trans HK2.out).from _, fun k hkT hkX => ?_, (.slice (some ⟨g', 0, none⟩) (q.length + 1) cap', none), ⟨HV2.out, ?_⟩, ?_, ⟨q ++ [tk], 0, by simp [tailI], ?_⟩, ?_⟩
        · exact (Below.heap_setCell _ _ _ k (fun e => hkT (.inl e))).trans ((HGR.out.block k (by simp; omega) (fun e => hkT (.inr (.inr e.symm)))).trans ((Below.heap_alloc _ _ k (by simp; omega)).trans ((set3_block Y0 D 0 0 false k (fun e => hkT (.inr (.inl e)))).trans (HBY.out.block k hkX))))
        · exact (Below.heap_setCell _ _ _ D hneDM).trans ((HGR.out.block D (by simp; omega) (FD_not_row Y1D.out Y1R.out)).trans ((Below.heap_alloc _ _ D (by simp; omega)).trans Y1D.out))
        · exact (Below.heap_setCell _ _ _ (D + 1) hneSM).trans ((HGR.out.block (D + 1) (by simp; omega) (Y1S.out.not_row (by decide) Y1R.out)).trans ((Below.heap_alloc _ _ (D + 1) (by simp; omega)).trans Y1S.out))
        · rw [rowOf_snoc, List.length_append]; exact HRW2.out
        · exact (set3_below (hB.trans (HBY.out.mono (by omega))) (by omega) 0 0 false).trans HBL2.out
      | inr r =>
        dsimp only [itemErr, itemCells, errVal] at hcx ⊢
        have x2 : X.cell? ⟨Bx, 2, none⟩ = some (.string ⟨#[]⟩) := by simp [World.cell?, hcx]
        have HFA := Lib.hid (fault_at aL r.2 r.1 X (HE.out X hBX) (HA.out.later hBX) hex)
        unfold faultV errVal at HFA
        clear hcx hex hE0 BX
        gi_wp2_with (refine ⟨trivial, ?_⟩; gi_at_call 16; refine (callsIn_wide.2 HFA.out).mono ?_; rintro e Y0 ⟨rfl, hbY⟩
                     have yD : FD Y0 D 0 0 false := b2.later hbY hDX
                     have yM : Boxed Y0 M 24 u := (hbY.block M hMX).trans b1
                     have yS : Boxed Y0 (D + 1) 9 (.string s) := (hbY.block _ (by omega)).trans b3
                     have yrow := row_kept hrow (grown_of_below hbY) (fun r e => by cases e)
                     obtain ⟨⟨e0, e1', e2⟩, e3, e4, e5⟩ := yD.cells
                     have z2 := (hbY.cell (p := ⟨Bx, 2, none⟩) hBxX).trans x2
                     have HBY := Lib.hid hbY
                     have Y1D := Lib.hid (set3_FD (c' := 101) (p' := r.1) (pl' := true) yD)
                     have Y1M : Hid (Boxed (set3 Y0 D 101 r.1 true) M 24 u) := Lib.hid ((set3_block Y0 D 101 r.1 true M hneMD).trans yM)
                     have Y1S : Hid (Boxed (set3 Y0 D 101 r.1 true) (D + 1) 9 (.string s)) := Lib.hid ((set3_block Y0 D 101 r.1 true (D + 1) (by omega)).trans yS)
                     have Y1R := Lib.hid (yrow.kept (set3_grown Y0 D 101 r.1 true) (.inr (FD_not_row yD yrow).symm))
                     have hszY := hbY.size
                     clear hbY yD yM yS yrow d0 d1 d2 d3 d4 d5 x2)
        refine ⟨((others_of_below HBY.out).trans (set3_others Y0 D 101 r.1 true)).from _, fun k hkT hkX => (set3_block Y0 D 101 r.1 true k (fun e => hkT (.inr (.inl e)))).trans (HBY.out.block k hkX), (u, some r.1), ⟨Y1M.out, Y1D.out⟩, Y1S.out, ⟨q, r.2, by simp [tailI], Y1R.out⟩, set3_below (hB.trans (HBY.out.mono (by omega))) (by omega) 101 r.1 true⟩
  case done =>
    rintro DD ⟨u, st⟩ xs W hDD hS ⟨⟨b1, b2⟩, b3, ⟨q, bq, rfl, hrow⟩, hB⟩ hK
    dsimp only at b1 b2 hrow
    have hbW : Below M w5 W := h50.trans (hB.mono (by have := h50.size; omega))
    have bR : Boxed W w.heap.size 4 (.bool false) := (hbW.block _ hRM).trans BR5
    have bF : FD W F c p pl := (hbW.block _ hFM).trans BF5
    have hX := BX.out W hbW
    have hU := TokRow.of_row hrow
    have hBW : Below w.heap.size w W := hB0.trans (hB.mono (by omega))
    have hend := pre_end ts q er st bq hS
    clear hS hE0 BX hrow hbW BR5 BF5 b3
    rcases hend with ⟨he, rfl, hq⟩ | ⟨k, he, rfl⟩
    · rcases HT.out with ⟨_, rfl, rfl, rfl, rfl⟩ | ⟨k', he', _⟩
      rotate_left
      · rw [he] at he'; cases he'
      subst hq
      have HSF := Lib.hid (fun W => sameFault_both 0 0 false W)
      simp only [codeOf, posOf, plOf] at b2
      obtain ⟨⟨d0, d1, d2⟩, d3, d4, d5⟩ := b2.cells
      obtain ⟨⟨g0, g1, g2⟩, g3, g4, g5⟩ := bF.cells
      gi_wp2_with (first
        | (refine ⟨trivial, ?_⟩; gi_at_call 17; refine (callsIn_wide.2 (HSF.out _)).mono ?_; rintro e w7 ⟨rfl, hb7⟩
           have bR7 : Boxed w7 w.heap.size 4 (.bool false) := (hb7.block _ bR.lt).trans bR
           have bF7 := bF.later hb7 (Array.getElem?_eq_some_iff.1 bF).1
           have bM7 : Boxed w7 M 24 u := (hb7.block _ b1.lt).trans b1
           have f7 := bF7.cells.1.1
           have m7 := bM7.cell
           have HK7 := Lib.hid ((hb7.block DD (Array.getElem?_eq_some_iff.1 hK).1).trans hK)
           have HX7 := Lib.hid (hX.later hb7); have HU7 := Lib.hid (hU.later hb7)
           have HB7 := Lib.hid (hBW.trans (hb7.mono hBW.size))
           have HR7 := Lib.hid bR7
           clear hb7 bF7 bM7 bR7 d0 d1 d2 d3 d4 d5 g0 g1 g2 g3 g4 g5)
        | (refine ⟨trivial, ?_⟩; gi_at_call 12; refine (callsIn_wide.2 (sameToks_any u ux s _ _ (by omega) HU7.out HX7.out)).mono ?_; rintro e w8 ⟨rfl, hb8⟩
           have HR8 := Lib.hid (show Boxed w8 w.heap.size 4 (.bool false) from (hb8.block _ HR7.out.lt).trans HR7.out)
           have HK8 := Lib.hid ((hb8.block DD (Array.getElem?_eq_some_iff.1 HK7.out).1).trans HK7.out)
           have HB8 := Lib.hid (HB7.out.trans (hb8.mono HB7.out.size)); clear hb8 f7 m7)
        | (refine ⟨trivial, ?_⟩; gi_at_call 18; refine (callsIn_wide.2 (low_any t _ (by omega))).mono ?_; rintro e w' ⟨rfl, rfl⟩)
        | (refine ⟨trivial, ?_⟩; gi_at_call 19; refine (callsIn_wide.2 (rlow_any t _ (by omega))).mono ?_; rintro e w9 ⟨rfl, hb9⟩
           have HR9 := Lib.hid (show Boxed w9 w.heap.size 4 (.bool false) from (hb9.block _ HR8.out.lt).trans HR8.out)
           have HK9 := Lib.hid ((hb9.block DD (Array.getElem?_eq_some_iff.1 HK8.out).1).trans HK8.out)
           have HB9 := Lib.hid (HB8.out.trans (hb9.mono HB8.out.size)); clear hb9)
        | (refine ⟨trivial, ?_⟩; gi_at_call 20; refine (callsIn_wide.2 (high_any t _ (by omega))).mono ?_; rintro e w' ⟨rfl, rfl⟩)
        | (refine ⟨trivial, ?_⟩; gi_at_call 21; refine (callsIn_wide.2 (rhigh_any t _ (by omega))).mono ?_; rintro e w' ⟨rfl, rfl⟩)
        | (refine ⟨trivial, ?_⟩; gi_at_call 22; refine (callsIn_wide.2 (operator_any t _)).mono ?_; rintro e w' ⟨rfl, rfl⟩)
        | (refine ⟨trivial, ?_⟩; gi_at_call 23; refine (callsIn_wide.2 (roperator_any t _)).mono ?_; rintro e w10 ⟨rfl, hb10⟩
           have HR10 := Lib.hid (show Boxed w10 w.heap.size 4 (.bool false) from (hb10.block _ HR9.out.lt).trans HR9.out)
           have HK10 := Lib.hid ((hb10.block DD (Array.getElem?_eq_some_iff.1 HK9.out).1).trans HK9.out)
           have HB10 := Lib.hid (HB9.out.trans (hb10.mono HB9.out.size)); clear hb10)
        | (refine ⟨trivial, ?_⟩; gi_at_call 24; refine (callsIn_wide.2 (reserved_any t _)).mono ?_; rintro e w' ⟨rfl, rfl⟩)
        | (refine ⟨trivial, ?_⟩; gi_at_call 25; refine (callsIn_wide.2 (rreserved_any t _)).mono ?_; rintro e w11 ⟨rfl, hb11⟩
           have bR11 : Boxed w11 w.heap.size 4 (.bool false) := (hb11.block _ HR10.out.lt).trans HR10.out
           have r11 := bR11.cell
           have rf11 := bR11.frozen
           have HR11 := Lib.hid bR11
           have HK11 := Lib.hid ((hb11.block DD (Array.getElem?_eq_some_iff.1 HK10.out).1).trans HK10.out)
           have HB11 := Lib.hid (HB10.out.trans (hb11.mono HB10.out.size)); clear hb11 bR11))
      have hKZ := (Below.heap_setCell w11 ⟨w.heap.size, 0, none⟩ (.bool true) DD (by simp; omega)).trans HK11.out
      have zR := HR11.out.set (.bool true)
      have zB := HB11.out.setCell (p := ⟨w.heap.size, 0, none⟩) (Nat.le_refl _) (.bool true)
      obtain ⟨Z, hZ⟩ : ∃ Z, w11.setCell ⟨w.heap.size, 0, none⟩ (.bool true) = Z := ⟨_, rfl⟩
      rw [hZ] at hKZ zR zB ⊢
      clear hZ
      have turn : ∀ r, some DD = some r → ∃ o : Obj, Z.heap[r]? = some o ∧ o.isCells = false := fun r e => by cases e; exact ⟨_, hKZ, rfl⟩
      have yR : Boxed (Z.putObj DD (.deferred none)) w.heap.size 4 (.bool true) := block_kept zR (grownBy_putObj' Z DD _) turn
      have yB := zB.trans (belowK_b (w := w) (Nat.le_refl _) Z DD _ (.deferred none) (by omega) hKZ rfl rfl)
      have dR := yR.cell
      refine ⟨by simp, .inl ⟨_, _, rfl, run_takeDeferred hKZ, ?_⟩⟩
      exact ⟨.bool true, by simp [results, Tryd.results3, go_sem, dR], rfl, yB⟩
    · rcases HT.out with ⟨he', _⟩ | ⟨k', he', rfl, rfl, rfl, rfl⟩
      · rw [he] at he'; cases he'
      obtain rfl : k = k' := by rw [he] at he'; exact Option.some.inj he'
      have HSF := Lib.hid (fun W => sameFault_both 101 k true W)
      simp only [codeOf, posOf, plOf] at b2
      obtain ⟨⟨d0, d1, d2⟩, d3, d4, d5⟩ := b2.cells
      obtain ⟨⟨g0, g1, g2⟩, g3, g4, g5⟩ := bF.cells
      gi_wp2_with (first
        | (refine ⟨trivial, ?_⟩; gi_at_call 17; refine (callsIn_wide.2 (HSF.out _)).mono ?_; rintro e w7 ⟨rfl, hb7⟩
           have bR7 : Boxed w7 w.heap.size 4 (.bool false) := (hb7.block _ bR.lt).trans bR
           have bF7 := bF.later hb7 (Array.getElem?_eq_some_iff.1 bF).1
           have bM7 : Boxed w7 M 24 u := (hb7.block _ b1.lt).trans b1
           have f7 := bF7.cells.1.1
           have m7 := bM7.cell
           have HK7 := Lib.hid ((hb7.block DD (Array.getElem?_eq_some_iff.1 hK).1).trans hK)
           have HX7 := Lib.hid (hX.later hb7); have HU7 := Lib.hid (hU.later hb7)
           have HB7 := Lib.hid (hBW.trans (hb7.mono hBW.size))
           have HR7 := Lib.hid bR7
           clear hb7 bF7 bM7 bR7 d0 d1 d2 d3 d4 d5 g0 g1 g2 g3 g4 g5)
        | (refine ⟨trivial, ?_⟩; gi_at_call 18; refine (callsIn_wide.2 (low_any t _ (by omega))).mono ?_; rintro e w' ⟨rfl, rfl⟩)
        | (refine ⟨trivial, ?_⟩; gi_at_call 19; refine (callsIn_wide.2 (rlow_any t _ (by omega))).mono ?_; rintro e w9 ⟨rfl, hb9⟩
           have HR9 := Lib.hid (show Boxed w9 w.heap.size 4 (.bool false) from (hb9.block _ HR7.out.lt).trans HR7.out)
           have HK9 := Lib.hid ((hb9.block DD (Array.getElem?_eq_some_iff.1 HK7.out).1).trans HK7.out)
           have HB9 := Lib.hid (HB7.out.trans (hb9.mono HB7.out.size)); clear hb9)
        | (refine ⟨trivial, ?_⟩; gi_at_call 20; refine (callsIn_wide.2 (high_any t _ (by omega))).mono ?_; rintro e w' ⟨rfl, rfl⟩)
        | (refine ⟨trivial, ?_⟩; gi_at_call 21; refine (callsIn_wide.2 (rhigh_any t _ (by omega))).mono ?_; rintro e w' ⟨rfl, rfl⟩)
        | (refine ⟨trivial, ?_⟩; gi_at_call 22; refine (callsIn_wide.2 (operator_any t _)).mono ?_; rintro e w' ⟨rfl, rfl⟩)
        | (refine ⟨trivial, ?_⟩; gi_at_call 23; refine (callsIn_wide.2 (roperator_any t _)).mono ?_; rintro e w10 ⟨rfl, hb10⟩
           have HR10 := Lib.hid (show Boxed w10 w.heap.size 4 (.bool false) from (hb10.block _ HR9.out.lt).trans HR9.out)
           have HK10 := Lib.hid ((hb10.block DD (Array.getElem?_eq_some_iff.1 HK9.out).1).trans HK9.out)
           have HB10 := Lib.hid (HB9.out.trans (hb10.mono HB9.out.size)); clear hb10)
        | (refine ⟨trivial, ?_⟩; gi_at_call 24; refine (callsIn_wide.2 (reserved_any t _)).mono ?_; rintro e w' ⟨rfl, rfl⟩)
        | (refine ⟨trivial, ?_⟩; gi_at_call 25; refine (callsIn_wide.2 (rreserved_any t _)).mono ?_; rintro e w11 ⟨rfl, hb11⟩
           have bR11 : Boxed w11 w.heap.size 4 (.bool false) := (hb11.block _ HR10.out.lt).trans HR10.out
           have r11 := bR11.cell
           have rf11 := bR11.frozen
           have HR11 := Lib.hid bR11
           have HK11 := Lib.hid ((hb11.block DD (Array.getElem?_eq_some_iff.1 HK10.out).1).trans HK10.out)
           have HB11 := Lib.hid (HB10.out.trans (hb11.mono HB10.out.size)); clear hb11 bR11)
        | (refine ⟨trivial, ?_⟩))
      have hKZ := (Below.heap_setCell w11 ⟨w.heap.size, 0, none⟩ (.bool true) DD (by simp; omega)).trans HK11.out
      have zR := HR11.out.set (.bool true)
      have zB := HB11.out.setCell (p := ⟨w.heap.size, 0, none⟩) (Nat.le_refl _) (.bool true)
      obtain ⟨Z, hZ⟩ : ∃ Z, w11.setCell ⟨w.heap.size, 0, none⟩ (.bool true) = Z := ⟨_, rfl⟩
      rw [hZ] at hKZ zR zB ⊢
      clear hZ
      have turn : ∀ r, some DD = some r → ∃ o : Obj, Z.heap[r]? = some o ∧ o.isCells = false := fun r e => by cases e; exact ⟨_, hKZ, rfl⟩
      have yR : Boxed (Z.putObj DD (.deferred none)) w.heap.size 4 (.bool true) := block_kept zR (grownBy_putObj' Z DD _) turn
      have yB := zB.trans (belowK_b (w := w) (Nat.le_refl _) Z DD _ (.deferred none) (by omega) hKZ rfl rfl)
      have dR := yR.cell
      refine ⟨by simp, .inl ⟨_, _, rfl, run_takeDeferred hKZ, ?_⟩⟩
      exact ⟨.bool true, by simp [results, Tryd.results3, go_sem, dR], rfl, yB⟩
  case stop =>
    rintro DD pre W hD hS ⟨q, r, y, rfl⟩ hK
    exact (no_two _ _ _ _ _ hS).elim
end Go.Proofs.YtnlpilceooncmaaDoor
