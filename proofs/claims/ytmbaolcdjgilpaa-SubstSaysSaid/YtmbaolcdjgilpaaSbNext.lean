/- (Subst).Pairs as a call; small facts of loops over it. -/
import Derived.Test.YtmbaolcdjgilpaaSbIter
import Derived.Test.YtmbaolcdjgilpaaSbGet
import Derived.Test.YtmbaolcdjgilpaaSbThenB
namespace Go.Proofs.Ytmbaolcdjgilpaa
open Go.RowKit Go.Sort Go.Lib
attribute [local go_sem] Oper.semAt_some

theorem pairs_call (v : Value) (w : World) : Calls Try.prog 22 #[.agg #[v]] w fun e w' => e = .returned (.func (.func 37) #[] #[.pointer (some ⟨w.heap.size, 0, none⟩)]) ∧ w' = w.alloc (.cells #[v] 39) := by
  go_enter Try.func22, Try.ntmps22
  go_wp2
  go_ret
  exact ⟨rfl, rfl⟩
theorem block_kept {W W' : World} {row : Option Nat} {b : Nat} {c : Array Value} {t : TypeId} {m : Nat × Nat} (h : W.heap[b]? = some (.cells c t m)) (hg : W.grownBy W' row)
    (hr : ∀ r, row = some r → ∃ o : Obj, W.heap[r]? = some o ∧ o.isCells = false) : W'.heap[b]? = some (.cells c t m) := by
  refine (hg.block b (Array.getElem?_eq_some_iff.1 h).1 fun e => ?_).trans h
  obtain ⟨o, ho, hc⟩ := hr b e.symm
  rw [h] at ho; cases ho; cases hc
theorem row_kept {w w' : World} {base : Nat} {e : TypeId} {size : Nat} {v : Value} {n : Nat} {xs : List Value} (h : w.ownsRow base e size v n xs) (hk : ∀ (k : Nat) (cs : Array Value) (fz : Nat × Nat), w.heap[k]? = some (.cells cs e fz) → w'.heap[k]? = some (.cells cs e fz)) : w'.ownsRow base e size v n xs := by
  refine ⟨h.1, ?_⟩
  rcases h.2 with h0 | ⟨g, cap, cur, rfl, hb, hg, r⟩
  · exact .inl h0
  · exact .inr ⟨g, cap, cur, rfl, hb, hk _ _ _ hg, r⟩
theorem below_others {X Y : World} (h : Below X.heap.size X Y) : KeepsOthers X Y := ⟨h.size, fun k _ hk _ => (h.block k (Array.getElem?_eq_some_iff.1 hk).1).trans hk⟩
theorem own_cells {W : World} {base : Nat} {e : TypeId} {size : Nat} {v : Value} {n : Nat} {xs : List Value} (h : W.ownsRow base e size v n xs) (j : Nat) (o : Obj) (hj : v.ownBlock = some j) (ho : W.heap[j]? = some o) : o.isCells = true := by
  rcases h.2 with ⟨rfl, _⟩ | ⟨g, cap, cur, rfl, _, hg, _⟩
  · cases hj
  · obtain rfl : g = j := by simpa [Value.ownBlock] using hj
    rw [hg] at ho; cases ho; rfl
theorem others_grown {X w1 : World} {o : Obj} {base : Nat} {e : TypeId} {size : Nat} {v : Value} {n : Nat} {xs : List Value} (h : X.ownsRow base e size v n xs) (hg : (X.alloc o).grownBy w1 v.ownBlock) : KeepsOthers X w1 :=
  (KeepsOthers.alloc X o).trans (KeepsOthers.of_grownBy hg fun j ob hj ho => by
    have hlt := (h.lt j hj).2
    rw [Below.heap_alloc X o j hlt] at ho
    exact own_cells h j ob hj ho)

theorem row_slice {W : World} {base : Nat} {e : TypeId} {size : Nat} {v : Value} {n : Nat} {xs : List Value} (h : W.ownsRow base e size v n xs) : ∃ a c, v = .slice a n c := by
  rcases h.2 with ⟨rfl, rfl⟩ | ⟨g, cap, _, rfl, _⟩
  · exact ⟨_, _, rfl⟩
  · exact ⟨_, _, rfl⟩
/-- The name of the last one. -/
def lastN (pre : List PR) : ByteArray := (pre.getLast?.map PR.n).getD ⟨#[]⟩
theorem lastN_snoc (pre : List PR) (x : PR) : lastN (pre ++ [x]) = x.n := by simp [lastN]
/-- As many as there are ahead; the same names, the same types. -/
def Ahead (ls pre : List PR) : Prop := pre.length ≤ ls.length ∧ ∀ i, i < pre.length → (pre.getD i noP).n = (ls.getD i noP).n ∧ (pre.getD i noP).t = (ls.getD i noP).t
theorem Ahead.nil (ls : List PR) : Ahead ls [] := ⟨Nat.zero_le _, fun _ hi => absurd hi (Nat.not_lt_zero _)⟩
theorem Ahead.snoc {ls pre : List PR} (h : Ahead ls pre) {x : PR} (hx : pre.length < ls.length ∧ x.n = (ls.getD pre.length noP).n ∧ x.t = (ls.getD pre.length noP).t) : Ahead ls (pre ++ [x]) := by
  refine ⟨by simp; omega, fun i hi => ?_⟩
  rw [List.length_append, List.length_singleton] at hi
  by_cases e : i = pre.length
  · subst e
    have : (pre ++ [x]).getD pre.length noP = x := by simp [List.getD]
    rw [this]; exact hx.2
  · have hlt : i < pre.length := by omega
    have : (pre ++ [x]).getD i noP = pre.getD i noP := by simp [List.getD, List.getElem?_append_left hlt]
    rw [this]; exact h.2 i hlt
theorem Ahead.copy {ls q : List PR} (h : Ahead ls q) (hl : q.length = ls.length) : Copy q ls := ⟨hl, h.2⟩
/-- In a row in order the last one's name is less than the next one's. -/
theorem Ahead.less {ls pre : List PR} (h : Ahead ls pre) (hn : Neat ls) (h0 : pre ≠ []) {x : PR} (hx : pre.length < ls.length ∧ x.n = (ls.getD pre.length noP).n) : Op.bytesLess x.n.toList (lastN pre).toList = false ∧ ¬ x.n.toList = (lastN pre).toList := by
  have hp : 0 < pre.length := List.length_pos_iff.2 h0
  have e : lastN pre = (pre.getD (pre.length - 1) noP).n := by
    unfold lastN
    rw [List.getLast?_eq_getElem?]
    simp [List.getD, List.getElem?_eq_getElem (show pre.length - 1 < pre.length by omega)]
  rw [e, (h.2 _ (by omega)).1, hx.2]
  have hs := List.pairwise_iff_getElem.1 hn.1 (pre.length - 1) pre.length (by omega) hx.1 (by omega)
  have e1 : ls.getD (pre.length - 1) noP = ls[pre.length - 1]'(by omega) := by simp [List.getD, List.getElem?_eq_getElem (show pre.length - 1 < ls.length by omega)]
  have e2 : ls.getD pre.length noP = ls[pre.length]'hx.1 := by simp [List.getD, List.getElem?_eq_getElem hx.1]
  rw [e1, e2, Lib.toList_data, Lib.toList_data, less_cmpL]
  have := hs
  unfold cmpP at this
  have hu := cmpL_neg (ls[pre.length - 1]'(by omega)).n.data.toList (ls[pre.length]'hx.1).n.data.toList
  refine ⟨by simp; omega, fun e => ?_⟩
  rw [e, cmpL_zero.2 rfl] at this
  omega
theorem next_lk {ls : List PR} (hn : Neat ls) {i : Nat} (hi : i < ls.length) : lk (ls.getD i noP).n ls = some (ls.getD i noP) := lk_sorted hn.1 (getD_mem hi)
theorem next_own {ls : List PR} (hn : Neat ls) {i : Nat} (hi : i < ls.length) : (ls.getD i noP).t ≠ .var (ls.getD i noP).n := fun e => by
  have := hn.2 _ (getD_mem hi)
  rw [ownP_iff.2 e] at this; cases this
theorem kind_name {t : T} {n : ByteArray} (hk : t.kind = 1) (h : t ≠ .var n) : t.name ≠ n := by
  cases t with
  | var m => intro e; exact h (by simp only [T.name] at e; rw [e])
  | con m l => simp [T.kind] at hk
  | fn a b => simp [T.kind] at hk
  | all m a => simp [T.kind] at hk

/-- What the rounds keep: how many, the last name, the row of what was told; all that lay in V. -/
def QI (b M : Nat) (V : World) (ls : List PR) (s : Value) (pre : List PR) (X : World) : Prop :=
  ((X.heap[b + 1]? = some (.cells #[.int .i64 (pre.length : Int)] 3 (0, 0)) ∧ X.heap[b + 2]? = some (.cells #[.string (lastN pre)] 9 (0, 0)) ∧ X.heap[b + 3]? = some (.cells #[s] 28 (0, 0))) ∧
    X.ownsRow M 58 4 s pre.length (cellsP pre) ∧ (pre = [] → s = .slice none 0 0)) ∧ (Typ pre X ∧ Ahead ls pre) ∧ M ≤ X.heap.size ∧ Below (b + 1) V X
theorem QI.kept {b M : Nat} {V : World} {ls : List PR} {s : Value} {pre : List PR} {X Y : World} {row : Option Nat} (h : QI b M V ls s pre X) (hg : X.grownBy Y row) (hr : ∀ r, row = some r → ∃ o : Obj, X.heap[r]? = some o ∧ o.isCells = false) (hb : Below (b + 1) V Y) : QI b M V ls s pre Y :=
  ⟨⟨⟨block_kept h.1.1.1 hg hr, block_kept h.1.1.2.1 hg hr, block_kept h.1.1.2.2 hg hr⟩, row_kept h.1.2.1 fun _ _ _ hk => block_kept hk hg hr, h.1.2.2⟩, ⟨h.2.1.1.keep fun _ _ _ hk => block_kept hk hg hr, h.2.1.2⟩, Nat.le_trans h.2.2.1 hg.size, hb⟩
theorem QI.below {b M : Nat} {V : World} {ls : List PR} {s : Value} {pre : List PR} {X Y : World} (h : QI b M V ls s pre X) (hb : Below X.heap.size X Y) (hN : b + 1 ≤ M) : QI b M V ls s pre Y :=
  h.kept (row := none) (grown_of_below hb) (fun r e => by cases e) (h.2.2.2.trans (hb.mono (by have := h.2.2.1; omega)))
end Go.Proofs.Ytmbaolcdjgilpaa
