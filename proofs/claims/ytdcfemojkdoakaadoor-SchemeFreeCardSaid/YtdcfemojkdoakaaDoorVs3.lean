/- Merged: TyFind, TyVars, TyTexts, MapV, ScSet, RegInv, SbOthersA, SbPairs, ScSplit, ScZero, ScVars, ScName, ScNew, SbGet, RegLast, SbOthersR. -/
import Derived.Test.YtdcfemojkdoakaaDoorVs1
import Derived.Test.YtdcfemojkdoakaaDoorVs2
import Derived.Maps.OwnOps
import Derived.Maps.Views
import Derived.Deep.AppendLies
import Derived.Deep.RegionLaw
import Derived.Deep.RegionHeld3
import Derived.Deep.DrawnRows
import Derived.BigRegion
import Derived.LoopN
import Derived.Carry
import Derived.Maps.OwnSet
import Derived.Maps.AppendAt
import Derived.Deep.RegionHeld
import Derived.Test.YtdcfemojkdoakaaDoorProg
import Derived.Lib.Bytes
/- The free variables of a type: the finder's map and its row of names. -/
namespace Go.Proofs.YtdcfemojkdoakaaDoor
open Go.RowKit Go.Maps
attribute [local go_sem] Oper.semAt_some

/-- How often a name is hidden. -/
noncomputable def inB (l : List ByteArray) (n : ByteArray) : Bool := l.any (fun x => eqB x n)
noncomputable def cntB (l : List ByteArray) (n : ByteArray) : Nat := (l.filter (fun x => eqB x n)).length
noncomputable def cnt (bd out : List ByteArray) (n : ByteArray) : Int := (cntB bd n : Int) + (if inB out n then 1 else 0)
theorem inB_iff {l : List ByteArray} {n : ByteArray} : inB l n = true ↔ n ∈ l := by
  simp only [inB, List.any_eq_true, eqB_iff]
  constructor
  · rintro ⟨x, hx, rfl⟩; exact hx
  · intro h; exact ⟨n, h, rfl⟩
theorem cntB_zero {l : List ByteArray} {n : ByteArray} : cntB l n = 0 ↔ ¬ n ∈ l := by
  simp only [cntB, List.length_eq_zero_iff, List.filter_eq_nil_iff, eqB_iff]
  constructor
  · intro h hn; exact h n hn rfl
  · rintro h x hx rfl; exact h hx
theorem cntB_le (l : List ByteArray) (n : ByteArray) : cntB l n ≤ l.length := List.length_filter_le _ _
theorem cnt_zero {bd out : List ByteArray} {n : ByteArray} : cnt bd out n = 0 ↔ ¬ (n ∈ bd ∨ n ∈ out) := by
  unfold cnt
  by_cases h : inB out n = true
  · have := inB_iff.1 h
    rw [if_pos h]
    constructor
    · intro e; omega
    · intro e; exact absurd (.inr this) e
  · have h' : ¬ n ∈ out := fun e => h (inB_iff.2 e)
    rw [if_neg h]
    constructor
    · intro e k
      rcases k with k | k
      · exact cntB_zero.1 (by omega) k
      · exact h' k
    · intro e
      have := cntB_zero.2 (fun k => e (.inl k))
      omega
theorem cnt_le (bd out : List ByteArray) (n : ByteArray) : 0 ≤ cnt bd out n ∧ cnt bd out n ≤ bd.length + 1 := by
  have := cntB_le bd n
  unfold cnt
  split <;> omega
theorem cnt_bind (bd out : List ByteArray) (n m : ByteArray) : cnt (n :: bd) out m = if m = n then cnt bd out n + 1 else cnt bd out m := by
  unfold cnt cntB
  by_cases h : m = n
  · subst h
    rw [if_pos rfl, List.filter_cons, if_pos (eqB_true rfl)]
    simp only [List.length_cons]
    omega
  · rw [if_neg h, List.filter_cons, if_neg (by rw [eqB_false (fun e => h e.symm)]; decide)]
theorem cnt_told {bd out : List ByteArray} {n : ByteArray} (hn : ¬ n ∈ out) (m : ByteArray) : cnt bd (out ++ [n]) m = if m = n then cnt bd out n + 1 else cnt bd out m := by
  unfold cnt
  have e : inB (out ++ [n]) m = (inB out m || eqB n m) := by simp [inB]
  rw [e]
  by_cases h : m = n
  · subst h
    have h1 : inB out m = false := by
      cases hb : inB out m with
      | false => rfl
      | true => exact absurd (inB_iff.1 hb) hn
    rw [if_pos rfl, h1, eqB_true rfl]
    simp
  · rw [if_neg h, eqB_false (fun e => h e.symm)]
    simp

theorem strLaw : Keyed Tryd.prog 9 := string_keyed Tryd.underlying9
theorem zeroInt (w : World) : (zeroValue 3).run Tryd.prog w = .ok (.int .i64 0) w := by kernel_rfl

/-- Block M is a map of at most m entries, which tells f. -/
def MapFn (M m : Nat) (f : ByteArray → Int) (w : World) : Prop := ∃ D : DataW Unit, IsMap D ∧ w.ownsMap Tryd.prog 9 (plainElem Tryd.prog 3) M m D ∧
  ∀ n : ByteArray, n.size ≤ maxLen → D.atKey (.string n.data.toList) (.lit (.int .i64 0)) = .lit (.int .i64 (f n))
theorem MapFn.look {M m : Nat} {f : ByteArray → Int} {w : World} (h : MapFn M m f w) (n : ByteArray) (hn : n.size ≤ maxLen) :
    (Instr.lookup 92 (.map (some M)) (.string n) false).run Tryd.prog w = .ok (.int .i64 (f n)) w := by
  obtain ⟨D, _, h1, h2⟩ := h
  obtain ⟨c, hrun, hat, _⟩ := h1.lookup_int strLaw Tryd.underlying92 Tryd.underlying3 (zeroInt w) (Go.WideMaps.keyOf_string_mk Tryd.underlying9 hn)
  rw [h2 n hn] at hat
  cases hat
  exact hrun
theorem MapFn.upd {M m : Nat} {f : ByteArray → Int} {w : World} (h : MapFn M m f w) (hm : m < maxLen) (n : ByteArray) (hn : n.size ≤ maxLen) (x : Int) (hx : (Lit.int .i64 x).wf = true) :
    ∃ w', (Instr.mapUpdate 92 (.map (some M)) (.string n) (.int .i64 x)).run Tryd.prog w = .ok () w' ∧ MapFn M (m + 1) (fun k => if k = n then x else f k) w' ∧ w.grownBy w' (some M) := by
  obtain ⟨D, hD, h1, h2⟩ := h
  obtain ⟨w', hrun, h3, h4⟩ := h1.update strLaw Tryd.underlying92 hm (Go.WideMaps.keyOf_string_mk Tryd.underlying9 hn) (plainElem_int Tryd.underlying3 hx)
  refine ⟨w', hrun, ⟨_, hD.put _ _, h3, fun k hk => ?_⟩, h4⟩
  by_cases e : k = n
  · subst e
    simp only [if_true]
    rw [atKey_put_same hD (by trivial)]
  · simp only [if_neg e]
    rw [atKey_put_other ?_, h2 k hk]
    intro e'
    apply e
    have : k.data.toList = n.data.toList := by injection e'
    cases k; cases n; simp_all
theorem MapFn.kept {M m : Nat} {f : ByteArray → Int} {w w' : World} {row : Option Nat} (h : MapFn M m f w) (hg : w.grownBy w' row) (hne : some M ≠ row) : MapFn M m f w' := by
  obtain ⟨D, hD, h1, h2⟩ := h
  exact ⟨D, hD, h1.kept hg hne, h2⟩
theorem MapFn.congr {M m : Nat} {f g : ByteArray → Int} {w : World} (h : MapFn M m f w) (e : ∀ n, f n = g n) : MapFn M m g w := by
  have : f = g := funext e
  subst this; exact h

theorem Tryd.infoStr : (Tryd.prog.info? 9).map (fun i => (i.zero, i.size, i.bytes)) = some (some (.string ⟨#[]⟩), 1, 16) := by kernel_rfl
/-- The finder at block p: its map tells f, its names. -/
structure FindAt (B p M K : Nat) (f : ByteArray → Int) (out : List ByteArray) (w : World) : Prop where
  bp : B ≤ p
  bm : B ≤ M
  fin : ∃ v, w.heap[p]? = some (.cells #[.map (some M), v] 171 (0, 0)) ∧ w.ownsRow B 9 1 v out.length (out.map Value.string)
  map : ∃ m, m ≤ K ∧ MapFn M m f w
theorem row_kept {w w' : World} {base : Nat} {e : TypeId} {size : Nat} {v : Value} {n : Nat} {xs : List Value} (h : w.ownsRow base e size v n xs) (hk : ∀ (k : Nat) (cs : Array Value) (fz : Nat × Nat), w.heap[k]? = some (.cells cs e fz) → w'.heap[k]? = some (.cells cs e fz)) : w'.ownsRow base e size v n xs := by
  refine ⟨h.1, ?_⟩
  rcases h.2 with h | ⟨g, cap, cur, rfl, hb, hg, r⟩
  · exact .inl h
  · exact .inr ⟨g, cap, cur, rfl, hb, hk g _ _ hg, r⟩
theorem MapFn.drewN {M m : Nat} {f : ByteArray → Int} {w : World} (h : MapFn M m f w) (n : Nat) : MapFn M m f (w.drewN n) := h.kept (row := none) ⟨rfl, rfl, rfl, Nat.le_refl _, fun _ _ _ => rfl⟩ (by simp)
theorem row_slice {W : World} {base : Nat} {e : TypeId} {size : Nat} {v : Value} {n : Nat} {xs : List Value} (h : W.ownsRow base e size v n xs) : ∃ a c, v = .slice a n c := by
  rcases h.2 with ⟨rfl, rfl⟩ | ⟨g, cap, _, rfl, _⟩
  · exact ⟨_, _, rfl⟩
  · exact ⟨_, _, rfl⟩
theorem row_other {w w1 : World} {base : Nat} {e T : TypeId} {size : Nat} {v : Value} {n k : Nat} {xs : List Value} {cs : Array Value} {fz : Nat × Nat} (h : w.ownsRow base e size v n xs) (hg : w.grownBy w1 v.ownBlock) (hk : w.heap[k]? = some (.cells cs T fz)) (hT : T ≠ e) : w1.heap[k]? = some (.cells cs T fz) := by
  refine (hg.block k (Array.getElem?_eq_some_iff.1 hk).1 fun e => ?_).trans hk
  rcases h.2 with ⟨rfl, _⟩ | ⟨g, cap, cur, rfl, _, hgb, _⟩
  · cases e
  · obtain rfl : k = g := by simpa [Value.ownBlock] using e
    rw [hk] at hgb
    cases hgb
    exact hT rfl
theorem new_one (w : World) (x : Value) (t : TypeId) : ∀ j u, [x][j]? = some u → (w.alloc (.cells #[x] t)).cell? ((⟨w.heap.size, 0, none⟩ : Addr).add j) = some u := by
  intro j u hu
  have hadd : (⟨w.heap.size, 0, none⟩ : Addr).add j = ⟨w.heap.size, j, none⟩ := by unfold Addr.add; split <;> simp_all
  rw [hadd]
  have := alloc_new w (.cells #[x] t)
  simp only [World.cell?, this]
  match j, hu with
  | 0, hu => simpa using hu
  | n + 1, hu => simp at hu
theorem FindAt.below {B p M K : Nat} {f : ByteArray → Int} {out : List ByteArray} {w w' : World} (h : FindAt B p M K f out w) (hb : Below w.heap.size w w') : FindAt B p M K f out w' := by
  obtain ⟨h1, h2, ⟨v, h3, h4⟩, ⟨m, h5, h6⟩⟩ := h
  refine ⟨h1, h2, ⟨v, (hb.block p (Array.getElem?_eq_some_iff.1 h3).1).trans h3, row_kept h4 fun k cs fz hk => (hb.block k (Array.getElem?_eq_some_iff.1 hk).1).trans hk⟩, ⟨m, h5, h6.kept (row := none) ⟨hb.os, hb.tape, hb.output, hb.size, fun k hk _ => hb.block k hk⟩ (by simp)⟩⟩
theorem FindAt.alloc {B p M K : Nat} {f : ByteArray → Int} {out : List ByteArray} {w : World} (h : FindAt B p M K f out w) (o : Obj) : FindAt B p M K f out (w.alloc o) := h.below ((Below.refl _ w).alloc (Nat.le_refl _) o)
theorem FindAt.drewN {B p M K : Nat} {f : ByteArray → Int} {out : List ByteArray} {w : World} (h : FindAt B p M K f out w) (n : Nat) : FindAt B p M K f out (w.drewN n) := h.below (below_drewN (Below.refl _ _) _)
theorem FindAt.lt {B p M K : Nat} {f : ByteArray → Int} {out : List ByteArray} {w : World} (h : FindAt B p M K f out w) : p < w.heap.size ∧ M < w.heap.size := by
  obtain ⟨_, _, ⟨v, h3, _⟩, ⟨m, _, ⟨D, _, h6, _⟩⟩⟩ := h
  exact ⟨(Array.getElem?_eq_some_iff.1 h3).1, h6.lt⟩
theorem FindAt.mono {B p M K K' : Nat} {f : ByteArray → Int} {out : List ByteArray} {w : World} (h : FindAt B p M K f out w) (hK : K ≤ K') : FindAt B p M K' f out w := by
  obtain ⟨h1, h2, h3, ⟨m, h5, h6⟩⟩ := h
  exact ⟨h1, h2, h3, m, Nat.le_trans h5 hK, h6⟩
theorem FindAt.look {B p M K : Nat} {f : ByteArray → Int} {out : List ByteArray} {w : World} (h : FindAt B p M K f out w) (n : ByteArray) (hn : n.size ≤ 1000) :
    (Instr.lookup 92 (.map (some M)) (.string n) false).run Tryd.prog w = .ok (.int .i64 (f n)) w := by
  obtain ⟨_, _, _, ⟨m, _, h6⟩⟩ := h
  exact h6.look n (by unfold maxLen; omega)
theorem FindAt.c0 {B p M K : Nat} {f : ByteArray → Int} {out : List ByteArray} {w : World} (h : FindAt B p M K f out w) : w.cell? ⟨p, 0, none⟩ = some (.map (some M)) := by
  obtain ⟨_, _, ⟨v, h3, _⟩, _⟩ := h
  rw [Lib.cell_of_heap h3]; rfl
/-- A store into the map. -/
theorem FindAt.put {B p M K : Nat} {f g : ByteArray → Int} {out : List ByteArray} {w : World} (h : FindAt B p M K f out w) (hK : K < 2000000000) (n : ByteArray) (hn : n.size ≤ 1000) (x : Int) (hx : 0 ≤ x ∧ x ≤ 4000000000) (hf : ∀ m, (if m = n then x else f m) = g m) :
    ∃ w', (Instr.mapUpdate 92 (.map (some M)) (.string n) (.int .i64 x)).run Tryd.prog w = .ok () w' ∧ FindAt B p M (K + 1) g out w' ∧ (∀ (k : Nat) (cs : Array Value) (T : TypeId) (fz : Nat × Nat), w.heap[k]? = some (.cells cs T fz) → w'.heap[k]? = some (.cells cs T fz)) ∧ Below B w w' := by
  have hlt := h.lt
  obtain ⟨h1, h2, ⟨v, h3, h4⟩, ⟨m, h5, h6⟩⟩ := h
  obtain ⟨w', r1, r2, r3⟩ := h6.upd (by unfold maxLen; omega) n (by unfold maxLen; omega) x (WalkArith.wf_i64 (by omega))
  have hM : ∀ (k : Nat) (cs : Array Value) (T : TypeId) (fz : Nat × Nat), w.heap[k]? = some (.cells cs T fz) → w'.heap[k]? = some (.cells cs T fz) := fun k cs T fz hk => by
    refine (r3.block k (Array.getElem?_eq_some_iff.1 hk).1 fun e => ?_).trans hk
    cases e
    obtain ⟨D, _, ⟨es, clock, hh, _⟩, _⟩ := h6
    rw [hk] at hh; cases hh
  refine ⟨w', r1, ⟨h1, h2, ⟨v, hM _ _ _ _ h3, row_kept h4 fun k cs fz hk => hM _ _ _ _ hk⟩, ⟨m + 1, by omega, r2.congr hf⟩⟩, hM, ?_⟩
  exact ⟨r3.os, r3.tape, r3.output, r3.size, fun k hk => r3.block k (by omega) fun e => by cases e; omega⟩
/-- A name appended. -/
theorem FindAt.told {B p M K : Nat} {f : ByteArray → Int} {out : List ByteArray} {w w1 : World} {v v' : Value} {n : ByteArray} (h : FindAt B p M K f out w) (hv : w.heap[p]? = some (.cells #[.map (some M), v] 171 (0, 0))) (hown : w.ownsRow B 9 1 v out.length (out.map Value.string))
    (hown' : w1.ownsRow B 9 1 v' (out.length + 1) (out.map Value.string ++ [.string n])) (hg : w.grownBy w1 v.ownBlock) :
    FindAt B p M K f (out ++ [n]) (w1.setCell ⟨p, 1, none⟩ v') ∧ KeepT w (w1.setCell ⟨p, 1, none⟩ v') ∧ Below B w (w1.setCell ⟨p, 1, none⟩ v') := by
  have hlt := h.lt
  obtain ⟨h1, h2, _, ⟨m, h5, h6⟩⟩ := h
  have hne : ∀ (k : Nat) (o : Obj), w.heap[k]? = some o → (∀ cs fz, o ≠ .cells cs 9 fz) → w1.heap[k]? = some o := fun k o hk hT => by
    refine (hg.block k (Array.getElem?_eq_some_iff.1 hk).1 fun e => ?_).trans hk
    rcases hown.2 with ⟨rfl, _⟩ | ⟨g, cap, cur, rfl, _, hgb, _⟩
    · cases e
    · obtain rfl : k = g := by simpa [Value.ownBlock] using e
      rw [hk] at hgb
      cases hgb
      exact hT _ _ rfl
  have hp1 := hne p _ hv (fun cs fz e => by cases e)
  have hset : (w1.setCell ⟨p, 1, none⟩ v').heap[p]? = some (.cells #[.map (some M), v'] 171 (0, 0)) := by
    obtain ⟨hl, hk⟩ := Array.getElem?_eq_some_iff.1 hp1
    show (w1.heap.modify p _)[p]? = _
    rw [Array.getElem?_eq_getElem (by rw [Array.size_modify]; exact hl), Array.getElem_modify_self, hk]
    rfl
  have hoth : ∀ k, k ≠ p → (w1.setCell ⟨p, 1, none⟩ v').heap[k]? = w1.heap[k]? := fun k hk => Below.heap_setCell _ ⟨p, 1, none⟩ _ k hk
  refine ⟨⟨h1, h2, ⟨v', hset, ?_⟩, ⟨m, h5, ?_⟩⟩, ?_, ?_⟩
  · have : (out ++ [n]).map Value.string = out.map Value.string ++ [.string n] := by simp
    rw [this, List.length_append]
    refine row_kept hown' fun k cs fz hk => ?_
    by_cases e : k = p
    · subst e; rw [hp1] at hk; cases hk
    · exact (hoth k e).trans hk
  · obtain ⟨D, hD, ⟨es, clock, hh, r⟩, h2⟩ := h6
    have hMp : M ≠ p := fun e => by rw [e, hv] at hh; cases hh
    exact ⟨D, hD, ⟨es, clock, (hoth M hMp).trans (hne M _ hh (fun cs fz e => by cases e)), r⟩, h2⟩
  · intro k cs fz hk
    have : k ≠ p := fun e => by rw [e, hv] at hk; cases hk
    exact (hoth k this).trans (hne k _ hk (fun cs fz e => by cases e))
  · have hb : Below B w w1 := ⟨hg.os, hg.tape, hg.output, hg.size, fun k hk => hg.block k (by omega) fun e => by have := (hown.lt k e.symm).1; omega⟩
    exact hb.setCell (p := ⟨p, 1, none⟩) h1 _

def LookOK (t : T) : Prop := ∀ (B p M K : Nat) (bd out : List ByteArray) (a : Option Addr) (c : Nat) (w : World), FindAt B p M K (cnt bd out) out w → TysAt w (.slice a t.kids.length c) t.kids →
    K + 2 * tsize t ≤ 1000000000 → bd.length + tsize t ≤ 1000000000 → out.length + tsize t ≤ 1000000000 →
    Calls Tryd.prog 114 #[.pointer (some ⟨p, 0, none⟩), tyV t (.slice a t.kids.length c)] w fun e w' => e = .returned (.tuple #[]) ∧ FindAt B p M (K + 2 * tsize t) (cnt bd (fv bd out t)) (fv bd out t) w' ∧ KeepT w w' ∧ Below B w w'

/-- Names that are no longer than any here. -/
inductive Nm : T → Prop
  | mk (t : T) : t.name.size ≤ 1000 → (∀ k ∈ t.kids, Nm k) → Nm t

set_option maxHeartbeats 2000000 in
theorem look_seen (t : T) (hk : t.kind = 1) (h0 : t.kids = []) (hs : t.name.size ≤ 1000) (B p M K : Nat) (f : ByteArray → Int) (out : List ByteArray) (a : Option Addr) (c : Nat) (w : World) (hB : B ≤ w.heap.size) (h : FindAt B p M K f out w) (hc : ¬ f t.name = 0) :
    Calls Tryd.prog 114 #[.pointer (some ⟨p, 0, none⟩), tyV t (.slice a t.kids.length c)] w fun e w' => e = .returned (.tuple #[]) ∧ FindAt B p M K f out w' ∧ KeepT w w' ∧ Below B w w' := by
  have hl : t.kids.length = 0 := by rw [h0]; rfl
  rw [hl]
  simp only [tyV, hk]
  obtain ⟨hp, hM⟩ := h.lt
  have HF := Lib.hid h
  have hlk : ∀ (o : Obj) (n : Nat), (Instr.lookup 92 (.map (some M)) (.string t.name) false).run Tryd.prog ((w.alloc o).drewN n) = .ok (.int .i64 (f t.name)) ((w.alloc o).drewN n) := fun o n => ((h.alloc o).drewN n).look t.name hs
  have c0 := h.c0
  have hz : (f t.name == 0) = false := by simpa using hc
  have HE : Hid (∀ (o : Obj) (n : Nat), FindAt B p M K f out ((w.alloc o).drewN n) ∧ KeepT w ((w.alloc o).drewN n) ∧ Below B w ((w.alloc o).drewN n)) := Lib.hid fun o n => ⟨(h.alloc o).drewN n, fun k cs fz hk => keepT_alloc w o k cs fz hk, below_drewN ((Below.refl B w).alloc hB o) n⟩
  clear h hl hk h0 hc
  generalize f t.name = q at *
  go_enter Tryd.func114, Tryd.ntmps114
  go_wp2
  go_quiet (fail)
  go_wp2
  refine wp_loop_rounds 1 ?_
  rw [rounds_succ]; go_wp2
  go_end0
  exact ⟨rfl, HE.out _ _⟩

set_option maxHeartbeats 2000000 in
theorem look_told (t : T) (hk : t.kind = 1) (h0 : t.kids = []) (hs : t.name.size ≤ 1000) (B p M K : Nat) (f g : ByteArray → Int) (out : List ByteArray) (a : Option Addr) (c : Nat) (w : World) (hB : B ≤ w.heap.size) (h : FindAt B p M K f out w) (hc : f t.name = 0) (hK : K < 2000000000) (ho : out.length < 1000000000)
    (hg : ∀ m, (if m = t.name then 1 else f m) = g m) :
    Calls Tryd.prog 114 #[.pointer (some ⟨p, 0, none⟩), tyV t (.slice a t.kids.length c)] w fun e w' => e = .returned (.tuple #[]) ∧ FindAt B p M (K + 1) g (out ++ [t.name]) w' ∧ KeepT w w' ∧ Below B w w' := by
  have hl : t.kids.length = 0 := by rw [h0]; rfl
  rw [hl]
  simp only [tyV, hk]
  obtain ⟨hp, hM⟩ := h.lt
  have hlk : ∀ (o : Obj) (n : Nat), (Instr.lookup 92 (.map (some M)) (.string t.name) false).run Tryd.prog ((w.alloc o).drewN n) = .ok (.int .i64 0) ((w.alloc o).drewN n) := fun o n => by rw [← hc]; exact ((h.alloc o).drewN n).look t.name hs
  have c0 := h.c0
  have HE : Hid (∀ (o : Obj) (n : Nat), FindAt B p M K f out ((w.alloc o).drewN n) ∧ KeepT w ((w.alloc o).drewN n) ∧ Below B w ((w.alloc o).drewN n)) := Lib.hid fun o n => ⟨(h.alloc o).drewN n, fun k cs fz hk => keepT_alloc w o k cs fz hk, below_drewN ((Below.refl B w).alloc hB o) n⟩
  have HC := Lib.hid hc
  have HS := Lib.hid hs
  have HG := Lib.hid hg
  clear h hl hk h0 hc hg
  go_enter Tryd.func114, Tryd.ntmps114
  go_wp2
  go_quiet (fail)
  clear hlk c0
  go_wp2
  refine with_worldC (fun V => (FindAt B p M K f out V ∧ KeepT w V ∧ Below B w V) ∧ V.heap[w.heap.size]? = some (.cells #[.int .i64 1, .string t.name, .slice a 0 c] 29 (0, 0))) ⟨HE.out _ _, alloc_new w _⟩ ?_
  rintro V ⟨⟨hF, hKT, hBl⟩, hbox⟩
  obtain ⟨z0, z1, z2⟩ := three_cells hbox
  have c0 := hF.c0
  have hFd : FindAt B p M K f out V.drew := hF.drewN 1
  have hlk : (Instr.lookup 92 (.map (some M)) (.string t.name) false).run Tryd.prog V.drew = .ok (.int .i64 0) V.drew := by rw [← HC.out]; exact hFd.look t.name HS.out
  obtain ⟨V1, hup, hF1, hT1, hB1⟩ := hFd.put (g := g) hK t.name HS.out 1 (by omega) HG.out
  have HR := Lib.hid (⟨hKT, hBl, hF1, hT1, hB1⟩ : KeepT w V ∧ Below B w V ∧ FindAt B p M (K + 1) g out V1 ∧ (∀ (k : Nat) (cs : Array Value) (T : TypeId) (fz : Nat × Nat), V.drew.heap[k]? = some (.cells cs T fz) → V1.heap[k]? = some (.cells cs T fz)) ∧ Below B V.drew V1)
  have hbox1 := Lib.hid (hT1 _ _ _ _ hbox)
  clear hF hFd hKT hBl hF1 hT1 hB1 hbox
  go_region
  go_wp2
  obtain ⟨hKT, hBl, hF1, hT1, hB1⟩ := HR.out
  obtain ⟨v, hv, hown⟩ := hF1.fin
  obtain ⟨a1, cap1, rfl⟩ := row_slice hown
  have y0 : V1.cell? ⟨p, 1, none⟩ = some (.slice a1 out.length cap1) := by rw [Lib.cell_of_heap hv]; rfl
  obtain ⟨x0, x1, x2⟩ := three_cells hbox1.out
  have al : Hid (∀ (q : Addr) (x : Value) (o : Obj), V1.cell? q = some x → (V1.alloc o).cell? q = some x) := Lib.hid fun q x o h => (((Below.refl V1.heap.size V1).alloc (Nat.le_refl _) o).cell (World.block_lt_of_cell? _ _ h)).trans h
  have HO := Lib.hid (show ∀ o : Obj, (V1.drew.alloc o).ownsRow B 9 1 (.slice a1 out.length cap1) out.length (out.map Value.string) from fun o => row_kept hown fun k cs fz hk => (Below.heap_alloc V1.drew o k (Array.getElem?_eq_some_iff.1 hk).1).trans hk)
  have hlt1 : B ≤ V1.heap.size := Nat.le_trans hB (by have h1 := hBl.size; have h2 := hB1.size; simp at h2; omega)
  have HT := Lib.hid (fun (o : Obj) (w1 : World) (v' : Value) h1 h2 => ((hF1.drewN 1).alloc o).told (w1 := w1) (v' := v') (n := t.name) ((Below.heap_alloc V1.drew o p (Array.getElem?_eq_some_iff.1 hv).1).trans hv) (HO.out o) h1 h2)
  have HFr := Lib.hid (show ∀ (o : Obj) (w1 : World), (V1.drew.alloc o).grownBy w1 (Value.slice a1 out.length cap1).ownBlock → w1.heap[p]? = some (.cells #[.map (some M), .slice a1 out.length cap1] 171 (0, 0)) ∧ w1.heap[w.heap.size]? = some (.cells #[.int .i64 1, .string t.name, .slice a 0 c] 29 (0, 0)) from fun o w1 hg =>
    ⟨row_other (HO.out o) hg ((Below.heap_alloc V1.drew o p (Array.getElem?_eq_some_iff.1 hv).1).trans hv) (by decide), row_other (HO.out o) hg ((Below.heap_alloc V1.drew o _ (Array.getElem?_eq_some_iff.1 hbox1.out).1).trans hbox1.out) (by decide)⟩)
  obtain ⟨i0, hi, hz0, hz1, hz2⟩ := info_parts Tryd.infoStr
  have hgv : w.heap.size < V1.heap.size := (Array.getElem?_eq_some_iff.1 hbox1.out).1
  have hpv : p < V1.heap.size := (Array.getElem?_eq_some_iff.1 hv).1
  clear hown hv hF1 hT1 hB1 z0 z1 z2 c0 hup hlk
  go_region_law ((refine step_append_lies _ (by rfl) _ _ 64 (by rfl) B 9 i0 (.string ⟨#[]⟩) 1 16 Tryd.underlying64 hi hz0 hz1 hz2 rfl (by decide) _ out.length (out.map Value.string) (by rfl) (HO.out _) ⟨V1.heap.size, 0, none⟩ 1 1 [.string t.name] (by rfl) rfl (new_one _ _ _) (by simp [Value.oneCell']) (by decide) (by unfold maxLen; omega) (by omega) (by simp; omega) (V1.heap.size + 1) (by simp) ?_; intro g' cap' w1 hown1 hgrow hat hlt'; obtain ⟨hb1, hb2⟩ := HFr.out _ _ hgrow; have u0 : w1.cell? ⟨p, 1, none⟩ = some (.slice a1 out.length cap1) := (by rw [Lib.cell_of_heap hb1]; rfl); have u1 : w1.cell? ⟨w.heap.size, 1, none⟩ = some (.string t.name) := (by rw [Lib.cell_of_heap hb2]; rfl); have u2 := Lib.frozen_of_heap hb1 1; have u4 : w1.cell? ⟨w.heap.size, 0, none⟩ = some (.int .i64 1) := (by rw [Lib.cell_of_heap hb2]; rfl); have u5 : w1.cell? ⟨w.heap.size, 2, none⟩ = some (.slice a 0 c) := (by rw [Lib.cell_of_heap hb2]; rfl); have u3 : ∀ y : Value, (w1.setCell ⟨p, 1, none⟩ y).cell? ⟨w.heap.size, 1, none⟩ = some (.string t.name) := (fun y => (World.cell?_of_block (a := ⟨w.heap.size, 1, none⟩) (Below.heap_setCell w1 ⟨p, 1, none⟩ y w.heap.size (by show w.heap.size ≠ p; omega))).trans u1); have HH := Lib.hid (HT.out _ _ _ hown1 hgrow)))
  all_goals
    clear x0 x1 x2 y0 u0 u3 hb1 hb2 hgrow
    go_wp2
    refine wp_loop_rounds 1 ?_
    rw [rounds_succ]; go_wp2
    go_end0
    obtain ⟨k1, k2, k3⟩ := HH.out
    obtain ⟨hKT, hBl, hF1, hT1, hB1⟩ := HR.out
    exact ⟨rfl, k1, ((hKT.trans (fun k cs fz h => hT1 k cs _ fz h)).trans (keepT_alloc V1 _)).trans k2, ((below_drewN (hBl.drew.trans hB1) 1).alloc hlt1 _).trans k3⟩

theorem fvs_drop (bd out : List ByteArray) (l : List T) (i : Nat) (h : i < l.length) : fvs bd out (l.take (i + 1)) = fv bd (fvs bd out (l.take i)) l[i] := by
  induction l generalizing out i with
  | nil => simp at h
  | cons a l ih =>
    cases i with
    | zero => simp [fvs]
    | succ i =>
      simp only [List.take_succ_cons, fvs, List.getElem_cons_succ]
      exact ih _ i (by simpa using h)
mutual
theorem fv_len (t : T) (bd out : List ByteArray) : (fv bd out t).length ≤ out.length + tsize t := by
  cases t with
  | var n => rw [fv, tsize]; split <;> simp
  | con n l => rw [fv, tsize]; have := fvs_len l bd out; omega
  | fn a b => rw [fv, tsize]; have := fv_len a bd out; have := fv_len b bd (fv bd out a); omega
  | all n a => rw [fv, tsize]; have := fv_len a (n :: bd) out; omega
theorem fvs_len (l : List T) (bd out : List ByteArray) : (fvs bd out l).length ≤ out.length + tsizes l := by
  cases l with
  | nil => rw [fvs]; omega
  | cons a l => rw [fvs, tsizes]; have := fv_len a bd out; have := fvs_len l bd (fv bd out a); omega
end

set_option maxHeartbeats 2000000 in
theorem look_plain (t : T) (H : ∀ k ∈ t.kids, LookOK k) (hk1 : ¬ t.kind = 1) (hk4 : ¬ t.kind = 4) (B p M K : Nat) (bd out : List ByteArray) (a : Option Addr) (c : Nat) (w : World) (hB : B ≤ w.heap.size) (h : FindAt B p M K (cnt bd out) out w) (ht : TysAt w (.slice a t.kids.length c) t.kids)
    (hK : K + 2 * tsize t ≤ 1000000000) (hbd : bd.length + tsize t ≤ 1000000000) (ho : out.length + tsize t ≤ 1000000000) :
    Calls Tryd.prog 114 #[.pointer (some ⟨p, 0, none⟩), tyV t (.slice a t.kids.length c)] w fun e w' => e = .returned (.tuple #[]) ∧ FindAt B p M (K + 2 * tsizes t.kids) (cnt bd (fvs bd out t.kids)) (fvs bd out t.kids) w' ∧ KeepT w w' ∧ Below B w w' := by
  have q1 : (t.kind == 1) = false := by simpa using hk1
  have q4 : (t.kind == 4) = false := by simpa using hk4
  have hz := tsize_eq t
  have hlen := len_sizes' t.kids
  have HE : Hid (∀ (o : Obj) (n : Nat), FindAt B p M K (cnt bd out) out ((w.alloc o).drewN n) ∧ KeepT w ((w.alloc o).drewN n) ∧ Below B w ((w.alloc o).drewN n)) := Lib.hid fun o n => ⟨(h.alloc o).drewN n, fun k cs fz hk => keepT_alloc w o k cs fz hk, below_drewN ((Below.refl B w).alloc hB o) n⟩
  have HR : Hid (∀ i (hi : i < t.kids.length), ∃ g pa ca, a = some ⟨g, 0, none⟩ ∧ t.kids.length ≤ c ∧ ∀ W, KeepT w W → (g < W.heap.size ∧ W.cell? ⟨g, i * 3, none⟩ = some (.int .i64 t.kids[i].kind) ∧ W.cell? ⟨g, i * 3 + 1, none⟩ = some (.string t.kids[i].name) ∧ W.cell? ⟨g, i * 3 + 2, none⟩ = some (.slice pa t.kids[i].kids.length ca)) ∧ TysAt W (.slice pa t.kids[i].kids.length ca) t.kids[i].kids) := Lib.hid fun i hi => ht.part i hi
  have HS := Lib.hid H
  clear H h ht hk1 hk4
  simp only [tyV]
  go_enter Tryd.func114, Tryd.ntmps114
  go_wp2
  go_quiet (fail)
  go_wp2
  go_loopw [52] (fun vi wr => ∃ i : Nat, i ≤ t.kids.length ∧ vi = .int .i64 i ∧ Hid (FindAt B p M (K + 2 * tsizes (t.kids.take i)) (cnt bd (fvs bd out (t.kids.take i))) (fvs bd out (t.kids.take i)) wr ∧ KeepT w wr ∧ Below B w wr) ∧
      wr.heap[w.heap.size]? = some (.cells #[.int .i64 t.kind, .string t.name, .slice a t.kids.length c] 29 (0, 0))) (fun vi _ => t.kids.length - (intOf vi).toNat)
  case atStart => exact ⟨0, Nat.zero_le _, rfl, Lib.hid (by simpa [fvs, tsizes] using HE.out _ _), alloc_new w _⟩
  case round =>
    obtain ⟨i, hi, rfl, hF, hbox⟩ := hrel
    by_cases hlt : i < t.kids.length
    · obtain ⟨g, pa, ca, rfl, hcap, hr⟩ := HR.out i hlt
      obtain ⟨hF1, hKT, hBl⟩ := hF.out
      obtain ⟨⟨hg, x0, x1, x2⟩, xk⟩ := hr wr hKT
      have hsz := tsizes_take t.kids i hlt
      have hl1 := fvs_len (t.kids.take i) bd out
      have hkk := size_mem' (List.getElem_mem hlt)
      have hBw : B ≤ wr.heap.size := Nat.le_trans hB hBl.size
      have HC := Lib.hid (fun o => HS.out t.kids[i] (List.getElem_mem hlt) B p M (K + 2 * tsizes (t.kids.take i)) bd (fvs bd out (t.kids.take i)) pa ca (wr.alloc o) (hF1.alloc o) (xk.keep (keepT_alloc wr o)) (by omega) (by omega) (by omega))
      rw [← fvs_drop bd out t.kids i hlt, show K + 2 * tsizes (t.kids.take i) + 2 * tsize t.kids[i] = K + 2 * tsizes (t.kids.take (i + 1)) by omega] at HC
      have HX := Lib.hid (fun (o : Obj) (W : World) (h1 : KeepT (wr.alloc o) W) (h2 : Below B (wr.alloc o) W) => (⟨(hKT.trans (keepT_alloc wr o)).trans h1, (hBl.alloc hBw o).trans h2⟩ : KeepT w W ∧ Below B w W))
      have HXB := Lib.hid (fun (o : Obj) (W : World) (h1 : KeepT (wr.alloc o) W) => h1 _ _ _ ((Below.heap_alloc wr o _ (Array.getElem?_eq_some_iff.1 hbox).1).trans hbox))
      clear hr hF hF1 xk hBl hsz hl1 hkk HS HR HE hbox
      generalize t.kids[i] = u at x0 x1 x2 HC
      simp only [tyV] at HC
      have hlt1 : ((i : Int) < (t.kids.length : Int)) := by omega
      go_wp2_with (go_at_call 114; refine (HC.out _).mono ?_; rintro e w2 ⟨rfl, r1, r2, r3⟩; have HW2 := Lib.hid (And.intro r1 (HX.out _ _ r2 r3)); have HB2 := Lib.hid (HXB.out _ _ r2); clear r1 r2 r3)
      refine ⟨⟨i + 1, by omega, by go_num, HW2, HB2.out⟩, ?_⟩
      simp [intOf]; omega
    · obtain rfl : i = t.kids.length := by omega
      obtain ⟨z0, z1, z2⟩ := three_cells hbox
      rw [List.take_length] at hF
      clear hbox
      go_wp2
      go_end0
      exact ⟨rfl, hF.out⟩
set_option maxHeartbeats 2000000 in
theorem look_all (t : T) (H : ∀ k ∈ t.kids, LookOK k) (hk4 : t.kind = 4) (hs : t.name.size ≤ 1000) (B p M K : Nat) (bd out : List ByteArray) (a : Option Addr) (c : Nat) (w : World) (hB : B ≤ w.heap.size) (h : FindAt B p M K (cnt bd out) out w) (ht : TysAt w (.slice a t.kids.length c) t.kids)
    (hK : K + 2 * tsize t ≤ 1000000000) (hbd : bd.length + tsize t ≤ 1000000000) (ho : out.length + tsize t ≤ 1000000000) :
    Calls Tryd.prog 114 #[.pointer (some ⟨p, 0, none⟩), tyV t (.slice a t.kids.length c)] w fun e w' => e = .returned (.tuple #[]) ∧ FindAt B p M (K + 1 + 2 * tsizes t.kids + 1) (cnt bd (fvs (t.name :: bd) out t.kids)) (fvs (t.name :: bd) out t.kids) w' ∧ KeepT w w' ∧ Below B w w' := by
  have hz := tsize_eq t
  have hlen := len_sizes' t.kids
  have HE : Hid (∀ (o : Obj) (n : Nat), FindAt B p M K (cnt bd out) out ((w.alloc o).drewN n) ∧ KeepT w ((w.alloc o).drewN n) ∧ Below B w ((w.alloc o).drewN n)) := Lib.hid fun o n => ⟨(h.alloc o).drewN n, fun k cs fz hk => keepT_alloc w o k cs fz hk, below_drewN ((Below.refl B w).alloc hB o) n⟩
  have HR : Hid (∀ i (hi : i < t.kids.length), ∃ g pa ca, a = some ⟨g, 0, none⟩ ∧ t.kids.length ≤ c ∧ ∀ W, KeepT w W → (g < W.heap.size ∧ W.cell? ⟨g, i * 3, none⟩ = some (.int .i64 t.kids[i].kind) ∧ W.cell? ⟨g, i * 3 + 1, none⟩ = some (.string t.kids[i].name) ∧ W.cell? ⟨g, i * 3 + 2, none⟩ = some (.slice pa t.kids[i].kids.length ca)) ∧ TysAt W (.slice pa t.kids[i].kids.length ca) t.kids[i].kids) := Lib.hid fun i hi => ht.part i hi
  have HS := Lib.hid H
  have HN := Lib.hid hs
  clear H h ht hs
  simp only [tyV, hk4]
  go_enter Tryd.func114, Tryd.ntmps114
  go_wp2
  go_quiet (fail)
  go_wp2
  refine with_worldC (fun V => (FindAt B p M K (cnt bd out) out V ∧ KeepT w V ∧ Below B w V) ∧ V.heap[w.heap.size]? = some (.cells #[.int .i64 4, .string t.name, .slice a t.kids.length c] 29 (0, 0))) ⟨HE.out _ _, alloc_new w _⟩ ?_
  rintro V ⟨⟨hF, hKT, hBl⟩, hbox⟩
  obtain ⟨z0, z1, z2⟩ := three_cells hbox
  have c0 := hF.c0
  have hFd : FindAt B p M K (cnt bd out) out V.drew := hF.drewN 1
  have hlk := hFd.look t.name HN.out
  have hq := cnt_le bd out t.name
  obtain ⟨V1, hup, hF1, hT1, hB1⟩ := hFd.put (g := cnt (t.name :: bd) out) (by omega) t.name HN.out (cnt bd out t.name + 1) (by omega) (fun m => (cnt_bind bd out t.name m).symm)
  generalize cnt bd out t.name = q at hlk hq hup
  obtain ⟨hq0, hq1⟩ := hq
  have HV1 := Lib.hid (⟨hF1, hKT.trans (fun k cs fz h => hT1 k cs _ fz h), hBl.drew.trans hB1⟩ : FindAt B p M (K + 1) (cnt (t.name :: bd) out) out V1 ∧ KeepT w V1 ∧ Below B w V1)
  have hbox1 := hT1 _ _ _ _ hbox
  obtain ⟨y0, y1, y2⟩ := three_cells hbox1
  have HBox := Lib.hid hbox1
  clear hF hFd hKT hBl hF1 hT1 hB1 hbox hbox1 HE
  go_region
  clear hlk hup z0 z1 z2 c0
  go_wp2
  go_loopw [52] (fun vi wr => ∃ i : Nat, i ≤ t.kids.length ∧ vi = .int .i64 i ∧ Hid (FindAt B p M (K + 1 + 2 * tsizes (t.kids.take i)) (cnt (t.name :: bd) (fvs (t.name :: bd) out (t.kids.take i))) (fvs (t.name :: bd) out (t.kids.take i)) wr ∧ KeepT w wr ∧ Below B w wr) ∧
      wr.heap[w.heap.size]? = some (.cells #[.int .i64 4, .string t.name, .slice a t.kids.length c] 29 (0, 0))) (fun vi _ => t.kids.length - (intOf vi).toNat)
  case atStart => exact ⟨0, Nat.zero_le _, rfl, Lib.hid (by simpa [fvs, tsizes] using HV1.out), HBox.out⟩
  case round =>
    obtain ⟨i, hi, rfl, hF, hbox⟩ := hrel
    by_cases hlt : i < t.kids.length
    · obtain ⟨g, pa, ca, rfl, hcap, hr⟩ := HR.out i hlt
      obtain ⟨hF1, hKT, hBl⟩ := hF.out
      obtain ⟨⟨hg, x0, x1, x2⟩, xk⟩ := hr wr hKT
      have hsz := tsizes_take t.kids i hlt
      have hl1 := fvs_len (t.kids.take i) (t.name :: bd) out
      have hkk := size_mem' (List.getElem_mem hlt)
      have hBw : B ≤ wr.heap.size := Nat.le_trans hB hBl.size
      have HC := Lib.hid (fun o => HS.out t.kids[i] (List.getElem_mem hlt) B p M (K + 1 + 2 * tsizes (t.kids.take i)) (t.name :: bd) (fvs (t.name :: bd) out (t.kids.take i)) pa ca (wr.alloc o) (hF1.alloc o) (xk.keep (keepT_alloc wr o)) (by omega) (by simp only [List.length_cons]; omega) (by omega))
      rw [← fvs_drop (t.name :: bd) out t.kids i hlt, show K + 1 + 2 * tsizes (t.kids.take i) + 2 * tsize t.kids[i] = K + 1 + 2 * tsizes (t.kids.take (i + 1)) by omega] at HC
      have HX := Lib.hid (fun (o : Obj) (W : World) (h1 : KeepT (wr.alloc o) W) (h2 : Below B (wr.alloc o) W) => (⟨(hKT.trans (keepT_alloc wr o)).trans h1, (hBl.alloc hBw o).trans h2⟩ : KeepT w W ∧ Below B w W))
      have HXB := Lib.hid (fun (o : Obj) (W : World) (h1 : KeepT (wr.alloc o) W) => h1 _ _ _ ((Below.heap_alloc wr o _ (Array.getElem?_eq_some_iff.1 hbox).1).trans hbox))
      clear hr hF hF1 xk hBl hsz hl1 hkk HS HR hbox
      generalize t.kids[i] = u at x0 x1 x2 HC
      simp only [tyV] at HC
      have hlt1 : ((i : Int) < (t.kids.length : Int)) := by omega
      go_wp2_with (go_at_call 114; refine (HC.out _).mono ?_; rintro e w2 ⟨rfl, r1, r2, r3⟩; have HW2 := Lib.hid (And.intro r1 (HX.out _ _ r2 r3)); have HB2 := Lib.hid (HXB.out _ _ r2); clear r1 r2 r3)
      refine ⟨⟨i + 1, by omega, by go_num, HW2, HB2.out⟩, ?_⟩
      simp [intOf]; omega
    · obtain rfl : i = t.kids.length := by omega
      obtain ⟨z0, z1, z2⟩ := three_cells hbox
      rw [List.take_length] at hF
      obtain ⟨hF1, hKT, hBl⟩ := hF.out
      have c0 := hF1.c0
      have hFd : FindAt B p M _ _ _ wr.drew := hF1.drewN 1
      have hlk := hFd.look t.name HN.out
      have hq := cnt_le (t.name :: bd) (fvs (t.name :: bd) out t.kids) t.name
      simp only [List.length_cons] at hq
      have e1 := cnt_bind bd (fvs (t.name :: bd) out t.kids)
      have e2 := (cnt_le bd (fvs (t.name :: bd) out t.kids) t.name).1
      have e3 := e1 t.name t.name
      rw [if_pos rfl] at e3
      obtain ⟨V2, hup, hF2, hT2, hB2⟩ := hFd.put (g := cnt bd (fvs (t.name :: bd) out t.kids)) (by omega) t.name HN.out (cnt (t.name :: bd) (fvs (t.name :: bd) out t.kids) t.name - 1) (by omega) (fun m => by
        rw [e3, e1 t.name m]
        split
        · rename_i h; rw [h]; omega
        · rfl)
      have HV2 := Lib.hid (⟨hF2, hKT.trans (fun k cs fz h => hT2 k cs _ fz h), hBl.drew.trans hB2⟩ : FindAt B p M (K + 1 + 2 * tsizes t.kids + 1) (cnt bd (fvs (t.name :: bd) out t.kids)) (fvs (t.name :: bd) out t.kids) V2 ∧ KeepT w V2 ∧ Below B w V2)
      generalize cnt (t.name :: bd) (fvs (t.name :: bd) out t.kids) t.name = q' at hlk hq hup e3
      obtain ⟨hq2, hq3⟩ := hq
      have hq4 : 1 ≤ q' := by omega
      clear hbox hF hF1 hKT hBl hFd e1 e2 e3 hF2 hT2 hB2
      go_wp2
      go_region
      go_end0
      exact ⟨rfl, HV2.out⟩
end Go.Proofs.YtdcfemojkdoakaaDoor
/- types.Vars: the free variables of a row of types. -/
namespace Go.Proofs.YtdcfemojkdoakaaDoor
open Go.RowKit Go.Maps
attribute [local go_sem] Oper.semAt_some

theorem Nm.name {t : T} (h : Nm t) : t.name.size ≤ 1000 := by cases h; assumption
theorem Nm.kid {t k : T} (h : Nm t) (hk : k ∈ t.kids) : Nm k := by cases h with | mk _ _ h => exact h k hk

theorem look_var (n : ByteArray) (hn : n.size ≤ 1000) : LookOK (.var n) := by
  intro B p M K bd out a c w h ht hK hbd ho
  have hB : B ≤ w.heap.size := Nat.le_trans h.bp (Nat.le_of_lt h.lt.1)
  have hz : tsize (.var n) = 1 := by simp [tsize]
  rw [hz] at hK hbd ho
  by_cases hc : cnt bd out n = 0
  · have hno := cnt_zero.1 hc
    have e : fv bd out (.var n) = out ++ [n] := by rw [fv, if_neg hno]
    rw [e]
    refine (look_told (.var n) rfl rfl hn B p M K (cnt bd out) (cnt bd (out ++ [n])) out a c w hB h hc (by omega) (by omega) (fun m => ?_)).mono fun e w' ⟨h1, h2, h3, h4⟩ => ⟨h1, h2.mono (by omega), h3, h4⟩
    rw [cnt_told (fun hx => hno (.inr hx)), hc]
    rfl
  · have hyes : n ∈ bd ∨ n ∈ out := Classical.byContradiction fun hx => hc (cnt_zero.2 hx)
    have e : fv bd out (.var n) = out := by rw [fv, if_pos hyes]
    rw [e]
    exact (look_seen (.var n) rfl rfl hn B p M K (cnt bd out) out a c w hB h hc).mono fun e w' ⟨h1, h2, h3, h4⟩ => ⟨h1, h2.mono (by omega), h3, h4⟩
theorem look_ok (t : T) (hn : Nm t) : LookOK t := by
  have H : ∀ k ∈ t.kids, LookOK k := fun k hk => look_ok k (hn.kid hk)
  have hz := tsize_eq t
  cases t with
  | var n => exact look_var n hn.name
  | con n l =>
    intro B p M K bd out a c w h ht hK hbd ho
    have hB : B ≤ w.heap.size := Nat.le_trans h.bp (Nat.le_of_lt h.lt.1)
    rw [fv]
    exact (look_plain (.con n l) H (by simp [T.kind]) (by simp [T.kind]) B p M K bd out a c w hB h ht hK hbd ho).mono fun e w' ⟨h1, h2, h3, h4⟩ => ⟨h1, h2.mono (by omega), h3, h4⟩
  | fn x y =>
    intro B p M K bd out a c w h ht hK hbd ho
    have hB : B ≤ w.heap.size := Nat.le_trans h.bp (Nat.le_of_lt h.lt.1)
    have e : fv bd out (.fn x y) = fvs bd out (T.fn x y).kids := by simp [fv, T.kids, fvs]
    rw [e]
    exact (look_plain (.fn x y) H (by simp [T.kind]) (by simp [T.kind]) B p M K bd out a c w hB h ht hK hbd ho).mono fun e w' ⟨h1, h2, h3, h4⟩ => ⟨h1, h2.mono (by omega), h3, h4⟩
  | all n x =>
    intro B p M K bd out a c w h ht hK hbd ho
    have hB : B ≤ w.heap.size := Nat.le_trans h.bp (Nat.le_of_lt h.lt.1)
    have e : fv bd out (.all n x) = fvs ((T.all n x).name :: bd) out (T.all n x).kids := by simp [fv, T.kids, fvs, T.name]
    rw [e]
    exact (look_all (.all n x) H rfl hn.name B p M K bd out a c w hB h ht hK hbd ho).mono fun e w' ⟨h1, h2, h3, h4⟩ => ⟨h1, h2.mono (by omega), h3, h4⟩
termination_by SizeOf.sizeOf t
decreasing_by exact T.kid_size hk

/-- v is a slice of the texts l. -/
def TextsAt (w : World) (v : Value) (l : List ByteArray) : Prop :=
  ∃ a cap, v = .slice a l.length cap ∧ (l = [] ∨ ∃ g, a = some ⟨g, 0, none⟩ ∧ l.length ≤ cap ∧ ∃ cs fz, w.heap[g]? = some (.cells cs 9 fz) ∧ ∀ i (h : i < l.length), cs[i]? = some (.string l[i]))
theorem TextsAt.keep {w w' : World} {v : Value} {l : List ByteArray} (h : TextsAt w v l) (hk : ∀ (k : Nat) (cs : Array Value) (fz : Nat × Nat), w.heap[k]? = some (.cells cs 9 fz) → w'.heap[k]? = some (.cells cs 9 fz)) : TextsAt w' v l := by
  obtain ⟨a, cap, rfl, h⟩ := h
  refine ⟨a, cap, rfl, ?_⟩
  rcases h with h | ⟨g, e, hc, cs, fz, hg, hi⟩
  · exact .inl h
  · exact .inr ⟨g, e, hc, cs, fz, hk _ _ _ hg, hi⟩
theorem TextsAt.of_row {W : World} {base : Nat} {v : Value} {l : List ByteArray} (h : W.ownsRow base 9 1 v l.length (l.map Value.string)) : TextsAt W v l := by
  rcases h.2 with ⟨rfl, h0⟩ | ⟨g, cap, cur, rfl, _, hg, hc, hm, hcs, htk⟩
  · have : l = [] := List.length_eq_zero_iff.1 h0
    subst this
    exact ⟨none, 0, rfl, .inl rfl⟩
  · refine ⟨_, cap, rfl, .inr ⟨g, rfl, hc, cur, _, hg, fun i hi => ?_⟩⟩
    have e : (cur.toList.take (l.length * 1))[i]? = (l.map Value.string)[i]? := by rw [htk]
    rw [List.getElem?_take, if_pos (by omega), Array.getElem?_toList] at e
    simpa [hi] using e
theorem find_start (w : World) : FindAt w.heap.size (w.heap.size + 1) w.heap.size 0 (cnt [] []) [] ((w.alloc (.map #[] 0)).alloc (.cells #[.map (some w.heap.size), .slice none 0 0] 171)) := by
  refine ⟨by omega, Nat.le_refl _, ⟨.slice none 0 0, by have := alloc_new (w.alloc (.map #[] 0)) (.cells #[.map (some w.heap.size), .slice none 0 0] 171); simpa using this, ?_⟩, ⟨0, Nat.le_refl _, .map [], isMap_empty, ?_, fun n _ => ?_⟩⟩
  · exact ⟨by simp, .inl ⟨rfl, rfl⟩⟩
  · exact (World.ownsMap_made w Tryd.prog 9 _).alloc _
  · simp [DataW.atKey, cnt, cntB, inB]

set_option maxHeartbeats 2000000 in
theorem vars_any (l : List T) (hn : ∀ k ∈ l, Nm k) (hs : tsizes l ≤ 100000000) (a : Option Addr) (c : Nat) (w : World) (ht : TysAt w (.slice a l.length c) l) :
    Calls Tryd.prog 89 #[.slice a l.length c] w fun e w' => (∃ v, e = .returned v ∧ TextsAt w' v (fvs [] [] l)) ∧ KeepT w w' ∧ Below w.heap.size w w' := by
  have hlen := len_sizes' l
  have HF := Lib.hid (find_start w)
  have HB0 := Lib.hid (show ∀ o1 o2 : Obj, KeepT w ((w.alloc o1).alloc o2) ∧ Below w.heap.size w ((w.alloc o1).alloc o2) from fun o1 o2 => ⟨(keepT_alloc w o1).trans (keepT_alloc _ o2), ((Below.refl _ w).alloc (Nat.le_refl _) _).alloc (by simp) _⟩)
  have HR := Lib.hid ht.part
  have HS := Lib.hid (fun k (hk : k ∈ l) => look_ok k (hn k hk))
  clear hn ht
  have hmm := @run_makeMap Tryd.prog
  go_enter Tryd.func89, Tryd.ntmps89
  go_wp2
  go_loopw [10] (fun vi wr => ∃ i : Nat, i ≤ l.length ∧ vi = .int .i64 i ∧ Hid (FindAt w.heap.size (w.heap.size + 1) w.heap.size (2 * tsizes (l.take i)) (cnt [] (fvs [] [] (l.take i))) (fvs [] [] (l.take i)) wr ∧ KeepT w wr ∧ Below w.heap.size w wr)) (fun vi _ => l.length - (intOf vi).toNat)
  case atStart => exact ⟨0, Nat.zero_le _, rfl, Lib.hid (by simpa [fvs, tsizes] using ⟨HF.out, HB0.out _ _⟩)⟩
  case round =>
    obtain ⟨i, hi, rfl, hF⟩ := hrel
    by_cases hlt : i < l.length
    · obtain ⟨g, pa, ca, rfl, hcap, hr⟩ := HR.out i hlt
      obtain ⟨hF1, hKT, hBl⟩ := hF.out
      obtain ⟨⟨hg, x0, x1, x2⟩, xk⟩ := hr wr hKT
      have hsz := tsizes_take l i hlt
      have hl1 := fvs_len (l.take i) [] []
      have hkk := size_mem' (List.getElem_mem hlt)
      have hBw : w.heap.size ≤ wr.heap.size := hBl.size
      have HC := Lib.hid (fun o => HS.out l[i] (List.getElem_mem hlt) w.heap.size (w.heap.size + 1) w.heap.size (2 * tsizes (l.take i)) [] (fvs [] [] (l.take i)) pa ca (wr.alloc o) (hF1.alloc o) (xk.keep (keepT_alloc wr o)) (by omega) (by simp only [List.length_nil]; omega) (by simp only [List.length_nil] at hl1; omega))
      rw [← fvs_drop [] [] l i hlt, show 2 * tsizes (l.take i) + 2 * tsize l[i] = 2 * tsizes (l.take (i + 1)) by omega] at HC
      have HX := Lib.hid (fun (o : Obj) (W : World) (h1 : KeepT (wr.alloc o) W) (h2 : Below w.heap.size (wr.alloc o) W) => (⟨(hKT.trans (keepT_alloc wr o)).trans h1, (hBl.alloc hBw o).trans h2⟩ : KeepT w W ∧ Below w.heap.size w W))
      clear hr hF hF1 xk hBl hsz hl1 hkk HS HR HF HB0
      generalize l[i] = u at x0 x1 x2 HC
      simp only [tyV] at HC
      have hlt1 : ((i : Int) < (l.length : Int)) := by omega
      go_wp2_with (go_at_call 114; refine (HC.out _).mono ?_; rintro e w2 ⟨rfl, r1, r2, r3⟩; have HW2 := Lib.hid (And.intro r1 (HX.out _ _ r2 r3)); clear r1 r2 r3)
      refine ⟨⟨i + 1, by omega, by go_num, HW2⟩, ?_⟩
      simp [intOf]; omega
    · obtain rfl : i = l.length := by omega
      rw [List.take_length] at hF
      obtain ⟨hF1, hKT, hBl⟩ := hF.out
      obtain ⟨v, hv, hown⟩ := hF1.fin
      have c1 : wr.cell? ⟨w.heap.size + 1, 1, none⟩ = some v := by rw [Lib.cell_of_heap hv]; rfl
      obtain ⟨a1, cap1, rfl⟩ := row_slice hown
      have HT := Lib.hid (TextsAt.of_row hown)
      have HK := Lib.hid hKT; have HBl := Lib.hid hBl
      clear hF hF1 hown hv hKT hBl
      go_wp2
      go_ret
      exact ⟨⟨_, rfl, HT.out⟩, HK.out, HBl.out⟩
end Go.Proofs.YtdcfemojkdoakaaDoor
/- Texts in rows: where one is, whether two rows are the same. -/
namespace Go.Proofs.YtdcfemojkdoakaaDoor
open Go.RowKit
attribute [local go_sem] Oper.semAt_some

theorem TextsAt.part {w : World} {a : Option Addr} {n c : Nat} {l : List ByteArray} (h : TextsAt w (.slice a n c) l) : n = l.length ∧ ∀ i (hi : i < l.length), ∃ g, a = some ⟨g, 0, none⟩ ∧ l.length ≤ c ∧ g < w.heap.size ∧ ∀ W : World, (∀ (k : Nat) (cs : Array Value) (fz : Nat × Nat), w.heap[k]? = some (.cells cs 9 fz) → W.heap[k]? = some (.cells cs 9 fz)) → W.cell? ⟨g, i, none⟩ = some (.string l[i]) := by
  obtain ⟨a', cap, e, h⟩ := h
  cases e
  refine ⟨rfl, fun i hi => ?_⟩
  rcases h with h | ⟨g, e, hc, cs, fz, hg, hh⟩
  · subst h; cases hi
  · refine ⟨g, e, hc, (Array.getElem?_eq_some_iff.1 hg).1, fun W hW => ?_⟩
    rw [Lib.cell_of_heap (hW _ _ _ hg)]; exact hh i hi
theorem TextsAt.shape {w : World} {v : Value} {l : List ByteArray} (h : TextsAt w v l) : ∃ a c, v = .slice a l.length c := by
  obtain ⟨a, c, e, _⟩ := h
  exact ⟨a, c, e⟩
theorem TextsAt.below {w w' : World} {v : Value} {l : List ByteArray} (h : TextsAt w v l) (hb : Below w.heap.size w w') : TextsAt w' v l := h.keep fun k _ _ hk => (hb.block k (Array.getElem?_eq_some_iff.1 hk).1).trans hk

/-- Is it none of the first i? -/
theorem inB_false {l : List ByteArray} {s : ByteArray} (h : ∀ i (hi : i < l.length), ¬ l[i] = s) : inB l s = false := by
  cases hb : inB l s with
  | false => rfl
  | true =>
    obtain ⟨i, hi, e⟩ := List.getElem_of_mem (inB_iff.1 hb)
    exact absurd e (h i hi)

set_option maxHeartbeats 2000000 in
theorem place_any (l : List ByteArray) (hl : l.length ≤ 1000000000) (s : ByteArray) (a : Option Addr) (c : Nat) (w : World) (h : TextsAt w (.slice a l.length c) l) :
    Calls Tryd.prog 62 #[.slice a l.length c, .string s] w fun e w' => (∃ r : Int, e = .returned (.int .i64 r) ∧ decide (0 ≤ r) = inB l s) ∧ w = w' := by
  have HR := Lib.hid (h.part.2)
  clear h
  go_enter Tryd.func62, Tryd.ntmps62
  go_wp2
  go_loop [5] (fun vi => ∃ i : Nat, i ≤ l.length ∧ vi = .int .i64 i ∧ Hid (∀ j (hj : j < l.length), j < i → ¬ l[j] = s)) (fun vi => l.length - (intOf vi).toNat)
  case atStart => exact ⟨0, Nat.zero_le _, rfl, Lib.hid fun j _ h => absurd h (by omega)⟩
  case round =>
    obtain ⟨i, hi, rfl, hS⟩ := hrel
    by_cases hlt : i < l.length
    · obtain ⟨g, rfl, hc, hg, hh⟩ := HR.out i hlt
      have x0 := hh w (fun _ _ _ h => h)
      have hb : (l[i].toList == s.toList) = eqB l[i] s := bytes_beq _ _
      have HE := Lib.hid (show l[i] = l[i] from rfl)
      obtain ⟨u, hu⟩ : ∃ u, l[i] = u := ⟨_, rfl⟩
      have HU := Lib.hid hu
      rw [hu] at x0 hb
      clear hh hu HR HE
      have hlt1 : ((i : Int) < (l.length : Int)) := by omega
      by_cases hq : u = s
      · rw [eqB_true hq] at hb
        have HQ := Lib.hid hq
        clear hq
        go_wp2
        go_ret
        exact ⟨⟨(i : Int), rfl, by
          have : inB l s = true := inB_iff.2 (by rw [← HQ.out, ← HU.out]; exact List.getElem_mem hlt)
          rw [this]; simp⟩, rfl⟩
      · rw [eqB_false hq] at hb
        have HQ := Lib.hid hq
        clear hq
        go_wp2
        go_round
        case rel => exact ⟨i + 1, by omega, by go_num, Lib.hid fun j hj hji => by
          by_cases e : j = i
          · subst e; rw [HU.out]; exact HQ.out
          · exact hS.out j hj (by omega)⟩
        case measure => simp [intOf]; omega
    · obtain rfl : i = l.length := by omega
      clear HR
      go_wp2
      go_ret
      exact ⟨⟨-1, rfl, by rw [inB_false (fun j hj => hS.out j hj hj)]; rfl⟩, rfl⟩

set_option maxHeartbeats 2000000 in
theorem hasR_any (l : List ByteArray) (hl : l.length ≤ 1000000000) (s : ByteArray) (a : Option Addr) (c : Nat) (w : World) (h : TextsAt w (.slice a l.length c) l) :
    Calls Tryd.prog 29 #[.slice a l.length c, .string s] w fun e w' => e = .returned (.bool (inB l s)) ∧ w = w' := by
  have HP := Lib.hid (place_any l hl s a c w h)
  clear h
  go_enter Tryd.func29, Tryd.ntmps29
  go_wp2_with (go_at_call 62; refine HP.out.mono ?_; rintro e w2 ⟨⟨r, rfl, hr⟩, rfl⟩)
  go_ret
  exact ⟨rfl, rfl⟩

end Go.Proofs.YtdcfemojkdoakaaDoor
/- A map of numbers by texts, in memory. -/
namespace Go.Proofs.YtdcfemojkdoakaaDoor
open Go.RowKit Go.Maps
attribute [local go_sem] Oper.semAt_some
/-- Block M is a map that tells each variable's place. -/
def MapV (M m : Nat) (f : ByteArray → Option Nat) (w : World) : Prop := ∃ D : DataW Unit, IsMap D ∧ w.ownsMap Tryd.prog 9 (plainElem Tryd.prog 3) M m D ∧
  ∀ n : ByteArray, n.size ≤ maxLen → Maps.has D (.string n.data.toList) = (f n).isSome ∧ D.atKey (.string n.data.toList) (.lit (.int .i64 0)) = .lit (.int .i64 ((f n).getD 0 : Nat))
theorem MapV.kept {M m : Nat} {f : ByteArray → Option Nat} {w w' : World} {row : Option Nat} (h : MapV M m f w) (hg : w.grownBy w' row) (hne : some M ≠ row) : MapV M m f w' := by
  obtain ⟨D, hD, h1, h2⟩ := h
  exact ⟨D, hD, h1.kept hg hne, h2⟩
theorem MapV.lt {M m : Nat} {f : ByteArray → Option Nat} {w : World} (h : MapV M m f w) : M < w.heap.size := by
  obtain ⟨_, _, h1, _⟩ := h; exact h1.lt
theorem MapV.look {M m : Nat} {f : ByteArray → Option Nat} {w : World} (h : MapV M m f w) (n : ByteArray) (hn : n.size ≤ maxLen) :
    (Instr.lookup 92 (.map (some M)) (.string n) true).run Tryd.prog w = .ok (.tuple #[.int .i64 ((f n).getD 0 : Nat), .bool (f n).isSome]) w := by
  obtain ⟨D, _, h1, h2⟩ := h
  obtain ⟨v, ps, hrun, hv⟩ := h1.look_ok strLaw Tryd.underlying92 (zeroInt w) (plainElem_int Tryd.underlying3 (by decide)) (Go.WideMaps.keyOf_string_mk Tryd.underlying9 hn)
  obtain ⟨c, rfl, hc, _⟩ := plainElem_int_inv Tryd.underlying3 hv
  have e : D.atKey (.string n.data.toList) (.lit (.int .i64 0)) = .lit (.int .i64 c) := congrArg Prod.fst hc
  rw [(h2 n hn).2] at e
  cases e
  rw [hrun, (h2 n hn).1]
theorem MapV.upd {M m : Nat} {f g : ByteArray → Option Nat} {w : World} (h : MapV M m f w) (hm : m < maxLen) (n : ByteArray) (hn : n.size ≤ maxLen) (x : Nat) (hx : x ≤ 4000000000000) (hg : ∀ k, g k = if k = n then some x else f k) :
    ∃ w', (Instr.mapUpdate 92 (.map (some M)) (.string n) (.int .i64 (x : Int))).run Tryd.prog w = .ok () w' ∧ MapV M (m + 1) g w' ∧ w.grownBy w' (some M) := by
  obtain ⟨D, hD, h1, h2⟩ := h
  obtain ⟨w', hrun, h3, h4⟩ := h1.update strLaw Tryd.underlying92 hm (Go.WideMaps.keyOf_string_mk Tryd.underlying9 hn) (plainElem_int Tryd.underlying3 (WalkArith.wf_i64 (n := (x : Int)) (by omega)))
  refine ⟨w', hrun, ⟨_, hD.put _ _, h3, fun k hk => ?_⟩, h4⟩
  rw [hg]
  by_cases e : k = n
  · subst e
    rw [atKey_put_same hD (by trivial), has_put_same hD (by trivial)]
    simp
  · have e2 : (Lit.string k.data.toList) ≠ .string n.data.toList := by
      intro e'
      apply e
      have : k.data.toList = n.data.toList := by injection e'
      cases k; cases n; simp_all
    rw [atKey_put_other e2, has_put_other e2, if_neg e]
    exact h2 k hk
theorem MapV.ne {M m k : Nat} {f : ByteArray → Option Nat} {w : World} {cs : Array Value} {T : TypeId} {fz : Nat × Nat} (h : MapV M m f w) (hk : w.heap[k]? = some (.cells cs T fz)) : M ≠ k := by
  rintro rfl
  obtain ⟨_, _, ⟨es, clock, hh, _⟩, _⟩ := h
  rw [hk] at hh; cases hh
theorem MapV.mono {M m m' : Nat} {f : ByteArray → Option Nat} {w : World} (h : MapV M m f w) (hm : m ≤ m') : MapV M m' f w := by
  obtain ⟨D, hD, h1, h2⟩ := h
  exact ⟨D, hD, h1.mono hm, h2⟩
theorem MapV.start (w : World) : MapV w.heap.size 0 (fun _ => none) (w.alloc (.map #[] 0)) :=
  ⟨.map [], ⟨[], rfl⟩, World.ownsMap_made (H := Unit) w Tryd.prog 9 (plainElem Tryd.prog 3), fun _ _ => ⟨rfl, rfl⟩⟩
end Go.Proofs.YtdcfemojkdoakaaDoor
/- Sets of texts in memory: scheme.setOf. -/
namespace Go.Proofs.YtdcfemojkdoakaaDoor
open Go.RowKit Go.Maps
attribute [local go_sem] Oper.semAt_some

theorem zeroUnit (w : World) : (zeroValue 143).run Tryd.prog w = .ok (.agg #[]) w := by kernel_rfl
/-- Block M is a set of texts, S. -/
def SetV (M m : Nat) (S : ByteArray → Bool) (w : World) : Prop := ∃ D : DataW Unit, IsMap D ∧ w.ownsMap Tryd.prog 9 unitElem M m D ∧
  ∀ n : ByteArray, n.size ≤ maxLen → Maps.has D (.string n.data.toList) = S n
theorem SetV.kept {M m : Nat} {S : ByteArray → Bool} {w w' : World} {row : Option Nat} (h : SetV M m S w) (hg : w.grownBy w' row) (hne : some M ≠ row) : SetV M m S w' := by
  obtain ⟨D, hD, h1, h2⟩ := h
  exact ⟨D, hD, h1.kept hg hne, h2⟩
theorem grown_of_belowS {w w' : World} (hb : Below w.heap.size w w') : w.grownBy w' none := ⟨hb.os, hb.tape, hb.output, hb.size, fun i hi _ => hb.block i hi⟩
theorem SetV.below {M m : Nat} {S : ByteArray → Bool} {w w' : World} (h : SetV M m S w) (hb : Below w.heap.size w w') : SetV M m S w' := h.kept (row := none) (grown_of_belowS hb) (by simp)
theorem SetV.lt {M m : Nat} {S : ByteArray → Bool} {w : World} (h : SetV M m S w) : M < w.heap.size := by
  obtain ⟨_, _, h1, _⟩ := h; exact h1.lt
theorem SetV.look {M m : Nat} {S : ByteArray → Bool} {w : World} (h : SetV M m S w) (n : ByteArray) (hn : n.size ≤ maxLen) :
    (Instr.lookup 141 (.map (some M)) (.string n) true).run Tryd.prog w = .ok (.tuple #[.agg #[], .bool (S n)]) w := by
  obtain ⟨D, _, h1, h2⟩ := h
  obtain ⟨v, ps, hrun, hv⟩ := h1.look_ok strLaw Tryd.underlying141 (zeroUnit w) unitElem_mk (Go.WideMaps.keyOf_string_mk Tryd.underlying9 hn)
  obtain ⟨rfl, _⟩ := unitElem_inv hv
  rw [hrun, h2 n hn]
theorem SetV.upd {M m : Nat} {S S' : ByteArray → Bool} {w : World} (h : SetV M m S w) (hm : m < maxLen) (n : ByteArray) (hn : n.size ≤ maxLen) (hS : ∀ k, S' k = if k = n then true else S k) :
    ∃ w', (Instr.mapUpdate 141 (.map (some M)) (.string n) (.agg #[])).run Tryd.prog w = .ok () w' ∧ SetV M (m + 1) S' w' ∧ w.grownBy w' (some M) := by
  obtain ⟨D, hD, h1, h2⟩ := h
  obtain ⟨w', hrun, h3, h4⟩ := h1.update strLaw Tryd.underlying141 hm (Go.WideMaps.keyOf_string_mk Tryd.underlying9 hn) (unitElem_mk (H := Unit))
  refine ⟨w', hrun, ⟨_, hD.put _ _, h3, fun k hk => ?_⟩, h4⟩
  rw [hS]
  by_cases e : k = n
  · subst e
    rw [has_put_same hD (by trivial)]
    simp
  · have e2 : (Lit.string k.data.toList) ≠ .string n.data.toList := by
      intro e'
      apply e
      have : k.data.toList = n.data.toList := by injection e'
      cases k; cases n; simp_all
    rw [has_put_other e2, if_neg e]
    exact h2 k hk
theorem SetV.ne {M m k : Nat} {S : ByteArray → Bool} {w : World} {cs : Array Value} {T : TypeId} {fz : Nat × Nat} (h : SetV M m S w) (hk : w.heap[k]? = some (.cells cs T fz)) : M ≠ k := by
  rintro rfl
  obtain ⟨_, _, ⟨es, clock, hh, _⟩, _⟩ := h
  rw [hk] at hh; cases hh
theorem SetV.start (w : World) : SetV w.heap.size 0 (fun _ => false) (w.alloc (.map #[] 0)) :=
  ⟨.map [], ⟨[], rfl⟩, World.ownsMap_made (H := Unit) w Tryd.prog 9 unitElem, fun _ _ => rfl⟩
theorem inB_take {l : List ByteArray} {i : Nat} (hi : i < l.length) (k : ByteArray) : inB (l.take (i + 1)) k = if k = l[i] then true else inB (l.take i) k := by
  have e : l.take (i + 1) = l.take i ++ [l[i]] := by rw [List.take_add_one, List.getElem?_eq_getElem hi]; rfl
  rw [e]
  by_cases hk : k = l[i]
  · rw [if_pos hk]; exact inB_iff.2 (List.mem_append.2 (.inr (List.mem_singleton.2 hk)))
  · rw [if_neg hk, Bool.eq_iff_iff, inB_iff, inB_iff, List.mem_append, List.mem_singleton]
    exact ⟨fun h => h.resolve_right hk, .inl⟩
set_option maxRecDepth 100000 in
set_option maxHeartbeats 2000000 in
theorem setOf_any (l : List ByteArray) (hl : l.length ≤ 1000000) (hs : ∀ n ∈ l, n.size ≤ 1000000) (a : Option Addr) (c : Nat) (w : World) (h : TextsAt w (.slice a l.length c) l) :
    Calls Tryd.prog 88 #[.slice a l.length c] w fun e w' => (∃ M, e = .returned (.map (some M)) ∧ SetV M l.length (inB l) w' ∧ w.heap.size ≤ M) ∧ Below w.heap.size w w' := by
  have HR := Lib.hid (h.part.2)
  have HS := Lib.hid hs
  have H0 := Lib.hid (SetV.start w)
  have hmm : ∀ n : Nat, (Instr.makeMap 141 (some (.int .i64 (n : Int)))).run Tryd.prog w = .ok (.map (some w.heap.size)) (w.alloc (.map #[] 0)) := fun n => by kernel_rfl
  have hb0 := Lib.hid ((Below.refl w.heap.size w).alloc (Nat.le_refl _) (.map #[] 0))
  clear h hs
  go_enter Tryd.func88, Tryd.ntmps88
  go_wp2
  go_loopw [11] (fun vi wr => ∃ i : Nat, i ≤ l.length ∧ vi = .int .i64 i ∧ Hid (SetV w.heap.size i (inB (l.take i)) wr ∧ Below w.heap.size w wr)) (fun vi _ => l.length - (intOf vi).toNat)
  case atStart => exact ⟨0, Nat.zero_le _, rfl, Lib.hid ⟨by have := H0.out; exact this, hb0.out⟩⟩
  case round =>
    obtain ⟨i, hi, rfl, hF⟩ := hrel
    by_cases hlt : i < l.length
    · have hltI : (i : Int) < (l.length : Int) := by omega
      obtain ⟨g, rfl, hc, hg, hrd⟩ := HR.out i hlt
      have hcell := hrd wr (fun k cs fz hk => (hF.out.2.block k (Array.getElem?_eq_some_iff.1 hk).1).trans hk)
      obtain ⟨w6, hup, hM6, hg6⟩ := hF.out.1.upd (S' := inB (l.take (i + 1))) (by unfold maxLen; omega) l[i] (by have := HS.out _ (List.getElem_mem hlt); unfold maxLen; omega) (fun k => inB_take hlt k)
      have H6 := Lib.hid (show SetV w.heap.size (i + 1) (inB (l.take (i + 1))) w6 ∧ Below w.heap.size w w6 from ⟨hM6, hF.out.2.grown hg6 hF.out.2.size (fun k e => by injection e with e; omega)⟩)
      have hgl : g < wr.heap.size := Nat.lt_of_lt_of_le hg hF.out.2.size
      clear hrd hM6 hg6 hF HR HS H0 hb0
      generalize l[i] = nm at *
      go_wp2
      go_roundw
      case rel => exact ⟨i + 1, by omega, by go_num, H6⟩
      case measure => simp [intOf]; omega
    · have hltI : ¬ ((i : Int) < (l.length : Int)) := by omega
      have hil : i = l.length := by omega
      rw [hil, List.take_length] at hF
      have HF := Lib.hid hF.out
      clear hF hil
      go_wp2
      go_ret
      exact ⟨⟨_, rfl, HF.out.1, Nat.le_refl _⟩, HF.out.2⟩
end Go.Proofs.YtdcfemojkdoakaaDoor
/- A region that draws its order, by an invariant: each operation is run once, at whatever state meets the facts on those that it waits for. -/
namespace Go.Proofs.YtdcfemojkdoakaaDoor

def upd (x : Nat → Value) (i : Nat) (v : Value) : Nat → Value := fun j => if j = i then v else x j
theorem upd_same (x : Nat → Value) (i : Nat) (v : Value) : upd x i v i = v := by simp [upd]
theorem upd_other (x : Nat → Value) {i j : Nat} (v : Value) (h : j ≠ i) : upd x i v j = x j := by simp [upd, h]

def AllAt (f : Nat → Oper → Prop) : Nat → List Oper → Prop
  | _, [] => True
  | n, o :: os => f n o ∧ AllAt f (n + 1) os

theorem AllAt.get {f : Nat → Oper → Prop} : ∀ {l : List Oper} {n : Nat}, AllAt f n l → ∀ {i : Nat} {o : Oper}, l[i]? = some o → f (n + i) o
  | [], _, _, i, o, h => by simp at h
  | a :: l, n, hl, 0, o, h => by simp at h; subst h; exact hl.1
  | a :: l, n, hl, i + 1, o, h => by
    have := AllAt.get hl.2 (i := i) (o := o) (by simpa using h)
    rw [show n + (i + 1) = n + 1 + i by omega]; exact this

/-- What is asked of operation 'o', number 'i'. -/
structure StepAt (P : Program) (fr : (Nat → Value) → Act) (S : World → Prop) (Rel : World → World → Prop) (Vals : Nat → Value → World → Prop)
    (ops : Array Oper) (Q : Exit → Act → World → Prop) (i : Nat) (o : Oper) : Prop where
  back : ∀ e ∈ o.after, Region.binds .any e = true → e.on < i
  put : ∀ x v, (fr x).put o.dst v = fr (upd x i v)
  run : ∀ (x : Nat → Value) (w : World), S w → (∀ e ∈ o.after, Region.binds .any e = true → Vals e.on (x e.on) w) →
    ∀ K : Act → World → Prop, (∀ v w', Rel w w' → Vals i v w' → K ((fr x).put o.dst v) w') →
      if Region.wanted o (yielded ops (fr x).tmps) = true then Oper.wp P o (fr x) w K Q else K ((fr x).put o.dst undef) w

section
variable {P : Program} {ops : Array Oper} {Q : Exit → Act → World → Prop} {fr : (Nat → Value) → Act} {S : World → Prop} {Rel : World → World → Prop} {Vals : Nat → Value → World → Prop}

theorem all_of_none (hback : ∀ i o, ops[i]? = some o → ∀ e ∈ o.after, Region.binds .any e = true → e.on < i) {listed : Array Bool} (hz : listed.size = ops.size)
    (h : Region.ready .any ops listed = []) : ∀ i, i < ops.size → listed.getD i false = true := by
  intro i
  induction i using Nat.strongRecOn with
  | ind i ih =>
    intro hi
    cases hl : listed.getD i false with
    | true => rfl
    | false =>
      have : i ∈ Region.ready .any ops listed := mem_ready.2 ⟨by
        have : i < listed.size := by omega
        simp [this] at hl ⊢; exact hl, ops[i], Array.getElem?_eq_getElem hi, fun e he hb => by
          have hlt := hback i ops[i] (Array.getElem?_eq_getElem hi) e he hb
          exact ih e.on hlt (by omega)⟩
      rw [h] at this; cases this

theorem inv_any (hput : ∀ i o, ops[i]? = some o → StepAt P fr S Rel Vals ops Q i o)
    (hrel : ∀ w w', S w → Rel w w' → S w') (hval : ∀ i v w w', S w → Vals i v w → Rel w w' → Vals i v w')
    (hfin : ∀ x w, S w → (∀ i, i < ops.size → Vals i (x i) w) → Q .normal (fr x) w) :
    ∀ (fuel : Nat) (listed : Array Bool) (x : Nat → Value) (w : World), listed.size = ops.size → ops.size ≤ fuel + listed.toList.count true → S w →
      (∀ i, listed.getD i false = true → Vals i (x i) w) → wpAny P .any ops Q fuel listed (fr x) w := by
  have hend : ∀ (listed : Array Bool) (x : Nat → Value) (w : World), listed.size = ops.size → S w → (∀ i, listed.getD i false = true → Vals i (x i) w) →
      Region.ready .any ops listed = [] → Q .normal (fr x) w := fun listed x w hz hS hV h =>
    hfin x w hS fun i hi => hV i (all_of_none (fun i o h => (hput i o h).back) hz h i hi)
  intro fuel
  induction fuel with
  | zero =>
    intro listed x w hz hc hS hV
    have hall : listed.toList.count true = listed.toList.length := by
      have := List.count_le_length (a := true) (l := listed.toList)
      simp at this hc ⊢; omega
    have hr : Region.ready .any ops listed = [] := by
      cases h : Region.ready .any ops listed with
      | nil => rfl
      | cons i l =>
        have hi : i ∈ Region.ready .any ops listed := by rw [h]; simp
        obtain ⟨h0, o, ho, _⟩ := mem_ready.1 hi
        have hlt : i < listed.size := by rw [hz]; exact (Array.getElem?_eq_some_iff.1 ho).1
        have := List.count_eq_length.1 hall listed[i] (by simp)
        simp [hlt] at h0
        rw [h0] at this; cases this
    exact ⟨hr, hend listed x w hz hS hV hr⟩
  | succ fuel ih =>
    intro listed x w hz hc hS hV
    refine ⟨hend listed x w hz hS hV, fun i hi => ?_⟩
    obtain ⟨h0, o, ho, hdep⟩ := mem_ready.1 hi
    have hlt : i < listed.size := by rw [hz]; exact (Array.getElem?_eq_some_iff.1 ho).1
    have h0' : listed[i] = false := by simpa [hlt] using h0
    have H := hput i o ho
    have hK : ∀ v w', Rel w w' → Vals i v w' → wpAny P .any ops Q fuel (listed.setIfInBounds i true) ((fr x).put o.dst v) w' := fun v w' hr hv => by
      rw [H.put]
      refine ih _ _ _ (by simpa using hz) ?_ (hrel w w' hS hr) fun j hj => ?_
      · have : (listed.setIfInBounds i true).toList.count true = listed.toList.count true + 1 := by
          rw [Array.toList_setIfInBounds, List.count_set (by simpa using hlt)]
          simp [h0']
        omega
      · by_cases hji : j = i
        · subst hji; rw [upd_same]; exact hv
        · rw [upd_other x v hji]
          exact hval _ _ _ _ hS (hV j (by rw [getD_set_ne false (Ne.symm hji)] at hj; exact hj)) hr
    have := H.run x w hS (fun e he hb => hV e.on (hdep e he hb)) _ hK
    unfold wpOp
    simp only [ho]
    split
    · rename_i hw; rw [if_pos hw] at this; exact .inl this
    · rename_i hw; rw [if_neg hw] at this; exact this

theorem region_inv (fr : (Nat → Value) → Act) (S : World → Prop) (Rel : World → World → Prop) (Vals : Nat → Value → World → Prop) (x0 : Nat → Value) {id : Nat} {a : Act} {w : World}
    (hm : P.follows .mixedOrders = true) (ha : a = fr x0) (hS : S w.drew)
    (hrel : ∀ w w', S w → Rel w w' → S w') (hval : ∀ i v w w', S w → Vals i v w → Rel w w' → Vals i v w')
    (hops : AllAt (StepAt P fr S Rel Vals ops Q) 0 ops.toList)
    (hfin : ∀ x w, S w → (∀ i, i < ops.size → Vals i (x i) w) → Q .normal (fr x) w) : (Code.region id ops true).wp P Q a w := by
  subst ha
  refine wp_region_any hm ?_
  exact inv_any (fun i o h => by have := hops.get (i := i) (o := o) (by simpa using h); rwa [Nat.zero_add] at this) hrel hval hfin _ _ _ _ (by simp) (by simp) hS
    (fun i hi => by
      by_cases h : i < ops.size
      · simp [h] at hi
      · simp [h] at hi)
end
end Go.Proofs.YtdcfemojkdoakaaDoor
/- SubstOthers: plain facts; what its last statement keeps. -/
namespace Go.Proofs.YtdcfemojkdoakaaDoor
open Go.RowKit Go.Sort Go.Lib
attribute [local go_sem] Oper.semAt_some

/-- Type t lies in block b. -/
def BoxT (b : Nat) (t : T) (a : Option Addr) (c : Nat) (w : World) : Prop :=
  w.heap[b]? = some (.cells #[.int .i64 t.kind, .string t.name, .slice a t.kids.length c] 29 (0, 0)) ∧ TysAt w (.slice a t.kids.length c) t.kids
theorem BoxT.below {b : Nat} {t : T} {a : Option Addr} {c : Nat} {w W : World} (h : BoxT b t a c w) (hb : Below w.heap.size w W) : BoxT b t a c W :=
  ⟨(hb.block b (Array.getElem?_eq_some_iff.1 h.1).1).trans h.1, h.2.keep (KeepT.of_below hb)⟩
theorem BoxT.alloc {b : Nat} {t : T} {a : Option Addr} {c : Nat} {w : World} (h : BoxT b t a c w) (o : Obj) : BoxT b t a c (w.alloc o) := h.below ((Below.refl _ w).alloc (Nat.le_refl _) o)
theorem BoxT.new {t : T} {a : Option Addr} {c : Nat} {w : World} (h : TysAt w (.slice a t.kids.length c) t.kids) : BoxT w.heap.size t a c (w.alloc (.cells #[.int .i64 t.kind, .string t.name, .slice a t.kids.length c] 29)) :=
  ⟨alloc_new w _, h.keep (keepT_alloc w _)⟩
theorem BoxT.cells {b : Nat} {t : T} {a : Option Addr} {c : Nat} {w : World} (h : BoxT b t a c w) : w.cell? ⟨b, 0, none⟩ = some (.int .i64 t.kind) ∧ w.cell? ⟨b, 1, none⟩ = some (.string t.name) ∧ w.cell? ⟨b, 2, none⟩ = some (.slice a t.kids.length c) := three_cells h.1
theorem BoxT.lt {b : Nat} {t : T} {a : Option Addr} {c : Nat} {w : World} (h : BoxT b t a c w) : b < w.heap.size := (Array.getElem?_eq_some_iff.1 h.1).1
/-- Types for variables lie in block b. -/
def BoxS (b : Nat) (v : Value) (d : List PR) (w : World) : Prop := w.heap[b]? = some (.cells #[v] 33 (0, 0)) ∧ SubAt v d w
theorem BoxS.below {b : Nat} {v : Value} {d : List PR} {w W : World} (h : BoxS b v d w) (hb : Below w.heap.size w W) : BoxS b v d W := ⟨(hb.block b (Array.getElem?_eq_some_iff.1 h.1).1).trans h.1, h.2.below hb⟩
theorem BoxS.alloc {b : Nat} {v : Value} {d : List PR} {w : World} (h : BoxS b v d w) (o : Obj) : BoxS b v d (w.alloc o) := h.below ((Below.refl _ w).alloc (Nat.le_refl _) o)
theorem BoxS.new {v : Value} {d : List PR} {w : World} (h : SubAt v d w) : BoxS w.heap.size v d (w.alloc (.cells #[v] 33)) := ⟨alloc_new w _, h.below ((Below.refl _ w).alloc (Nat.le_refl _) _)⟩
theorem BoxS.cell {b : Nat} {v : Value} {d : List PR} {w : World} (h : BoxS b v d w) : w.cell? ⟨b, 0, none⟩ = some v := by rw [Lib.cell_of_heap h.1]; rfl
theorem BoxS.lt {b : Nat} {v : Value} {d : List PR} {w : World} (h : BoxS b v d w) : b < w.heap.size := (Array.getElem?_eq_some_iff.1 h.1).1
theorem with_calls {P : Program} {f : Nat} {args : Array Value} {R : Ending → World → Prop} {w : World} (S : World → Prop) (h : S w) (k : ∀ W, S W → Calls P f args W R) : Calls P f args w R := k w h
theorem seq_new {w0 w : World} {a : Option Addr} {n c : Nat} (hb : Below w0.heap.size w0 w) (hl : IntsAt w0.heap.size a n w0) : SeqAt w0.heap.size w.heap.size a n c 0 (w.alloc (.cells #[.slice a n c, .int .i64 0] 26)) :=
  ⟨⟨hb.size, alloc_new w _⟩, hl.keep (hb.alloc hb.size _)⟩
theorem strs_two (w : World) (x y : ByteArray) : StrsP (.slice (some ⟨w.heap.size, 0, none⟩) 2 2) [x, y] (w.alloc (.cells #[.string x, .string y] 9)) :=
  .inr ⟨w.heap.size, 0, 2, rfl, by simp, fun i hi => by
    have h := alloc_new w (.cells #[.string x, .string y] 9)
    rw [Lib.cell_of_heap h]
    match i, hi with
    | 0, _ => rfl
    | 1, _ => rfl
    | n + 2, hi => simp at hi; omega⟩
theorem strs_three {w : World} {b : Nat} {x y z : ByteArray} (h : w.heap[b]? = some (.cells #[.string x, .string y, .string z] 9 (0, 0))) : StrsP (.slice (some ⟨b, 0, none⟩) 3 3) [x, y, z] w :=
  .inr ⟨b, 0, 3, rfl, (Array.getElem?_eq_some_iff.1 h).1, fun i hi => by
    rw [Lib.cell_of_heap h]
    match i, hi with
    | 0, _ => rfl
    | 1, _ => rfl
    | 2, _ => rfl
    | n + 3, hi => simp at hi; omega⟩

/-! Names for names. -/
/-- Of a made type: what is the same at a, b, c is the same. -/
theorem app_ext (d d' : List PR) (h : ∀ n : ByteArray, n.data.toList ∈ T.vnames → app d (.var n) = app d' (.var n)) : ∀ t, T.Good t → app d t = app d' t := by
  intro t
  refine T.by_kids (P := fun t => T.Good t → app d t = app d' t) (fun t H ht => ?_) t
  cases t with
  | var n => exact h n (by rwa [T.Good] at ht)
  | con n l =>
    rw [app, app, apps_map, apps_map]
    congr 1
    rw [T.Good] at ht
    exact List.map_congr_left fun k hk => H k hk (goods_mem ht.2 k hk)
  | fn a b =>
    rw [T.Good] at ht
    rw [app, app, H a (by simp [T.kids]) ht.1, H b (by simp [T.kids]) ht.2]
  | all n a => rw [T.Good] at ht; exact ht.elim
where
  goods_mem {l : List T} (h : T.Goods l) : ∀ k ∈ l, T.Good k := by
    induction l with
    | nil => intro k hk; cases hk
    | cons a l ih =>
      rw [T.Goods] at h
      intro k hk
      rcases List.mem_cons.1 hk with rfl | hk
      · exact h.1
      · exact ih h.2 k hk
theorem app_round (d d' : List PR) (h : ∀ n : ByteArray, n.data.toList ∈ T.vnames → app d (app d' (.var n)) = .var n) : ∀ t, T.Good t → app d (app d' t) = t := by
  intro t
  refine T.by_kids (P := fun t => T.Good t → app d (app d' t) = t) (fun t H ht => ?_) t
  cases t with
  | var n => exact h n (by rwa [T.Good] at ht)
  | con n l =>
    rw [app, app, apps_map, apps_map, List.map_map]
    congr 1
    rw [T.Good] at ht
    conv => rhs; rw [← List.map_id l]
    exact List.map_congr_left fun k hk => H k hk (app_ext.goods_mem ht.2 k hk)
  | fn a b =>
    rw [T.Good] at ht
    rw [app, app, H a (by simp [T.kids]) ht.1, H b (by simp [T.kids]) ht.2]
  | all n a => rw [T.Good] at ht; exact ht.elim
theorem app_same (d : List PR) (h : ∀ n : ByteArray, n.data.toList ∈ T.vnames → app d (.var n) = .var n) (t : T) (ht : T.Good t) : app d t = t := by
  have := app_round d [] (fun n hn => by rw [app_nil]; exact h n hn) t ht
  rwa [app_nil] at this
theorem size_app (d : List PR) (h : ∀ n : ByteArray, n.data.toList ∈ T.vnames → tsize (app d (.var n)) = 1) : ∀ t, T.Good t → tsize (app d t) = tsize t := by
  intro t
  refine T.by_kids (P := fun t => T.Good t → tsize (app d t) = tsize t) (fun t H ht => ?_) t
  cases t with
  | var n => rw [h n (by rwa [T.Good] at ht)]; rfl
  | con n l =>
    rw [T.Good] at ht
    rw [app, tsize, tsize, apps_map]
    have key : ∀ m : List T, (∀ k ∈ m, k ∈ l) → tsizes (m.map (app d)) = tsizes m := by
      intro m
      induction m with
      | nil => intro _; rfl
      | cons a m ih =>
        intro hm
        rw [List.map_cons, tsizes, tsizes, ih (fun k hk => hm k (List.mem_cons_of_mem _ hk)), H a (hm a (List.mem_cons_self ..)) (app_ext.goods_mem ht.2 a (hm a (List.mem_cons_self ..)))]
    rw [key l (fun k hk => hk)]
  | fn a b =>
    rw [T.Good] at ht
    rw [app, tsize, tsize, H a (by simp [T.kids]) ht.1, H b (by simp [T.kids]) ht.2]
  | all n a => rw [T.Good] at ht; exact ht.elim

def nA : ByteArray := ⟨#[97]⟩
def nB : ByteArray := ⟨#[98]⟩
def nC : ByteArray := ⟨#[99]⟩
def nX : ByteArray := ⟨#[120]⟩
def nZ : ByteArray := ⟨#[122, 122]⟩
theorem vn_cases {n : ByteArray} (h : n.data.toList ∈ T.vnames) : n = nA ∨ n = nB ∨ n = nC := by
  simp only [T.vnames, List.mem_cons, List.not_mem_nil, or_false] at h
  cases n with | mk d => cases d with | mk l =>
    simp only at h
    rcases h with rfl | rfl | rfl
    · exact .inl rfl
    · exact .inr (.inl rfl)
    · exact .inr (.inr rfl)
theorem app_v (n : ByteArray) (d : List PR) : app d (.var n) = ty n d := rfl
def dS : List PR := [⟨nA, .var nB, none, 0⟩, ⟨nB, .var nA, none, 0⟩]
def dU : List PR := [⟨nZ, .var nA, none, 0⟩]
def fromL : List ByteArray := [nA, nB, nC]
def toL : List ByteArray := [nC, nX, nB]
theorem tyc {n m : ByteArray} {t : T} {a : Option Addr} {c : Nat} {l : List PR} : ty n (⟨m, t, a, c⟩ :: l) = if m = n then t else ty n l := ty_cons n ⟨m, t, a, c⟩ l
theorem swap_twice (t : T) (h : T.Good t) : app dS (app dS t) = t := by
  refine app_round _ _ (fun n hn => ?_) t h
  rcases vn_cases hn with rfl | rfl | rfl
  · rw [app_v, dS, tyc, if_pos rfl, app_v, tyc, if_neg (by decide), tyc, if_pos rfl]
  · rw [app_v, dS, tyc, if_neg (by decide), tyc, if_pos rfl, app_v, tyc, if_pos rfl]
  · rw [app_v, dS, tyc, if_neg (by decide), tyc, if_neg (by decide), ty_nil, app_v, tyc, if_neg (by decide), tyc, if_neg (by decide), ty_nil]
theorem stays (t : T) (h : T.Good t) : app dU t = t := by
  refine app_same _ (fun n hn => ?_) t h
  rcases vn_cases hn with rfl | rfl | rfl <;> rw [app_v, dU, tyc, if_neg (by decide), ty_nil]
def dF : List PR := [⟨nA, .var nC, none, 0⟩, ⟨nB, .var nX, none, 0⟩, ⟨nC, .var nB, none, 0⟩]
def dT : List PR := [⟨nC, .var nA, none, 0⟩, ⟨nX, .var nB, none, 0⟩, ⟨nB, .var nC, none, 0⟩]
theorem prs_ft : prs fromL toL = dF := rfl
theorem prs_tf : prs toL fromL = dT := rfl
theorem there_back (t : T) (h : T.Good t) : app (prs toL fromL) (app (prs fromL toL) t) = t := by
  rw [prs_ft, prs_tf]
  refine app_round _ _ (fun n hn => ?_) t h
  rcases vn_cases hn with rfl | rfl | rfl
  · rw [app_v, dF, tyc, if_pos rfl, app_v, dT, tyc, if_pos rfl]
  · rw [app_v, dF, tyc, if_neg (by decide), tyc, if_pos rfl, app_v, dT, tyc, if_neg (by decide), tyc, if_pos rfl]
  · rw [app_v, dF, tyc, if_neg (by decide), tyc, if_neg (by decide), tyc, if_pos rfl, app_v, dT, tyc, if_neg (by decide), tyc, if_neg (by decide), tyc, if_pos rfl]
theorem swap_names (t : T) (h : T.Good t) : app (prs [nA, nB] [nB, nA]) t = app dS t := by
  refine app_ext _ _ (fun n _ => ?_) t h
  rfl
theorem swap_size (t : T) (h : T.Good t) : tsize (app dS t) = tsize t := by
  refine size_app _ (fun n hn => ?_) t h
  rcases vn_cases hn with rfl | rfl | rfl
  · rw [app_v, dS, tyc, if_pos rfl]; rfl
  · rw [app_v, dS, tyc, if_neg (by decide), tyc, if_pos rfl]; rfl
  · rw [app_v, dS, tyc, if_neg (by decide), tyc, if_neg (by decide), ty_nil]; rfl
theorem there_size (t : T) (h : T.Good t) : tsize (app (prs fromL toL) t) = tsize t := by
  rw [prs_ft]
  refine size_app _ (fun n hn => ?_) t h
  rcases vn_cases hn with rfl | rfl | rfl
  · rw [app_v, dF, tyc, if_pos rfl]; rfl
  · rw [app_v, dF, tyc, if_neg (by decide), tyc, if_pos rfl]; rfl
  · rw [app_v, dF, tyc, if_neg (by decide), tyc, if_neg (by decide), tyc, if_pos rfl]; rfl

theorem sized_made {d l : List PR} (h : Made d l) (hd : SizedAll d) : SizedAll l := fun x hx => by
  obtain ⟨y, hy, _, e⟩ := h.sub x hx
  rw [e]; exact hd y hy
/-- Calls whose results are told. -/
theorem apply_ret {d0 l : List PR} {t t' : T} (hm : Made d0 l) (hd : SizedAll d0) (hl : d0.length ≤ 1000) (ht : tsize t ≤ 1000000000) (e : app d0 t = t') {s : Value} {a : Option Addr} {c : Nat} {w : World} (hs : SubAt s l w) (h : TysAt w (.slice a t.kids.length c) t.kids) :
    Calls Tryd.prog 14 #[.agg #[s], .agg #[.int .i64 t.kind, .string t.name, .slice a t.kids.length c]] w fun e Y => (∃ za zc, e = .returned (.agg #[.int .i64 t'.kind, .string t'.name, .slice za t'.kids.length zc]) ∧ TysAt Y (.slice za t'.kids.length zc) t'.kids) ∧ Below w.heap.size w Y := by
  refine (apply_any (d := l) (t := t) (s := s) (w := w) (by have := hm.len; omega) (sized_made hm hd) ht hs h).mono ?_
  rintro e1 w5 ⟨⟨a, c, rfl, hin⟩, hb5⟩
  rw [made_ty hm, e] at hin ⊢
  exact ⟨⟨a, c, rfl, hin.tys⟩, hb5⟩
theorem same_ret {t : T} (ht : tsize t ≤ 1000000000) {a b : Option Addr} {c d : Nat} {w : World} (h : TysAt w (.slice a t.kids.length c) t.kids) (h' : TysAt w (.slice b t.kids.length d) t.kids) :
    Calls Tryd.prog 13 #[.agg #[.int .i64 t.kind, .string t.name, .slice a t.kids.length c], .agg #[.int .i64 t.kind, .string t.name, .slice b t.kids.length d]] w fun e Y => e = .returned (.bool true) ∧ Below w.heap.size w Y := by
  have := sameType_any (t := t) (t' := t) (w := w) (fits_small ht) h h'
  rwa [eqB_true rfl] at this
theorem size_ret {t : T} {n : Nat} (ht : tsize t ≤ 1000000000) (e : tsize t = n) {a : Option Addr} {c : Nat} {w : World} (h : TysAt w (.slice a t.kids.length c) t.kids) :
    Calls Tryd.prog 36 #[.agg #[.int .i64 t.kind, .string t.name, .slice a t.kids.length c]] w fun e Y => e = .returned (.int .i64 (n : Nat)) ∧ Below w.heap.size w Y := by
  subst e; exact rsize_any ht h

/-- What the last statement of SubstOthers keeps. -/
def SO (w : World) (b5 b8 b9 b12 : Nat) (t sw : T) (pa pw : Option Addr) (ca cw : Nat) (sv uv frv tov : Value) (ls lu : List PR) (X : World) : Prop :=
  (BoxT b5 t pa ca X ∧ BoxT b12 sw pw cw X) ∧ (BoxS b8 sv ls X ∧ BoxS b9 uv lu X) ∧ (StrsP frv fromL X ∧ StrsP tov toL X) ∧ Below w.heap.size w X
theorem SO.below {w : World} {b5 b8 b9 b12 : Nat} {t sw : T} {pa pw : Option Addr} {ca cw : Nat} {sv uv frv tov : Value} {ls lu : List PR} {X Y : World} (h : SO w b5 b8 b9 b12 t sw pa pw ca cw sv uv frv tov ls lu X) (hb : Below X.heap.size X Y) : SO w b5 b8 b9 b12 t sw pa pw ca cw sv uv frv tov ls lu Y :=
  ⟨⟨h.1.1.below hb, h.1.2.below hb⟩, ⟨h.2.1.1.below hb, h.2.1.2.below hb⟩, ⟨h.2.2.1.1.below hb, h.2.2.1.2.below hb⟩, h.2.2.2.trans (hb.mono h.2.2.2.size)⟩
theorem SO.cells {w : World} {b5 b8 b9 b12 : Nat} {t sw : T} {pa pw : Option Addr} {ca cw : Nat} {sv uv frv tov : Value} {ls lu : List PR} {X : World} (h : SO w b5 b8 b9 b12 t sw pa pw ca cw sv uv frv tov ls lu X) :
    (X.cell? ⟨b5, 0, none⟩ = some (.int .i64 t.kind) ∧ X.cell? ⟨b5, 1, none⟩ = some (.string t.name) ∧ X.cell? ⟨b5, 2, none⟩ = some (.slice pa t.kids.length ca)) ∧ (X.cell? ⟨b12, 0, none⟩ = some (.int .i64 sw.kind) ∧ X.cell? ⟨b12, 1, none⟩ = some (.string sw.name) ∧ X.cell? ⟨b12, 2, none⟩ = some (.slice pw sw.kids.length cw)) ∧
    X.cell? ⟨b8, 0, none⟩ = some sv ∧ X.cell? ⟨b9, 0, none⟩ = some uv := ⟨h.1.1.cells, h.1.2.cells, h.2.1.1.cell, h.2.1.2.cell⟩
end Go.Proofs.YtdcfemojkdoakaaDoor
/- The law's pairs, made of numbers. -/
namespace Go.Proofs.YtdcfemojkdoakaaDoor
open Go.RowKit Go.Sort Go.Lib
attribute [local go_sem] Oper.semAt_some

theorem Tryd.infoRefPair : (Tryd.prog.info? 73).map (fun i => (i.zero, i.size, i.bytes)) = some (some (.agg zeroP), 4, 64) := by kernel_rfl
/-- The cells of a row of pairs. -/
def cellsP (d : List PR) : List Value := d.flatMap encP
theorem cellsP_snoc (d : List PR) (x : PR) : cellsP (d ++ [x]) = cellsP d ++ encP x := by simp [cellsP]
theorem cellsP_len : ∀ d : List PR, (cellsP d).length = d.length * 4
  | [] => rfl
  | x :: d => by
    have := cellsP_len d
    simp only [cellsP, List.flatMap_cons, List.length_append, encP_len, List.length_cons] at this ⊢
    omega
theorem cellsP_at (d : List PR) (i j : Nat) (hi : i < d.length) (hj : j < 4) : (cellsP d)[i * 4 + j]? = (encP (d.getD i noP))[j]? := by
  induction d generalizing i with
  | nil => cases hi
  | cons a r ih =>
    cases i with
    | zero =>
      have : (encP a ++ cellsP r)[j]? = (encP a)[j]? := List.getElem?_append_left (by rw [encP_len]; omega)
      simpa [cellsP] using this
    | succ i =>
      have e : (i + 1) * 4 + j = (encP a).length + (i * 4 + j) := by rw [encP_len]; omega
      have h1 : (encP a ++ cellsP r)[(encP a).length + (i * 4 + j)]? = (cellsP r)[i * 4 + j]? := by rw [List.getElem?_append_right (by omega)]; congr 1; omega
      have h2 := ih i (by simpa using hi)
      rw [e]
      simpa [cellsP, List.getD] using h1.trans h2
/-- As RowP, whatever the row's type is. -/
def RowG (T : TypeId) (g : Nat) (l : List PR) (w : World) : Prop :=
  ∃ cs, w.heap[g]? = some (.cells cs T (0, 0)) ∧ l.length * 4 ≤ cs.size ∧ ∀ i, i < l.length →
    cs[i * 4]? = some (.string (l.getD i noP).n) ∧ cs[i * 4 + 1]? = some (.int .i64 (l.getD i noP).t.kind) ∧ cs[i * 4 + 2]? = some (.string (l.getD i noP).t.name) ∧ cs[i * 4 + 3]? = some (.slice (l.getD i noP).a (l.getD i noP).t.kids.length (l.getD i noP).c)
theorem RowG.row {g : Nat} {l : List PR} {w : World} (h : RowG 119 g l w) : RowP g l w := h
/-- A list of pairs as the law makes it. -/
def GivenG (T : TypeId) (v : Value) (d : List PR) (w : World) : Prop := (d = [] ∧ v = .slice none 0 0) ∨ (d ≠ [] ∧ ∃ g cap, v = .slice (some ⟨g, 0, none⟩) d.length cap ∧ RowG T g d w)
theorem given_of_row {T : TypeId} {W : World} {base : Nat} {v : Value} {d : List PR} (h : W.ownsRow base T 4 v d.length (cellsP d)) (h0 : d = [] → v = .slice none 0 0) : GivenG T v d W := by
  by_cases hd : d = []
  · exact .inl ⟨hd, h0 hd⟩
  · rcases h.2 with ⟨rfl, hn0⟩ | ⟨g, cap, cur, rfl, _, hg, hc, hm, hcs, htk⟩
    · exact absurd (List.length_eq_zero_iff.1 hn0) hd
    · refine .inr ⟨hd, g, cap, rfl, cur, hg, by rw [hcs]; exact Nat.mul_le_mul_right 4 hc, fun i hi => ?_⟩
      have cell : ∀ j, j < 4 → cur[i * 4 + j]? = (encP (d.getD i noP))[j]? := fun j hj => by
        have hlt : i * 4 + j < d.length * 4 := by omega
        rw [← cellsP_at d i j hi hj, ← htk, List.getElem?_take, if_pos hlt, Array.getElem?_toList]
      exact ⟨(cell 0 (by omega)).trans rfl, (cell 1 (by omega)).trans rfl, (cell 2 (by omega)).trans rfl, (cell 3 (by omega)).trans rfl⟩
theorem own_keep {w w' : World} {p base : Nat} {e : TypeId} {size : Nat} {v : Value} {n : Nat} {xs : List Value} (h : w.ownsRow base e size v n xs) (hk : ∀ k o, w.heap[k]? = some o → k ≠ p → w'.heap[k]? = some o) (hp : p < base) : w'.ownsRow base e size v n xs := by
  refine ⟨h.1, ?_⟩
  rcases h.2 with h | ⟨g, cap, cur, rfl, hb, hg, r⟩
  · exact .inl h
  · exact .inr ⟨g, cap, cur, rfl, hb, hk g _ hg (by omega), r⟩
theorem KeepT.grown {W W' : World} {base : Nat} {e : TypeId} {size : Nat} {v : Value} {n : Nat} {xs : List Value} (hg : W.grownBy W' v.ownBlock) (h : W.ownsRow base e size v n xs) (he : e ≠ 29) : KeepT W W' := by
  intro k cs fz hk
  refine (hg.block k (Array.getElem?_eq_some_iff.1 hk).1 fun ee => ?_).trans hk
  rcases h.2 with ⟨rfl, _⟩ | ⟨g, cap, cur, rfl, _, hgb, _⟩
  · cases ee
  · obtain rfl : k = g := by simpa [Value.ownBlock] using ee
    rw [hk] at hgb
    cases hgb
    exact he rfl
theorem row_val {W : World} {base : Nat} {e : TypeId} {size : Nat} {v : Value} {n : Nat} {xs : List Value} (h : W.ownsRow base e size v n xs) : ∃ a c, v = .slice a n c := by
  rcases h.2 with ⟨rfl, rfl⟩ | ⟨g, cap, _, rfl, _⟩
  · exact ⟨_, _, rfl⟩
  · exact ⟨_, _, rfl⟩
theorem cell_new4 (w : World) (x y z u : Value) (t : TypeId) : ∀ j v, [x, y, z, u][j]? = some v → (w.alloc (.cells #[x, y, z, u] t)).cell? ((⟨w.heap.size, 0, none⟩ : Addr).add j) = some v := by
  intro j v hv
  have hadd : (⟨w.heap.size, 0, none⟩ : Addr).add j = ⟨w.heap.size, j, none⟩ := by unfold Addr.add; split <;> simp_all
  rw [hadd]
  have := alloc_new w (.cells #[x, y, z, u] t)
  simp only [World.cell?, this]
  match j, hv with
  | 0, hv => simpa using hv
  | 1, hv => simpa using hv
  | 2, hv => simpa using hv
  | 3, hv => simpa using hv
  | n + 4, hv => simp at hv

theorem rows_apart {W : World} {b1 b2 : Nat} {e1 e2 : TypeId} {s1 s2 n1 n2 : Nat} {v1 v2 : Value} {x1 x2 : List Value} (h1 : W.ownsRow b1 e1 s1 v1 n1 x1) (h2 : W.ownsRow b2 e2 s2 v2 n2 x2) (he : e1 ≠ e2) : v1.ownBlock = none ∨ v1.ownBlock ≠ v2.ownBlock := by
  rcases h1.2 with ⟨rfl, _⟩ | ⟨g, cap, cur, rfl, _, hg, _⟩
  · exact .inl rfl
  · refine .inr fun e => ?_
    rcases h2.2 with ⟨rfl, _⟩ | ⟨g', cap', cur', rfl, _, hg', _⟩
    · cases e
    · obtain rfl : g = g' := by simpa [Value.ownBlock] using e
      rw [hg] at hg'
      cases hg'
      exact he rfl
theorem cell_new4' (w : World) (o : Obj) (x y z u : Value) (t : TypeId) : ∀ j v, [x, y, z, u][j]? = some v → ((w.alloc o).alloc (.cells #[x, y, z, u] t)).cell? ((⟨w.heap.size + 1, 0, none⟩ : Addr).add j) = some v := by
  have := cell_new4 (w.alloc o) x y z u t
  simpa using this
/-- What the law's pairs hand back. -/
def MadeL (B p : Nat) (a : Option Addr) (n c k : Nat) (w : World) (e : Ending) (w' : World) : Prop :=
  (∃ d v u, e = .returned (.tuple #[v, u]) ∧ (d.length ≤ 4 ∧ ∀ x ∈ d, T.Good x.t ∧ Fits x.t ∧ (T.text x.t).length + 10 ≤ 56) ∧ (GivenG 119 v d w' ∧ GivenG 73 u d w') ∧ Typ d w') ∧ (∃ k', k' ≤ k + 40 ∧ SeqAt B p a n c k' w') ∧ MkFr B p w w'
theorem four_at {w : World} {b : Nat} {x y z u : ByteArray} {T : TypeId} {fz : Nat × Nat} (h : w.heap[b]? = some (.cells #[.string x, .string y, .string z, .string u] T fz)) (r : Nat) (hr : r < 4) : ∃ s : ByteArray, w.cell? ⟨b, r, none⟩ = some (.string s) := by
  rw [Lib.cell_of_heap h]
  match r, hr with
  | 0, _ => exact ⟨x, rfl⟩
  | 1, _ => exact ⟨y, rfl⟩
  | 2, _ => exact ⟨z, rfl⟩
  | 3, _ => exact ⟨u, rfl⟩
  | n + 4, hr => omega

end Go.Proofs.YtdcfemojkdoakaaDoor
/- scheme.split: the names that are in a list, and those that are not. -/
namespace Go.Proofs.YtdcfemojkdoakaaDoor
open Go.RowKit Go.Maps
attribute [local go_sem] Oper.semAt_some

theorem Tryd.infoStrS : (Tryd.prog.info? 9).map (fun i => (i.zero, i.size, i.bytes)) = some (some (.string ⟨#[]⟩), 1, 16) := by kernel_rfl
/-- A row of texts that is one's own. -/
def OwnT (base : Nat) (v : Value) (l : List ByteArray) (w : World) : Prop := w.ownsRow base 9 1 v l.length (l.map Value.string)
theorem OwnT.nil (base : Nat) (w : World) : OwnT base (.slice none 0 0) [] w := World.ownsRow_nil _ _ _ _
theorem OwnT.below {base : Nat} {v : Value} {l : List ByteArray} {w W : World} (h : OwnT base v l w) (hb : Below w.heap.size w W) : OwnT base v l W := World.ownsRow.kept (row := none) h (grown_of_belowS hb) (by cases e : v.ownBlock with | none => exact .inl rfl | some g => exact .inr (by simp))
theorem OwnT.apart {base M m : Nat} {S : ByteArray → Bool} {v : Value} {l : List ByteArray} {w : World} (h : OwnT base v l w) (hM : SetV M m S w) : some M ≠ v.ownBlock := fun e => by
  rcases h.2 with ⟨rfl, _⟩ | ⟨g, cap, cur, rfl, _, hg, _⟩
  · cases e
  · obtain rfl : M = g := by simpa [Value.ownBlock] using e
    exact hM.ne hg rfl
theorem OwnT.texts {base : Nat} {v : Value} {l : List ByteArray} {w : World} (h : OwnT base v l w) : TextsAt w v l := TextsAt.of_row h
theorem OwnT.shape {base : Nat} {v : Value} {l : List ByteArray} {w : World} (h : OwnT base v l w) : ∃ a c, v = .slice a l.length c := row_val h
/-- One more, at the end. -/
theorem OwnT.snoc {base : Nat} {v : Value} {l : List ByteArray} {n : ByteArray} {w : World} (h : w.ownsRow base 9 1 v (l.length + 1) (l.map Value.string ++ [.string n])) : OwnT base v (l ++ [n]) w := by
  unfold OwnT
  rw [List.length_append, List.length_singleton, List.map_append]; exact h
theorem filter_take {l : List ByteArray} {p : ByteArray → Bool} {i : Nat} (hi : i < l.length) : (l.take (i + 1)).filter p = if p l[i] = true then (l.take i).filter p ++ [l[i]] else (l.take i).filter p := by
  have e : l.take (i + 1) = l.take i ++ [l[i]] := by rw [List.take_add_one, List.getElem?_eq_getElem hi]; rfl
  rw [e, List.filter_append]
  by_cases hp : p l[i] = true
  · rw [if_pos hp]; simp [hp]
  · rw [if_neg hp]; simp [hp]
theorem TextsAt.cell {w wr : World} {a : Option Addr} {c : Nat} {l : List ByteArray} (h : TextsAt w (.slice a l.length c) l) (hb : Below w.heap.size w wr) {i : Nat} (hi : i < l.length) : ∃ g, a = some ⟨g, 0, none⟩ ∧ l.length ≤ c ∧ g < wr.heap.size ∧ wr.cell? ⟨g, i, none⟩ = some (.string l[i]) := by
  obtain ⟨g, e, hc, hg, hr⟩ := h.part.2 i hi
  exact ⟨g, e, hc, Nat.lt_of_lt_of_le hg hb.size, hr wr fun k cs fz hk => (hb.block k (Array.getElem?_eq_some_iff.1 hk).1).trans hk⟩
theorem apart_symm {a b : Option Nat} (h : a = none ∨ a ≠ b) : b = none ∨ b ≠ a := by
  rcases h with rfl | h
  · cases b with | none => exact .inl rfl | some k => exact .inr (by simp)
  · exact .inr (Ne.symm h)
theorem apart_new {a b c : Option Nat} {n : Nat} (h : a = none ∨ a ≠ b) (hc : c = a ∨ c = some n) (hb : ∀ k, b = some k → k < n) : c = none ∨ c ≠ b := by
  rcases hc with rfl | rfl
  · exact h
  · exact .inr fun e => by have := hb n e.symm; omega
/-- A row grows: what is apart of it stays, and stays apart. -/
theorem grown_apart {base M m : Nat} {S : ByteArray → Bool} {va vb v4 : Value} {p q : List ByteArray} {nm : ByteArray} {w wr W4 : World} {o1 o2 : Obj} (hva : OwnT base va p wr) (hvb : OwnT base vb q wr) (hap : va.ownBlock = none ∨ va.ownBlock ≠ vb.ownBlock) (hM : SetV M m S wr) (hb : Below w.heap.size w wr) (hbase : w.heap.size ≤ base)
    (ho : W4.ownsRow base 9 1 v4 (p.length + 1) (p.map Value.string ++ [.string nm])) (hg : ((wr.alloc o1).alloc o2).grownBy W4 va.ownBlock) (hat : v4.ownBlock = va.ownBlock ∨ v4.ownBlock = some (wr.heap.size + 1 + 1)) :
    OwnT base v4 (p ++ [nm]) W4 ∧ OwnT base vb q W4 ∧ (v4.ownBlock = none ∨ v4.ownBlock ≠ vb.ownBlock) ∧ SetV M m S W4 ∧ Below w.heap.size w W4 := by
  have hz : ((wr.alloc o1).alloc o2).heap.size = wr.heap.size + 1 + 1 := by simp
  have hb2 : Below wr.heap.size wr ((wr.alloc o1).alloc o2) := ((Below.refl _ wr).alloc (Nat.le_refl _) o1).alloc (by simp) o2
  refine ⟨OwnT.snoc ho, (World.ownsRow.kept (w := (wr.alloc o1).alloc o2) (World.ownsRow.alloc (World.ownsRow.alloc hvb o1) o2) hg (apart_symm hap)), apart_new hap hat (fun k e => by have := (hvb.lt k e).2; omega), (hM.below hb2).kept hg (hva.apart hM), ?_⟩
  exact (hb.trans (hb2.mono hb.size)).grown hg (by have := hb.size; omega) (fun k e => by have := (hva.lt k e).1; omega)
/-- Where the loop stands. -/
def SplI (w : World) (M m : Nat) (l1 l2 : List ByteArray) (i : Nat) (vi vo : Value) (wr : World) : Prop :=
  (OwnT w.heap.size vi ((l1.take i).filter (inB l2)) wr ∧ OwnT w.heap.size vo ((l1.take i).filter fun n => !inB l2 n) wr) ∧ (vi.ownBlock = none ∨ vi.ownBlock ≠ vo.ownBlock) ∧ SetV M m (inB l2) wr ∧ Below w.heap.size w wr
set_option maxRecDepth 100000 in
set_option maxHeartbeats 4000000 in
theorem split_any (l1 l2 : List ByteArray) (hl1 : l1.length ≤ 1000000) (hl2 : l2.length ≤ 1000000) (hs1 : ∀ n ∈ l1, n.size ≤ 1000000) (hs2 : ∀ n ∈ l2, n.size ≤ 1000000) (a1 a2 : Option Addr) (c1 c2 : Nat) (w : World) (h1 : TextsAt w (.slice a1 l1.length c1) l1) (h2 : TextsAt w (.slice a2 l2.length c2) l2) :
    Calls Tryd.prog 63 #[.slice a1 l1.length c1, .slice a2 l2.length c2] w fun e w' =>
      (∃ vi vo, e = .returned (.tuple #[vi, vo]) ∧ TextsAt w' vi (l1.filter (inB l2)) ∧ TextsAt w' vo (l1.filter fun n => !inB l2 n)) ∧ Below w.heap.size w w' := by
  have HC := Lib.hid (setOf_any l2 hl2 hs2 a2 c2 w h2)
  have H1 := Lib.hid h1
  have HS := Lib.hid hs1
  obtain ⟨i0, hi0, hz0, hz1, hz2⟩ := info_parts Tryd.infoStrS
  clear h1 h2 hs1 hs2
  go_enter Tryd.func63, Tryd.ntmps63
  go_wp2_with (go_at_call 88; fail)
  refine HC.out.mono ?_
  rintro e w1 ⟨⟨M, rfl, hM, hMb⟩, hb1⟩
  have H0 := Lib.hid (show SplI w M l2.length l1 l2 0 (.slice none 0 0) (.slice none 0 0) w1 from ⟨⟨OwnT.nil _ _, OwnT.nil _ _⟩, .inl rfl, hM, hb1⟩)
  have HMb := Lib.hid hMb
  clear hM hb1 HC hMb
  go_wp2_with (fail)
  go_loopw [4, 5, 15] (fun vi vo vk wr => ∃ i : Nat, i ≤ l1.length ∧ vk = .int .i64 i ∧ Hid (SplI w M l2.length l1 l2 i vi vo wr)) (fun _ _ vk _ => l1.length - (intOf vk).toNat)
  case atStart => exact ⟨0, Nat.zero_le _, rfl, H0⟩
  case round =>
    obtain ⟨i, hi, rfl, hF⟩ := hrel
    by_cases hlt : i < l1.length
    · have hltI : (i : Int) < (l1.length : Int) := by omega
      obtain ⟨⟨hvi, hvo⟩, hap, hM, hb⟩ := hF.out
      obtain ⟨g, rfl, hc, hg, hcell⟩ := H1.out.cell hb hlt
      have hlk := hM.look l1[i] (by have := HS.out _ (List.getElem_mem hlt); unfold maxLen; omega)
      have hwz := hb.size
      have hti := filter_take (p := inB l2) hlt
      have hto := filter_take (p := fun n => !inB l2 n) hlt
      have hlen1 : ((l1.take i).filter (inB l2)).length ≤ 1000000 := by have := List.length_filter_le (inB l2) (l1.take i); rw [List.length_take] at this; omega
      have hlen2 : ((l1.take i).filter fun n => !inB l2 n).length ≤ 1000000 := by have := List.length_filter_le (fun n => !inB l2 n) (l1.take i); rw [List.length_take] at this; omega
      have HVI := Lib.hid hvi; have HVO := Lib.hid hvo; have HAP := Lib.hid hap; have HM := Lib.hid hM; have HB := Lib.hid hb
      have HNX := Lib.hid (fun vi vo (wr' : World) (h : OwnT w.heap.size vi ((l1.take (i + 1)).filter (inB l2)) wr' ∧ OwnT w.heap.size vo ((l1.take (i + 1)).filter fun n => !inB l2 n) wr') (h2 : vi.ownBlock = none ∨ vi.ownBlock ≠ vo.ownBlock) (h3 : SetV M l2.length (inB l2) wr') (h4 : Below w.heap.size w wr') => (show SplI w M l2.length l1 l2 (i + 1) vi vo wr' from ⟨h, h2, h3, h4⟩))
      rw [hti, hto] at HNX
      clear hvi hvo hap hM hb hF hti hto H0
      obtain ⟨p, hp⟩ : ∃ p, (l1.take i).filter (inB l2) = p := ⟨_, rfl⟩
      obtain ⟨q, hq⟩ : ∃ q, ((l1.take i).filter fun n => !inB l2 n) = q := ⟨_, rfl⟩
      rw [hp] at HVI HNX hlen1
      rw [hq] at HVO HNX hlen2
      clear hp hq
      generalize l1[i] = nm at *
      cases hin : inB l2 nm with
      | true =>
        rw [hin] at hlk HNX
        simp only [if_true, Bool.not_true, Bool.false_eq_true, if_false] at HNX
        go_wp2_with (at_builtin; refine wpList_append_own_at _ rfl _ _ 64 rfl w.heap.size 9 i0 (.string ⟨#[]⟩) 1 16 Tryd.underlying64 hi0 hz0 hz1 hz2 rfl (by decide) _ _ _ rfl ((World.ownsRow.alloc HVI.out _).alloc _) ⟨wr.heap.size + 1, 0, none⟩ 1 1 [.string nm] rfl rfl (by have := cell_one_new (wr.alloc (.cells #[] 143)) (.string nm) 9; simpa using this) (by simp [Value.oneCell']) ?c3 ?c4 ?c5 ?_)
        case c3 => unfold maxLen; omega
        case c4 => omega
        case c5 => simp; omega
        intro v4 W4 hown4 hgr4 _ hat4
        obtain ⟨k1, k2, k3, k4, k5⟩ := grown_apart HVI.out HVO.out HAP.out HM.out HB.out (Nat.le_refl _) hown4 hgr4 hat4
        have HE := Lib.hid (HNX.out v4 u5 W4 ⟨k1, k2⟩ k3 k4 k5)
        clear hown4 hgr4 hat4 k1 k2 k3 k4 k5
        go_wp2
        go_roundw
        case rel => exact ⟨i + 1, by omega, by go_num, HE⟩
        case measure => simp [intOf]; omega
      | false =>
        rw [hin] at hlk HNX
        simp only [if_true, Bool.not_false, Bool.false_eq_true, if_false] at HNX
        go_wp2_with (at_builtin; refine wpList_append_own_at _ rfl _ _ 64 rfl w.heap.size 9 i0 (.string ⟨#[]⟩) 1 16 Tryd.underlying64 hi0 hz0 hz1 hz2 rfl (by decide) _ _ _ rfl ((World.ownsRow.alloc HVO.out _).alloc _) ⟨wr.heap.size + 1, 0, none⟩ 1 1 [.string nm] rfl rfl (by have := cell_one_new (wr.alloc (.cells #[] 143)) (.string nm) 9; simpa using this) (by simp [Value.oneCell']) ?c3 ?c4 ?c5 ?_)
        case c3 => unfold maxLen; omega
        case c4 => omega
        case c5 => simp; omega
        intro v4 W4 hown4 hgr4 _ hat4
        obtain ⟨k1, k2, k3, k4, k5⟩ := grown_apart HVO.out HVI.out (apart_symm HAP.out) HM.out HB.out (Nat.le_refl _) hown4 hgr4 hat4
        have HE := Lib.hid (HNX.out u4 v4 W4 ⟨k2, k1⟩ (apart_symm k3) k4 k5)
        clear hown4 hgr4 hat4 k1 k2 k3 k4 k5
        go_wp2
        go_roundw
        case rel => exact ⟨i + 1, by omega, by go_num, HE⟩
        case measure => simp [intOf]; omega
    · have hltI : ¬ ((i : Int) < (l1.length : Int)) := by omega
      have hil : i = l1.length := by omega
      have hF2 := hF.out
      rw [hil] at hF2
      unfold SplI at hF2
      rw [List.take_length] at hF2
      obtain ⟨⟨hvi, hvo⟩, _, _, hb⟩ := hF2
      have HI := Lib.hid hvi.texts; have HO := Lib.hid hvo.texts; have HB := Lib.hid hb
      obtain ⟨xa, xc, hxi⟩ := hvi.shape
      obtain ⟨ya, yc, hxo⟩ := hvo.shape
      generalize (l1.filter (inB l2)).length = z1 at hxi
      generalize (l1.filter fun n => !inB l2 n).length = z2 at hxo
      subst hxi hxo
      clear hvi hvo hb hF hil H0
      go_wp2
      exact bodyPost_ret (v := .tuple #[.slice xa z1 xc, .slice ya z2 yc]) (by simp [results, Tryd.results63, go_sem]) rfl ⟨⟨_, _, rfl, HI.out, HO.out⟩, HB.out⟩
end Go.Proofs.YtdcfemojkdoakaaDoor
/- Contexts of nothing: Preds, SortFunc, CompactFunc, scheme.SortPreds of an empty row. -/
namespace Go.Proofs.YtdcfemojkdoakaaDoor
open Go.RowKit
attribute [local go_sem] Oper.semAt_some

theorem Tryd.infoPredZ : (Tryd.prog.info? 60).map (fun i => (i.zero, i.size, i.bytes)) = some (some (.agg #[.string ⟨#[]⟩, .int .i64 0, .string ⟨#[]⟩, .slice none 0 0]), 4, 64) := by kernel_rfl
set_option maxHeartbeats 1000000 in
theorem preds0_any (v : Value) (a : Option Addr) (c : Nat) (w : World) : Calls Tryd.prog 53 #[.agg #[v], .slice a 0 c] w fun e w' => (∃ a', e = .returned (.slice (some a') 0 0)) ∧ Below w.heap.size w w' := by
  have hmk : ∀ W : World, (Instr.makeSlice 55 (.int .i64 0) (.int .i64 0)).run Tryd.prog W = .ok (.slice (some ⟨W.heap.size, 0, none⟩) 0 0) (W.alloc (.cells #[] 60)) := fun W => by kernel_rfl
  go_enter Tryd.func53, Tryd.ntmps53
  go_wp2
  refine wp_loop_rounds 1 ?_
  rw [rounds_succ]
  go_wp2
  go_ret
  exact ⟨⟨_, rfl⟩, ((Below.refl _ w).alloc (Nat.le_refl _) _).alloc (by simp) _⟩
theorem bitsLen64_0 (w : World) : Calls Tryd.prog 109 #[.int .u64 0] w fun e w' => e = .returned (.int .i64 0) ∧ w = w' := by
  go_enter Tryd.func109, Tryd.ntmps109
  go_wp2
  go_ret
  exact ⟨by kernel_rfl, rfl⟩
theorem bitsLen_0 (w : World) : Calls Tryd.prog 84 #[.int .u64 0] w fun e w' => e = .returned (.int .i64 0) ∧ w = w' := by
  go_enter Tryd.func84, Tryd.ntmps84
  go_wp2_with (go_at_call 109; refine (bitsLen64_0 _).mono ?_; rintro e w' ⟨rfl, rfl⟩)
  go_ret
  exact ⟨rfl, rfl⟩
theorem insertion0 (a : Option Addr) (c : Nat) (g : Value) (w : World) : Calls Tryd.prog 100 #[.slice a 0 c, .int .i64 0, .int .i64 0, g] w fun e w' => e = .returned (.tuple #[]) ∧ w = w' := by
  go_enter Tryd.func100, Tryd.ntmps100
  go_wp2
  refine wp_loop_rounds 1 ?_
  rw [rounds_succ]
  go_wp2
  go_end0
  exact ⟨rfl, rfl⟩
set_option maxRecDepth 100000 in
set_option maxHeartbeats 1000000 in
theorem pdq0 (a : Option Addr) (c : Nat) (g : Value) (w : World) : Calls Tryd.prog 83 #[.slice a 0 c, .int .i64 0, .int .i64 0, .int .i64 0, g] w fun e w' => e = .returned (.tuple #[]) ∧ w = w' := by
  go_enter Tryd.func83, Tryd.ntmps83
  go_wp2
  refine wp_loop_rounds 1 ?_
  rw [rounds_succ]
  go_wp2_with (go_at_call 100; refine (insertion0 _ _ _ _).mono ?_)
  rintro e w' ⟨rfl, rfl⟩
  go_wp2
  exact bodyPost_ret (v := .tuple #[]) (by simp [results, Tryd.results83, go_sem]) rfl ⟨rfl, rfl⟩
theorem sort0 (a : Option Addr) (c : Nat) (g : Value) (w : World) : Calls Tryd.prog 54 #[.slice a 0 c, g] w fun e w' => e = .returned (.tuple #[]) ∧ w = w' := by
  go_enter Tryd.func54, Tryd.ntmps54
  go_wp2_with (first
    | (go_at_call 84; refine (bitsLen_0 _).mono ?_; rintro e w' ⟨rfl, rfl⟩)
    | (go_at_call 83; refine (pdq0 _ _ _ _).mono ?_; rintro e w' ⟨rfl, rfl⟩))
  go_end0
  exact ⟨rfl, rfl⟩
set_option maxRecDepth 100000 in
theorem compact0 (a : Option Addr) (c : Nat) (g : Value) (w : World) : Calls Tryd.prog 56 #[.slice a 0 c, g] w fun e w' => e = .returned (.slice a 0 c) ∧ w = w' := by
  go_enter Tryd.func56, Tryd.ntmps56
  go_wp2
  go_ret
  exact ⟨rfl, rfl⟩
theorem sortPreds0 (a : Option Addr) (c : Nat) (w : World) : Calls Tryd.prog 22 #[.slice a 0 c] w fun e w' => (∃ a' c', e = .returned (.slice a' 0 c')) ∧ Below w.heap.size w w' := by
  go_enter Tryd.func22, Tryd.ntmps22
  go_wp2_with (go_at_call 53; refine (preds0_any _ _ _ _).mono ?_; rintro e w1 ⟨⟨a1, rfl⟩, hb1⟩; have HB1 := Lib.hid hb1; clear hb1)
  go_wp2_with (first
    | (go_at_call 54; refine (sort0 _ _ _ _).mono ?_; rintro e w' ⟨rfl, rfl⟩)
    | (go_at_call 56; refine (compact0 _ _ _ _).mono ?_; rintro e w' ⟨rfl, rfl⟩))
  go_ret
  exact ⟨⟨_, _, rfl⟩, HB1.out⟩
end Go.Proofs.YtdcfemojkdoakaaDoor
/- scheme.variables of a type alone. -/
namespace Go.Proofs.YtdcfemojkdoakaaDoor
open Go.RowKit Go.Maps
attribute [local go_sem] Oper.semAt_some

theorem Tryd.infoTyS : (Tryd.prog.info? 29).map (fun i => (i.zero, i.size, i.bytes)) = some (some (.agg #[.int .i64 0, .string ⟨#[]⟩, .slice none 0 0]), 3, 48) := by kernel_rfl
theorem cell_newT (w : World) (x y z : Value) (t : TypeId) : ∀ j v, [x, y, z][j]? = some v → (w.alloc (.cells #[x, y, z] t)).cell? ((⟨w.heap.size, 0, none⟩ : Addr).add j) = some v := by
  intro j v hv
  have hadd : (⟨w.heap.size, 0, none⟩ : Addr).add j = ⟨w.heap.size, j, none⟩ := by unfold Addr.add; split <;> simp_all
  rw [hadd]
  have := alloc_new w (.cells #[x, y, z] t)
  simp only [World.cell?, this]
  match j, hv with
  | 0, hv => simpa using hv
  | 1, hv => simpa using hv
  | 2, hv => simpa using hv
  | n + 3, hv => simp at hv
/-- A row of one type. -/
theorem tys_own1 {W : World} {base : Nat} {v : Value} {t : T} {ta : Option Addr} {tc : Nat} (h : W.ownsRow base 29 3 v 1 [.int .i64 t.kind, .string t.name, .slice ta t.kids.length tc]) (ht : TysAt W (.slice ta t.kids.length tc) t.kids) : TysAt W v [t] := by
  rcases h.2 with ⟨_, h0⟩ | ⟨g, cap, cur, rfl, _, hg, hc, hm, hcs, htk⟩
  · cases h0
  · refine .inr ⟨g, cap, cur, (0, 0), fun _ => .int .i64 t.kind, fun _ => .string t.name, fun _ => .slice ta t.kids.length tc, rfl, hg, hc, fun i hi => ?_, fun i hi => ?_⟩
    · obtain rfl : i = 0 := by simpa using hi
      have cell : ∀ j, j < 3 → cur[j]? = [Value.int .i64 t.kind, .string t.name, .slice ta t.kids.length tc][j]? := fun j hj => by
        rw [← htk, List.getElem?_take, if_pos (by omega), Array.getElem?_toList]
      exact ⟨(cell 0 (by decide)).trans rfl, (cell 1 (by decide)).trans rfl, (cell 2 (by decide)).trans rfl⟩
    · obtain rfl : i = 0 := by simpa using hi
      exact (tyAt_iff W t _ _ _).2 ⟨rfl, rfl, ht⟩
set_option maxRecDepth 100000 in
set_option maxHeartbeats 2000000 in
theorem vars1_any (t : T) (hn : Nm t) (hs : tsize t ≤ 90000000) (a ta : Option Addr) (c tc : Nat) (w : World) (ht : TysAt w (.slice ta t.kids.length tc) t.kids) :
    Calls Tryd.prog 64 #[.slice a 0 c, .agg #[.int .i64 t.kind, .string t.name, .slice ta t.kids.length tc]] w fun e w' => (∃ v, e = .returned v ∧ TextsAt w' v (fvs [] [] [t])) ∧ Below w.heap.size w w' := by
  have hmk : ∀ W : World, (Instr.makeSlice 27 (.int .i64 0) (.int .i64 1)).run Tryd.prog W = .ok (.slice (some ⟨W.heap.size, 0, none⟩) 0 1) (W.alloc (.cells #[.int .i64 0, .string ⟨#[]⟩, .slice none 0 0] 29)) := fun W => by kernel_rfl
  obtain ⟨i0, hi0, hz0, hz1, hz2⟩ := info_parts Tryd.infoTyS
  have HT := Lib.hid ht
  have HV := Lib.hid (fun (a : Option Addr) (c : Nat) (W : World) (h : TysAt W (.slice a 1 c) [t]) => vars_any [t] (fun k hk => by rw [List.mem_singleton.1 hk]; exact hn) (by simp [tsizes]; omega) a c W h)
  have HB0 := Lib.hid (Below.refl w.heap.size w)
  clear ht hn
  go_enter Tryd.func64, Tryd.ntmps64
  go_wp2_with (at_builtin; refine wpList_append_own _ rfl _ _ 27 rfl w.heap.size 29 i0 (.agg #[.int .i64 0, .string ⟨#[]⟩, .slice none 0 0]) 3 48 Tryd.underlying27 hi0 hz0 hz1 hz2 rfl (by decide) _ 0 [] rfl ?own ⟨w.heap.size + 1 + 1, 0, none⟩ 1 1 [.int .i64 t.kind, .string t.name, .slice ta t.kids.length tc] rfl rfl ?news (by simp [Value.oneCell']) ?c3 ?c4 ?c5 ?_)
  case own =>
    have := World.ownsRow_made (base := w.heap.size) (e := 29) (size := 3) (w.alloc (.cells #[.int .i64 t.kind, .string t.name, .slice ta t.kids.length tc] 29)) #[.int .i64 0, .string ⟨#[]⟩, .slice none 0 0] 1 (by simp) (by unfold maxLen; omega) rfl
    have h2 := World.ownsRow.alloc this (.cells #[.int .i64 t.kind, .string t.name, .slice ta t.kids.length tc] 29)
    have e : (w.alloc (.cells #[.int .i64 t.kind, .string t.name, .slice ta t.kids.length tc] 29)).heap.size = w.heap.size + 1 := by simp
    rw [e] at h2
    exact h2
  case news =>
    have := cell_newT ((w.alloc (.cells #[.int .i64 t.kind, .string t.name, .slice ta t.kids.length tc] 29)).alloc (.cells #[.int .i64 0, .string ⟨#[]⟩, .slice none 0 0] 29)) (.int .i64 t.kind) (.string t.name) (.slice ta t.kids.length tc) 29
    simpa using this
  case c3 => unfold maxLen; omega
  case c4 => omega
  case c5 => simp; omega
  intro v4 W4 hown4 hgr4 _
  have hb4 : Below w.heap.size w W4 := ((((Below.refl w.heap.size w).alloc (Nat.le_refl _) _).alloc (by simp) _).alloc (by simp; omega) _).grown hgr4 (by simp; omega) (fun k e => by simp [Value.ownBlock] at e; omega)
  have hty := tys_own1 hown4 (HT.out.keep (KeepT.of_below hb4))
  obtain ⟨va, vc, rfl⟩ := row_val hown4
  have HTy := Lib.hid hty; have HB4 := Lib.hid hb4
  clear hown4 hgr4 hb4 hty
  go_wp2
  refine wp_loop_rounds 1 ?_
  rw [rounds_succ]
  go_wp2_with (go_at_call 89; fail)
  refine (HV.out _ _ _ HTy.out).mono ?_
  rintro e w5 ⟨⟨v, rfl, hv⟩, _, hb5⟩
  obtain ⟨za, zc, hz⟩ := hv.shape
  have HVx := Lib.hid hv; have HB5 := Lib.hid (HB4.out.trans (hb5.mono HB4.out.size))
  clear hv hb5
  generalize (fvs [] [] [t]).length = zn at hz
  subst hz
  go_wp2
  go_ret
  exact ⟨⟨_, rfl, HVx.out⟩, HB5.out⟩
end Go.Proofs.YtdcfemojkdoakaaDoor
/- scheme.Name: the first letters; the chapter's examples. -/
namespace Go.Proofs.YtdcfemojkdoakaaDoor
open Go.RowKit
attribute [local go_sem] Oper.semAt_some

def nameAt (i : Nat) : ByteArray := ⟨#[UInt8.ofNat (97 + i)]⟩
set_option maxRecDepth 100000 in
theorem name_low (i : Nat) (hi : i < 8) (w : World) : Calls Tryd.prog 51 #[.int .i64 (i : Int)] w fun e w' => e = .returned (.string (nameAt i)) ∧ w = w' := by
  have h : i = 0 ∨ i = 1 ∨ i = 2 ∨ i = 3 ∨ i = 4 ∨ i = 5 ∨ i = 6 ∨ i = 7 := by omega
  rcases h with rfl | rfl | rfl | rfl | rfl | rfl | rfl | rfl
  all_goals
    go_enter Tryd.func51, Tryd.ntmps51
    go_wp2
    go_ret
    exact ⟨by kernel_rfl, rfl⟩
set_option maxRecDepth 100000 in
theorem name_neg (w : World) : Calls Tryd.prog 51 #[.int .i64 (-3)] w fun e w' => e = .returned (.string ⟨#[97]⟩) ∧ w = w' := by
  go_enter Tryd.func51, Tryd.ntmps51
  go_wp2
  go_ret
  exact ⟨by kernel_rfl, rfl⟩
set_option maxRecDepth 100000 in
theorem small_1 (w : World) : Calls Tryd.prog 130 #[.int .i64 1] w fun e w' => e = .returned (.string ⟨#[49]⟩) ∧ w = w' := by
  go_enter Tryd.func130, Tryd.ntmps130
  go_wp2
  go_ret
  exact ⟨by kernel_rfl, rfl⟩
theorem fmt_1 (w : World) : Calls Tryd.prog 123 #[.int .i64 1, .int .i64 10] w fun e w' => e = .returned (.string ⟨#[49]⟩) ∧ w = w' := by
  go_enter Tryd.func123, Tryd.ntmps123
  go_wp2_with (go_at_call 130; refine (small_1 _).mono ?_; rintro e w' ⟨rfl, rfl⟩)
  go_ret
  exact ⟨by kernel_rfl, rfl⟩
theorem iItoa_1 (w : World) : Calls Tryd.prog 99 #[.int .i64 1] w fun e w' => e = .returned (.string ⟨#[49]⟩) ∧ w = w' := by
  go_enter Tryd.func99, Tryd.ntmps99
  go_wp2_with (go_at_call 123; refine (fmt_1 _).mono ?_; rintro e w' ⟨rfl, rfl⟩)
  go_ret
  exact ⟨rfl, rfl⟩
theorem itoa_1 (w : World) : Calls Tryd.prog 82 #[.int .i64 1] w fun e w' => e = .returned (.string ⟨#[49]⟩) ∧ w = w' := by
  go_enter Tryd.func82, Tryd.ntmps82
  go_wp2_with (go_at_call 99; refine (iItoa_1 _).mono ?_; rintro e w' ⟨rfl, rfl⟩)
  go_ret
  exact ⟨rfl, rfl⟩
set_option maxRecDepth 100000 in
theorem name_27 (w : World) : Calls Tryd.prog 51 #[.int .i64 27] w fun e w' => e = .returned (.string ⟨#[98, 49]⟩) ∧ w = w' := by
  go_enter Tryd.func51, Tryd.ntmps51
  go_wp2_with (go_at_call 82; refine (itoa_1 _).mono ?_; rintro e w' ⟨rfl, rfl⟩)
  go_ret
  exact ⟨by kernel_rfl, rfl⟩
theorem name_0 (w : World) : Calls Tryd.prog 51 #[.int .i64 0] w fun e w' => e = .returned (.string ⟨#[97]⟩) ∧ w = w' := by
  have h := name_low 0 (by decide) w
  have e : nameAt 0 = ⟨#[97]⟩ := by decide
  rw [e] at h
  exact h
set_option maxRecDepth 100000 in
theorem first8_any (w : World) : Calls Tryd.prog 20 #[] w fun e w' => e = .returned (.bool true) ∧ w = w' := by
  go_enter Tryd.func20, Tryd.ntmps20
  go_wp2_with (go_at_call 51; fail)
  refine (name_27 _).mono ?_
  rintro e w' ⟨rfl, rfl⟩
  go_wp2_with (go_at_call 51; fail)
  refine (name_0 _).mono ?_
  rintro e w' ⟨rfl, rfl⟩
  go_wp2_with (go_at_call 51; fail)
  refine (name_neg _).mono ?_
  rintro e w' ⟨rfl, rfl⟩
  go_wp2
  go_ret
  exact ⟨rfl, rfl⟩
end Go.Proofs.YtdcfemojkdoakaaDoor
/- scheme.newNames: the first names that are not taken. -/
namespace Go.Proofs.YtdcfemojkdoakaaDoor
open Go.RowKit Go.Maps
attribute [local go_sem] Oper.semAt_some

theorem nodup_lenS {α : Type} [DecidableEq α] {l R : List α} (hn : l.Nodup) (hs : ∀ i ∈ l, i ∈ R) : l.length ≤ R.length := by
  induction l generalizing R with
  | nil => exact Nat.zero_le _
  | cons a l ih =>
    have hp := List.perm_cons_erase (hs a (by simp))
    have hn' := List.nodup_cons.1 hn
    have := ih (R := R.erase a) hn'.2 fun j hj => (List.mem_erase_of_ne (fun e => hn'.1 (by rw [← e]; exact hj))).2 (hs j (List.mem_cons_of_mem _ hj))
    rw [hp.length_eq, List.length_cons, List.length_cons]; omega
open Classical in
theorem grown_apart2 {base M m : Nat} {S : ByteArray → Bool} {va vb v4 : Value} {p q : List ByteArray} {nm : ByteArray} {w wr W4 : World} {o1 o2 : Obj} (hva : OwnT base va p wr) (hvb : OwnT base vb q wr) (hap : va.ownBlock = none ∨ va.ownBlock ≠ vb.ownBlock) (hM : SetV M m S wr) (hb : Below w.heap.size w wr) (hbase : w.heap.size ≤ base)
    (ho : W4.ownsRow base 9 1 v4 (p.length + 1) (p.map Value.string ++ [.string nm])) (hg : ((wr.alloc o1).alloc o2).grownBy W4 va.ownBlock) (hat : v4.ownBlock = va.ownBlock ∨ v4.ownBlock = some ((wr.alloc o1).alloc o2).heap.size) :
    OwnT base v4 (p ++ [nm]) W4 ∧ OwnT base vb q W4 ∧ (v4.ownBlock = none ∨ v4.ownBlock ≠ vb.ownBlock) ∧ SetV M m S W4 ∧ Below w.heap.size w W4 :=
  grown_apart hva hvb hap hM hb hbase ho hg (by simpa using hat)
/-- The first i names, but those that are taken. -/
noncomputable def newsTo (taken : List ByteArray) (i : Nat) : List ByteArray := ((List.range i).map nameAt).filter fun x => !inB taken x
theorem newsTo_succ (taken : List ByteArray) (i : Nat) : newsTo taken (i + 1) = if inB taken (nameAt i) = true then newsTo taken i else newsTo taken i ++ [nameAt i] := by
  unfold newsTo
  rw [List.range_succ, List.map_append, List.filter_append]
  cases h : inB taken (nameAt i) <;> simp [h]
theorem nameAt_inj {i j : Nat} (hi : i < 100) (hj : j < 100) (h : nameAt i = nameAt j) : i = j := by
  have h1 : UInt8.ofNat (97 + i) = UInt8.ofNat (97 + j) := by simpa [nameAt] using h
  have h2 := congrArg UInt8.toNat h1
  simp only [UInt8.toNat_ofNat'] at h2
  omega
theorem names_nodup (i : Nat) (hi : i ≤ 100) : ((List.range i).map nameAt).Nodup := by
  rw [List.nodup_iff_pairwise_ne, List.pairwise_map]
  refine List.Pairwise.imp_of_mem (fun {a b} ha hb hab e => hab (nameAt_inj (by have := List.mem_range.1 ha; omega) (by have := List.mem_range.1 hb; omega) e)) List.nodup_range
theorem newsTo_nodup (taken : List ByteArray) (i : Nat) (hi : i ≤ 100) : (newsTo taken i).Nodup := (names_nodup i hi).filter _
theorem newsTo_free {taken : List ByteArray} {i : Nat} {x : ByteArray} (h : x ∈ newsTo taken i) : x ∉ taken := fun hx => by
  have := (List.mem_filter.1 h).2
  rw [inB_iff.2 hx] at this
  cases this
theorem newsTo_size {taken : List ByteArray} {i : Nat} {x : ByteArray} (h : x ∈ newsTo taken i) : x.size = 1 := by
  obtain ⟨k, _, rfl⟩ := List.mem_map.1 (List.mem_filter.1 h).1
  rfl
/-- Of so many no more than are taken are left out. -/
theorem newsTo_len (taken : List ByteArray) (i : Nat) (hi : i ≤ 100) : i ≤ (newsTo taken i).length + taken.length := by
  have h1 : ((List.range i).map nameAt).length = i := by simp
  have h2 := nodup_lenS ((names_nodup i hi).filter (fun x => inB taken x)) (R := taken) (fun x hx => inB_iff.1 (List.mem_filter.1 hx).2)
  have h3 : ∀ l : List ByteArray, l.length = (l.filter fun x => !inB taken x).length + (l.filter fun x => inB taken x).length := by
    intro l
    induction l with
    | nil => rfl
    | cons a l ih => cases h : inB taken a <;> simp [h] <;> omega
  have h4 := h3 ((List.range i).map nameAt)
  unfold newsTo
  omega
theorem newsTo_next {taken : List ByteArray} {i n : Nat} (h : i + 1 ≤ n + taken.length) (hlt : (newsTo taken i).length < n) (e : newsTo taken (i + 1) = if inB taken (nameAt i) = true then newsTo taken i else newsTo taken i ++ [nameAt i]) : i + 1 ≤ n + taken.length ∧ (newsTo taken (i + 1)).length ≤ n := by
  refine ⟨h, ?_⟩
  rw [e]
  by_cases hx : inB taken (nameAt i) = true
  · rw [if_pos hx]; omega
  · rw [if_neg hx, List.length_append, List.length_singleton]; omega
/-- What newNames hands back. -/
def NewN (n : Nat) (taken names : List ByteArray) : Prop := names.length = n ∧ names.Nodup ∧ (∀ x ∈ names, x ∉ taken ∧ x.size = 1)
/-- Where its loop stands. -/
def NewI (w : World) (M m : Nat) (taken : List ByteArray) (i : Nat) (v : Value) (wr : World) : Prop :=
  OwnT w.heap.size v (newsTo taken i) wr ∧ SetV M m (inB taken) wr ∧ Below w.heap.size w wr
theorem own_made (base : Nat) (w : World) (n : Nat) (hb : base ≤ w.heap.size) (hn : n ≤ 1000000) : OwnT base (.slice (some ⟨w.heap.size, 0, none⟩) 0 n) [] (w.alloc (.cells (madeCells #[.string ⟨#[]⟩] n) 9)) :=
  World.ownsRow_made (base := base) (e := 9) (size := 1) w _ n hb (by unfold maxLen; omega) (by rw [size_madeCells, Nat.mul_one])
theorem newI_a {w w1 : World} {n M m : Nat} {taken : List ByteArray} (hn : n ≤ 1000000) (hM : SetV M m (inB taken) w1) (hb : Below (w.alloc (.cells (madeCells #[.string ⟨#[]⟩] n) 9)).drew.heap.size (w.alloc (.cells (madeCells #[.string ⟨#[]⟩] n) 9)).drew w1) : NewI w M m taken 0 (.slice (some ⟨w.heap.size, 0, none⟩) 0 n) w1 :=
  ⟨OwnT.below (w := (w.alloc (.cells (madeCells #[.string ⟨#[]⟩] n) 9)).drew) (own_made w.heap.size w n (Nat.le_refl _) hn) hb, hM, (((Below.refl w.heap.size w).alloc (Nat.le_refl _) (.cells (madeCells #[.string ⟨#[]⟩] n) 9)).drew).trans (hb.mono (by show w.heap.size ≤ (w.alloc _).heap.size; simp))⟩
theorem newI_b {w w1 : World} {n M m : Nat} {taken : List ByteArray} (hn : n ≤ 1000000) (hM : SetV M m (inB taken) w1) (hb : Below w.drew.heap.size w.drew w1) : NewI w M m taken 0 (.slice (some ⟨w1.heap.size, 0, none⟩) 0 n) (w1.alloc (.cells (madeCells #[.string ⟨#[]⟩] n) 9)) :=
  ⟨own_made w.heap.size w1 n hb.size hn, hM.below ((Below.refl _ w1).alloc (Nat.le_refl _) _), (((Below.refl w.heap.size w).drew).trans hb).alloc hb.size _⟩
set_option maxRecDepth 100000 in
set_option maxHeartbeats 4000000 in
theorem newNames_any (n : Nat) (taken : List ByteArray) (hn : n + taken.length ≤ 7) (hs : ∀ x ∈ taken, x.size ≤ 1000000) (a : Option Addr) (c : Nat) (w : World) (h : TextsAt w (.slice a taken.length c) taken) :
    Calls Tryd.prog 65 #[.int .i64 (n : Int), .slice a taken.length c] w fun e w' => (∃ v names, e = .returned v ∧ TextsAt w' v names ∧ NewN n taken names) ∧ Below w.heap.size w w' := by
  obtain ⟨i0, hi0, hz0, hz1, hz2⟩ := info_parts Tryd.infoStrS
  have hmk : ∀ W : World, (Instr.makeSlice 64 (.int .i64 0) (.int .i64 (n : Int))).run Tryd.prog W = .ok (.slice (some ⟨W.heap.size, 0, none⟩) 0 n) (W.alloc (.cells (madeCells #[.string ⟨#[]⟩] n) 9)) := fun W => by
    have hr := run_make (P := Tryd.prog) W 64 9 i0 _ Tryd.underlying64 hi0 hz0 .i64 .i64 0 n (Int.le_refl _) (by omega) (by rw [hz2]; omega) (by omega)
    simp only [Int.toNat_natCast, hz1, Nat.mul_one] at hr
    exact hr
  have HC := Lib.hid (fun (W : World) (hb : Below w.heap.size w W) => setOf_any taken (by omega) hs a c W (h.below hb))
  have HB0 := Lib.hid (Below.refl w.heap.size w)
  clear h hs
  go_enter Tryd.func65, Tryd.ntmps65
  go_wp2
  go_region_with (go_at_call 88; refine (HC.out _ (by first | exact (Below.refl _ w).drew | exact ((Below.refl _ w).drew).alloc (Nat.le_refl _) _)).mono ?_; rintro e w1 ⟨⟨M, rfl, hM, hMb⟩, hb1⟩; have HM := Lib.hid hM; have HB1 := Lib.hid hb1; clear hM hb1 hMb)
  all_goals
    have H0 := Lib.hid (show NewI w M taken.length taken 0 _ _ from by first | exact newI_a (n := n) (by omega) HM.out HB1.out | exact newI_b (n := n) (by omega) HM.out HB1.out)
    clear HM HB1
    go_wp2
    go_loopw [5, 7] (fun vv vi wr => ∃ i : Nat, vi = .int .i64 i ∧ Hid (i ≤ n + taken.length ∧ (newsTo taken i).length ≤ n) ∧ Hid (NewI w M taken.length taken i vv wr)) (fun _ vi _ => n + taken.length + 1 - (intOf vi).toNat)
    case atStart => exact ⟨0, rfl, Lib.hid ⟨by omega, Nat.zero_le _⟩, H0⟩
    case round =>
      obtain ⟨i, rfl, hi, hF⟩ := hrel
      clear H0
      obtain ⟨vo, hM, hb⟩ := hF.out
      obtain ⟨xa, xc, rfl⟩ := vo.shape
      have hcnt := newsTo_len taken i (by have := hi.out.1; omega)
      have hi1 := hi.out.1; have hi2 := hi.out.2
      have hsc := newsTo_succ taken i
      by_cases hlt : (newsTo taken i).length < n
      · have hltI : ((newsTo taken i).length : Int) < (n : Int) := by omega
        have hi7 : i < 7 := by omega
        have hlk := hM.look (nameAt i) (by show (1 : Nat) ≤ maxLen; unfold maxLen; omega)
        have hwz := hb.size
        have HVO := Lib.hid vo; have HM := Lib.hid hM; have HB := Lib.hid hb
        have HSC := Lib.hid (fun v (wr' : World) (h : OwnT w.heap.size v (if inB taken (nameAt i) = true then newsTo taken i else newsTo taken i ++ [nameAt i]) wr') (h2 : SetV M taken.length (inB taken) wr') (h3 : Below w.heap.size w wr') => (show NewI w M taken.length taken (i + 1) v wr' from ⟨by rw [hsc]; exact h, h2, h3⟩))
        have HLen := Lib.hid (newsTo_next (by omega) hlt hsc)
        have hmz : i < n + taken.length := by omega
        clear vo hM hb hF hcnt hi hi1 hi2 hsc
        have hpl : (newsTo taken i).length ≤ 7 := by omega
        generalize newsTo taken i = p at *
        obtain ⟨nm, hnm⟩ : ∃ nm, nameAt i = nm := ⟨_, rfl⟩
        have HN := Lib.hid (fun W => name_low i (by omega) W)
        rw [hnm] at HN hlk HSC
        clear hnm
        cases hin : inB taken nm with
        | true =>
          rw [hin] at hlk HSC
          simp only [if_true] at HSC
          go_wp2_with (go_at_call 51; refine (HN.out _).mono ?_; rintro e w' ⟨rfl, rfl⟩)
          have HE := Lib.hid (HSC.out _ _ (HVO.out.below ((Below.refl _ wr).alloc (Nat.le_refl _) (.cells #[] 143))) (HM.out.below ((Below.refl _ wr).alloc (Nat.le_refl _) (.cells #[] 143))) (HB.out.alloc HB.out.size _))
          go_roundw
          case rel => exact ⟨i + 1, by go_num, HLen, HE⟩
          case measure => simp [intOf]; omega
        | false =>
          rw [hin] at hlk HSC
          simp only [Bool.false_eq_true, if_false] at HSC
          go_wp2_with (first
            | (go_at_call 51; refine (HN.out _).mono ?_; rintro e w' ⟨rfl, rfl⟩)
            | (at_builtin; refine wpList_append_own_at _ rfl _ _ 64 rfl w.heap.size 9 i0 (.string ⟨#[]⟩) 1 16 Tryd.underlying64 hi0 hz0 hz1 hz2 rfl (by decide) _ _ _ rfl ((World.ownsRow.alloc HVO.out _).alloc _) ⟨wr.heap.size + 1, 0, none⟩ 1 1 [.string nm] rfl rfl (by have := cell_one_new (wr.alloc (.cells #[] 143)) (.string nm) 9; simpa using this) (by simp [Value.oneCell']) (by unfold maxLen; omega) (by omega) (by simp; omega) ?_; intro v4 W4 hown4 hgr4 _ hat4; obtain ⟨k1, k2, k3, k4, k5⟩ := grown_apart2 HVO.out (OwnT.nil w.heap.size wr) (apart_symm (.inl rfl)) HM.out HB.out (Nat.le_refl _) hown4 hgr4 hat4; have HE := Lib.hid (HSC.out v4 W4 k1 k4 k5); clear hown4 hgr4 hat4 k1 k2 k3 k4 k5))
          go_roundw
          case rel => exact ⟨i + 1, by go_num, HLen, HE⟩
          case measure => simp [intOf]; omega
      · have hltI : ¬ ((newsTo taken i).length : Int) < (n : Int) := by omega
        have hlen : (newsTo taken i).length = n := by omega
        have HE := Lib.hid (show TextsAt wr (.slice xa (newsTo taken i).length xc) (newsTo taken i) ∧ NewN n taken (newsTo taken i) ∧ Below w.heap.size w wr from ⟨vo.texts, ⟨hlen, newsTo_nodup taken i (by omega), fun x hx => ⟨newsTo_free hx, newsTo_size hx⟩⟩, hb⟩)
        clear vo hM hb hF hcnt hi hi1 hi2 hsc hlen
        generalize newsTo taken i = p at *
        go_wp2
        go_ret
        exact ⟨⟨_, rfl, p, HE.out.1, HE.out.2.1⟩, HE.out.2.2⟩
end Go.Proofs.YtdcfemojkdoakaaDoor
/- (Subst).Get. -/
namespace Go.Proofs.YtdcfemojkdoakaaDoor
open Go.RowKit Go.Sort Go.Lib
attribute [local go_sem] Oper.semAt_some

end Go.Proofs.YtdcfemojkdoakaaDoor
/- A region that draws its order and ends with a store: all but its last operation by an invariant, the last one when all else has come up. -/
namespace Go.Proofs.YtdcfemojkdoakaaDoor

section
variable {P : Program} {ops : Array Oper} {Q : Exit → Act → World → Prop} {fr : (Nat → Value) → Act} {S : World → Prop} {Rel : World → World → Prop} {Vals : Nat → Value → World → Prop} {s : Nat}

theorem getD_tt {l : Array Bool} {j : Nat} (h : l.getD j false = true) : l.getD j true = true := by
  by_cases hj : j < l.size
  · simp [hj] at h ⊢; exact h
  · simp [hj]
/-- Where operation s can come up, all ahead of it have. -/
theorem all_ahead {listed : Array Bool} (hcov : ∀ i, i < s → ∃ j o e, i < j ∧ j ≤ s ∧ ops[j]? = some o ∧ e ∈ o.after ∧ Region.binds .any e = true ∧ e.on = i)
    (hcl : ∀ j o, listed.getD j false = true → ops[j]? = some o → ∀ e ∈ o.after, Region.binds .any e = true → listed.getD e.on false = true)
    (hs : ∀ o, ops[s]? = some o → ∀ e ∈ o.after, Region.binds .any e = true → listed.getD e.on false = true) : ∀ n i, i + n = s → 0 < n → listed.getD i false = true := by
  intro n
  induction n using Nat.strongRecOn with
  | ind n ih =>
    intro i hi hn
    obtain ⟨j, o, e, hij, hjs, ho, he, hb, rfl⟩ := hcov i (by omega)
    by_cases hj : j = s
    · subst hj; exact hs o ho e he hb
    · exact hcl j o (ih (s - j) (by omega) j (by omega) (by omega)) ho e he hb

theorem last_any (hsz : ops.size = s + 1) (hput : ∀ i o, i < s → ops[i]? = some o → StepAt P fr S Rel Vals ops Q i o)
    (hbs : ∀ o, ops[s]? = some o → ∀ e ∈ o.after, Region.binds .any e = true → e.on < s)
    (hcov : ∀ i, i < s → ∃ j o e, i < j ∧ j ≤ s ∧ ops[j]? = some o ∧ e ∈ o.after ∧ Region.binds .any e = true ∧ e.on = i)
    (hrel : ∀ w w', S w → Rel w w' → S w') (hval : ∀ i v w w', S w → Vals i v w → Rel w w' → Vals i v w')
    (hlast : ∀ o x w, ops[s]? = some o → S w → (∀ i, i < s → Vals i (x i) w) → ∀ K : Act → World → Prop, (∀ v w', Q .normal ((fr x).put o.dst v) w' → K ((fr x).put o.dst v) w') →
      if Region.wanted o (yielded ops (fr x).tmps) = true then Oper.wp P o (fr x) w K Q else K ((fr x).put o.dst undef) w) :
    ∀ (fuel : Nat) (listed : Array Bool) (x : Nat → Value) (w : World), listed.size = ops.size → ops.size ≤ fuel + listed.toList.count true → S w → listed.getD s false = false →
      (∀ j o, listed.getD j false = true → ops[j]? = some o → ∀ e ∈ o.after, Region.binds .any e = true → listed.getD e.on false = true) →
      (∀ i, listed.getD i false = true → Vals i (x i) w) → wpAny P .any ops Q fuel listed (fr x) w := by
  have hback : ∀ i o, ops[i]? = some o → ∀ e ∈ o.after, Region.binds .any e = true → e.on < i := fun i o ho => by
    have hi : i < s + 1 := by rw [← hsz]; exact (Array.getElem?_eq_some_iff.1 ho).1
    by_cases e : i = s
    · subst e; exact hbs o ho
    · exact (hput i o (by omega) ho).back
  have hend : ∀ (listed : Array Bool), listed.size = ops.size → listed.getD s false = false → Region.ready .any ops listed = [] → False := fun listed hz h0 h => by
    have := all_of_none hback hz h s (by omega)
    rw [h0] at this; cases this
  intro fuel
  induction fuel with
  | zero =>
    intro listed x w hz hc hS h0 hcl hV
    have hall : listed.toList.count true = listed.toList.length := by
      have := List.count_le_length (a := true) (l := listed.toList)
      simp at this hc ⊢; omega
    have hlt : s < listed.size := by omega
    have := List.count_eq_length.1 hall listed[s] (by simp)
    simp [hlt] at h0
    rw [h0] at this; cases this
  | succ fuel ih =>
    intro listed x w hz hc hS h0 hcl hV
    refine ⟨fun h => (hend listed hz h0 h).elim, fun i hi => ?_⟩
    obtain ⟨hi0, o, ho, hdep⟩ := mem_ready.1 hi
    have hlt : i < listed.size := by rw [hz]; exact (Array.getElem?_eq_some_iff.1 ho).1
    have hi0' : listed[i] = false := by simpa [hlt] using hi0
    have hsetD : ∀ j, (listed.setIfInBounds i true).getD j false = true → j = i ∨ listed.getD j false = true := fun j hj => by
      by_cases hji : j = i
      · exact .inl hji
      · rw [getD_set_ne false (Ne.symm hji)] at hj; exact .inr hj
    have hsetI : (listed.setIfInBounds i true).getD i false = true := by simp [hlt]
    have hmono : ∀ j, listed.getD j false = true → (listed.setIfInBounds i true).getD j false = true := fun j hj => by
      by_cases hji : j = i
      · subst hji; exact hsetI
      · rw [getD_set_ne false (Ne.symm hji)]; exact hj
    by_cases his : i = s
    · subst his
      have hK : ∀ v w', Q .normal ((fr x).put o.dst v) w' → wpAny P .any ops Q fuel (listed.setIfInBounds i true) ((fr x).put o.dst v) w' := fun v w' hq => by
        have hnone : Region.ready .any ops (listed.setIfInBounds i true) = [] := by
          cases h : Region.ready .any ops (listed.setIfInBounds i true) with
          | nil => rfl
          | cons j l =>
            have hj : j ∈ Region.ready .any ops (listed.setIfInBounds i true) := by rw [h]; simp
            obtain ⟨hj0, oj, hoj, _⟩ := mem_ready.1 hj
            have hjl : j < i + 1 := by rw [← hsz]; exact (Array.getElem?_eq_some_iff.1 hoj).1
            by_cases e : j = i
            · subst e; rw [getD_tt hsetI] at hj0; cases hj0
            · have := hmono j (all_ahead hcov hcl (fun o' ho' => by rw [ho] at ho'; cases ho'; exact hdep) (i - j) j (by omega) (by omega))
              rw [getD_tt this] at hj0; cases hj0
        cases fuel with
        | zero => exact ⟨hnone, hq⟩
        | succ fuel => exact ⟨fun _ => hq, fun j hj => by rw [hnone] at hj; cases hj⟩
      have := hlast o x w ho hS (fun j hj => hV j (all_ahead hcov hcl (fun o' ho' => by rw [ho] at ho'; cases ho'; exact hdep) (i - j) j (by omega) (by omega))) _ hK
      unfold wpOp
      simp only [ho]
      split
      · rename_i hw; rw [if_pos hw] at this; exact .inl this
      · rename_i hw; rw [if_neg hw] at this; exact this
    · have hil : i < s := by omega
      have H := hput i o hil ho
      have hK : ∀ v w', Rel w w' → Vals i v w' → wpAny P .any ops Q fuel (listed.setIfInBounds i true) ((fr x).put o.dst v) w' := fun v w' hr hv => by
        rw [H.put]
        refine ih _ _ _ (by simpa using hz) ?_ (hrel w w' hS hr) (by rw [getD_set_ne false his]; exact h0) (fun j oj hj hoj e he hb => ?_) fun j hj => ?_
        · have : (listed.setIfInBounds i true).toList.count true = listed.toList.count true + 1 := by
            rw [Array.toList_setIfInBounds, List.count_set (by simpa using hlt)]
            simp [hi0']
          omega
        · rcases hsetD j hj with rfl | hj'
          · rw [ho] at hoj; cases hoj
            exact hmono _ (hdep e he hb)
          · exact hmono _ (hcl j oj hj' hoj e he hb)
        · by_cases hji : j = i
          · subst hji; rw [upd_same]; exact hv
          · rw [upd_other x v hji]
            exact hval _ _ _ _ hS (hV j (by rw [getD_set_ne false (Ne.symm hji)] at hj; exact hj)) hr
      have := H.run x w hS (fun e he hb => hV e.on (hdep e he hb)) _ hK
      unfold wpOp
      simp only [ho]
      split
      · rename_i hw; rw [if_pos hw] at this; exact .inl this
      · rename_i hw; rw [if_neg hw] at this; exact this

/-- Each operation ahead of the last is asked for by a later one. -/
def covered (ops : Array Oper) (s : Nat) : Bool := (List.range s).all fun i => (List.range (s + 1)).any fun j => decide (i < j) && (match ops[j]? with
  | some o => o.after.any fun e => Region.binds .any e && e.on == i
  | none => false)
theorem covered_get (h : covered ops s = true) : ∀ i, i < s → ∃ j o e, i < j ∧ j ≤ s ∧ ops[j]? = some o ∧ e ∈ o.after ∧ Region.binds .any e = true ∧ e.on = i := by
  intro i hi
  unfold covered at h
  rw [List.all_eq_true] at h
  have h1 := h i (List.mem_range.2 hi)
  rw [List.any_eq_true] at h1
  obtain ⟨j, hj, h2⟩ := h1
  rw [Bool.and_eq_true, decide_eq_true_eq] at h2
  cases ho : ops[j]? with
  | none => rw [ho] at h2; exact absurd h2.2 (by simp)
  | some o =>
    rw [ho] at h2
    have h3 := h2.2
    simp only at h3
    rw [Array.any_eq_true'] at h3
    obtain ⟨e, he, h4⟩ := h3
    rw [Bool.and_eq_true, beq_iff_eq] at h4
    exact ⟨j, o, e, h2.1, by have := List.mem_range.1 hj; omega, ho, he, h4.1, h4.2⟩

/-- What is asked of all but the last operation, and of the last. -/
def AllBut (f : Nat → Oper → Prop) (g : Oper → Prop) : Nat → List Oper → Prop
  | _, [] => True
  | _, [o] => g o
  | n, o :: o' :: os => f n o ∧ AllBut f g (n + 1) (o' :: os)
theorem AllBut.get {f : Nat → Oper → Prop} {g : Oper → Prop} : ∀ {l : List Oper} {n : Nat}, AllBut f g n l → ∀ {i : Nat} {o : Oper}, l[i]? = some o → (i + 1 < l.length → f (n + i) o) ∧ (i + 1 = l.length → g o)
  | [], _, _, i, o, h => by simp at h
  | [a], n, hl, 0, o, h => by simp at h; subst h; exact ⟨fun h => by simp at h, fun _ => hl⟩
  | [a], n, hl, i + 1, o, h => by simp at h
  | a :: b :: l, n, hl, 0, o, h => by simp at h; subst h; exact ⟨fun _ => hl.1, fun h => by simp at h⟩
  | a :: b :: l, n, hl, i + 1, o, h => by
    obtain ⟨h1, h2⟩ := AllBut.get hl.2 (i := i) (o := o) (by simpa using h)
    refine ⟨fun hi => ?_, fun hi => h2 (by simpa using hi)⟩
    have := h1 (by simpa using hi)
    rw [show n + (i + 1) = n + 1 + i by omega]; exact this

/-- What is asked of the last operation. -/
structure LastAt (P : Program) (fr : (Nat → Value) → Act) (S : World → Prop) (Vals : Nat → Value → World → Prop) (ops : Array Oper) (Q : Exit → Act → World → Prop) (s : Nat) (o : Oper) : Prop where
  back : ∀ e ∈ o.after, Region.binds .any e = true → e.on < s
  run : ∀ (x : Nat → Value) (w : World), S w → (∀ i, i < s → Vals i (x i) w) → ∀ K : Act → World → Prop, (∀ v w', Q .normal ((fr x).put o.dst v) w' → K ((fr x).put o.dst v) w') →
      if Region.wanted o (yielded ops (fr x).tmps) = true then Oper.wp P o (fr x) w K Q else K ((fr x).put o.dst undef) w

theorem region_last (fr : (Nat → Value) → Act) (S : World → Prop) (Rel : World → World → Prop) (Vals : Nat → Value → World → Prop) (x0 : Nat → Value) (s : Nat) {id : Nat} {a : Act} {w : World}
    (hm : P.follows .mixedOrders = true) (ha : a = fr x0) (hS : S w.drew) (hsz : ops.size = s + 1) (hcov : covered ops s = true)
    (hrel : ∀ w w', S w → Rel w w' → S w') (hval : ∀ i v w w', S w → Vals i v w → Rel w w' → Vals i v w')
    (hops : AllBut (StepAt P fr S Rel Vals ops Q) (LastAt P fr S Vals ops Q s) 0 ops.toList) : (Code.region id ops true).wp P Q a w := by
  subst ha
  refine wp_region_any hm ?_
  have hg := fun (i : Nat) (o : Oper) (h : ops[i]? = some o) => hops.get (i := i) (o := o) (by simpa using h)
  refine last_any hsz (fun i o hi h => ?_) (fun o h => ?_) (covered_get hcov) hrel hval (fun o x w h hS hV K hK => ?_) _ _ _ _ (by simp) (by simp) hS (by simp [hsz]) (fun j o hj => ?_) (fun i hi => ?_)
  · have := (hg i o h).1 (by simp [hsz]; omega); rwa [Nat.zero_add] at this
  · exact ((hg s o h).2 (by simp [hsz])).back
  · exact ((hg s o h).2 (by simp [hsz])).run x w hS hV K hK
  · by_cases h : j < ops.size
    · simp [h] at hj
    · simp [h] at hj
  · by_cases h : i < ops.size
    · simp [h] at hi
    · simp [h] at hi
end
end Go.Proofs.YtdcfemojkdoakaaDoor
/- SubstOthers: its last statement, a region of 42 operations that draws its order, by an invariant. (Made by a program.) -/
namespace Go.Proofs.YtdcfemojkdoakaaDoor
open Go.RowKit Go.Sort Go.Lib
attribute [local go_sem] Oper.semAt_some

def regionIn : Nat → Code → Array Oper
  | n, .region id ops _ => if id == n then ops else #[]
  | n, .seq a b => regionIn n a ++ regionIn n b
  | n, .cond _ a b => regionIn n a ++ regionIn n b
  | n, .block _ b => regionIn n b
  | n, .loop b => regionIn n b
  | n, .rangeFunc _ _ a b => regionIn n a ++ regionIn n b
  | n, .scope b => regionIn n b
  | _, _ => #[]
theorem depOf {o : Oper} {Vals : Nat → Value → World → Prop} {x : Nat → Value} {V : World} (h : ∀ e ∈ o.after, Region.binds .any e = true → Vals e.on (x e.on) V) (j : Nat)
    (hj : (o.after.any fun e => Region.binds .any e && e.on == j) = true) : Vals j (x j) V := by
  rw [Array.any_eq_true'] at hj
  obtain ⟨e, he, hj⟩ := hj
  simp only [Bool.and_eq_true, beq_iff_eq] at hj
  have := h e he hj.1
  rw [hj.2] at this; exact this
theorem kfit {K : Act → World → Prop} {a a' : Act} {w : World} (h : K a w) (e : a = a') : K a' w := e ▸ h
theorem run_bare {P : Program} {o : Oper} {ops : Array Oper} {a : Act} {w : World} {K : Act → World → Prop} {Q : Exit → Act → World → Prop} {C : Prop} (hg : o.guard = none) (h : Oper.wp P o a w K Q) :
    if Region.wanted o (yielded ops a.tmps) = true then Oper.wp P o a w K Q else C := by
  rw [if_pos (by simp [Region.wanted, hg])]; exact h
theorem run_guard {P : Program} {o : Oper} {ops : Array Oper} {a : Act} {w : World} {K : Act → World → Prop} {Q : Exit → Act → World → Prop} {C : Prop} (g k : Nat) (v : Value) (hg : o.guard = some (g, true))
    (hk : (ops[g]?).bind (·.dst) = some k) (hv : a.tmps[k]? = some v) (e : v = .bool true) (h : Oper.wp P o a w K Q) :
    if Region.wanted o (yielded ops a.tmps) = true then Oper.wp P o a w K Q else C := by
  rw [if_pos (by simp [Region.wanted, hg, yielded, hk, hv, e])]; exact h
theorem below_a (X : World) (o : Obj) : Below X.heap.size X (X.alloc o) := (Below.refl _ X).alloc (Nat.le_refl _) o
theorem below_d (X : World) : Below X.heap.size X X.drew := (Below.refl _ X).drew

def othFr (b : Nat → Value) (d : List Deferred) (x : Nat → Value) : Act := { tmps := #[b 0, b 1, x 41, b 3, b 4, b 5, b 6, b 7, b 8, b 9, b 10, b 11, b 12, b 13, b 14, b 15, b 16, b 17, b 18, b 19, b 20, b 21, b 22, b 23, b 24, b 25, b 26, b 27, b 28, b 29, b 30, b 31, b 32, b 33, b 34, b 35, b 36, b 37, b 38, b 39, b 40, b 41, x 0, x 1, x 2, x 3, x 4, x 5, x 6, x 7, x 8, x 9, x 10, x 11, x 12, x 13, x 14, x 15, x 16, x 17, x 18, x 19, x 20, x 21, x 22, x 23, x 24, x 25, x 26, x 27, x 28, x 29, x 30, x 31, x 32, x 33, x 34, x 35, x 36, x 37, x 38, x 39, x 40], defers := d }

def othVals (t sw r1 : T) (pa pw : Option Addr) (ca cw : Nat) (sv uv frv tov : Value) (ts : Nat) (i : Nat) (v : Value) (V : World) : Prop :=
  match i with
  | 0 => v = .bool true
  | 1 => v = .bool true
  | 2 => v = .agg #[sv]
  | 3 => v = .agg #[.int .i64 (sw).kind, .string (sw).name, .slice pw (sw).kids.length cw]
  | 4 => ∃ za zc, v = .agg #[.int .i64 (t).kind, .string (t).name, .slice za (t).kids.length zc] ∧ TysAt V (.slice za (t).kids.length zc) (t).kids
  | 5 => v = .agg #[.int .i64 (t).kind, .string (t).name, .slice pa (t).kids.length ca]
  | 6 => v = .bool true
  | 7 => v = .bool true
  | 8 => v = .bool true
  | 9 => v = .agg #[uv]
  | 10 => v = .agg #[.int .i64 (t).kind, .string (t).name, .slice pa (t).kids.length ca]
  | 11 => ∃ za zc, v = .agg #[.int .i64 (t).kind, .string (t).name, .slice za (t).kids.length zc] ∧ TysAt V (.slice za (t).kids.length zc) (t).kids
  | 12 => v = .agg #[.int .i64 (t).kind, .string (t).name, .slice pa (t).kids.length ca]
  | 13 => v = .bool true
  | 14 => v = .bool true
  | 15 => v = .bool true
  | 16 => v = .agg #[.int .i64 (t).kind, .string (t).name, .slice pa (t).kids.length ca]
  | 17 => v = frv
  | 18 => v = tov
  | 19 => ∃ za zc, v = .agg #[.int .i64 (r1).kind, .string (r1).name, .slice za (r1).kids.length zc] ∧ TysAt V (.slice za (r1).kids.length zc) (r1).kids
  | 20 => v = tov
  | 21 => v = frv
  | 22 => ∃ za zc, v = .agg #[.int .i64 (t).kind, .string (t).name, .slice za (t).kids.length zc] ∧ TysAt V (.slice za (t).kids.length zc) (t).kids
  | 23 => v = .agg #[.int .i64 (t).kind, .string (t).name, .slice pa (t).kids.length ca]
  | 24 => v = .bool true
  | 25 => v = .bool true
  | 26 => v = .bool true
  | 27 => v = .agg #[.int .i64 (t).kind, .string (t).name, .slice pa (t).kids.length ca]
  | 28 => ∃ zk, v = .slice (some ⟨zk, 0, none⟩) 2 2 ∧ StrsP (.slice (some ⟨zk, 0, none⟩) 2 2) [⟨#[97]⟩, ⟨#[98]⟩] V
  | 29 => ∃ zk, v = .slice (some ⟨zk, 0, none⟩) 2 2 ∧ StrsP (.slice (some ⟨zk, 0, none⟩) 2 2) [⟨#[98]⟩, ⟨#[97]⟩] V
  | 30 => ∃ za zc, v = .agg #[.int .i64 (sw).kind, .string (sw).name, .slice za (sw).kids.length zc] ∧ TysAt V (.slice za (sw).kids.length zc) (sw).kids
  | 31 => v = .agg #[.int .i64 (sw).kind, .string (sw).name, .slice pw (sw).kids.length cw]
  | 32 => v = .bool true
  | 33 => v = .bool true
  | 34 => v = .bool true
  | 35 => v = .agg #[.int .i64 (sw).kind, .string (sw).name, .slice pw (sw).kids.length cw]
  | 36 => v = .int .i64 (ts : Nat)
  | 37 => v = .agg #[.int .i64 (t).kind, .string (t).name, .slice pa (t).kids.length ca]
  | 38 => v = .int .i64 (ts : Nat)
  | 39 => v = .bool true
  | 40 => v = .bool true
  | 41 => v = .bool true
  | _ => True

theorem othVals_keep {t sw r1 : T} {pa pw : Option Addr} {ca cw : Nat} {sv uv frv tov : Value} {ts : Nat} (i : Nat) (v : Value) (V Y : World) (h : othVals t sw r1 pa pw ca cw sv uv frv tov ts i v V) (hb : Below V.heap.size V Y) : othVals t sw r1 pa pw ca cw sv uv frv tov ts i v Y := by
  unfold othVals at *
  split at h <;> first
    | exact h
    | (obtain ⟨za, zc, e, h⟩ := h; exact ⟨za, zc, e, h.keep (KeepT.of_below hb)⟩)
    | (obtain ⟨zk, e, h⟩ := h; exact ⟨zk, e, h.below hb⟩)

end Go.Proofs.YtdcfemojkdoakaaDoor
