/- The free variables of a type: the finder's map and its row of names. -/
import Derived.Test.YteoelcefjjmjiaaTySame
import Derived.Maps.OwnOps
import Derived.Maps.Views
import Derived.Deep.AppendLies
import Derived.Deep.RegionLaw
import Derived.Deep.RegionHeld3
import Derived.Deep.DrawnRows
import Derived.BigRegion
import Derived.LoopN
namespace Go.Proofs.Yteoelcefjjmjiaa
open Go.RowKit Go.Maps
attribute [local go_sem] Oper.semAt_some

/-- How often a name is hidden. -/
noncomputable def inB (l : List ByteArray) (n : ByteArray) : Bool := l.any (fun x => eqB x n)
noncomputable def cntB (l : List ByteArray) (n : ByteArray) : Nat := (l.filter (fun x => eqB x n)).length
noncomputable def cnt (bd out : List ByteArray) (n : ByteArray) : Int := (cntB bd n : Int) + (if inB out n then 1 else 0)
theorem inB_iff {l : List ByteArray} {n : ByteArray} : inB l n = true ↔ n ∈ l := by
  simp only [inB, List.any_eq_true, eqB_iff]
  constructor
  · rintro ⟨x, hx, rfl⟩; exact hx
  · intro h; exact ⟨n, h, rfl⟩
theorem cntB_zero {l : List ByteArray} {n : ByteArray} : cntB l n = 0 ↔ ¬ n ∈ l := by
  simp only [cntB, List.length_eq_zero_iff, List.filter_eq_nil_iff, eqB_iff]
  constructor
  · intro h hn; exact h n hn rfl
  · rintro h x hx rfl; exact h hx
theorem cntB_le (l : List ByteArray) (n : ByteArray) : cntB l n ≤ l.length := List.length_filter_le _ _
theorem cnt_zero {bd out : List ByteArray} {n : ByteArray} : cnt bd out n = 0 ↔ ¬ (n ∈ bd ∨ n ∈ out) := by
  unfold cnt
  by_cases h : inB out n = true
  · have := inB_iff.1 h
    rw [if_pos h]
    constructor
    · intro e; omega
    · intro e; exact absurd (.inr this) e
  · have h' : ¬ n ∈ out := fun e => h (inB_iff.2 e)
    rw [if_neg h]
    constructor
    · intro e k
      rcases k with k | k
      · exact cntB_zero.1 (by omega) k
      · exact h' k
    · intro e
      have := cntB_zero.2 (fun k => e (.inl k))
      omega
theorem cnt_le (bd out : List ByteArray) (n : ByteArray) : 0 ≤ cnt bd out n ∧ cnt bd out n ≤ bd.length + 1 := by
  have := cntB_le bd n
  unfold cnt
  split <;> omega
theorem cnt_bind (bd out : List ByteArray) (n m : ByteArray) : cnt (n :: bd) out m = if m = n then cnt bd out n + 1 else cnt bd out m := by
  unfold cnt cntB
  by_cases h : m = n
  · subst h
    rw [if_pos rfl, List.filter_cons, if_pos (eqB_true rfl)]
    simp only [List.length_cons]
    omega
  · rw [if_neg h, List.filter_cons, if_neg (by rw [eqB_false (fun e => h e.symm)]; decide)]
theorem cnt_told {bd out : List ByteArray} {n : ByteArray} (hn : ¬ n ∈ out) (m : ByteArray) : cnt bd (out ++ [n]) m = if m = n then cnt bd out n + 1 else cnt bd out m := by
  unfold cnt
  have e : inB (out ++ [n]) m = (inB out m || eqB n m) := by simp [inB]
  rw [e]
  by_cases h : m = n
  · subst h
    have h1 : inB out m = false := by
      cases hb : inB out m with
      | false => rfl
      | true => exact absurd (inB_iff.1 hb) hn
    rw [if_pos rfl, h1, eqB_true rfl]
    simp
  · rw [if_neg h, eqB_false (fun e => h e.symm)]
    simp

theorem strLaw : Keyed Try.prog 9 := string_keyed Try.underlying9
theorem zeroInt (w : World) : (zeroValue 3).run Try.prog w = .ok (.int .i64 0) w := by kernel_rfl

/-- Block M is a map of at most m entries, which tells f. -/
def MapFn (M m : Nat) (f : ByteArray → Int) (w : World) : Prop := ∃ D : DataW Unit, IsMap D ∧ w.ownsMap Try.prog 9 (plainElem Try.prog 3) M m D ∧
  ∀ n : ByteArray, n.size ≤ maxLen → D.atKey (.string n.data.toList) (.lit (.int .i64 0)) = .lit (.int .i64 (f n))
theorem MapFn.look {M m : Nat} {f : ByteArray → Int} {w : World} (h : MapFn M m f w) (n : ByteArray) (hn : n.size ≤ maxLen) :
    (Instr.lookup 60 (.map (some M)) (.string n) false).run Try.prog w = .ok (.int .i64 (f n)) w := by
  obtain ⟨D, _, h1, h2⟩ := h
  obtain ⟨c, hrun, hat, _⟩ := h1.lookup_int strLaw Try.underlying60 Try.underlying3 (zeroInt w) (Go.WideMaps.keyOf_string_mk Try.underlying9 hn)
  rw [h2 n hn] at hat
  cases hat
  exact hrun
theorem MapFn.upd {M m : Nat} {f : ByteArray → Int} {w : World} (h : MapFn M m f w) (hm : m < maxLen) (n : ByteArray) (hn : n.size ≤ maxLen) (x : Int) (hx : (Lit.int .i64 x).wf = true) :
    ∃ w', (Instr.mapUpdate 60 (.map (some M)) (.string n) (.int .i64 x)).run Try.prog w = .ok () w' ∧ MapFn M (m + 1) (fun k => if k = n then x else f k) w' ∧ w.grownBy w' (some M) := by
  obtain ⟨D, hD, h1, h2⟩ := h
  obtain ⟨w', hrun, h3, h4⟩ := h1.update strLaw Try.underlying60 hm (Go.WideMaps.keyOf_string_mk Try.underlying9 hn) (plainElem_int Try.underlying3 hx)
  refine ⟨w', hrun, ⟨_, hD.put _ _, h3, fun k hk => ?_⟩, h4⟩
  by_cases e : k = n
  · subst e
    simp only [if_true]
    rw [atKey_put_same hD (by trivial)]
  · simp only [if_neg e]
    rw [atKey_put_other ?_, h2 k hk]
    intro e'
    apply e
    have : k.data.toList = n.data.toList := by injection e'
    cases k; cases n; simp_all
theorem MapFn.kept {M m : Nat} {f : ByteArray → Int} {w w' : World} {row : Option Nat} (h : MapFn M m f w) (hg : w.grownBy w' row) (hne : some M ≠ row) : MapFn M m f w' := by
  obtain ⟨D, hD, h1, h2⟩ := h
  exact ⟨D, hD, h1.kept hg hne, h2⟩
theorem MapFn.congr {M m : Nat} {f g : ByteArray → Int} {w : World} (h : MapFn M m f w) (e : ∀ n, f n = g n) : MapFn M m g w := by
  have : f = g := funext e
  subst this; exact h

theorem Try.infoStr : (Try.prog.info? 9).map (fun i => (i.zero, i.size, i.bytes)) = some (some (.string ⟨#[]⟩), 1, 16) := by kernel_rfl
/-- The finder at block p: its map tells f, its names. -/
structure FindAt (B p M K : Nat) (f : ByteArray → Int) (out : List ByteArray) (w : World) : Prop where
  bp : B ≤ p
  bm : B ≤ M
  fin : ∃ v, w.heap[p]? = some (.cells #[.map (some M), v] 62 (0, 0)) ∧ w.ownsRow B 9 1 v out.length (out.map Value.string)
  map : ∃ m, m ≤ K ∧ MapFn M m f w
theorem row_kept {w w' : World} {base : Nat} {e : TypeId} {size : Nat} {v : Value} {n : Nat} {xs : List Value} (h : w.ownsRow base e size v n xs) (hk : ∀ (k : Nat) (cs : Array Value) (fz : Nat × Nat), w.heap[k]? = some (.cells cs e fz) → w'.heap[k]? = some (.cells cs e fz)) : w'.ownsRow base e size v n xs := by
  refine ⟨h.1, ?_⟩
  rcases h.2 with h | ⟨g, cap, cur, rfl, hb, hg, r⟩
  · exact .inl h
  · exact .inr ⟨g, cap, cur, rfl, hb, hk g _ _ hg, r⟩
theorem MapFn.drewN {M m : Nat} {f : ByteArray → Int} {w : World} (h : MapFn M m f w) (n : Nat) : MapFn M m f (w.drewN n) := h.kept (row := none) ⟨rfl, rfl, rfl, Nat.le_refl _, fun _ _ _ => rfl⟩ (by simp)
theorem row_slice {W : World} {base : Nat} {e : TypeId} {size : Nat} {v : Value} {n : Nat} {xs : List Value} (h : W.ownsRow base e size v n xs) : ∃ a c, v = .slice a n c := by
  rcases h.2 with ⟨rfl, rfl⟩ | ⟨g, cap, _, rfl, _⟩
  · exact ⟨_, _, rfl⟩
  · exact ⟨_, _, rfl⟩
theorem row_other {w w1 : World} {base : Nat} {e T : TypeId} {size : Nat} {v : Value} {n k : Nat} {xs : List Value} {cs : Array Value} {fz : Nat × Nat} (h : w.ownsRow base e size v n xs) (hg : w.grownBy w1 v.ownBlock) (hk : w.heap[k]? = some (.cells cs T fz)) (hT : T ≠ e) : w1.heap[k]? = some (.cells cs T fz) := by
  refine (hg.block k (Array.getElem?_eq_some_iff.1 hk).1 fun e => ?_).trans hk
  rcases h.2 with ⟨rfl, _⟩ | ⟨g, cap, cur, rfl, _, hgb, _⟩
  · cases e
  · obtain rfl : k = g := by simpa [Value.ownBlock] using e
    rw [hk] at hgb
    cases hgb
    exact hT rfl
theorem new_one (w : World) (x : Value) (t : TypeId) : ∀ j u, [x][j]? = some u → (w.alloc (.cells #[x] t)).cell? ((⟨w.heap.size, 0, none⟩ : Addr).add j) = some u := by
  intro j u hu
  have hadd : (⟨w.heap.size, 0, none⟩ : Addr).add j = ⟨w.heap.size, j, none⟩ := by unfold Addr.add; split <;> simp_all
  rw [hadd]
  have := alloc_new w (.cells #[x] t)
  simp only [World.cell?, this]
  match j, hu with
  | 0, hu => simpa using hu
  | n + 1, hu => simp at hu
theorem FindAt.below {B p M K : Nat} {f : ByteArray → Int} {out : List ByteArray} {w w' : World} (h : FindAt B p M K f out w) (hb : Below w.heap.size w w') : FindAt B p M K f out w' := by
  obtain ⟨h1, h2, ⟨v, h3, h4⟩, ⟨m, h5, h6⟩⟩ := h
  refine ⟨h1, h2, ⟨v, (hb.block p (Array.getElem?_eq_some_iff.1 h3).1).trans h3, row_kept h4 fun k cs fz hk => (hb.block k (Array.getElem?_eq_some_iff.1 hk).1).trans hk⟩, ⟨m, h5, h6.kept (row := none) ⟨hb.os, hb.tape, hb.output, hb.size, fun k hk _ => hb.block k hk⟩ (by simp)⟩⟩
theorem FindAt.alloc {B p M K : Nat} {f : ByteArray → Int} {out : List ByteArray} {w : World} (h : FindAt B p M K f out w) (o : Obj) : FindAt B p M K f out (w.alloc o) := h.below ((Below.refl _ w).alloc (Nat.le_refl _) o)
theorem FindAt.drewN {B p M K : Nat} {f : ByteArray → Int} {out : List ByteArray} {w : World} (h : FindAt B p M K f out w) (n : Nat) : FindAt B p M K f out (w.drewN n) := h.below (below_drewN (Below.refl _ _) _)
theorem FindAt.lt {B p M K : Nat} {f : ByteArray → Int} {out : List ByteArray} {w : World} (h : FindAt B p M K f out w) : p < w.heap.size ∧ M < w.heap.size := by
  obtain ⟨_, _, ⟨v, h3, _⟩, ⟨m, _, ⟨D, _, h6, _⟩⟩⟩ := h
  exact ⟨(Array.getElem?_eq_some_iff.1 h3).1, h6.lt⟩
theorem FindAt.mono {B p M K K' : Nat} {f : ByteArray → Int} {out : List ByteArray} {w : World} (h : FindAt B p M K f out w) (hK : K ≤ K') : FindAt B p M K' f out w := by
  obtain ⟨h1, h2, h3, ⟨m, h5, h6⟩⟩ := h
  exact ⟨h1, h2, h3, m, Nat.le_trans h5 hK, h6⟩
theorem FindAt.look {B p M K : Nat} {f : ByteArray → Int} {out : List ByteArray} {w : World} (h : FindAt B p M K f out w) (n : ByteArray) (hn : n.size ≤ 1000) :
    (Instr.lookup 60 (.map (some M)) (.string n) false).run Try.prog w = .ok (.int .i64 (f n)) w := by
  obtain ⟨_, _, _, ⟨m, _, h6⟩⟩ := h
  exact h6.look n (by unfold maxLen; omega)
theorem FindAt.c0 {B p M K : Nat} {f : ByteArray → Int} {out : List ByteArray} {w : World} (h : FindAt B p M K f out w) : w.cell? ⟨p, 0, none⟩ = some (.map (some M)) := by
  obtain ⟨_, _, ⟨v, h3, _⟩, _⟩ := h
  rw [Lib.cell_of_heap h3]; rfl
/-- A store into the map. -/
theorem FindAt.put {B p M K : Nat} {f g : ByteArray → Int} {out : List ByteArray} {w : World} (h : FindAt B p M K f out w) (hK : K < 2000000000) (n : ByteArray) (hn : n.size ≤ 1000) (x : Int) (hx : 0 ≤ x ∧ x ≤ 4000000000) (hf : ∀ m, (if m = n then x else f m) = g m) :
    ∃ w', (Instr.mapUpdate 60 (.map (some M)) (.string n) (.int .i64 x)).run Try.prog w = .ok () w' ∧ FindAt B p M (K + 1) g out w' ∧ (∀ (k : Nat) (cs : Array Value) (T : TypeId) (fz : Nat × Nat), w.heap[k]? = some (.cells cs T fz) → w'.heap[k]? = some (.cells cs T fz)) ∧ Below B w w' := by
  have hlt := h.lt
  obtain ⟨h1, h2, ⟨v, h3, h4⟩, ⟨m, h5, h6⟩⟩ := h
  obtain ⟨w', r1, r2, r3⟩ := h6.upd (by unfold maxLen; omega) n (by unfold maxLen; omega) x (WalkArith.wf_i64 (by omega))
  have hM : ∀ (k : Nat) (cs : Array Value) (T : TypeId) (fz : Nat × Nat), w.heap[k]? = some (.cells cs T fz) → w'.heap[k]? = some (.cells cs T fz) := fun k cs T fz hk => by
    refine (r3.block k (Array.getElem?_eq_some_iff.1 hk).1 fun e => ?_).trans hk
    cases e
    obtain ⟨D, _, ⟨es, clock, hh, _⟩, _⟩ := h6
    rw [hk] at hh; cases hh
  refine ⟨w', r1, ⟨h1, h2, ⟨v, hM _ _ _ _ h3, row_kept h4 fun k cs fz hk => hM _ _ _ _ hk⟩, ⟨m + 1, by omega, r2.congr hf⟩⟩, hM, ?_⟩
  exact ⟨r3.os, r3.tape, r3.output, r3.size, fun k hk => r3.block k (by omega) fun e => by cases e; omega⟩
/-- A name appended. -/
theorem FindAt.told {B p M K : Nat} {f : ByteArray → Int} {out : List ByteArray} {w w1 : World} {v v' : Value} {n : ByteArray} (h : FindAt B p M K f out w) (hv : w.heap[p]? = some (.cells #[.map (some M), v] 62 (0, 0))) (hown : w.ownsRow B 9 1 v out.length (out.map Value.string))
    (hown' : w1.ownsRow B 9 1 v' (out.length + 1) (out.map Value.string ++ [.string n])) (hg : w.grownBy w1 v.ownBlock) :
    FindAt B p M K f (out ++ [n]) (w1.setCell ⟨p, 1, none⟩ v') ∧ KeepT w (w1.setCell ⟨p, 1, none⟩ v') ∧ Below B w (w1.setCell ⟨p, 1, none⟩ v') := by
  have hlt := h.lt
  obtain ⟨h1, h2, _, ⟨m, h5, h6⟩⟩ := h
  have hne : ∀ (k : Nat) (o : Obj), w.heap[k]? = some o → (∀ cs fz, o ≠ .cells cs 9 fz) → w1.heap[k]? = some o := fun k o hk hT => by
    refine (hg.block k (Array.getElem?_eq_some_iff.1 hk).1 fun e => ?_).trans hk
    rcases hown.2 with ⟨rfl, _⟩ | ⟨g, cap, cur, rfl, _, hgb, _⟩
    · cases e
    · obtain rfl : k = g := by simpa [Value.ownBlock] using e
      rw [hk] at hgb
      cases hgb
      exact hT _ _ rfl
  have hp1 := hne p _ hv (fun cs fz e => by cases e)
  have hset : (w1.setCell ⟨p, 1, none⟩ v').heap[p]? = some (.cells #[.map (some M), v'] 62 (0, 0)) := by
    obtain ⟨hl, hk⟩ := Array.getElem?_eq_some_iff.1 hp1
    show (w1.heap.modify p _)[p]? = _
    rw [Array.getElem?_eq_getElem (by rw [Array.size_modify]; exact hl), Array.getElem_modify_self, hk]
    rfl
  have hoth : ∀ k, k ≠ p → (w1.setCell ⟨p, 1, none⟩ v').heap[k]? = w1.heap[k]? := fun k hk => Below.heap_setCell _ ⟨p, 1, none⟩ _ k hk
  refine ⟨⟨h1, h2, ⟨v', hset, ?_⟩, ⟨m, h5, ?_⟩⟩, ?_, ?_⟩
  · have : (out ++ [n]).map Value.string = out.map Value.string ++ [.string n] := by simp
    rw [this, List.length_append]
    refine row_kept hown' fun k cs fz hk => ?_
    by_cases e : k = p
    · subst e; rw [hp1] at hk; cases hk
    · exact (hoth k e).trans hk
  · obtain ⟨D, hD, ⟨es, clock, hh, r⟩, h2⟩ := h6
    have hMp : M ≠ p := fun e => by rw [e, hv] at hh; cases hh
    exact ⟨D, hD, ⟨es, clock, (hoth M hMp).trans (hne M _ hh (fun cs fz e => by cases e)), r⟩, h2⟩
  · intro k cs fz hk
    have : k ≠ p := fun e => by rw [e, hv] at hk; cases hk
    exact (hoth k this).trans (hne k _ hk (fun cs fz e => by cases e))
  · have hb : Below B w w1 := ⟨hg.os, hg.tape, hg.output, hg.size, fun k hk => hg.block k (by omega) fun e => by have := (hown.lt k e.symm).1; omega⟩
    exact hb.setCell (p := ⟨p, 1, none⟩) h1 _

theorem with_worldC {P : Program} {c : Code} {Q : Exit → Act → World → Prop} {a : Act} {w : World} (S : World → Prop) (h : S w) (k : ∀ W, S W → Code.wp P c Q a W) : Code.wp P c Q a w := k w h
def LookOK (t : T) : Prop := ∀ (B p M K : Nat) (bd out : List ByteArray) (a : Option Addr) (c : Nat) (w : World), FindAt B p M K (cnt bd out) out w → TysAt w (.slice a t.kids.length c) t.kids →
    K + 2 * tsize t ≤ 1000000000 → bd.length + tsize t ≤ 1000000000 → out.length + tsize t ≤ 1000000000 →
    Calls Try.prog 34 #[.pointer (some ⟨p, 0, none⟩), tyV t (.slice a t.kids.length c)] w fun e w' => e = .returned (.tuple #[]) ∧ FindAt B p M (K + 2 * tsize t) (cnt bd (fv bd out t)) (fv bd out t) w' ∧ KeepT w w' ∧ Below B w w'

/-- Names that are no longer than any here. -/
inductive Nm : T → Prop
  | mk (t : T) : t.name.size ≤ 1000 → (∀ k ∈ t.kids, Nm k) → Nm t

set_option maxHeartbeats 2000000 in
theorem look_seen (t : T) (hk : t.kind = 1) (h0 : t.kids = []) (hs : t.name.size ≤ 1000) (B p M K : Nat) (f : ByteArray → Int) (out : List ByteArray) (a : Option Addr) (c : Nat) (w : World) (hB : B ≤ w.heap.size) (h : FindAt B p M K f out w) (hc : ¬ f t.name = 0) :
    Calls Try.prog 34 #[.pointer (some ⟨p, 0, none⟩), tyV t (.slice a t.kids.length c)] w fun e w' => e = .returned (.tuple #[]) ∧ FindAt B p M K f out w' ∧ KeepT w w' ∧ Below B w w' := by
  have hl : t.kids.length = 0 := by rw [h0]; rfl
  rw [hl]
  simp only [tyV, hk]
  obtain ⟨hp, hM⟩ := h.lt
  have HF := Lib.hid h
  have hlk : ∀ (o : Obj) (n : Nat), (Instr.lookup 60 (.map (some M)) (.string t.name) false).run Try.prog ((w.alloc o).drewN n) = .ok (.int .i64 (f t.name)) ((w.alloc o).drewN n) := fun o n => ((h.alloc o).drewN n).look t.name hs
  have c0 := h.c0
  have hz : (f t.name == 0) = false := by simpa using hc
  have HE : Hid (∀ (o : Obj) (n : Nat), FindAt B p M K f out ((w.alloc o).drewN n) ∧ KeepT w ((w.alloc o).drewN n) ∧ Below B w ((w.alloc o).drewN n)) := Lib.hid fun o n => ⟨(h.alloc o).drewN n, fun k cs fz hk => keepT_alloc w o k cs fz hk, below_drewN ((Below.refl B w).alloc hB o) n⟩
  clear h hl hk h0 hc
  generalize f t.name = q at *
  go_enter Try.func34, Try.ntmps34
  go_wp2
  go_quiet (fail)
  go_wp2
  refine wp_loop_rounds 1 ?_
  rw [rounds_succ]; go_wp2
  go_end0
  exact ⟨rfl, HE.out _ _⟩

set_option maxHeartbeats 2000000 in
theorem look_told (t : T) (hk : t.kind = 1) (h0 : t.kids = []) (hs : t.name.size ≤ 1000) (B p M K : Nat) (f g : ByteArray → Int) (out : List ByteArray) (a : Option Addr) (c : Nat) (w : World) (hB : B ≤ w.heap.size) (h : FindAt B p M K f out w) (hc : f t.name = 0) (hK : K < 2000000000) (ho : out.length < 1000000000)
    (hg : ∀ m, (if m = t.name then 1 else f m) = g m) :
    Calls Try.prog 34 #[.pointer (some ⟨p, 0, none⟩), tyV t (.slice a t.kids.length c)] w fun e w' => e = .returned (.tuple #[]) ∧ FindAt B p M (K + 1) g (out ++ [t.name]) w' ∧ KeepT w w' ∧ Below B w w' := by
  have hl : t.kids.length = 0 := by rw [h0]; rfl
  rw [hl]
  simp only [tyV, hk]
  obtain ⟨hp, hM⟩ := h.lt
  have hlk : ∀ (o : Obj) (n : Nat), (Instr.lookup 60 (.map (some M)) (.string t.name) false).run Try.prog ((w.alloc o).drewN n) = .ok (.int .i64 0) ((w.alloc o).drewN n) := fun o n => by rw [← hc]; exact ((h.alloc o).drewN n).look t.name hs
  have c0 := h.c0
  have HE : Hid (∀ (o : Obj) (n : Nat), FindAt B p M K f out ((w.alloc o).drewN n) ∧ KeepT w ((w.alloc o).drewN n) ∧ Below B w ((w.alloc o).drewN n)) := Lib.hid fun o n => ⟨(h.alloc o).drewN n, fun k cs fz hk => keepT_alloc w o k cs fz hk, below_drewN ((Below.refl B w).alloc hB o) n⟩
  have HC := Lib.hid hc
  have HS := Lib.hid hs
  have HG := Lib.hid hg
  clear h hl hk h0 hc hg
  go_enter Try.func34, Try.ntmps34
  go_wp2
  go_quiet (fail)
  clear hlk c0
  go_wp2
  refine with_worldC (fun V => (FindAt B p M K f out V ∧ KeepT w V ∧ Below B w V) ∧ V.heap[w.heap.size]? = some (.cells #[.int .i64 1, .string t.name, .slice a 0 c] 29 (0, 0))) ⟨HE.out _ _, alloc_new w _⟩ ?_
  rintro V ⟨⟨hF, hKT, hBl⟩, hbox⟩
  obtain ⟨z0, z1, z2⟩ := three_cells hbox
  have c0 := hF.c0
  have hFd : FindAt B p M K f out V.drew := hF.drewN 1
  have hlk : (Instr.lookup 60 (.map (some M)) (.string t.name) false).run Try.prog V.drew = .ok (.int .i64 0) V.drew := by rw [← HC.out]; exact hFd.look t.name HS.out
  obtain ⟨V1, hup, hF1, hT1, hB1⟩ := hFd.put (g := g) hK t.name HS.out 1 (by omega) HG.out
  have HR := Lib.hid (⟨hKT, hBl, hF1, hT1, hB1⟩ : KeepT w V ∧ Below B w V ∧ FindAt B p M (K + 1) g out V1 ∧ (∀ (k : Nat) (cs : Array Value) (T : TypeId) (fz : Nat × Nat), V.drew.heap[k]? = some (.cells cs T fz) → V1.heap[k]? = some (.cells cs T fz)) ∧ Below B V.drew V1)
  have hbox1 := Lib.hid (hT1 _ _ _ _ hbox)
  clear hF hFd hKT hBl hF1 hT1 hB1 hbox
  go_region
  go_wp2
  obtain ⟨hKT, hBl, hF1, hT1, hB1⟩ := HR.out
  obtain ⟨v, hv, hown⟩ := hF1.fin
  obtain ⟨a1, cap1, rfl⟩ := row_slice hown
  have y0 : V1.cell? ⟨p, 1, none⟩ = some (.slice a1 out.length cap1) := by rw [Lib.cell_of_heap hv]; rfl
  obtain ⟨x0, x1, x2⟩ := three_cells hbox1.out
  have al : Hid (∀ (q : Addr) (x : Value) (o : Obj), V1.cell? q = some x → (V1.alloc o).cell? q = some x) := Lib.hid fun q x o h => (((Below.refl V1.heap.size V1).alloc (Nat.le_refl _) o).cell (World.block_lt_of_cell? _ _ h)).trans h
  have HO := Lib.hid (show ∀ o : Obj, (V1.drew.alloc o).ownsRow B 9 1 (.slice a1 out.length cap1) out.length (out.map Value.string) from fun o => row_kept hown fun k cs fz hk => (Below.heap_alloc V1.drew o k (Array.getElem?_eq_some_iff.1 hk).1).trans hk)
  have hlt1 : B ≤ V1.heap.size := Nat.le_trans hB (by have h1 := hBl.size; have h2 := hB1.size; simp at h2; omega)
  have HT := Lib.hid (fun (o : Obj) (w1 : World) (v' : Value) h1 h2 => ((hF1.drewN 1).alloc o).told (w1 := w1) (v' := v') (n := t.name) ((Below.heap_alloc V1.drew o p (Array.getElem?_eq_some_iff.1 hv).1).trans hv) (HO.out o) h1 h2)
  have HFr := Lib.hid (show ∀ (o : Obj) (w1 : World), (V1.drew.alloc o).grownBy w1 (Value.slice a1 out.length cap1).ownBlock → w1.heap[p]? = some (.cells #[.map (some M), .slice a1 out.length cap1] 62 (0, 0)) ∧ w1.heap[w.heap.size]? = some (.cells #[.int .i64 1, .string t.name, .slice a 0 c] 29 (0, 0)) from fun o w1 hg =>
    ⟨row_other (HO.out o) hg ((Below.heap_alloc V1.drew o p (Array.getElem?_eq_some_iff.1 hv).1).trans hv) (by decide), row_other (HO.out o) hg ((Below.heap_alloc V1.drew o _ (Array.getElem?_eq_some_iff.1 hbox1.out).1).trans hbox1.out) (by decide)⟩)
  obtain ⟨i0, hi, hz0, hz1, hz2⟩ := info_parts Try.infoStr
  have hgv : w.heap.size < V1.heap.size := (Array.getElem?_eq_some_iff.1 hbox1.out).1
  have hpv : p < V1.heap.size := (Array.getElem?_eq_some_iff.1 hv).1
  clear hown hv hF1 hT1 hB1 z0 z1 z2 c0 hup hlk
  go_region_law ((refine step_append_lies _ (by rfl) _ _ 35 (by rfl) B 9 i0 (.string ⟨#[]⟩) 1 16 Try.underlying35 hi hz0 hz1 hz2 rfl (by decide) _ out.length (out.map Value.string) (by rfl) (HO.out _) ⟨V1.heap.size, 0, none⟩ 1 1 [.string t.name] (by rfl) rfl (new_one _ _ _) (by simp [Value.oneCell']) (by decide) (by unfold maxLen; omega) (by omega) (by simp; omega) (V1.heap.size + 1) (by simp) ?_; intro g' cap' w1 hown1 hgrow hat hlt'; obtain ⟨hb1, hb2⟩ := HFr.out _ _ hgrow; have u0 : w1.cell? ⟨p, 1, none⟩ = some (.slice a1 out.length cap1) := (by rw [Lib.cell_of_heap hb1]; rfl); have u1 : w1.cell? ⟨w.heap.size, 1, none⟩ = some (.string t.name) := (by rw [Lib.cell_of_heap hb2]; rfl); have u2 := Lib.frozen_of_heap hb1 1; have u4 : w1.cell? ⟨w.heap.size, 0, none⟩ = some (.int .i64 1) := (by rw [Lib.cell_of_heap hb2]; rfl); have u5 : w1.cell? ⟨w.heap.size, 2, none⟩ = some (.slice a 0 c) := (by rw [Lib.cell_of_heap hb2]; rfl); have u3 : ∀ y : Value, (w1.setCell ⟨p, 1, none⟩ y).cell? ⟨w.heap.size, 1, none⟩ = some (.string t.name) := (fun y => (World.cell?_of_block (a := ⟨w.heap.size, 1, none⟩) (Below.heap_setCell w1 ⟨p, 1, none⟩ y w.heap.size (by show w.heap.size ≠ p; omega))).trans u1); have HH := Lib.hid (HT.out _ _ _ hown1 hgrow)))
  all_goals
    clear x0 x1 x2 y0 u0 u3 hb1 hb2 hgrow
    go_wp2
    refine wp_loop_rounds 1 ?_
    rw [rounds_succ]; go_wp2
    go_end0
    obtain ⟨k1, k2, k3⟩ := HH.out
    obtain ⟨hKT, hBl, hF1, hT1, hB1⟩ := HR.out
    exact ⟨rfl, k1, ((hKT.trans (fun k cs fz h => hT1 k cs _ fz h)).trans (keepT_alloc V1 _)).trans k2, ((below_drewN (hBl.drew.trans hB1) 1).alloc hlt1 _).trans k3⟩

/-- A part of a row, in every memory that keeps the rows. -/
theorem TysAt.part {w : World} {l : List T} {a : Option Addr} {c : Nat} (h : TysAt w (.slice a l.length c) l) (i : Nat) (hi : i < l.length) : ∃ g pa ca, a = some ⟨g, 0, none⟩ ∧ l.length ≤ c ∧ ∀ W, KeepT w W → (g < W.heap.size ∧ W.cell? ⟨g, i * 3, none⟩ = some (.int .i64 l[i].kind) ∧ W.cell? ⟨g, i * 3 + 1, none⟩ = some (.string l[i].name) ∧ W.cell? ⟨g, i * 3 + 2, none⟩ = some (.slice pa l[i].kids.length ca)) ∧ TysAt W (.slice pa l[i].kids.length ca) l[i].kids := by
  rcases h with ⟨h, _⟩ | ⟨g, cap, cs, fz, x, y, z, e, h1, h2, h3, h4⟩
  · rw [h] at hi; cases hi
  · cases e
    obtain ⟨c1, c2, c3⟩ := h3 i hi
    obtain ⟨e1, e2, ⟨pa, ca, e3⟩, e4⟩ := (h4 i hi).shape
    rw [e1] at c1; rw [e2] at c2; rw [e3] at c3 e4
    refine ⟨g, pa, ca, rfl, h2, fun W hk => ?_⟩
    have hW := hk _ _ _ h1
    refine ⟨⟨(Array.getElem?_eq_some_iff.1 hW).1, ?_, ?_, ?_⟩, e4.keep hk⟩
    · simp only [World.cell?, hW]; simpa using c1
    · simp only [World.cell?, hW]; simpa using c2
    · simp only [World.cell?, hW]; simpa using c3
theorem len_sizes' : ∀ l : List T, l.length ≤ tsizes l
  | [] => Nat.le_refl _
  | a :: l => by have := len_sizes' l; have := tsize_eq a; simp [tsizes]; omega
theorem size_mem' {k : T} : ∀ {l : List T}, k ∈ l → tsize k ≤ tsizes l
  | a :: l, h => by
    rw [tsizes]
    rcases List.mem_cons.1 h with rfl | h
    · omega
    · have := size_mem' h; omega
theorem fvs_drop (bd out : List ByteArray) (l : List T) (i : Nat) (h : i < l.length) : fvs bd out (l.take (i + 1)) = fv bd (fvs bd out (l.take i)) l[i] := by
  induction l generalizing out i with
  | nil => simp at h
  | cons a l ih =>
    cases i with
    | zero => simp [fvs]
    | succ i =>
      simp only [List.take_succ_cons, fvs, List.getElem_cons_succ]
      exact ih _ i (by simpa using h)
theorem tsizes_take (l : List T) (i : Nat) (h : i < l.length) : tsizes (l.take (i + 1)) = tsizes (l.take i) + tsize l[i] ∧ tsizes (l.take (i + 1)) ≤ tsizes l := by
  induction l generalizing i with
  | nil => simp at h
  | cons a l ih =>
    cases i with
    | zero => simp [tsizes]
    | succ i =>
      obtain ⟨h1, h2⟩ := ih i (by simpa using h)
      simp only [List.take_succ_cons, tsizes, List.getElem_cons_succ, h1]
      omega
mutual
theorem fv_len (t : T) (bd out : List ByteArray) : (fv bd out t).length ≤ out.length + tsize t := by
  cases t with
  | var n => rw [fv, tsize]; split <;> simp
  | con n l => rw [fv, tsize]; have := fvs_len l bd out; omega
  | fn a b => rw [fv, tsize]; have := fv_len a bd out; have := fv_len b bd (fv bd out a); omega
  | all n a => rw [fv, tsize]; have := fv_len a (n :: bd) out; omega
theorem fvs_len (l : List T) (bd out : List ByteArray) : (fvs bd out l).length ≤ out.length + tsizes l := by
  cases l with
  | nil => rw [fvs]; omega
  | cons a l => rw [fvs, tsizes]; have := fv_len a bd out; have := fvs_len l bd (fv bd out a); omega
end

set_option maxHeartbeats 2000000 in
theorem look_plain (t : T) (H : ∀ k ∈ t.kids, LookOK k) (hk1 : ¬ t.kind = 1) (hk4 : ¬ t.kind = 4) (B p M K : Nat) (bd out : List ByteArray) (a : Option Addr) (c : Nat) (w : World) (hB : B ≤ w.heap.size) (h : FindAt B p M K (cnt bd out) out w) (ht : TysAt w (.slice a t.kids.length c) t.kids)
    (hK : K + 2 * tsize t ≤ 1000000000) (hbd : bd.length + tsize t ≤ 1000000000) (ho : out.length + tsize t ≤ 1000000000) :
    Calls Try.prog 34 #[.pointer (some ⟨p, 0, none⟩), tyV t (.slice a t.kids.length c)] w fun e w' => e = .returned (.tuple #[]) ∧ FindAt B p M (K + 2 * tsizes t.kids) (cnt bd (fvs bd out t.kids)) (fvs bd out t.kids) w' ∧ KeepT w w' ∧ Below B w w' := by
  have q1 : (t.kind == 1) = false := by simpa using hk1
  have q4 : (t.kind == 4) = false := by simpa using hk4
  have hz := tsize_eq t
  have hlen := len_sizes' t.kids
  have HE : Hid (∀ (o : Obj) (n : Nat), FindAt B p M K (cnt bd out) out ((w.alloc o).drewN n) ∧ KeepT w ((w.alloc o).drewN n) ∧ Below B w ((w.alloc o).drewN n)) := Lib.hid fun o n => ⟨(h.alloc o).drewN n, fun k cs fz hk => keepT_alloc w o k cs fz hk, below_drewN ((Below.refl B w).alloc hB o) n⟩
  have HR : Hid (∀ i (hi : i < t.kids.length), ∃ g pa ca, a = some ⟨g, 0, none⟩ ∧ t.kids.length ≤ c ∧ ∀ W, KeepT w W → (g < W.heap.size ∧ W.cell? ⟨g, i * 3, none⟩ = some (.int .i64 t.kids[i].kind) ∧ W.cell? ⟨g, i * 3 + 1, none⟩ = some (.string t.kids[i].name) ∧ W.cell? ⟨g, i * 3 + 2, none⟩ = some (.slice pa t.kids[i].kids.length ca)) ∧ TysAt W (.slice pa t.kids[i].kids.length ca) t.kids[i].kids) := Lib.hid fun i hi => ht.part i hi
  have HS := Lib.hid H
  clear H h ht hk1 hk4
  simp only [tyV]
  go_enter Try.func34, Try.ntmps34
  go_wp2
  go_quiet (fail)
  go_wp2
  go_loopw [52] (fun vi wr => ∃ i : Nat, i ≤ t.kids.length ∧ vi = .int .i64 i ∧ Hid (FindAt B p M (K + 2 * tsizes (t.kids.take i)) (cnt bd (fvs bd out (t.kids.take i))) (fvs bd out (t.kids.take i)) wr ∧ KeepT w wr ∧ Below B w wr) ∧
      wr.heap[w.heap.size]? = some (.cells #[.int .i64 t.kind, .string t.name, .slice a t.kids.length c] 29 (0, 0))) (fun vi _ => t.kids.length - (intOf vi).toNat)
  case atStart => exact ⟨0, Nat.zero_le _, rfl, Lib.hid (by simpa [fvs, tsizes] using HE.out _ _), alloc_new w _⟩
  case round =>
    obtain ⟨i, hi, rfl, hF, hbox⟩ := hrel
    by_cases hlt : i < t.kids.length
    · obtain ⟨g, pa, ca, rfl, hcap, hr⟩ := HR.out i hlt
      obtain ⟨hF1, hKT, hBl⟩ := hF.out
      obtain ⟨⟨hg, x0, x1, x2⟩, xk⟩ := hr wr hKT
      have hsz := tsizes_take t.kids i hlt
      have hl1 := fvs_len (t.kids.take i) bd out
      have hkk := size_mem' (List.getElem_mem hlt)
      have hBw : B ≤ wr.heap.size := Nat.le_trans hB hBl.size
      have HC := Lib.hid (fun o => HS.out t.kids[i] (List.getElem_mem hlt) B p M (K + 2 * tsizes (t.kids.take i)) bd (fvs bd out (t.kids.take i)) pa ca (wr.alloc o) (hF1.alloc o) (xk.keep (keepT_alloc wr o)) (by omega) (by omega) (by omega))
      rw [← fvs_drop bd out t.kids i hlt, show K + 2 * tsizes (t.kids.take i) + 2 * tsize t.kids[i] = K + 2 * tsizes (t.kids.take (i + 1)) by omega] at HC
      have HX := Lib.hid (fun (o : Obj) (W : World) (h1 : KeepT (wr.alloc o) W) (h2 : Below B (wr.alloc o) W) => (⟨(hKT.trans (keepT_alloc wr o)).trans h1, (hBl.alloc hBw o).trans h2⟩ : KeepT w W ∧ Below B w W))
      have HXB := Lib.hid (fun (o : Obj) (W : World) (h1 : KeepT (wr.alloc o) W) => h1 _ _ _ ((Below.heap_alloc wr o _ (Array.getElem?_eq_some_iff.1 hbox).1).trans hbox))
      clear hr hF hF1 xk hBl hsz hl1 hkk HS HR HE hbox
      generalize t.kids[i] = u at x0 x1 x2 HC
      simp only [tyV] at HC
      have hlt1 : ((i : Int) < (t.kids.length : Int)) := by omega
      go_wp2_with (go_at_call 34; refine (HC.out _).mono ?_; rintro e w2 ⟨rfl, r1, r2, r3⟩; have HW2 := Lib.hid (And.intro r1 (HX.out _ _ r2 r3)); have HB2 := Lib.hid (HXB.out _ _ r2); clear r1 r2 r3)
      refine ⟨⟨i + 1, by omega, by go_num, HW2, HB2.out⟩, ?_⟩
      simp [intOf]; omega
    · obtain rfl : i = t.kids.length := by omega
      obtain ⟨z0, z1, z2⟩ := three_cells hbox
      rw [List.take_length] at hF
      clear hbox
      go_wp2
      go_end0
      exact ⟨rfl, hF.out⟩
set_option maxHeartbeats 2000000 in
theorem look_all (t : T) (H : ∀ k ∈ t.kids, LookOK k) (hk4 : t.kind = 4) (hs : t.name.size ≤ 1000) (B p M K : Nat) (bd out : List ByteArray) (a : Option Addr) (c : Nat) (w : World) (hB : B ≤ w.heap.size) (h : FindAt B p M K (cnt bd out) out w) (ht : TysAt w (.slice a t.kids.length c) t.kids)
    (hK : K + 2 * tsize t ≤ 1000000000) (hbd : bd.length + tsize t ≤ 1000000000) (ho : out.length + tsize t ≤ 1000000000) :
    Calls Try.prog 34 #[.pointer (some ⟨p, 0, none⟩), tyV t (.slice a t.kids.length c)] w fun e w' => e = .returned (.tuple #[]) ∧ FindAt B p M (K + 1 + 2 * tsizes t.kids + 1) (cnt bd (fvs (t.name :: bd) out t.kids)) (fvs (t.name :: bd) out t.kids) w' ∧ KeepT w w' ∧ Below B w w' := by
  have hz := tsize_eq t
  have hlen := len_sizes' t.kids
  have HE : Hid (∀ (o : Obj) (n : Nat), FindAt B p M K (cnt bd out) out ((w.alloc o).drewN n) ∧ KeepT w ((w.alloc o).drewN n) ∧ Below B w ((w.alloc o).drewN n)) := Lib.hid fun o n => ⟨(h.alloc o).drewN n, fun k cs fz hk => keepT_alloc w o k cs fz hk, below_drewN ((Below.refl B w).alloc hB o) n⟩
  have HR : Hid (∀ i (hi : i < t.kids.length), ∃ g pa ca, a = some ⟨g, 0, none⟩ ∧ t.kids.length ≤ c ∧ ∀ W, KeepT w W → (g < W.heap.size ∧ W.cell? ⟨g, i * 3, none⟩ = some (.int .i64 t.kids[i].kind) ∧ W.cell? ⟨g, i * 3 + 1, none⟩ = some (.string t.kids[i].name) ∧ W.cell? ⟨g, i * 3 + 2, none⟩ = some (.slice pa t.kids[i].kids.length ca)) ∧ TysAt W (.slice pa t.kids[i].kids.length ca) t.kids[i].kids) := Lib.hid fun i hi => ht.part i hi
  have HS := Lib.hid H
  have HN := Lib.hid hs
  clear H h ht hs
  simp only [tyV, hk4]
  go_enter Try.func34, Try.ntmps34
  go_wp2
  go_quiet (fail)
  go_wp2
  refine with_worldC (fun V => (FindAt B p M K (cnt bd out) out V ∧ KeepT w V ∧ Below B w V) ∧ V.heap[w.heap.size]? = some (.cells #[.int .i64 4, .string t.name, .slice a t.kids.length c] 29 (0, 0))) ⟨HE.out _ _, alloc_new w _⟩ ?_
  rintro V ⟨⟨hF, hKT, hBl⟩, hbox⟩
  obtain ⟨z0, z1, z2⟩ := three_cells hbox
  have c0 := hF.c0
  have hFd : FindAt B p M K (cnt bd out) out V.drew := hF.drewN 1
  have hlk := hFd.look t.name HN.out
  have hq := cnt_le bd out t.name
  obtain ⟨V1, hup, hF1, hT1, hB1⟩ := hFd.put (g := cnt (t.name :: bd) out) (by omega) t.name HN.out (cnt bd out t.name + 1) (by omega) (fun m => (cnt_bind bd out t.name m).symm)
  generalize cnt bd out t.name = q at hlk hq hup
  obtain ⟨hq0, hq1⟩ := hq
  have HV1 := Lib.hid (⟨hF1, hKT.trans (fun k cs fz h => hT1 k cs _ fz h), hBl.drew.trans hB1⟩ : FindAt B p M (K + 1) (cnt (t.name :: bd) out) out V1 ∧ KeepT w V1 ∧ Below B w V1)
  have hbox1 := hT1 _ _ _ _ hbox
  obtain ⟨y0, y1, y2⟩ := three_cells hbox1
  have HBox := Lib.hid hbox1
  clear hF hFd hKT hBl hF1 hT1 hB1 hbox hbox1 HE
  go_region
  clear hlk hup z0 z1 z2 c0
  go_wp2
  go_loopw [52] (fun vi wr => ∃ i : Nat, i ≤ t.kids.length ∧ vi = .int .i64 i ∧ Hid (FindAt B p M (K + 1 + 2 * tsizes (t.kids.take i)) (cnt (t.name :: bd) (fvs (t.name :: bd) out (t.kids.take i))) (fvs (t.name :: bd) out (t.kids.take i)) wr ∧ KeepT w wr ∧ Below B w wr) ∧
      wr.heap[w.heap.size]? = some (.cells #[.int .i64 4, .string t.name, .slice a t.kids.length c] 29 (0, 0))) (fun vi _ => t.kids.length - (intOf vi).toNat)
  case atStart => exact ⟨0, Nat.zero_le _, rfl, Lib.hid (by simpa [fvs, tsizes] using HV1.out), HBox.out⟩
  case round =>
    obtain ⟨i, hi, rfl, hF, hbox⟩ := hrel
    by_cases hlt : i < t.kids.length
    · obtain ⟨g, pa, ca, rfl, hcap, hr⟩ := HR.out i hlt
      obtain ⟨hF1, hKT, hBl⟩ := hF.out
      obtain ⟨⟨hg, x0, x1, x2⟩, xk⟩ := hr wr hKT
      have hsz := tsizes_take t.kids i hlt
      have hl1 := fvs_len (t.kids.take i) (t.name :: bd) out
      have hkk := size_mem' (List.getElem_mem hlt)
      have hBw : B ≤ wr.heap.size := Nat.le_trans hB hBl.size
      have HC := Lib.hid (fun o => HS.out t.kids[i] (List.getElem_mem hlt) B p M (K + 1 + 2 * tsizes (t.kids.take i)) (t.name :: bd) (fvs (t.name :: bd) out (t.kids.take i)) pa ca (wr.alloc o) (hF1.alloc o) (xk.keep (keepT_alloc wr o)) (by omega) (by simp only [List.length_cons]; omega) (by omega))
      rw [← fvs_drop (t.name :: bd) out t.kids i hlt, show K + 1 + 2 * tsizes (t.kids.take i) + 2 * tsize t.kids[i] = K + 1 + 2 * tsizes (t.kids.take (i + 1)) by omega] at HC
      have HX := Lib.hid (fun (o : Obj) (W : World) (h1 : KeepT (wr.alloc o) W) (h2 : Below B (wr.alloc o) W) => (⟨(hKT.trans (keepT_alloc wr o)).trans h1, (hBl.alloc hBw o).trans h2⟩ : KeepT w W ∧ Below B w W))
      have HXB := Lib.hid (fun (o : Obj) (W : World) (h1 : KeepT (wr.alloc o) W) => h1 _ _ _ ((Below.heap_alloc wr o _ (Array.getElem?_eq_some_iff.1 hbox).1).trans hbox))
      clear hr hF hF1 xk hBl hsz hl1 hkk HS HR hbox
      generalize t.kids[i] = u at x0 x1 x2 HC
      simp only [tyV] at HC
      have hlt1 : ((i : Int) < (t.kids.length : Int)) := by omega
      go_wp2_with (go_at_call 34; refine (HC.out _).mono ?_; rintro e w2 ⟨rfl, r1, r2, r3⟩; have HW2 := Lib.hid (And.intro r1 (HX.out _ _ r2 r3)); have HB2 := Lib.hid (HXB.out _ _ r2); clear r1 r2 r3)
      refine ⟨⟨i + 1, by omega, by go_num, HW2, HB2.out⟩, ?_⟩
      simp [intOf]; omega
    · obtain rfl : i = t.kids.length := by omega
      obtain ⟨z0, z1, z2⟩ := three_cells hbox
      rw [List.take_length] at hF
      obtain ⟨hF1, hKT, hBl⟩ := hF.out
      have c0 := hF1.c0
      have hFd : FindAt B p M _ _ _ wr.drew := hF1.drewN 1
      have hlk := hFd.look t.name HN.out
      have hq := cnt_le (t.name :: bd) (fvs (t.name :: bd) out t.kids) t.name
      simp only [List.length_cons] at hq
      have e1 := cnt_bind bd (fvs (t.name :: bd) out t.kids)
      have e2 := (cnt_le bd (fvs (t.name :: bd) out t.kids) t.name).1
      have e3 := e1 t.name t.name
      rw [if_pos rfl] at e3
      obtain ⟨V2, hup, hF2, hT2, hB2⟩ := hFd.put (g := cnt bd (fvs (t.name :: bd) out t.kids)) (by omega) t.name HN.out (cnt (t.name :: bd) (fvs (t.name :: bd) out t.kids) t.name - 1) (by omega) (fun m => by
        rw [e3, e1 t.name m]
        split
        · rename_i h; rw [h]; omega
        · rfl)
      have HV2 := Lib.hid (⟨hF2, hKT.trans (fun k cs fz h => hT2 k cs _ fz h), hBl.drew.trans hB2⟩ : FindAt B p M (K + 1 + 2 * tsizes t.kids + 1) (cnt bd (fvs (t.name :: bd) out t.kids)) (fvs (t.name :: bd) out t.kids) V2 ∧ KeepT w V2 ∧ Below B w V2)
      generalize cnt (t.name :: bd) (fvs (t.name :: bd) out t.kids) t.name = q' at hlk hq hup e3
      obtain ⟨hq2, hq3⟩ := hq
      have hq4 : 1 ≤ q' := by omega
      clear hbox hF hF1 hKT hBl hFd e1 e2 e3 hF2 hT2 hB2
      go_wp2
      go_region
      go_end0
      exact ⟨rfl, HV2.out⟩
end Go.Proofs.Yteoelcefjjmjiaa
