/- Merged: MapV, UgMem, UgRoot, UgPush, UgInts, UgOrder, UgGoes, Told, UgBack, UgToldN, UgBackN, UgFoundA, SbFirst, RegInv. -/
import Derived.Test.YtdcfemojkdoakaaDoorVm3
import Derived.Test.YtdcfemojkdoakaaDoorVm2
import Derived.Maps.OwnSet
import Derived.Test.YtdcfemojkdoakaaDoorVm1
import Derived.Lib.SlFresh
import Derived.RangeFuncNested
import Derived.RangeFuncBound
import Derived.RangeFuncCalls
import Derived.RangeFuncLeaves
import Derived.Stop.RegionWithIn
import Derived.OwnWalkIn
import Derived.TacticsInMore
import Derived.LoopNIn
import Derived.LoopIn
import Derived.IntWalk
import Derived.Deep.RegionHeld
import Derived.Test.YtdcfemojkdoakaaDoorProg
/- A map of numbers by texts, in memory. -/
namespace Go.Proofs.YtdcfemojkdoakaaDoor
open Go.RowKit Go.Maps
attribute [local go_sem] Oper.semAt_some
/-- Block M is a map that tells each variable's place. -/
def MapV (M m : Nat) (f : ByteArray → Option Nat) (w : World) : Prop := ∃ D : DataW Unit, IsMap D ∧ w.ownsMap Tryd.prog 9 (plainElem Tryd.prog 3) M m D ∧
  ∀ n : ByteArray, n.size ≤ maxLen → Maps.has D (.string n.data.toList) = (f n).isSome ∧ D.atKey (.string n.data.toList) (.lit (.int .i64 0)) = .lit (.int .i64 ((f n).getD 0 : Nat))
theorem MapV.kept {M m : Nat} {f : ByteArray → Option Nat} {w w' : World} {row : Option Nat} (h : MapV M m f w) (hg : w.grownBy w' row) (hne : some M ≠ row) : MapV M m f w' := by
  obtain ⟨D, hD, h1, h2⟩ := h
  exact ⟨D, hD, h1.kept hg hne, h2⟩
theorem MapV.lt {M m : Nat} {f : ByteArray → Option Nat} {w : World} (h : MapV M m f w) : M < w.heap.size := by
  obtain ⟨_, _, h1, _⟩ := h; exact h1.lt
theorem MapV.look {M m : Nat} {f : ByteArray → Option Nat} {w : World} (h : MapV M m f w) (n : ByteArray) (hn : n.size ≤ maxLen) :
    (Instr.lookup 92 (.map (some M)) (.string n) true).run Tryd.prog w = .ok (.tuple #[.int .i64 ((f n).getD 0 : Nat), .bool (f n).isSome]) w := by
  obtain ⟨D, _, h1, h2⟩ := h
  obtain ⟨v, ps, hrun, hv⟩ := h1.look_ok strLaw Tryd.underlying92 (zeroInt w) (plainElem_int Tryd.underlying3 (by decide)) (Go.WideMaps.keyOf_string_mk Tryd.underlying9 hn)
  obtain ⟨c, rfl, hc, _⟩ := plainElem_int_inv Tryd.underlying3 hv
  have e : D.atKey (.string n.data.toList) (.lit (.int .i64 0)) = .lit (.int .i64 c) := congrArg Prod.fst hc
  rw [(h2 n hn).2] at e
  cases e
  rw [hrun, (h2 n hn).1]
theorem MapV.upd {M m : Nat} {f g : ByteArray → Option Nat} {w : World} (h : MapV M m f w) (hm : m < maxLen) (n : ByteArray) (hn : n.size ≤ maxLen) (x : Nat) (hx : x ≤ 4000000000000) (hg : ∀ k, g k = if k = n then some x else f k) :
    ∃ w', (Instr.mapUpdate 92 (.map (some M)) (.string n) (.int .i64 (x : Int))).run Tryd.prog w = .ok () w' ∧ MapV M (m + 1) g w' ∧ w.grownBy w' (some M) := by
  obtain ⟨D, hD, h1, h2⟩ := h
  obtain ⟨w', hrun, h3, h4⟩ := h1.update strLaw Tryd.underlying92 hm (Go.WideMaps.keyOf_string_mk Tryd.underlying9 hn) (plainElem_int Tryd.underlying3 (WalkArith.wf_i64 (n := (x : Int)) (by omega)))
  refine ⟨w', hrun, ⟨_, hD.put _ _, h3, fun k hk => ?_⟩, h4⟩
  rw [hg]
  by_cases e : k = n
  · subst e
    rw [atKey_put_same hD (by trivial), has_put_same hD (by trivial)]
    simp
  · have e2 : (Lit.string k.data.toList) ≠ .string n.data.toList := by
      intro e'
      apply e
      have : k.data.toList = n.data.toList := by injection e'
      cases k; cases n; simp_all
    rw [atKey_put_other e2, has_put_other e2, if_neg e]
    exact h2 k hk
theorem MapV.ne {M m k : Nat} {f : ByteArray → Option Nat} {w : World} {cs : Array Value} {T : TypeId} {fz : Nat × Nat} (h : MapV M m f w) (hk : w.heap[k]? = some (.cells cs T fz)) : M ≠ k := by
  rintro rfl
  obtain ⟨_, _, ⟨es, clock, hh, _⟩, _⟩ := h
  rw [hk] at hh; cases hh
theorem MapV.mono {M m m' : Nat} {f : ByteArray → Option Nat} {w : World} (h : MapV M m f w) (hm : m ≤ m') : MapV M m' f w := by
  obtain ⟨D, hD, h1, h2⟩ := h
  exact ⟨D, hD, h1.mono hm, h2⟩
theorem MapV.start (w : World) : MapV w.heap.size 0 (fun _ => none) (w.alloc (.map #[] 0)) :=
  ⟨.map [], ⟨[], rfl⟩, World.ownsMap_made (H := Unit) w Tryd.prog 9 (plainElem Tryd.prog 3), fun _ _ => ⟨rfl, rfl⟩⟩
end Go.Proofs.YtdcfemojkdoakaaDoor
/- The program's graph in memory. -/
namespace Go.Proofs.YtdcfemojkdoakaaDoor
open Go.RowKit Go.Maps
attribute [local go_sem] Oper.semAt_some

/-- A row of places. -/
def PlcAt (w : World) (v : Value) (l : List Nat) : Prop :=
  (l = [] ∧ ∃ a c, v = .slice a 0 c) ∨ ∃ q cap cs fz, v = .slice (some ⟨q, 0, none⟩) l.length cap ∧ w.heap[q]? = some (.cells cs 3 fz) ∧ l.length ≤ cap ∧ ∀ k (h : k < l.length), cs[k]? = some (.int .i64 (l[k] : Nat))
theorem PlcAt.shape {w : World} {v : Value} {l : List Nat} (h : PlcAt w v l) : ∃ a c, v = .slice a l.length c := by
  rcases h with ⟨rfl, a, c, rfl⟩ | ⟨q, cap, cs, fz, rfl, _⟩
  · exact ⟨a, c, rfl⟩
  · exact ⟨_, _, rfl⟩
theorem PlcAt.keep {w w' : World} {v : Value} {l : List Nat} (h : PlcAt w v l) (hk : ∀ (k : Nat) (cs : Array Value) (fz : Nat × Nat), w.heap[k]? = some (.cells cs 3 fz) → w'.heap[k]? = some (.cells cs 3 fz)) : PlcAt w' v l := by
  rcases h with h | ⟨q, cap, cs, fz, rfl, h1, h2⟩
  · exact .inl h
  · exact .inr ⟨q, cap, cs, fz, rfl, hk _ _ _ h1, h2⟩
theorem PlcAt.row {w : World} {v : Value} {l : List Nat} (h : PlcAt w v l) {k : Nat} (hk : k < l.length) : ∃ q cap, v = .slice (some ⟨q, 0, none⟩) l.length cap ∧ q < w.heap.size ∧ l.length ≤ cap ∧ w.cell? ⟨q, k, none⟩ = some (.int .i64 (l[k] : Nat)) := by
  rcases h with ⟨rfl, _⟩ | ⟨q, cap, cs, fz, rfl, h1, h2, h3⟩
  · cases hk
  · exact ⟨q, cap, rfl, (Array.getElem?_eq_some_iff.1 h1).1, h2, by simp only [World.cell?, h1]; simpa using h3 k hk⟩

/-- One part's cells. -/
def encN (t : T) (v : Value) (x : Nat) : List Value := [.int .i64 t.kind, .string t.name, v, .int .i64 x]
def rowN (tr : Nat → T) (sl : Nat → Value) (nx : Nat → Nat) : Nat → List Value
  | 0 => []
  | n + 1 => rowN tr sl nx n ++ encN (tr n) (sl n) (nx n)
theorem rowN_len (tr : Nat → T) (sl : Nat → Value) (nx : Nat → Nat) : ∀ n, (rowN tr sl nx n).length = n * 4
  | 0 => rfl
  | n + 1 => by rw [rowN, List.length_append, rowN_len tr sl nx n]; simp [encN]; omega
theorem rowN_get (tr : Nat → T) (sl : Nat → Value) (nx : Nat → Nat) : ∀ (n i k : Nat), i < n → k < 4 → (rowN tr sl nx n)[i * 4 + k]? = (encN (tr i) (sl i) (nx i))[k]?
  | 0, _, _, h, _ => by omega
  | n + 1, i, k, h, hk => by
    rw [rowN]
    have hl := rowN_len tr sl nx n
    by_cases e : i = n
    · subst e
      rw [List.getElem?_append_right (by omega), hl]
      congr 1; omega
    · rw [List.getElem?_append_left (by omega)]
      exact rowN_get tr sl nx n i k (by omega) hk
theorem rowN_congr {tr tr' : Nat → T} {sl sl' : Nat → Value} {nx nx' : Nat → Nat} : ∀ {n : Nat}, (∀ i, i < n → tr i = tr' i ∧ sl i = sl' i ∧ nx i = nx' i) → rowN tr sl nx n = rowN tr' sl' nx' n
  | 0, _ => rfl
  | n + 1, h => by
    rw [rowN, rowN, rowN_congr fun i hi => h i (by omega)]
    obtain ⟨h1, h2, h3⟩ := h n (by omega)
    rw [h1, h2, h3]
/-- Part i goes on at part x. -/
def updN (nx : Nat → Nat) (i x : Nat) : Nat → Nat := fun j => if j = i then x else nx j
theorem rowN_upd (tr : Nat → T) (sl : Nat → Value) (nx : Nat → Nat) (i x : Nat) : ∀ n, i < n → rowN tr sl (updN nx i x) n = (rowN tr sl nx n).set (i * 4 + 3) (.int .i64 x)
  | 0, h => by omega
  | n + 1, h => by
    have hl := rowN_len tr sl nx n
    rw [rowN, rowN]
    by_cases e : i = n
    · subst e
      rw [List.set_append_right _ _ (by omega), hl, show i * 4 + 3 - i * 4 = 3 by omega, rowN_congr (tr' := tr) (sl' := sl) (nx' := nx) fun j hj => ⟨rfl, rfl, by simp [updN]; omega⟩]
      simp [encN, updN]
    · rw [List.set_append_left _ _ (by omega), rowN_upd tr sl nx i x n (by omega)]
      simp [updN, show n ≠ i from fun h => e h.symm]
/-- Each part's way ends at its root. -/
structure Way (G : Gr) (rt nx h : Nat → Nat) : Prop where
  lt : ∀ i, i < G.N → nx i < G.N
  fix : ∀ i, i < G.N → (nx i = i ↔ rt i = i)
  on : ∀ i, i < G.N → rt (nx i) = rt i
  down : ∀ i, i < G.N → nx i ≠ i → h (nx i) < h i
theorem Way.short {G : Gr} {rt nx h : Nat → Nat} (W : Way G rt nx h) {i : Nat} (hi : i < G.N) (hn : nx i ≠ i) : Way G rt (updN nx i (nx (nx i))) h := by
  have h1 := W.lt i hi
  have h2 := W.down i hi hn
  have h3 : h (nx (nx i)) < h i := by
    by_cases e : nx (nx i) = nx i
    · rw [e]; exact h2
    · exact Nat.lt_trans (W.down _ h1 e) h2
  refine ⟨fun j hj => ?_, fun j hj => ?_, fun j hj => ?_, fun j hj e => ?_⟩ <;> unfold updN at * <;> by_cases hji : j = i
  · rw [if_pos hji]; exact W.lt _ h1
  · rw [if_neg hji]; exact W.lt j hj
  · rw [if_pos hji]; subst hji
    constructor
    · intro e; rw [e] at h3; omega
    · intro e; exact absurd ((W.fix j hj).2 e) hn
  · rw [if_neg hji]; exact W.fix j hj
  · rw [if_pos hji]; subst hji; rw [W.on _ h1, W.on _ hj]
  · rw [if_neg hji]; exact W.on j hj
  · rw [if_pos hji] at *; subst hji; exact h3
  · rw [if_neg hji] at *; exact W.down j hj e
theorem Way.un {G : Gr} {rt nx h : Nat → Nat} (W : Way G rt nx h) {a b : Nat} (ha : a < G.N) (hb : b < G.N) (ra : rt a = a) (rb : rt b = b) (hne : a ≠ b) : Way G (un rt a b) (updN nx a b) (fun i => if rt i = a then h i + h b + 1 else h i) := by
  have hrb : rt b ≠ a := fun e => hne (e ▸ rb)
  refine ⟨fun j hj => ?_, fun j hj => ?_, fun j hj => ?_, fun j hj e => ?_⟩ <;> unfold updN at * <;> by_cases hja : j = a
  · rw [if_pos hja]; exact hb
  · rw [if_neg hja]; exact W.lt j hj
  · rw [if_pos hja]; subst hja
    rw [un_ren, ra, ren_at]
  · rw [if_neg hja, un_ren]
    by_cases e : rt j = a
    · rw [e, ren_at]
      constructor
      · intro k; exact absurd ((W.fix j hj).1 k ▸ e) hja
      · intro k; subst k; exact absurd e hrb
    · rw [ren_ne e]; exact W.fix j hj
  · rw [if_pos hja]; subst hja
    rw [un_ren, un_ren, ra, ren_at, rb, ren_ne (fun e => hne e.symm)]
  · rw [if_neg hja]; exact un_same _ _ (W.on j hj)
  · subst hja
    simp only [if_true, if_neg hrb, ra]
    omega
  · simp only [if_neg hja] at *
    rw [W.on j hj]
    have := W.down j hj e
    split <;> omega

/-- The places of the variables. -/
def PlV (G : Gr) (f : ByteArray → Option Nat) : Prop := ∀ n, (∀ i, f n = some i → i < G.N ∧ G.tr i = .var n) ∧ (f n = none → ∀ i, i < G.N → G.tr i ≠ .var n)

/-- The graph at block g: E: how many arguments all parts have; c: steps since the last look. -/
structure GM (B : Nat) (G : Gr) (rt : Nat → Nat) (E c g mb : Nat) (pv : Value) (sl : Nat → Value) (w : World) : Prop where
  bg : B ≤ g
  top : w.heap[g]? = some (.cells #[pv, .map (some mb), .int .i64 (E : Int), .int .i64 (c : Int)] 95 (0, 0))
  row : ∃ nx h, Way G rt nx h ∧ w.ownsRow B 128 4 pv G.N (rowN G.tr sl nx G.N) ∧ ∀ i, i < G.N → PlcAt w (sl i) (G.ag i)
  map : ∃ f, B ≤ mb ∧ MapV mb G.N f w ∧ PlV G f
theorem GM.keep {B : Nat} {G : Gr} {rt : Nat → Nat} {E c g mb : Nat} {pv : Value} {sl : Nat → Value} {w w' : World} (h : GM B G rt E c g mb pv sl w) (k : Below w.heap.size w w') : GM B G rt E c g mb pv sl w' := by
  obtain ⟨h1, h2, ⟨nx, hh, h3, h4, h5⟩, ⟨f, h6, h7, h8⟩⟩ := h
  have hk : ∀ (k : Nat) (o : Obj), w.heap[k]? = some o → w'.heap[k]? = some o := fun i o hi => (k.block i (Array.getElem?_eq_some_iff.1 hi).1).trans hi
  exact ⟨h1, hk _ _ h2, ⟨nx, hh, h3, row_kept h4 fun _ _ _ => hk _ _, fun i hi => (h5 i hi).keep fun _ _ _ => hk _ _⟩, ⟨f, h6, h7.kept (row := none) ⟨k.os, k.tape, k.output, k.size, fun i hi _ => k.block i hi⟩ (by simp), h8⟩⟩
/-- What is new may change. -/
theorem GM.low {B : Nat} {G : Gr} {rt rt0 : Nat → Nat} {E c c0 g mb : Nat} {pv : Value} {sl : Nat → Value} {w0 w w' : World} (h0 : GM B G rt0 E c0 g mb pv sl w0) (h : GM B G rt E c g mb pv sl w) (k : Below w0.heap.size w w') : GM B G rt E c g mb pv sl w' := by
  obtain ⟨_, t0, ⟨_, _, _, r0, s0⟩, ⟨_, _, m0, _⟩⟩ := h0
  obtain ⟨h1, h2, ⟨nx, hh, h3, h4, h5⟩, ⟨f, h6, h7, h8⟩⟩ := h
  refine ⟨h1, (k.block g (Array.getElem?_eq_some_iff.1 t0).1).trans h2, ⟨nx, hh, h3, ⟨h4.1, ?_⟩, fun i hi => ?_⟩, ⟨f, h6, ?_, h8⟩⟩
  · rcases h4.2 with e | ⟨q, cap, cur, rfl, hb, hq, r⟩
    · exact .inl e
    · exact .inr ⟨q, cap, cur, rfl, hb, (k.block q (r0.lt q rfl).2).trans hq, r⟩
  · rcases s0 i hi with ⟨e, a, c, ev⟩ | ⟨q, cap, cs, fz, ev, hq, _⟩
    · exact .inl ⟨e, a, c, ev⟩
    · rcases h5 i hi with ⟨e, _⟩ | ⟨q', cap', cs', fz', ev', hq', r⟩
      · exact .inl ⟨e, some ⟨q, 0, none⟩, cap, by rw [ev, e]; rfl⟩
      · rw [ev] at ev'
        cases ev'
        exact .inr ⟨q, cap, cs', fz', ev, (k.block q (Array.getElem?_eq_some_iff.1 hq).1).trans hq', r⟩
  · obtain ⟨D, hD, ⟨es, clock, hh, r⟩, h2⟩ := h7
    exact ⟨D, hD, ⟨es, clock, (k.block mb m0.lt).trans hh, r⟩, h2⟩
theorem GM.lt {B : Nat} {G : Gr} {rt : Nat → Nat} {E c g mb : Nat} {pv : Value} {sl : Nat → Value} {w : World} (h : GM B G rt E c g mb pv sl w) : g < w.heap.size := (Array.getElem?_eq_some_iff.1 h.top).1
theorem GM.top0 {B : Nat} {G : Gr} {rt : Nat → Nat} {E c g mb : Nat} {pv : Value} {sl : Nat → Value} {w : World} (h : GM B G rt E c g mb pv sl w) : w.cell? ⟨g, 0, none⟩ = some pv := by rw [Lib.cell_of_heap h.top]; rfl
/-- One part's cells, and where it goes on. -/
theorem GM.part {B : Nat} {G : Gr} {rt : Nat → Nat} {E c g mb p cap : Nat} {sl : Nat → Value} {w : World} (h : GM B G rt E c g mb (.slice (some ⟨p, 0, none⟩) G.N cap) sl w) {i : Nat} (hi : i < G.N) : p < w.heap.size ∧ G.N ≤ cap ∧ ∃ va ca, w.cell? ⟨p, i * 4, none⟩ = some (.int .i64 (G.tr i).kind) ∧ w.cell? ⟨p, i * 4 + 1, none⟩ = some (.string (G.tr i).name) ∧ w.cell? ⟨p, i * 4 + 2, none⟩ = some (.slice va (G.ag i).length ca) ∧ PlcAt w (.slice va (G.ag i).length ca) (G.ag i) := by
  obtain ⟨_, _, ⟨nx, hh, _, h4, h5⟩, _⟩ := h
  have hlt := h4.lt p rfl
  obtain ⟨va, ca, e⟩ := (h5 i hi).shape
  have hc := fun k (hk : k < 4) => (h4.cellAt (i * 4 + k) (by omega)).trans (rowN_get G.tr sl nx G.N i k hi hk)
  have hcap : G.N ≤ cap := by
    rcases h4.2 with ⟨e, _⟩ | ⟨_, _, _, e, _, _, h, _⟩
    · cases e
    · cases e; exact h
  exact ⟨hlt.2, hcap, va, ca, hc 0 (by omega), hc 1 (by omega), by rw [← e]; exact hc 2 (by omega), by rw [← e]; exact h5 i hi⟩
/-- A store into where a part goes on. -/
theorem GM.set {B : Nat} {G : Gr} {rt rt' h' : Nat → Nat} {E c g mb p cap : Nat} {w : World} {sl : Nat → Value} {nx : Nat → Nat} (h : GM B G rt E c g mb (.slice (some ⟨p, 0, none⟩) G.N cap) sl w) (hr : w.ownsRow B 128 4 (.slice (some ⟨p, 0, none⟩) G.N cap) G.N (rowN G.tr sl nx G.N)) (hs : ∀ i, i < G.N → PlcAt w (sl i) (G.ag i)) {i x : Nat} (hi : i < G.N) (hW : Way G rt' (updN nx i x) h') :
    GM B G rt' E c g mb (.slice (some ⟨p, 0, none⟩) G.N cap) sl (w.setCell ⟨p, i * 4 + 3, none⟩ (.int .i64 (x : Int))) ∧ Fr p w (w.setCell ⟨p, i * 4 + 3, none⟩ (.int .i64 (x : Int))) ∧
    (w.setCell ⟨p, i * 4 + 3, none⟩ (.int .i64 (x : Int))).ownsRow B 128 4 (.slice (some ⟨p, 0, none⟩) G.N cap) G.N (rowN G.tr sl (updN nx i x) G.N) ∧ ∀ j, j < G.N → PlcAt (w.setCell ⟨p, i * 4 + 3, none⟩ (.int .i64 (x : Int))) (sl j) (G.ag j) := by
  obtain ⟨h1, h2, _, ⟨f, h6, h7, h8⟩⟩ := h
  obtain ⟨st, sg⟩ := hr.stored (i * 4 + 3) (.int .i64 (x : Int))
  rw [← rowN_upd _ _ _ _ _ _ hi] at st
  have ho : ∀ k, k ≠ p → (w.setCell ⟨p, i * 4 + 3, none⟩ (.int .i64 (x : Int))).heap[k]? = w.heap[k]? := fun k hk => Below.heap_setCell _ ⟨p, i * 4 + 3, none⟩ _ k hk
  obtain ⟨cur, hp⟩ : ∃ cur, w.heap[p]? = some (.cells cur 128 (0, 0)) := by
    rcases hr.2 with ⟨e, _⟩ | ⟨_, _, cur, e, _, hb, _⟩
    · cases e
    · cases e; exact ⟨cur, hb⟩
  have hgp : g ≠ p := by rintro rfl; rw [h2] at hp; cases hp
  have hi' : ∀ j, j < G.N → PlcAt (w.setCell ⟨p, i * 4 + 3, none⟩ (.int .i64 (x : Int))) (sl j) (G.ag j) := fun j hj => (hs j hj).keep fun k cs fz hk => by
    refine (ho k ?_).trans hk
    rintro rfl; rw [hp] at hk; cases hk
  refine ⟨⟨h1, (ho g hgp).trans h2, ⟨_, h', hW, st, hi'⟩, ⟨f, h6, h7.kept sg ?_, h8⟩⟩, ⟨(Below.refl 0 w).setCell (p := ⟨p, i * 4 + 3, none⟩) (Nat.zero_le _) _, fun k _ hk => ho k hk⟩, st, hi'⟩
  intro e
  cases e
  exact h7.ne hp rfl
end Go.Proofs.YtdcfemojkdoakaaDoor
/- The program's graph: root, isVar. -/
namespace Go.Proofs.YtdcfemojkdoakaaDoor
open Go.RowKit Go.Maps
attribute [local go_sem] Oper.semAt_some

theorem GM.drew {B : Nat} {G : Gr} {rt : Nat → Nat} {E c g mb : Nat} {pv : Value} {sl : Nat → Value} {w : World} (h : GM B G rt E c g mb pv sl w) : GM B G rt E c g mb pv sl w.drew := h.keep (Below.refl _ w).drew
theorem Fr.drew {p : Nat} {w v : World} (h : Fr p w v) : Fr p w v.drew := ⟨h.1.drew, h.2⟩
abbrev gp (g : Nat) : Value := .pointer (some ⟨g, 0, none⟩)
set_option maxHeartbeats 1000000 in
theorem isVar_any {B : Nat} {G : Gr} {rt : Nat → Nat} {E c g mb p cap i : Nat} {sl : Nat → Value} {w : World} (h : GM B G rt E c g mb (.slice (some ⟨p, 0, none⟩) G.N cap) sl w) (hi : i < G.N) :
    Calls Tryd.prog 74 #[gp g, .int .i64 (i : Int)] w fun e w' => e = .returned (.bool (G.tr i).isV) ∧ w' = w := by
  have hv : ((G.tr i).kind == 1) = (G.tr i).isV := by cases G.tr i <;> rfl
  obtain ⟨hlt, hcap, va, ca, x0, x1, x2, _⟩ := h.part hi
  have y0 := h.top0
  have hg := h.lt
  have hiz : (i : Int) < (G.N : Int) := by omega
  generalize G.N = N at *
  clear h
  go_enter Tryd.func74, Tryd.ntmps74
  go_wp2
  go_ret
  refine ⟨?_, rfl⟩
  rw [← hv]
  congr 2
theorem cell3 {B p cap : Nat} {G : Gr} {w : World} {sl : Nat → Value} {nx : Nat → Nat} (h : w.ownsRow B 128 4 (.slice (some ⟨p, 0, none⟩) G.N cap) G.N (rowN G.tr sl nx G.N)) {i : Nat} (hi : i < G.N) : w.cell? ⟨p, i * 4 + 3, none⟩ = some (.int .i64 (nx i : Int)) :=
  (h.cellAt (i * 4 + 3) (by omega)).trans (rowN_get G.tr sl nx G.N i 3 hi (by omega))
set_option maxHeartbeats 1000000 in
theorem root_any {B : Nat} {G : Gr} {rt : Nat → Nat} {E c g mb p cap i : Nat} {sl : Nat → Value} {w : World} (h : GM B G rt E c g mb (.slice (some ⟨p, 0, none⟩) G.N cap) sl w) (hi : i < G.N) :
    Calls Tryd.prog 73 #[gp g, .int .i64 (i : Int)] w fun e w' => e = .returned (.int .i64 (rt i : Nat)) ∧ GM B G rt E c g mb (.slice (some ⟨p, 0, none⟩) G.N cap) sl w' ∧ Fr p w w' := by
  have H0 := Lib.hid h
  obtain ⟨_, _, ⟨nx0, hh, W0, r0, s0⟩, _⟩ := h
  have HR0 := Lib.hid (⟨W0, r0, s0⟩ : Way G rt nx0 hh ∧ w.ownsRow B 128 4 (.slice (some ⟨p, 0, none⟩) G.N cap) G.N (rowN G.tr sl nx0 G.N) ∧ ∀ i, i < G.N → PlcAt w (sl i) (G.ag i))
  clear W0 r0 s0
  go_enter Tryd.func73, Tryd.ntmps73
  go_wp2
  go_loopw [1] (fun vi wr => ∃ j nx, j < G.N ∧ rt j = rt i ∧ vi = .int .i64 (j : Nat) ∧ Hid (GM B G rt E c g mb (.slice (some ⟨p, 0, none⟩) G.N cap) sl wr ∧ Fr p w wr) ∧ Hid (Way G rt nx hh ∧ wr.ownsRow B 128 4 (.slice (some ⟨p, 0, none⟩) G.N cap) G.N (rowN G.tr sl nx G.N) ∧ ∀ i, i < G.N → PlcAt wr (sl i) (G.ag i))) (fun vi _ => hh (intOf vi).toNat)
  case atStart => exact ⟨i, nx0, hi, rfl, rfl, Lib.hid ⟨H0.out, Fr.refl _ _⟩, HR0⟩
  case round =>
    obtain ⟨j, nx, hj, hr, rfl, hM, hX⟩ := hrel
    obtain ⟨hGM, hFr⟩ := hM.out
    obtain ⟨hW, hrow, hsl⟩ := hX.out
    have hj2 := hW.lt j hj
    have n3 := cell3 hrow hj
    have m3 := cell3 hrow hj2
    obtain ⟨hlt, hcap, _⟩ := hGM.part hj
    have y0 := hGM.top0
    have hg := hGM.lt
    have fz := hrow.frozenAt (j * 4 + 3)
    have hjz : (j : Int) < (G.N : Int) := by omega
    have hjz2 : (nx j : Int) < (G.N : Int) := by omega
    by_cases e : nx j = j
    · have hez : (((nx j : Nat) : Int) != (j : Int)) = false := by rw [e]; simp
      have HE := Lib.hid ((hW.fix j hj).1 e)
      clear hX hW hrow hsl hM HR0 e
      go_wp2
      go_ret
      exact ⟨by rw [← hr, HE.out]; rfl, hGM, hFr⟩
    · have hez : (((nx j : Nat) : Int) != (j : Int)) = true := by simp; omega
      have hW' := hW.short hj e
      obtain ⟨s1, s2, s3, s4⟩ := hGM.set hrow hsl hj hW'
      have t3 := cell3 s3 hj
      have tm : updN nx j (nx (nx j)) j = nx (nx j) := by simp [updN]
      rw [tm] at t3
      have y0' := s1.top0
      have HS := Lib.hid (⟨⟨s1, hFr.trans s2⟩, hW', s3, s4⟩ : (GM B G rt E c g mb (.slice (some ⟨p, 0, none⟩) G.N cap) sl (wr.setCell ⟨p, j * 4 + 3, none⟩ (.int .i64 (nx (nx j) : Int))) ∧ Fr p w (wr.setCell ⟨p, j * 4 + 3, none⟩ (.int .i64 (nx (nx j) : Int)))) ∧ Way G rt (updN nx j (nx (nx j))) hh ∧ (wr.setCell ⟨p, j * 4 + 3, none⟩ (.int .i64 (nx (nx j) : Int))).ownsRow B 128 4 (.slice (some ⟨p, 0, none⟩) G.N cap) G.N (rowN G.tr sl (updN nx j (nx (nx j))) G.N) ∧ ∀ i, i < G.N → PlcAt (wr.setCell ⟨p, j * 4 + 3, none⟩ (.int .i64 (nx (nx j) : Int))) (sl i) (G.ag i))
      have HL := Lib.hid (⟨hW.lt _ hj2, by rw [hW.on _ hj2, hW.on _ hj, hr], by have h1 := hW'.down j hj; rw [tm] at h1; exact h1⟩ : nx (nx j) < G.N ∧ rt (nx (nx j)) = rt i ∧ (nx (nx j) ≠ j → hh (nx (nx j)) < hh j))
      have HN := Lib.hid (show nx (nx j) ≠ j from fun k => by
        have h1 := hW.down j hj e
        by_cases k2 : nx (nx j) = nx j
        · exact e (k2.symm.trans k)
        · have h2 := hW.down _ hj2 k2
          rw [k] at h2; omega)
      clear s1 s2 s3 s4 hW' tm hX hW hrow hsl hM HR0 hGM hFr
      go_wp2
      go_region
      go_wp2
      go_roundw
      case rel => exact ⟨nx (nx j), updN nx j (nx (nx j)), HL.out.1, HL.out.2.1, rfl, Lib.hid ⟨HS.out.1.1.drew, HS.out.1.2.drew⟩, Lib.hid ⟨HS.out.2.1, HS.out.2.2.1.drew, fun i hi => (HS.out.2.2.2 i hi).keep fun _ _ _ h => h⟩⟩
      case measure =>
        have := HL.out.2.2 HN.out
        simpa [intOf] using this
end Go.Proofs.YtdcfemojkdoakaaDoor
/- The program's graph: steps on a stack; pushArgs. -/
namespace Go.Proofs.YtdcfemojkdoakaaDoor
open Go.RowKit Go.Maps
attribute [local go_sem] Oper.semAt_some

def encS (s : Stp) : List Value := [.int .i64 (s.a : Int), .int .i64 (s.b : Int), .bool s.j]
def rowS (l : List Stp) : List Value := l.flatMap encS
theorem rowS_snoc (l : List Stp) (s : Stp) : rowS (l ++ [s]) = rowS l ++ encS s := by simp [rowS]
theorem rowS_len : ∀ l : List Stp, (rowS l).length = l.length * 3
  | [] => rfl
  | s :: l => by
    have := rowS_len l
    unfold rowS at this ⊢
    rw [List.flatMap_cons, List.length_append, this]; simp [encS]; omega
theorem Tryd.infoStep : (Tryd.prog.info? 124).map (fun i => (i.zero, i.size, i.bytes)) = some (some (.agg #[.int .i64 0, .int .i64 0, .bool false]), 3, 24) := by kernel_rfl
/-- Steps in memory, the next one last. -/
def StkAt (B : Nat) (v : Value) (ws : List Stp) (w : World) : Prop := w.ownsRow B 124 3 v ws.length (rowS ws.reverse)
theorem StkAt.keep {B : Nat} {v : Value} {ws : List Stp} {w w' : World} (h : StkAt B v ws w) (hk : Below w.heap.size w w') : StkAt B v ws w' := row_kept h fun k _ _ hh => (hk.block k (Array.getElem?_eq_some_iff.1 hh).1).trans hh
theorem StkAt.frP {B p : Nat} {v : Value} {ws : List Stp} {w w' : World} {cs : Array Value} {fz : Nat × Nat} {T : TypeId} (h : StkAt B v ws w) (hp : w.heap[p]? = some (.cells cs T fz)) (hT : T ≠ 124) (hk : Fr p w w') : StkAt B v ws w' := row_kept h fun k _ _ hh => (hk.2 k (Array.getElem?_eq_some_iff.1 hh).1 (by rintro rfl; rw [hp] at hh; cases hh; exact hT rfl)).trans hh
/-- All but the steps stays. -/
def KeepS (w w' : World) : Prop := ∀ (k : Nat) (o : Obj), w.heap[k]? = some o → (∀ cs fz, o ≠ .cells cs 124 fz) → w'.heap[k]? = some o
theorem KeepS.trans {a b c : World} (h : KeepS a b) (k : KeepS b c) : KeepS a c := fun i o hi ho => k i o (h i o hi ho) ho
theorem KeepS.of_below {w w' : World} (h : Below w.heap.size w w') : KeepS w w' := fun k _ hk _ => (h.block k (Array.getElem?_eq_some_iff.1 hk).1).trans hk
theorem GM.keepS {B : Nat} {G : Gr} {rt : Nat → Nat} {E c g mb : Nat} {pv : Value} {sl : Nat → Value} {w w' : World} (h : GM B G rt E c g mb pv sl w) (k : KeepS w w') (_ : Below 0 w w') : GM B G rt E c g mb pv sl w' := by
  obtain ⟨h1, h2, ⟨nx, hh, h3, h4, h5⟩, ⟨f, h6, h7, h8⟩⟩ := h
  refine ⟨h1, k _ _ h2 (by simp), ⟨nx, hh, h3, row_kept h4 fun _ _ _ hk => k _ _ hk (by simp), fun i hi => (h5 i hi).keep fun _ _ _ hk => k _ _ hk (by simp)⟩, ⟨f, h6, ?_, h8⟩⟩
  obtain ⟨D, hD, ⟨es, clock, hh, r⟩, h2⟩ := h7
  exact ⟨D, hD, ⟨es, clock, k _ _ hh (by simp), r⟩, h2⟩
theorem new_step (w : World) (s : Stp) : ∀ j u, (encS s)[j]? = some u → (w.alloc (.cells #[.int .i64 (s.a : Int), .int .i64 (s.b : Int), .bool s.j] 124)).cell? ((⟨w.heap.size, 0, none⟩ : Addr).add j) = some u := by
  intro j u hu
  have hadd : (⟨w.heap.size, 0, none⟩ : Addr).add j = ⟨w.heap.size, j, none⟩ := by unfold Addr.add; split <;> simp_all
  rw [hadd]
  have := alloc_new w (.cells #[.int .i64 (s.a : Int), .int .i64 (s.b : Int), .bool s.j] 124)
  simp only [World.cell?, this]
  match j, hu with
  | 0, hu => simpa [encS] using hu
  | 1, hu => simpa [encS] using hu
  | 2, hu => simpa [encS] using hu
  | n + 3, hu => simp [encS] at hu
/-- One step more. -/
theorem StkAt.push {B : Nat} {v : Value} {ws : List Stp} {w w1 : World} {s : Stp} {g' cap' : Nat} (h : StkAt B v ws w) (hB : B ≤ w.heap.size)
    (ho : w1.ownsRow B 124 3 (.slice (some ⟨g', 0, none⟩) (ws.length + 1) cap') (ws.length + 1) (rowS ws.reverse ++ encS s)) (hg : w.grownBy w1 v.ownBlock) :
    StkAt B (.slice (some ⟨g', 0, none⟩) (ws.length + 1) cap') (s :: ws) w1 ∧ KeepS w w1 ∧ Below B w w1 := by
  refine ⟨by unfold StkAt; rw [List.reverse_cons, rowS_snoc]; exact ho, fun k o hk hT => ?_, ⟨hg.os, hg.tape, hg.output, hg.size, fun k hk => hg.block k (by omega) fun e => by have := (h.lt k e.symm).1; omega⟩⟩
  refine (hg.block k (Array.getElem?_eq_some_iff.1 hk).1 fun e => ?_).trans hk
  rcases h.2 with ⟨rfl, _⟩ | ⟨g, cap, cur, rfl, _, hgb, _⟩
  · cases e
  · obtain rfl : k = g := by simpa [Value.ownBlock] using e
    rw [hk] at hgb
    cases hgb
    exact hT _ _ rfl
theorem drop_pairs {l m : List Nat} {k : Nat} (h1 : k < l.length) (h2 : k < m.length) (ws : List Stp) : pairsU (l.drop k) (m.drop k) ++ ws = ⟨l[k], m[k], false⟩ :: (pairsU (l.drop (k + 1)) (m.drop (k + 1)) ++ ws) := by
  rw [List.drop_eq_getElem_cons h1, List.drop_eq_getElem_cons h2, pairsU]; rfl
set_option maxRecDepth 100000 in
set_option maxHeartbeats 4000000 in
theorem push_any {B Bs : Nat} {G : Gr} {rt : Nat → Nat} {E c g mb p cap a b : Nat} {sl : Nat → Value} {v : Value} {ws : List Stp} {w : World} (h : GM B G rt E c g mb (.slice (some ⟨p, 0, none⟩) G.N cap) sl w) (ha : a < G.N) (hb : b < G.N) (hl : (G.ag a).length = (G.ag b).length) (hs : StkAt Bs v ws w) (hBs : Bs ≤ w.heap.size) (hM : ws.length + (G.ag a).length < 5000000000000) :
    Calls Tryd.prog 76 #[gp g, v, .int .i64 (a : Int), .int .i64 (b : Int)] w fun e w' => ∃ v', e = .returned v' ∧ StkAt Bs v' (pairsU (G.ag a) (G.ag b) ++ ⟨a, b, true⟩ :: ws) w' ∧ KeepS w w' ∧ Below Bs w w' := by
  obtain ⟨sa, sc, rfl⟩ := row_slice hs
  obtain ⟨i0, hi, hz0, hz1, hz2⟩ := info_parts Tryd.infoStep
  have hlit := alloc_new w (.cells #[.int .i64 (a : Int), .int .i64 (b : Int), .bool true] 124)
  have hba := (Below.refl _ w).alloc (Nat.le_refl _) (.cells #[.int .i64 (a : Int), .int .i64 (b : Int), .bool true] 124)
  obtain ⟨g1, cap1, w1, hr1, hown1, hgr1, hat1, hlt1⟩ := run_append_lies (P := Tryd.prog) (w.alloc (.cells #[.int .i64 (a : Int), .int .i64 (b : Int), .bool true] 124)) 125 125 Bs 124 i0 (.agg #[.int .i64 0, .int .i64 0, .bool false]) 3 24 Tryd.underlying125 hi hz0 hz1 hz2 rfl (by decide) _ ws.length (rowS ws.reverse) (hs.keep hba) ⟨w.heap.size, 0, none⟩ 1 1 (encS ⟨a, b, true⟩) rfl (new_step w ⟨a, b, true⟩) (by simp [encS, Value.oneCell']) (by decide) (by unfold maxLen; omega) (by omega) (by simp; omega) _ rfl
  obtain ⟨k1, k2, k3⟩ := (hs.keep hba).push (by simp; omega) hown1 hgr1
  have hM1 := (h.keep hba).keepS k2 (k3.mono (Nat.zero_le _))
  have HK1 := Lib.hid (⟨k1, (KeepS.of_below hba).trans k2, (hba.mono hBs).trans k3⟩ : _ ∧ KeepS w w1 ∧ Below Bs w w1)
  have HM1 := Lib.hid hM1
  have HR1 := Lib.hid hr1
  clear hr1
  obtain ⟨hlt, hcap, va, ca, x0, x1, x2, hIa⟩ := hM1.part ha
  obtain ⟨_, _, vb, cb, z0, z1, z2, hIb⟩ := hM1.part hb
  have y0 := hM1.top0
  have hg := hM1.lt
  have haz : (a : Int) < (G.N : Int) := by omega
  have hbz : (b : Int) < (G.N : Int) := by omega
  have HIa := Lib.hid hIa; have HIb := Lib.hid hIb
  have HL := Lib.hid hl
  have HW := Lib.hid (hba.size)
  clear hM1 hown1 hgr1 k1 k2 k3 h hs hba hlit hIa hIb hat1
  generalize G.ag a = l at *
  generalize G.ag b = m at *
  go_enter Tryd.func76, Tryd.ntmps76
  go_wp2_with (at_builtin; refine Lib.wpList_append_run_sl _ rfl _ _ 125 rfl _ _ rfl rfl HR1.out ?_)
  go_region
  go_wp2
  go_loopw [1, 11] (fun vw vi wr => ∃ (k : Nat) (ga : Option Addr) (gn gc : Nat), k ≤ l.length ∧ vi = .int .i64 ((k : Int) - 1) ∧ gn = (pairsU (l.drop k) (m.drop k) ++ ⟨a, b, true⟩ :: ws).length ∧ vw = .slice ga gn gc ∧ Hid (StkAt Bs (.slice ga gn gc) (pairsU (l.drop k) (m.drop k) ++ ⟨a, b, true⟩ :: ws) wr ∧ KeepS w1 wr ∧ Below Bs w wr)) (fun _ vi _ => (intOf vi + 1).toNat)
  case atStart =>
    have e : pairsU (l.drop l.length) (m.drop l.length) = [] := by rw [List.drop_length]; rfl
    refine ⟨l.length, some ⟨g1, 0, none⟩, ws.length + 1, cap1, Nat.le_refl _, by go_num, by rw [e]; simp, rfl, Lib.hid ⟨?_, fun k o h _ => h, HK1.out.2.2.drew⟩⟩
    rw [e]; exact HK1.out.1.keep (Below.refl _ _).drew
  case round =>
    obtain ⟨k, ga, gn, gc, hk, rfl, hgn, rfl, hX⟩ := hrel
    cases k with
    | zero =>
      go_wp2
      go_ret
      exact ⟨_, rfl, by simpa using hX.out.1, HK1.out.2.1.trans hX.out.2.1, hX.out.2.2⟩
    | succ k =>
      obtain ⟨hS, hK, hB⟩ := hX.out
      have hk1 : k < l.length := by omega
      have hk2 : k < m.length := by omega
      obtain ⟨qa, ua, e1, lqa, hca, xa⟩ := (HIa.out.keep fun _ _ _ h => hK _ _ h (by simp)).row hk1
      obtain ⟨qb, ub, e2, lqb, hcb, xb⟩ := (HIb.out.keep fun _ _ _ h => hK _ _ h (by simp)).row hk2
      cases e1; cases e2
      have hlen : gn ≤ l.length + ws.length + 1 := by
        rw [hgn, List.length_append, pairsU_len (by simp; omega)]; simp; omega
      have hkz : (k : Int) < (l.length : Int) := by omega
      have hkz2 : (k : Int) < (m.length : Int) := by omega
      have hk3 : (((k + 1 : Nat) : Int) - 1) = (k : Int) := by omega
      rw [hk3]
      have hge : (0 : Int) ≤ (k : Int) := by omega
      have HD := Lib.hid (drop_pairs hk1 hk2 (⟨a, b, true⟩ :: ws))
      generalize hla : l[k] = la at *
      generalize hlb : m[k] = lb at *
      have hbb := (Below.refl _ wr).drew.alloc (Nat.le_refl _) (.cells #[.int .i64 (la : Int), .int .i64 (lb : Int), .bool false] 124)
      have HO := Lib.hid (hS.keep hbb)
      have hBsz := hB.size
      have HW2 := Lib.hid (⟨hK, hB, hbb⟩ : KeepS w1 wr ∧ Below Bs w wr ∧ Below wr.heap.size wr _)
      clear hS hK hB hX hbb HR1
      subst hgn
      generalize pairsU (l.drop (k + 1)) (m.drop (k + 1)) ++ ⟨a, b, true⟩ :: ws = st at *
      go_wp2
      go_region_law ((refine step_append_lies _ (by rfl) _ _ 125 (by rfl) Bs 124 i0 (.agg #[.int .i64 0, .int .i64 0, .bool false]) 3 24 Tryd.underlying125 hi hz0 hz1 hz2 rfl (by decide) _ st.length (rowS st.reverse) (by rfl) HO.out ⟨wr.heap.size, 0, none⟩ 1 1 (encS ⟨la, lb, false⟩) (by rfl) rfl (new_step _ ⟨la, lb, false⟩) (by simp [encS, Value.oneCell']) (by decide) (by unfold maxLen; omega) (by omega) (by simp; omega) (wr.heap.size + 1) (by simp) ?_; intro g' cap' w2 hown2 hgr2 hat2 hlt2; have HP := Lib.hid (HO.out.push (by simp; omega) hown2 hgr2)))
      all_goals
        go_wp2
        go_roundw
        case rel =>
          refine ⟨k, _, _, _, by omega, by go_num, ?_, rfl, Lib.hid ?_⟩
          · rw [HD.out]; rfl
          · obtain ⟨p1, p2, p3⟩ := HP.out
            obtain ⟨q1, q2, q3⟩ := HW2.out
            rw [HD.out]
            exact ⟨p1, (q1.trans (KeepS.of_below q3)).trans p2, q2.trans ((q3.mono (by omega)).trans p3)⟩
        case measure => simp [intOf]
end Go.Proofs.YtdcfemojkdoakaaDoor
/- The program's graph: rows of numbers that a call makes. -/
namespace Go.Proofs.YtdcfemojkdoakaaDoor
open Go.RowKit Go.Maps
attribute [local go_sem] Oper.semAt_some

theorem Tryd.infoInt0 : (Tryd.prog.info? 3).map (fun i => (i.zero, i.size, i.bytes)) = some (some (.int .i64 0), 1, 8) := by kernel_rfl
def intsV (l : List Nat) : List Value := l.map fun i : Nat => .int .i64 (i : Int)
/-- A row of numbers of the call's own, in blocks from B on. -/
def OwnI (B : Nat) (v : Value) (l : List Nat) (w : World) : Prop := w.ownsRow B 3 1 v l.length (intsV l)
theorem OwnI.keep {B : Nat} {v : Value} {l : List Nat} {w w' : World} (h : OwnI B v l w) (hk : ∀ k, B ≤ k → k < w.heap.size → (∃ cs fz, w.heap[k]? = some (.cells cs 3 fz)) → w'.heap[k]? = w.heap[k]?) : OwnI B v l w' := by
  refine ⟨h.1, ?_⟩
  rcases h.2 with e | ⟨q, cap, cur, rfl, hb, hq, r⟩
  · exact .inl e
  · exact .inr ⟨q, cap, cur, rfl, hb, (hk q hb (Array.getElem?_eq_some_iff.1 hq).1 ⟨_, _, hq⟩).trans hq, r⟩
theorem OwnI.keepAt {B : Nat} {v : Value} {l : List Nat} {w w' : World} (h : OwnI B v l w) (hk : ∀ k, v.ownBlock = some k → w'.heap[k]? = w.heap[k]?) : OwnI B v l w' := by
  refine ⟨h.1, ?_⟩
  rcases h.2 with e | ⟨q, cap, cur, rfl, hb, hq, r⟩
  · exact .inl e
  · exact .inr ⟨q, cap, cur, rfl, hb, (hk q rfl).trans hq, r⟩
theorem OwnI.below {B : Nat} {v : Value} {l : List Nat} {w w' : World} (h : OwnI B v l w) (hk : Below w.heap.size w w') : OwnI B v l w' := h.keep fun k _ hlt _ => hk.block k hlt
theorem OwnI.alloc {B : Nat} {v : Value} {l : List Nat} {w : World} (h : OwnI B v l w) (o : Obj) : OwnI B v l (w.alloc o) := h.below ((Below.refl _ w).alloc (Nat.le_refl _) o)
theorem OwnI.fr {B p : Nat} {v : Value} {l : List Nat} {w w' : World} {cs : Array Value} {fz : Nat × Nat} {T : TypeId} (h : OwnI B v l w) (hp : w.heap[p]? = some (.cells cs T fz)) (hT : T ≠ 3) (hk : Fr p w w') : OwnI B v l w' := h.keep fun k _ hlt ⟨_, _, hc⟩ => hk.2 k hlt (by rintro rfl; rw [hp] at hc; cases hc; exact hT rfl)
/-- A row that grew. -/
theorem OwnI.grown {B : Nat} {v v' : Value} {l : List Nat} {w w' : World} (h : OwnI B v l w) (hg : w.grownBy w' v'.ownBlock) (hne : ∀ k, v.ownBlock = some k → v'.ownBlock ≠ some k) : OwnI B v l w' := by
  refine ⟨h.1, ?_⟩
  rcases h.2 with e | ⟨q, cap, cur, rfl, hb, hq, r⟩
  · exact .inl e
  · exact .inr ⟨q, cap, cur, rfl, hb, (hg.block q (Array.getElem?_eq_some_iff.1 hq).1 fun e => hne q rfl e.symm).trans hq, r⟩
theorem OwnI.shape {B : Nat} {v : Value} {l : List Nat} {w : World} (h : OwnI B v l w) : ∃ a c, v = .slice a l.length c := row_slice h
theorem OwnI.get {B q cap : Nat} {l : List Nat} {w : World} (h : OwnI B (.slice (some ⟨q, 0, none⟩) l.length cap) l w) {i : Nat} (hi : i < l.length) : w.cell? ⟨q, i, none⟩ = some (.int .i64 (l.getD i 0 : Nat)) := by
  rw [World.ownsRow.cellAt h i (by omega)]
  simp [intsV, List.getD, hi]
theorem OwnI.at {B : Nat} {v : Value} {l : List Nat} {w : World} (h : OwnI B v l w) {i : Nat} (hi : i < l.length) : ∃ q cap, v = .slice (some ⟨q, 0, none⟩) l.length cap ∧ q < w.heap.size ∧ B ≤ q ∧ l.length ≤ cap ∧ w.cell? ⟨q, i, none⟩ = some (.int .i64 (l.getD i 0 : Nat)) := by
  rcases h.2 with ⟨_, e⟩ | ⟨q, cap, cur, rfl, hb, hq, hc, _⟩
  · omega
  · exact ⟨q, cap, rfl, (Array.getElem?_eq_some_iff.1 hq).1, hb, hc, OwnI.get h hi⟩
theorem OwnI.plcAt {B : Nat} {v : Value} {l : List Nat} {w : World} (h : OwnI B v l w) : PlcAt w v l := by
  rcases h.2 with ⟨rfl, e⟩ | ⟨q, cap, cur, rfl, hb, hq, hc, _, _, ht⟩
  · exact .inl ⟨List.length_eq_zero_iff.1 e, none, 0, by rfl⟩
  · refine .inr ⟨q, cap, cur, _, rfl, hq, hc, fun k hk => ?_⟩
    have : (intsV l)[k]? = some (.int .i64 (l[k] : Nat)) := by simp [intsV, hk]
    rw [← ht, List.getElem?_take, if_pos (by omega)] at this
    simpa using this
theorem intsV_set (W : Nat → Nat) (n r x : Nat) (hr : r < n) : (intsV ((List.range n).map W)).set r (.int .i64 (x : Int)) = intsV ((List.range n).map fun i => if i = r then x else W i) := by
  refine List.ext_getElem? fun k => ?_
  simp only [intsV, List.map_map]
  by_cases e : r = k
  · subst e
    simp [hr]
  · rw [List.getElem?_set_ne e]
    by_cases hk : k < n
    · simp [hk, show ¬ k = r from fun h => e h.symm]
    · simp [hk]
/-- A count turned. -/
theorem OwnI.set {B q cap n r x : Nat} {W : Nat → Nat} {w : World} (h : OwnI B (.slice (some ⟨q, 0, none⟩) n cap) ((List.range n).map W) w) (hr : r < n) : OwnI B (.slice (some ⟨q, 0, none⟩) n cap) ((List.range n).map fun i => if i = r then x else W i) (w.setCell ⟨q, r, none⟩ (.int .i64 (x : Int))) := by
  have hl : ((List.range n).map W).length = n := by simp
  unfold OwnI at h ⊢
  rw [hl] at h
  have := (h.stored r (.int .i64 (x : Int))).1
  rw [intsV_set W n r x hr] at this
  simpa using this
theorem OwnI.push {B : Nat} {v' : Value} {l : List Nat} {x : Nat} {w' : World} (h : w'.ownsRow B 3 1 v' (l.length + 1) (intsV l ++ [.int .i64 (x : Int)])) : OwnI B v' (l ++ [x]) w' := by
  unfold OwnI
  rw [List.length_append]
  have : intsV (l ++ [x]) = intsV l ++ [.int .i64 (x : Int)] := by simp [intsV]
  rw [this]; exact h
theorem make_ints (l n : Nat) (hl : l ≤ n) (hn : n ≤ 1000000000) (w : World) :
    (Instr.makeSlice 22 (.int .i64 (l : Int)) (.int .i64 (n : Int))).run Tryd.prog w = .ok (.slice (some ⟨w.heap.size, 0, none⟩) l n) (w.alloc (.cells (madeCells #[.int .i64 0] n) 3)) := by
  obtain ⟨i, hi, hzz⟩ := Option.map_eq_some_iff.1 Tryd.infoInt0
  simp only [Prod.mk.injEq] at hzz
  obtain ⟨hz, hs, hb⟩ := hzz
  have hr := run_make (P := Tryd.prog) w 22 3 i _ Tryd.underlying22 hi hz .i64 .i64 l n (by omega) (by omega) (by rw [hb]; omega) (by omega)
  simp only [Int.toNat_natCast, hs, Nat.mul_one] at hr
  exact hr
theorem own_zeros (w : World) (n : Nat) (hn : n ≤ 1000000000) : OwnI w.heap.size (.slice (some ⟨w.heap.size, 0, none⟩) n n) ((List.range n).map fun _ => 0) (w.alloc (.cells (madeCells #[.int .i64 0] n) 3)) := by
  have := World.ownsRow_lit (base := w.heap.size) (size := 1) (e := 3) w (madeCells #[.int .i64 0] n) n (Nat.le_refl _) (by unfold maxLen; omega) (by simp [size_madeCells])
  unfold OwnI
  have e : intsV ((List.range n).map fun _ => 0) = (madeCells #[.int .i64 0] n).toList := by
    rw [toList_madeCells_one]
    refine List.ext_getElem (by simp [intsV]) fun k _ _ => by simp [intsV]
  rw [e]; simpa using this
theorem own_none (w : World) (n : Nat) (hn : n ≤ 1000000000) : OwnI w.heap.size (.slice (some ⟨w.heap.size, 0, none⟩) 0 n) [] (w.alloc (.cells (madeCells #[.int .i64 0] n) 3)) :=
  World.ownsRow_made (size := 1) (e := 3) w _ n (Nat.le_refl _) (by unfold maxLen; omega) (by simp [size_madeCells])
theorem GM.blk {B : Nat} {G : Gr} {rt : Nat → Nat} {E c g mb p cap : Nat} {sl : Nat → Value} {w : World} (h : GM B G rt E c g mb (.slice (some ⟨p, 0, none⟩) G.N cap) sl w) : ∃ cur, w.heap[p]? = some (.cells cur 128 (0, 0)) := by
  obtain ⟨_, _, ⟨_, _, _, r, _⟩, _⟩ := h
  rcases r.2 with ⟨e, _⟩ | ⟨_, _, cur, e, _, hb, _⟩
  · cases e
  · cases e; exact ⟨cur, hb⟩
theorem OwnI.frG {B : Nat} {G : Gr} {rt : Nat → Nat} {E c g mb p cap B' : Nat} {sl : Nat → Value} {v : Value} {l : List Nat} {w w' : World} (hM : GM B G rt E c g mb (.slice (some ⟨p, 0, none⟩) G.N cap) sl w) (h : OwnI B' v l w) (k : Fr p w w') : OwnI B' v l w' := by
  obtain ⟨cur, hc⟩ := hM.blk
  exact h.fr hc (by decide) k
/-- The row of a part's arguments. -/
theorem GM.args {B : Nat} {G : Gr} {rt : Nat → Nat} {E c g mb p cap : Nat} {sl : Nat → Value} {w : World} (h : GM B G rt E c g mb (.slice (some ⟨p, 0, none⟩) G.N cap) sl w) {i : Nat} (hi : i < G.N) : ∃ va ca, sl i = .slice va (G.ag i).length ca ∧ w.cell? ⟨p, i * 4 + 2, none⟩ = some (.slice va (G.ag i).length ca) := by
  obtain ⟨_, _, ⟨nx, hh, _, h4, h5⟩, _⟩ := h
  obtain ⟨va, ca, e⟩ := (h5 i hi).shape
  exact ⟨va, ca, e, by rw [← e]; exact (h4.cellAt (i * 4 + 2) (by omega)).trans (rowN_get G.tr sl nx G.N i 2 hi (by omega))⟩
theorem GM.arg {B : Nat} {G : Gr} {rt : Nat → Nat} {E c g mb : Nat} {pv : Value} {sl : Nat → Value} {w : World} (h : GM B G rt E c g mb pv sl w) {i : Nat} (hi : i < G.N) {a : Option Addr} {n k : Nat} (e : sl i = .slice a (G.ag i).length n) (hk : k < (G.ag i).length) : ∃ q, a = some ⟨q, 0, none⟩ ∧ q < w.heap.size ∧ (G.ag i).length ≤ n ∧ w.cell? ⟨q, k, none⟩ = some (.int .i64 ((G.ag i).getD k 0 : Nat)) := by
  obtain ⟨_, _, ⟨nx, hh, _, h4, h5⟩, _⟩ := h
  obtain ⟨q, cp, e2, h1, h2, h3⟩ := (h5 i hi).row hk
  rw [e] at e2
  cases e2
  exact ⟨q, rfl, h1, h2, by rw [h3]; simp [List.getD, hk]⟩
theorem cntU_le_mul {ag : Nat → List Nat} {rt : Nat → Nat} {E r : Nat} : ∀ {D : List Nat}, (∀ i ∈ D, (ag i).length ≤ E) → cntU ag rt D r ≤ D.length * E
  | [], _ => by simp [cntU]
  | i :: D, h => by
    have h1 := cntU_le_mul (ag := ag) (rt := rt) (r := r) fun j hj => h j (List.mem_cons_of_mem _ hj)
    have h2 : cntUA ag rt i r ≤ (ag i).length := by unfold cntUA; exact Nat.le_trans List.count_le_length (by simp)
    have h3 := h i (by simp)
    rw [cntU, List.length_cons, Nat.add_mul]; omega
/-- Order's state: the graph, and for how many each part waits. -/
structure OV (B : Nat) (G : Gr) (rt : Nat → Nat) (E c g mb p cap : Nat) (sl : Nat → Value) (w : World) (W : Nat → Nat) (wr : World) : Prop where
  gm : GM B G rt E c g mb (.slice (some ⟨p, 0, none⟩) G.N cap) sl wr
  waits : OwnI w.heap.size (.slice (some ⟨w.heap.size, 0, none⟩) G.N G.N) ((List.range G.N).map W) wr
  fr : Fr p w wr
section
variable {B : Nat} {G : Gr} {rt : Nat → Nat} {E c g mb p cap : Nat} {sl : Nat → Value} {w wr w3 : World} {W : Nat → Nat}
theorem OV.root (h : OV B G rt E c g mb p cap sl w W wr) (hM : GM B G rt E c g mb (.slice (some ⟨p, 0, none⟩) G.N cap) sl w3) (k : Fr p wr w3) : OV B G rt E c g mb p cap sl w W w3 := ⟨hM, h.waits.frG h.gm k, h.fr.trans k⟩
theorem OV.lt (h : OV B G rt E c g mb p cap sl w W wr) : w.heap.size < wr.heap.size := (World.ownsRow.lt h.waits w.heap.size rfl).2
theorem Fr.below_fr {p : Nat} {a b c : World} (h : Fr p a b) (k : Below a.heap.size b c) : Fr p a c := ⟨h.1.trans (k.mono (Nat.zero_le _)), fun i hi hp => (k.block i hi).trans (h.2 i hi hp)⟩
theorem OV.low (h0 : GM B G rt E c g mb (.slice (some ⟨p, 0, none⟩) G.N cap) sl w) (h : OV B G rt E c g mb p cap sl w W wr) (k : Below (w.heap.size + 1) wr w3) : OV B G rt E c g mb p cap sl w W w3 :=
  ⟨h0.low h.gm (k.mono (by omega)), h.waits.keepAt fun i e => by
    have : w.heap.size = i := by simpa [Value.ownBlock] using e
    exact k.block i (by omega), h.fr.below_fr (k.mono (by omega))⟩
theorem OV.set {r x : Nat} (h0 : GM B G rt E c g mb (.slice (some ⟨p, 0, none⟩) G.N cap) sl w) (h : OV B G rt E c g mb p cap sl w W wr) (hr : r < G.N) : OV B G rt E c g mb p cap sl w (fun i => if i = r then x else W i) (wr.setCell ⟨w.heap.size, r, none⟩ (.int .i64 (x : Int))) := by
  have k : Below w.heap.size wr (wr.setCell ⟨w.heap.size, r, none⟩ (.int .i64 (x : Int))) := (Below.refl _ wr).setCell (p := ⟨w.heap.size, r, none⟩) (Nat.le_refl _) _
  exact ⟨h0.low h.gm k, h.waits.set hr, h.fr.below_fr k⟩
theorem OV.cell (h : OV B G rt E c g mb p cap sl w W wr) {r : Nat} (hr : r < G.N) : wr.cell? ⟨w.heap.size, r, none⟩ = some (.int .i64 (W r : Nat)) := by
  have hl : ((List.range G.N).map W).length = G.N := by simp
  have hw := h.waits
  have := World.ownsRow.cellAt (n := G.N) (by unfold OwnI at hw; rw [hl] at hw; exact hw) r (by omega)
  rw [this]
  simp [intsV, hr]
theorem OV.free (h : OV B G rt E c g mb p cap sl w W wr) (r : Nat) : wr.frozen? ⟨w.heap.size, r, none⟩ = false := by
  have hl : ((List.range G.N).map W).length = G.N := by simp
  have hw := h.waits
  exact World.ownsRow.frozenAt (n := G.N) (by unfold OwnI at hw; rw [hl] at hw; exact hw) r
theorem OwnI.set_other {B' r : Nat} {v x : Value} {l : List Nat} {b : Nat} (h : OwnI B' v l wr) (hb : b < B') : OwnI B' v l (wr.setCell ⟨b, r, none⟩ x) := h.keep fun k hk _ _ => Below.heap_setCell _ ⟨b, r, none⟩ _ k (by show k ≠ b; omega)
/-- A number more, behind a fresh one-cell block. -/
theorem OwnI.more {B' : Nat} {v : Value} {l : List Nat} {x : Nat} (h : OwnI B' v l wr) (hB : B' ≤ wr.heap.size) {v' : Value} (ho : w3.ownsRow B' 3 1 v' (l.length + 1) (intsV l ++ [.int .i64 (x : Int)])) (hg : (wr.alloc (.cells #[.int .i64 (x : Int)] 3)).grownBy w3 v.ownBlock) : OwnI B' v' (l ++ [x]) w3 ∧ Below B' wr w3 ∧ ∀ k, k < wr.heap.size → v.ownBlock ≠ some k → w3.heap[k]? = wr.heap[k]? := by
  have hb : Below B' wr (wr.alloc (.cells #[.int .i64 (x : Int)] 3)) := (Below.refl _ wr).alloc hB _
  refine ⟨.push ho, hb.trans ⟨hg.os, hg.tape, hg.output, hg.size, fun k hk => hg.block k (by have := hb.size; omega) fun e => by have := (h.lt k e.symm).1; omega⟩, fun k hk hne => (hg.block k (by have := hb.size; omega) fun e => hne e.symm).trans (Below.heap_alloc _ _ k hk)⟩
end
theorem cell_int1 (w : World) (x : Nat) : ∀ j u, ([.int .i64 (x : Int)] : List Value)[j]? = some u → (w.alloc (.cells #[.int .i64 (x : Int)] 3)).cell? ((⟨w.heap.size, 0, none⟩ : Addr).add j) = some u := new_one w _ _
end Go.Proofs.YtdcfemojkdoakaaDoor
/- The program's graph: order. -/
namespace Go.Proofs.YtdcfemojkdoakaaDoor
open Go.RowKit Go.Maps
attribute [local go_sem] Oper.semAt_some

theorem cell_int1' (w : World) (n : Nat) (hn : n = w.heap.size) (x : Nat) : ∀ j u, ([.int .i64 (x : Int)] : List Value)[j]? = some u → (w.alloc (.cells #[.int .i64 (x : Int)] 3)).cell? ((⟨n, 0, none⟩ : Addr).add j) = some u := by subst hn; exact cell_int1 w x
/-- What order tells. -/
def OrdR (B : Nat) (G : Gr) (rt : Nat → Nat) (E c g mb p cap : Nat) (sl : Nat → Value) (w : World) (e : Ending) (w' : World) : Prop :=
  ∃ v l W, e = .returned (.tuple #[v, .bool (decide (l.length = (rootsU rt G.N).length))]) ∧ Ord G.ag rt G.N l l.length [] W ∧ PlcAt w' v l ∧ GM B G rt E c g mb (.slice (some ⟨p, 0, none⟩) G.N cap) sl w' ∧ Fr p w w'
set_option maxRecDepth 100000 in
set_option maxHeartbeats 8000000 in
theorem order_any {B : Nat} {G : Gr} {rt : Nat → Nat} {E c g mb p cap : Nat} {sl : Nat → Value} {w : World} (h : GM B G rt E c g mb (.slice (some ⟨p, 0, none⟩) G.N cap) sl w) (gi : GI G rt) (hE : ∀ i, i < G.N → (G.ag i).length ≤ 1000000) (hN : G.N ≤ 1000000) (hN0 : 0 < G.N) :
    Calls Tryd.prog 49 #[gp g] w fun e w' => OrdR B G rt E c g mb p cap sl w e w' := by
  have HG := Lib.hid h
  have HI := Lib.hid gi
  have y0 := h.top0
  have hg := h.lt
  have hpt := (h.part hN0).1
  have hmk1 := make_ints G.N G.N (Nat.le_refl _) (by omega)
  have hmk2 : ∀ W : World, (Instr.makeSlice 22 (.int .i64 0) (.int .i64 (G.N : Int))).run Tryd.prog W = .ok (.slice (some ⟨W.heap.size, 0, none⟩) 0 G.N) (W.alloc (.cells (madeCells #[.int .i64 0] G.N) 3)) := make_ints 0 G.N (Nat.zero_le _) (by omega)
  obtain ⟨w1, hw1⟩ : ∃ w1, w.alloc (.cells (madeCells #[.int .i64 0] G.N) 3) = w1 := ⟨_, rfl⟩
  obtain ⟨w2, hw2⟩ : ∃ w2, w1.alloc (.cells (madeCells #[.int .i64 0] G.N) 3) = w2 := ⟨_, rfl⟩
  have hs1 : w1.heap.size = w.heap.size + 1 := by rw [← hw1]; simp
  have hb1 : Below w.heap.size w w1 := by rw [← hw1]; exact (Below.refl _ w).alloc (Nat.le_refl _) _
  have hb2 : Below w1.heap.size w1 w2 := by rw [← hw2]; exact (Below.refl _ w1).alloc (Nat.le_refl _) _
  have hZ1 : OwnI w.heap.size (.slice (some ⟨w.heap.size, 0, none⟩) G.N G.N) ((List.range G.N).map fun _ => 0) w1 := by rw [← hw1]; exact own_zeros w G.N (by omega)
  have hZ2 : OwnI w1.heap.size (.slice (some ⟨w1.heap.size, 0, none⟩) 0 G.N) [] w2 := by rw [← hw2]; exact own_none w1 G.N (by omega)
  have HS := Lib.hid (⟨⟨h.keep (hb1.trans (hb2.mono hb1.size)), hZ1.below hb2, Fr.of_below (hb1.trans (hb2.mono hb1.size))⟩, hZ2⟩ : OV B G rt E c g mb p cap sl w (fun _ => 0) w2 ∧ OwnI w1.heap.size (.slice (some ⟨w1.heap.size, 0, none⟩) 0 G.N) [] w2)
  have hsz2 : w.heap.size + 1 ≤ w2.heap.size := by have := hb2.size; omega
  obtain ⟨cur, hcur⟩ : ∃ cur, w.heap[p]? = some (.cells cur 128 (0, 0)) := by
    obtain ⟨_, _, ⟨_, _, _, r, _⟩, _⟩ := h
    rcases r.2 with ⟨e, _⟩ | ⟨_, _, cur, e, _, hb, _⟩
    · cases e
    · cases e; exact ⟨cur, hb⟩
  have hP := Lib.hid hcur
  have y1 := (h.keep hb1).top0
  have y2 := HS.out.1.gm.top0
  have hm1 := hmk1 w; have hm2 := hmk2 w1
  rw [hw1] at hm1; rw [hw2] at hm2
  rw [hs1] at hm2 HS
  have hg1 : g < w1.heap.size := by omega
  have hg2 : g < w2.heap.size := by omega
  obtain ⟨i0, hi0, hz0, hz1, hz2⟩ := info_parts Tryd.infoInt0
  clear h gi hcur hmk1 hmk2 hb1 hb2 hZ1 hZ2 hw1 hw2 hs1
  go_enter Tryd.func49, Tryd.ntmps49
  go_wp2
  go_loopw [5, 35] (fun vr vi wr => ∃ (i : Nat) (ga : Option Addr) (gn gc : Nat), i ≤ G.N ∧ vi = .int .i64 (i : Nat) ∧ gn = (rootsU rt i).length ∧ vr = .slice ga gn gc ∧ Hid (OV B G rt E c g mb p cap sl w (fun _ => 0) wr ∧ OwnI (w.heap.size + 1) (.slice ga gn gc) (rootsU rt i) wr)) (fun _ vi _ => G.N - (intOf vi).toNat)
  case atStart => exact ⟨0, _, _, _, Nat.zero_le _, rfl, rfl, rfl, HS⟩
  case round =>
    obtain ⟨i, ga, gn, gc, hi, rfl, hgn, rfl, hX⟩ := hrel
    by_cases hlt : i < G.N
    · have hiz : (i : Int) < (G.N : Int) := by omega
      obtain ⟨hV, hR⟩ := hX.out
      have HC := Lib.hid (root_any hV.gm hlt)
      have HV := Lib.hid hV; have HR := Lib.hid hR
      have hgl : (rootsU rt i).length ≤ i := by unfold rootsU; exact Nat.le_trans (List.length_filter_le _ _) (by simp)
      have HGn := Lib.hid hgn
      clear hV hR hX y0 y1 y2 hgn
      by_cases hr : rt i = i
      · have hez : (((rt i : Nat) : Int) == (i : Int)) = true := by simp; omega
        have hroots : rootsU rt (i + 1) = rootsU rt i ++ [i] := by rw [roots_succ, if_pos hr]
        go_wp2_with (go_at_call 73; refine HC.out.mono ?_)
        rintro e w3 ⟨rfl, hM3, hF3⟩
        have HV3 := Lib.hid (HV.out.root hM3 hF3)
        have hR3 := HR.out.frG HV.out.gm hF3
        have HR3 := Lib.hid hR3
        have hl3 := HV3.out.lt
        clear hM3 hF3 hR3 HC
        go_wp2_with (at_builtin; refine wpList_append_own _ rfl _ _ 22 rfl (w.heap.size + 1) 3 i0 (.int .i64 0) 1 8 Tryd.underlying22 hi0 hz0 hz1 hz2 rfl (by decide) _ _ _ rfl (HR3.out.alloc _) ⟨w3.heap.size, 0, none⟩ 1 1 [.int .i64 (i : Int)] rfl rfl (cell_int1 _ _) (by simp [Value.oneCell']) ?c3 ?c4 ?c5 ?_)
        case c3 => unfold maxLen; omega
        case c4 => omega
        case c5 => simp; omega
        intro v' w4 hown4 hg4 _
        obtain ⟨hR4, hB4, _⟩ := HR3.out.more (by omega) hown4 hg4
        have HV4 := Lib.hid (HV3.out.low HG.out hB4)
        obtain ⟨a4, c4, rfl⟩ := hR4.shape
        have HR4 := Lib.hid hR4
        clear hown4 hg4 hR4 hB4
        go_wp2
        go_roundw
        case rel => exact ⟨i + 1, a4, _, c4, by omega, by go_num, by rw [hroots], rfl, Lib.hid ⟨HV4.out, by rw [hroots]; exact HR4.out⟩⟩
        case measure => simp [intOf]; omega
      · have hez : (((rt i : Nat) : Int) == (i : Int)) = false := by simp; omega
        have hroots : rootsU rt (i + 1) = rootsU rt i := by rw [roots_succ, if_neg hr, List.append_nil]
        go_wp2_with (go_at_call 73; refine HC.out.mono ?_)
        rintro e w3 ⟨rfl, hM3, hF3⟩
        have HV3 := Lib.hid (HV.out.root hM3 hF3)
        have HR3 := Lib.hid (HR.out.frG HV.out.gm hF3)
        clear hM3 hF3 HC
        go_wp2
        go_roundw
        case rel => exact ⟨i + 1, ga, gn, gc, by omega, by go_num, by rw [hroots]; exact HGn.out, rfl, Lib.hid ⟨HV3.out, by rw [hroots]; exact HR3.out⟩⟩
        case measure => simp [intOf]; omega
    · have hiz : ¬ ((i : Int) < (G.N : Int)) := by omega
      obtain rfl : i = G.N := by omega
      obtain ⟨hV, hR⟩ := hX.out
      have HV := Lib.hid hV; have HR := Lib.hid hR
      have HRS := Lib.hid (fun j (hj : j ∈ rootsU rt G.N) => mem_roots.1 hj)
      have hgl : gn ≤ G.N := by rw [hgn]; unfold rootsU; exact Nat.le_trans (List.length_filter_le _ _) (by simp)
      clear hV hR hX y0 y1 y2 HS
      subst hgn
      generalize hrs : rootsU rt G.N = rs at HR hgl HRS ⊢
      have HRe := Lib.hid hrs
      clear hrs
      go_wp2
      go_loopw [50] (fun vi wr => ∃ (k : Nat) (W : Nat → Nat), k ≤ rs.length ∧ vi = .int .i64 (k : Nat) ∧ Hid (OV B G rt E c g mb p cap sl w W wr ∧ OwnI (w.heap.size + 1) (.slice ga rs.length gc) rs wr ∧ ∀ r, W r = cntU G.ag rt (rs.take k) r)) (fun vi _ => rs.length - (intOf vi).toNat)
      case atStart => exact ⟨0, _, Nat.zero_le _, rfl, Lib.hid ⟨HV.out, HR.out, fun r => by simp [cntU]⟩⟩
      case round =>
        obtain ⟨k, W, hk, rfl, hX⟩ := hrel
        by_cases hlt : k < rs.length
        · have hkz : (k : Int) < (rs.length : Int) := by omega
          obtain ⟨hV, hR, hW⟩ := hX.out
          obtain ⟨qr, cr, er, lqr, _, hcr, x0⟩ := hR.at hlt
          cases er
          have hmem : rs.getD k 0 ∈ rs := by simp [List.getD, hlt]
          have HRj := HRS.out _ hmem
          have HT := Lib.hid (show rs.take (k + 1) = rs.take k ++ [rs.getD k 0] by rw [List.take_succ_eq_append_getElem hlt]; simp [List.getD, hlt])
          generalize rs.getD k 0 = j at *
          obtain ⟨va, ca, hsl, x2⟩ := hV.gm.args HRj.1
          obtain ⟨hlp, hcap, _⟩ := hV.gm.part HRj.1
          have y0 := hV.gm.top0
          have hg3 := hV.gm.lt
          have hjz : (j : Int) < (G.N : Int) := by omega
          have hjl := hE j HRj.1
          have HV := Lib.hid hV; have HR := Lib.hid hR; have HWc := Lib.hid hW
          have HSL := Lib.hid hsl
          clear hV hR hW hX hsl
          go_wp2
          go_loopw [63] (fun vi wr => ∃ (q : Nat) (W' : Nat → Nat), q ≤ (G.ag j).length ∧ vi = .int .i64 (q : Nat) ∧ Hid (OV B G rt E c g mb p cap sl w W' wr ∧ OwnI (w.heap.size + 1) (.slice (some ⟨qr, 0, none⟩) rs.length gc) rs wr ∧ ∀ r, W' r = cntU G.ag rt (rs.take k) r + (((G.ag j).map rt).take q).count r)) (fun vi _ => (G.ag j).length - (intOf vi).toNat)
          case atStart => exact ⟨0, W, Nat.zero_le _, rfl, Lib.hid ⟨HV.out, HR.out, fun r => by simp [HWc.out r]⟩⟩
          case round =>
            obtain ⟨q, W', hq, rfl, hX⟩ := hrel
            by_cases hqt : q < (G.ag j).length
            · have hqz : (q : Int) < ((G.ag j).length : Int) := by omega
              obtain ⟨hV, hR, hW⟩ := hX.out
              obtain ⟨qa, rfl, lqa, hcq, x1⟩ := hV.gm.arg HRj.1 HSL.out hqt
              have hxN : (G.ag j).getD q 0 < G.N := HI.out.ok.arg HRj.1 (by simp [List.getD, hqt])
              have HT2 := Lib.hid (show ((G.ag j).map rt).take (q + 1) = ((G.ag j).map rt).take q ++ [rt ((G.ag j).getD q 0)] by rw [List.take_succ_eq_append_getElem (by rw [List.length_map]; exact hqt)]; simp [List.getD, hqt])
              generalize (G.ag j).getD q 0 = x at *
              have hrN := HI.out.lt x hxN
              have hb1 : W' (rt x) ≤ 1000000 * 1000000 + 1000000 := by
                rw [hW]
                have h1 := cntU_le_mul (ag := G.ag) (rt := rt) (E := 1000000) (r := rt x) (D := rs.take k) fun i hi => hE i (HRS.out i (List.mem_of_mem_take hi)).1
                have h2 : (rs.take k).length ≤ 1000000 := by rw [List.length_take]; omega
                have h3 : (((G.ag j).map rt).take q).count (rt x) ≤ 1000000 := Nat.le_trans List.count_le_length (by rw [List.length_take, List.length_map]; omega)
                have h4 := Nat.mul_le_mul_right 1000000 h2
                omega
              have HC := Lib.hid (root_any hV.gm hxN)
              have HV2 := Lib.hid hV; have HR2 := Lib.hid hR; have HW2 := Lib.hid hW
              clear hV hR hW hX
              have hrz : ((rt x : Nat) : Int) < (G.N : Int) := by omega
              generalize hrx : rt x = r at *
              go_wp2_with (go_at_call 73; refine HC.out.mono ?_)
              rintro e w3 ⟨rfl, hM3, hF3⟩
              have hV3 := HV2.out.root hM3 hF3
              have hR3 := HR2.out.frG HV2.out.gm hF3
              have c0 := hV3.cell hrN
              have f0 := hV3.free r
              have l0 := hV3.lt
              have HV4 := Lib.hid (OV.set (x := W' r + 1) HG.out hV3 hrN)
              have HR4 := Lib.hid (OwnI.set_other (r := r) (x := .int .i64 ((W' r + 1 : Nat) : Int)) hR3 (Nat.lt_succ_self w.heap.size))
              clear hM3 hF3 HC hV3 hR3
              go_wp2
              go_roundw
              case rel =>
                refine ⟨q + 1, _, by omega, by go_num, Lib.hid ⟨HV4.out, HR4.out, fun r' => ?_⟩⟩
                rw [HT2.out, List.count_append]
                have h9 := HW2.out r'
                by_cases e : r' = r
                · subst e; simp; omega
                · have : List.count r' [r] = 0 := List.count_eq_zero.2 (by simpa using e)
                  rw [if_neg e]; omega
              case measure => simp [intOf]; omega
            · have hqz : ¬ ((q : Int) < ((G.ag j).length : Int)) := by omega
              obtain rfl : q = (G.ag j).length := by omega
              go_wp2
              go_roundw
              case rel =>
                refine ⟨k + 1, W', by omega, by go_num, Lib.hid ⟨hX.out.1, hX.out.2.1, fun r => ?_⟩⟩
                have e9 : ((G.ag j).map rt).take (G.ag j).length = (G.ag j).map rt := List.take_of_length_le (by rw [List.length_map]; exact Nat.le_refl _)
                rw [hX.out.2.2 r, HT.out, cntU_append, e9]
                simp [cntU, cntUA]
              case measure => simp [intOf]; omega
        · have hkz : ¬ ((k : Int) < (rs.length : Int)) := by omega
          obtain rfl : k = rs.length := by omega
          obtain ⟨hV, hR, hW⟩ := hX.out
          have hW2 : ∀ r, W r = cntU G.ag rt rs r := fun r => by rw [hW r, List.take_length]
          have hmk3 : (Instr.makeSlice 22 (.int .i64 0) (.int .i64 (rs.length : Int))).run Tryd.prog wr = .ok (.slice (some ⟨wr.heap.size, 0, none⟩) 0 rs.length) (wr.alloc (.cells (madeCells #[.int .i64 0] rs.length) 3)) := make_ints 0 rs.length (Nat.zero_le _) (by omega) wr
          have hls := hV.lt
          have hb5 : Below (w.heap.size + 1) wr (wr.alloc (.cells (madeCells #[.int .i64 0] rs.length) 3)) := (Below.refl _ wr).alloc (by omega) _
          have hnl := own_none wr rs.length (by omega)
          have hR5 := hR.alloc (.cells (madeCells #[.int .i64 0] rs.length) 3)
          have hrb : ∀ k, (Value.slice ga rs.length gc).ownBlock = some k → k < wr.heap.size := fun k e => (World.ownsRow.lt hR k e).2
          have hV5 := hV.low HG.out hb5
          generalize hBl : wr.heap.size = Bl at *
          have hs5 : Bl ≤ (wr.alloc (.cells (madeCells #[.int .i64 0] rs.length) 3)).heap.size := by simp; omega
          obtain ⟨w5, hw5⟩ : ∃ w5, wr.alloc (.cells (madeCells #[.int .i64 0] rs.length) 3) = w5 := ⟨_, rfl⟩
          rw [hw5] at hmk3 hV5 hnl hR5 hs5
          have HV5 := Lib.hid hV5; have HR5 := Lib.hid hR5; have HL5 := Lib.hid hnl; have HWc := Lib.hid hW2; have HRB := Lib.hid hrb
          clear hV hR hW hW2 hX hV5 hR5 hnl hb5 hw5 hrb HV HR
          go_wp2
          go_loopw [11, 82] (fun vl vi wr => ∃ (k : Nat) (la : Option Addr) (ln lc : Nat), k ≤ rs.length ∧ vi = .int .i64 (k : Nat) ∧ vl = .slice la ln lc ∧ Hid (OV B G rt E c g mb p cap sl w W wr ∧ OwnI (w.heap.size + 1) (.slice ga rs.length gc) rs wr ∧ OwnI Bl (.slice la ln lc) ((rs.take k).filter fun r => decide (W r = 0)) wr ∧ Bl ≤ wr.heap.size ∧ ln = ((rs.take k).filter fun r => decide (W r = 0)).length)) (fun _ vi _ => rs.length - (intOf vi).toNat)
          case atStart => exact ⟨0, _, _, _, Nat.zero_le _, rfl, rfl, Lib.hid ⟨HV5.out, HR5.out, by simpa using HL5.out, by assumption, by simp⟩⟩
          case round =>
            obtain ⟨k, la, ln, lc, hk, rfl, rfl, hX⟩ := hrel
            by_cases hlt : k < rs.length
            · have hkz2 : (k : Int) < (rs.length : Int) := by omega
              obtain ⟨hV, hR, hL, hbl, hln⟩ := hX.out
              obtain ⟨qr, cr, er, lqr, _, hcr, x0⟩ := hR.at hlt
              cases er
              have hmem : rs.getD k 0 ∈ rs := by simp [List.getD, hlt]
              have HRj := HRS.out _ hmem
              have HT := Lib.hid (show rs.take (k + 1) = rs.take k ++ [rs.getD k 0] by rw [List.take_succ_eq_append_getElem hlt]; simp [List.getD, hlt])
              generalize rs.getD k 0 = j at *
              have c0 := hV.cell HRj.1
              have l0 := hV.lt
              have hjz : (j : Int) < (G.N : Int) := by omega
              by_cases h0 : W j = 0
              · have hw0 : (((W j : Nat) : Int) == 0) = true := by simp; omega
                have e9 : (rs.take (k + 1)).filter (fun r => decide (W r = 0)) = ((rs.take k).filter fun r => decide (W r = 0)) ++ [j] := by rw [HT.out, List.filter_append]; simp [h0]
                have hll : ((rs.take k).filter fun r => decide (W r = 0)).length ≤ 1000000 := Nat.le_trans (List.length_filter_le _ _) (by rw [List.length_take]; omega)
                have HV6 := Lib.hid hV; have HR6 := Lib.hid hR; have HL6 := Lib.hid hL; have HE9 := Lib.hid e9
                clear hV hR hL hX hln e9
                go_wp2_with (at_builtin; refine wpList_append_own _ rfl _ _ 22 rfl Bl 3 i0 (.int .i64 0) 1 8 Tryd.underlying22 hi0 hz0 hz1 hz2 rfl (by decide) _ _ _ rfl (HL6.out.alloc _) ⟨wr.heap.size, 0, none⟩ 1 1 [.int .i64 (j : Int)] rfl rfl (cell_int1 _ _) (by simp [Value.oneCell']) ?c3 ?c4 ?c5 ?_)
                case c3 => unfold maxLen; omega
                case c4 => omega
                case c5 => simp; omega
                intro v' w7 hown7 hg7 _
                obtain ⟨hL7, hB7, _⟩ := HL6.out.more hbl hown7 hg7
                have HV7 := Lib.hid (HV6.out.low HG.out (hB7.mono (by omega)))
                have HR7 := Lib.hid (HR6.out.keepAt fun i e => hB7.block i (HRB.out i e))
                obtain ⟨a7, c7, rfl⟩ := hL7.shape
                have HL7 := Lib.hid hL7
                have hbl7 : Bl ≤ w7.heap.size := Nat.le_trans hbl hB7.size
                clear hown7 hg7 hL7 hB7
                go_wp2
                go_roundw
                case rel => exact ⟨k + 1, a7, _, c7, by omega, by go_num, rfl, Lib.hid ⟨HV7.out, HR7.out, by rw [HE9.out]; exact HL7.out, hbl7, by rw [HE9.out]⟩⟩
                case measure => simp [intOf]; omega
              · have hw0 : (((W j : Nat) : Int) == 0) = false := by simp; omega
                have e9 : (rs.take (k + 1)).filter (fun r => decide (W r = 0)) = (rs.take k).filter fun r => decide (W r = 0) := by rw [HT.out, List.filter_append]; simp [h0]
                have HX9 := Lib.hid (⟨hV, hR, by rw [e9]; exact hL, hbl, by rw [e9]; exact hln⟩ : OV B G rt E c g mb p cap sl w W wr ∧ OwnI (w.heap.size + 1) (.slice (some ⟨qr, 0, none⟩) rs.length gc) rs wr ∧ OwnI Bl (.slice la ln lc) ((rs.take (k + 1)).filter fun r => decide (W r = 0)) wr ∧ Bl ≤ wr.heap.size ∧ ln = ((rs.take (k + 1)).filter fun r => decide (W r = 0)).length)
                clear hV hR hL hX hln e9
                go_wp2
                go_roundw
                case rel => exact ⟨k + 1, la, ln, lc, by omega, by go_num, rfl, HX9⟩
                case measure => simp [intOf]; omega
            · have hkz2 : ¬ ((k : Int) < (rs.length : Int)) := by omega
              obtain rfl : k = rs.length := by omega
              obtain ⟨hV, hR, hL, hbl, hln⟩ := hX.out
              rw [List.take_length] at hL hln
              have hO : Ord G.ag rt G.N (rs.filter fun r => decide (W r = 0)) 0 [] W := Ord.start (fun r _ => by rw [HWc.out r, HRe.out]) (by rw [HRe.out])
              have HO := Lib.hid hO; have HV8 := Lib.hid hV; have HL8 := Lib.hid hL; have HLn := Lib.hid hln
              clear hV hR hL hX hln hO
              go_wp2
              go_loopw [11, 14] (fun vl vn wr => ∃ (m : Nat) (ls : List Nat) (W : Nat → Nat) (la : Option Addr) (ln lc : Nat), m ≤ ln ∧ vn = .int .i64 (m : Nat) ∧ vl = .slice la ln lc ∧ Hid (OV B G rt E c g mb p cap sl w W wr ∧ OwnI Bl (.slice la ln lc) ls wr ∧ Bl ≤ wr.heap.size ∧ ln = ls.length ∧ Ord G.ag rt G.N ls m [] W)) (fun _ vn _ => rs.length - (intOf vn).toNat)
              case atStart => exact ⟨0, _, W, la, ln, lc, Nat.zero_le _, rfl, rfl, Lib.hid ⟨HV8.out, HL8.out, hbl, HLn.out, HO.out⟩⟩
              case round =>
                obtain ⟨m, ls, W, la, ln, lc, hm, rfl, rfl, hX⟩ := hrel
                by_cases hlt : m < ln
                · have hmz : (m : Int) < (ln : Int) := by omega
                  obtain ⟨hV, hL, hbl9, hln, hO⟩ := hX.out
                  obtain ⟨ql, cl, el, lql, _, hcl, x0⟩ := hL.at (by rw [← hln]; exact hlt)
                  cases el
                  have hmem : ls.getD m 0 ∈ ls := by simp [List.getD, hlt]
                  have hjr := mem_roots.1 (hO.sub _ hmem)
                  have hlr : ls.length ≤ rs.length := by rw [← HRe.out]; exact nodup_len hO.nodup hO.sub
                  have hj : ls.getD m 0 = ls.getD m 0 := rfl
                  generalize hje : ls.getD m 0 = j at hjr x0 hj
                  obtain ⟨va, ca, hsl, x2⟩ := hV.gm.args hjr.1
                  obtain ⟨hlp, hcap, _⟩ := hV.gm.part hjr.1
                  have y0 := hV.gm.top0
                  have hg3 := hV.gm.lt
                  have hjz : (j : Int) < (G.N : Int) := by omega
                  have hjl := hE j hjr.1
                  have HV9 := Lib.hid hV; have HL9 := Lib.hid hL; have HSL := Lib.hid hsl; have HO9 := Lib.hid hO; have HJ := Lib.hid hje
                  clear hV hL hX hsl hO hln hje hj
                  go_wp2
                  go_quiet (fail)
                  go_wp2
                  go_loopw [11, 114] (fun vl vi wr => ∃ (q : Nat) (ls : List Nat) (W : Nat → Nat) (la : Option Addr) (ln lc : Nat), q ≤ (G.ag j).length ∧ vi = .int .i64 (q : Nat) ∧ vl = .slice la ln lc ∧ Hid (OV B G rt E c g mb p cap sl w W wr ∧ OwnI Bl (.slice la ln lc) ls wr ∧ Bl ≤ wr.heap.size ∧ ln = ls.length ∧ (m < ls.length ∧ ls.getD m 0 = j) ∧ Ord G.ag rt G.N ls m (((G.ag j).map rt).take q) W)) (fun _ vi _ => (G.ag j).length - (intOf vi).toNat)
                  case atStart => exact ⟨0, ls, W, _, _, _, Nat.zero_le _, rfl, rfl, Lib.hid ⟨HV9.out.low HG.out (below_drewN (Below.refl _ _) _), HL9.out.below (below_drewN (Below.refl _ _) _), hbl9, rfl, ⟨hlt, HJ.out⟩, by rw [List.take_zero]; exact HO9.out⟩⟩
                  case round =>
                    obtain ⟨q, ls, W, la, ln, lc, hq, rfl, rfl, hX⟩ := hrel
                    by_cases hqt : q < (G.ag j).length
                    · have hqz : (q : Int) < ((G.ag j).length : Int) := by omega
                      obtain ⟨hV, hL, hbl9, hln, ⟨hm2, hj2⟩, hO⟩ := hX.out
                      obtain ⟨qa, rfl, lqa, hcq, x1⟩ := hV.gm.arg hjr.1 HSL.out hqt
                      have hxN : (G.ag j).getD q 0 < G.N := HI.out.ok.arg hjr.1 (by simp [List.getD, hqt])
                      have hrN := HI.out.lt _ hxN
                      have hrr : rt ((G.ag j).getD q 0) ∈ rootsU rt G.N := mem_roots.2 ⟨hrN, HI.out.fix _ hxN⟩
                      obtain ⟨hpos, hone, htwo⟩ := Ord.arg' hj2 hO hm2 hqt rfl hrr
                      have hwb : W (rt ((G.ag j).getD q 0)) ≤ 1000000 * 1000000 := by
                        have h1 := hO.waits _ hrr
                        have h2 := cntU_le_mul (ag := G.ag) (rt := rt) (E := 1000000) (r := rt ((G.ag j).getD q 0)) (D := rootsU rt G.N) fun i hi => hE i (mem_roots.1 hi).1
                        rw [HRe.out] at h1 h2
                        have h3 := Nat.mul_le_mul_right 1000000 (Nat.le_trans hgl hN)
                        omega
                      have hlr2 : ls.length ≤ rs.length := by rw [← HRe.out]; exact nodup_len hO.nodup hO.sub
                      generalize (G.ag j).getD q 0 = x at *
                      have HC := Lib.hid (root_any hV.gm hxN)
                      have HV2 := Lib.hid hV; have HL2 := Lib.hid hL; have HO1 := Lib.hid hone; have HO2 := Lib.hid htwo
                      have HLn := Lib.hid hln
                      clear hV hL hX hO hone htwo hrr hln
                      have hrz : ((rt x : Nat) : Int) < (G.N : Int) := by omega
                      generalize hrx : rt x = r at *
                      have hsub : ((W r : Nat) : Int) - 1 = ((W r - 1 : Nat) : Int) := by omega
                      go_wp2_with (go_at_call 73; refine HC.out.mono ?_)
                      rintro e w3 ⟨rfl, hM3, hF3⟩
                      have hV3 := HV2.out.root hM3 hF3
                      have hL3 := HL2.out.frG HV2.out.gm hF3
                      have c0 := hV3.cell hrN
                      have f0 := hV3.free r
                      have l0 := hV3.lt
                      have hV4 := OV.set (x := W r - 1) HG.out hV3 hrN
                      have hL4 := OwnI.set_other (r := r) (x := .int .i64 ((W r - 1 : Nat) : Int)) hL3 (show w.heap.size < Bl by omega)
                      have c1 := hV4.cell hrN
                      simp only [if_true] at c1
                      have hs3 : Bl ≤ w3.heap.size := Nat.le_trans hbl9 hF3.1.size
                      have HV4 := Lib.hid hV4; have HL4 := Lib.hid hL4
                      clear hM3 hF3 HC hV3 hL3 hV4 hL4
                      by_cases h1 : W r = 1
                      · have e0 : ((W r - 1 : Nat) : Int) = 0 := by omega
                        have hv5 := HV4.out
                        have hl5 := HL4.out
                        rw [e0] at hv5 hl5 c1
                        rw [e0] at hsub
                        have HV5 := Lib.hid hv5; have HL5 := Lib.hid hl5
                        clear hv5 hl5 HV4 HL4
                        go_wp2_with (at_builtin; refine wpList_append_own _ rfl _ _ 22 rfl Bl 3 i0 (.int .i64 0) 1 8 Tryd.underlying22 hi0 hz0 hz1 hz2 rfl (by decide) _ _ _ rfl (HL5.out.alloc _) ⟨w3.heap.size, 0, none⟩ 1 1 [.int .i64 (r : Int)] rfl rfl (cell_int1' _ _ (by simp) _) (by simp [Value.oneCell']) ?c3 ?c4 ?c5 ?_)
                        case c3 => unfold maxLen; omega
                        case c4 => omega
                        case c5 => simp; omega
                        intro v' w7 hown7 hg7 _
                        obtain ⟨hL7, hB7, _⟩ := HL5.out.more (by simpa using hs3) hown7 hg7
                        have HV7 := Lib.hid (HV5.out.low HG.out (hB7.mono (by omega)))
                        obtain ⟨a7, c7, rfl⟩ := hL7.shape
                        have HL7 := Lib.hid hL7
                        have hbl7 : Bl ≤ w7.heap.size := Nat.le_trans (by simpa using hs3) hB7.size
                        clear hown7 hg7 hL7 hB7
                        go_wp2
                        go_roundw
                        case rel => exact ⟨q + 1, ls ++ [r], _, a7, _, c7, by omega, by go_num, rfl, Lib.hid ⟨HV7.out, HL7.out, hbl7, rfl, ⟨by simp; omega, by rw [getD_snoc hm2]; exact hj2⟩, HO1.out h1⟩⟩
                        case measure => simp [intOf]; omega
                      · have hw0 : (((W r - 1 : Nat) : Int) == 0) = false := by simp; omega
                        go_wp2
                        go_roundw
                        case rel => exact ⟨q + 1, ls, _, la, ln, lc, by omega, by go_num, rfl, Lib.hid ⟨HV4.out, HL4.out, by simpa using hs3, HLn.out, ⟨hm2, hj2⟩, HO2.out h1⟩⟩
                        case measure => simp [intOf]; omega
                    · have hqz : ¬ ((q : Int) < ((G.ag j).length : Int)) := by omega
                      obtain ⟨hV, hL, hbl9, hln, ⟨hm2, hj2⟩, hO⟩ := hX.out
                      have hO2 : Ord G.ag rt G.N ls (m + 1) [] W := Ord.next (k := q) (by rw [hj2]; exact hO) hm2 (by rw [hj2]; omega)
                      have hlr2 : ls.length ≤ rs.length := by rw [← HRe.out]; exact nodup_len hO.nodup hO.sub
                      have HX9 := Lib.hid (⟨hV, hL, hbl9, hln, hO2⟩ : OV B G rt E c g mb p cap sl w W wr ∧ OwnI Bl (.slice la ln lc) ls wr ∧ Bl ≤ wr.heap.size ∧ ln = ls.length ∧ Ord G.ag rt G.N ls (m + 1) [] W)
                      have hmln : m + 1 ≤ ln := by omega
                      clear hV hL hln hO hO2 hX
                      go_wp2
                      go_roundw
                      case rel => exact ⟨m + 1, ls, W, la, ln, lc, hmln, by go_num, rfl, HX9⟩
                      case measure => simp [intOf]; omega
                · have hmz : ¬ ((m : Int) < (ln : Int)) := by omega
                  obtain rfl : m = ln := by omega
                  obtain ⟨hV, hL, hbl9, hln, hO⟩ := hX.out
                  have HV9 := Lib.hid hV; have HL9 := Lib.hid hL; have HO9 := Lib.hid hO; have HLn9 := Lib.hid hln
                  clear hV hL hln hO hX
                  have hbe : (((m : Nat) : Int) == (rs.length : Int)) = decide (m = rs.length) := by
                    by_cases e : m = rs.length
                    · simp [e]
                    · rw [decide_eq_false e]; simp; omega
                  go_wp2
                  refine bodyPost_ret (v := .tuple #[.slice la m lc, .bool (decide (m = rs.length))]) (by simp [results, Tryd.results49, go_sem]) rfl ?_
                  have e1 := HLn9.out
                  subst e1
                  exact ⟨_, ls, W, by rw [HRe.out], HO9.out, HL9.out.plcAt, HV9.out.gm, HV9.out.fr⟩
end Go.Proofs.YtdcfemojkdoakaaDoor
/- The program's graph: goesRound. -/
namespace Go.Proofs.YtdcfemojkdoakaaDoor
open Go.RowKit Go.Maps
attribute [local go_sem] Oper.semAt_some

/-- All but the graph itself stays. -/
def Fr2 (p g : Nat) (w w' : World) : Prop := Below 0 w w' ∧ ∀ k, k < w.heap.size → k ≠ p → k ≠ g → w'.heap[k]? = w.heap[k]?
theorem Fr2.refl (p g : Nat) (w : World) : Fr2 p g w w := ⟨Below.refl _ _, fun _ _ _ _ => rfl⟩
theorem Fr2.trans {p g : Nat} {a b c : World} (h : Fr2 p g a b) (k : Fr2 p g b c) : Fr2 p g a c := ⟨h.1.trans k.1, fun i hi hp hg => (k.2 i (Nat.lt_of_lt_of_le hi h.1.size) hp hg).trans (h.2 i hi hp hg)⟩
theorem Fr.two {p : Nat} {w w' : World} (g : Nat) (h : Fr p w w') : Fr2 p g w w' := ⟨h.1, fun k hk hp _ => h.2 k hk hp⟩
theorem Fr2.drew {p g : Nat} {w v : World} (h : Fr2 p g w v) : Fr2 p g w v.drew := ⟨h.1.drew, h.2⟩
theorem Fr2.below {p g B : Nat} {w w' : World} (h : Fr2 p g w w') (hp : B ≤ p) (hg : B ≤ g) (hB : B ≤ w.heap.size) : Below B w w' := ⟨h.1.os, h.1.tape, h.1.output, h.1.size, fun k hk => h.2 k (by omega) (by omega) (by omega)⟩
theorem Fr2.below_fr {p g : Nat} {a b c : World} (h : Fr2 p g a b) (k : Below a.heap.size b c) : Fr2 p g a c := ⟨h.1.trans (k.mono (Nat.zero_le _)), fun i hi hp hg => (k.block i hi).trans (h.2 i hi hp hg)⟩
/-- The count of steps turned. -/
theorem GM.tick {B : Nat} {G : Gr} {rt : Nat → Nat} {E c c' g mb p cap : Nat} {sl : Nat → Value} {w : World} (h : GM B G rt E c g mb (.slice (some ⟨p, 0, none⟩) G.N cap) sl w) : GM B G rt E c' g mb (.slice (some ⟨p, 0, none⟩) G.N cap) sl (w.setCell ⟨g, 3, none⟩ (.int .i64 (c' : Int))) ∧ Fr2 p g w (w.setCell ⟨g, 3, none⟩ (.int .i64 (c' : Int))) := by
  have ho : ∀ k, k ≠ g → (w.setCell ⟨g, 3, none⟩ (.int .i64 (c' : Int))).heap[k]? = w.heap[k]? := fun k hk => Below.heap_setCell _ ⟨g, 3, none⟩ _ k hk
  obtain ⟨h1, h2, ⟨nx, hh, h3, h4, h5⟩, ⟨f, h6, h7, h8⟩⟩ := h
  have hne : ∀ (k : Nat) (o : Obj), w.heap[k]? = some o → (∀ cs fz, o ≠ .cells cs 95 fz) → (w.setCell ⟨g, 3, none⟩ (.int .i64 (c' : Int))).heap[k]? = some o := fun k o hk hT => (ho k (by rintro rfl; rw [h2] at hk; cases hk; exact hT _ _ rfl)).trans hk
  refine ⟨⟨h1, ?_, ⟨nx, hh, h3, row_kept h4 fun _ _ _ hk => hne _ _ hk (by simp), fun i hi => (h5 i hi).keep fun _ _ _ hk => hne _ _ hk (by simp)⟩, ⟨f, h6, ?_, h8⟩⟩, ⟨(Below.refl 0 w).setCell (p := ⟨g, 3, none⟩) (Nat.zero_le _) _, fun k _ _ hk => ho k hk⟩⟩
  · rw [blk_set h2]; rfl
  · obtain ⟨D, hD, ⟨es, clock, hm, r⟩, h2⟩ := h7
    exact ⟨D, hD, ⟨es, clock, hne _ _ hm (by simp), r⟩, h2⟩
theorem GM.cells {B : Nat} {G : Gr} {rt : Nat → Nat} {E c g mb : Nat} {pv : Value} {sl : Nat → Value} {w : World} (h : GM B G rt E c g mb pv sl w) : w.cell? ⟨g, 0, none⟩ = some pv ∧ w.cell? ⟨g, 1, none⟩ = some (.map (some mb)) ∧ w.cell? ⟨g, 2, none⟩ = some (.int .i64 (E : Int)) ∧ w.cell? ⟨g, 3, none⟩ = some (.int .i64 (c : Int)) ∧ ∀ o, w.frozen? ⟨g, o, none⟩ = false := by
  refine ⟨?_, ?_, ?_, ?_, fun o => Lib.frozen_of_heap h.top o⟩ <;> (rw [Lib.cell_of_heap h.top]; rfl)
open Classical in
/-- What goesRound tells. -/
def GoesR (B : Nat) (G : Gr) (rt : Nat → Nat) (E c g mb p cap : Nat) (sl : Nat → Value) (w : World) (e : Ending) (w' : World) : Prop :=
  (e = .returned (.bool (if c + 1 ≤ G.N + E then false else !decide (Acyc G rt))) ∧ GM B G rt E (if c + 1 ≤ G.N + E then c + 1 else 0) g mb (.slice (some ⟨p, 0, none⟩) G.N cap) sl w') ∧ Fr2 p g w w'
set_option maxRecDepth 100000 in
set_option maxHeartbeats 4000000 in
theorem goes_any {B : Nat} {G : Gr} {rt : Nat → Nat} {E c g mb p cap : Nat} {sl : Nat → Value} {w : World} (h : GM B G rt E c g mb (.slice (some ⟨p, 0, none⟩) G.N cap) sl w) (gi : GI G rt) (hE : ∀ i, i < G.N → (G.ag i).length ≤ 1000000) (hN : G.N ≤ 1000000) (hN0 : 0 < G.N) (hE2 : E ≤ 1000000) (hc : c ≤ 1000000000) :
    Calls Tryd.prog 77 #[gp g] w fun e w' => GoesR B G rt E c g mb p cap sl w e w' := by
  obtain ⟨_, _, _, x3, xf⟩ := h.cells
  have f3 := xf 3
  have hg := h.lt
  obtain ⟨t1, t2⟩ := h.tick (c' := c + 1)
  obtain ⟨y0, _, y2, y3, yf⟩ := t1.cells
  have g3 := yf 3
  have hcast : ((c + 1 : Nat) : Int) = (c : Int) + 1 := by omega
  have HT := Lib.hid (⟨t1, t2⟩ : _ ∧ Fr2 p g w _)
  rw [hcast] at y0 y2 y3 g3 HT
  unfold GoesR
  by_cases hk : c + 1 ≤ G.N + E
  · have hz : (decide ((c : Int) + 1 ≤ (G.N : Int) + (E : Int))) = true := by simp; omega
    rw [if_pos hk, if_pos hk]
    clear t1 t2 h gi hE xf yf
    go_enter Tryd.func77, Tryd.ntmps77
    go_wp2
    go_quiet (fail)
    go_wp2
    go_ret
    exact ⟨⟨rfl, HT.out.1.keep (below_drewN (Below.refl _ _) _)⟩, HT.out.2.below_fr (below_drewN (Below.refl _ _) _)⟩
  · have hz : (decide ((c : Int) + 1 ≤ (G.N : Int) + (E : Int))) = false := by simp; omega
    have hz2 : ¬ ((c : Int) + 1 ≤ (G.N : Int) + (E : Int)) := by omega
    rw [if_neg hk, if_neg hk]
    clear t1 t2 h hE2 xf yf
    go_enter Tryd.func77, Tryd.ntmps77
    go_wp2
    go_quiet (fail)
    have HT1 := Lib.hid (HT.out.1.keep (below_drewN (Below.refl _ _) nq))
    obtain ⟨v0, _, v2, v3, vf⟩ := HT1.out.cells
    have w3 := vf 3
    have hgv := HT1.out.lt
    obtain ⟨s1, s2⟩ := HT1.out.tick (c' := 0)
    have HO := Lib.hid (order_any s1 gi hE hN hN0)
    have HF := Lib.hid (HT.out.2.below_fr (below_drewN (Below.refl _ _) nq) |>.trans s2)
    clear s1 s2 vf
    have hzero : ((0 : Nat) : Int) = 0 := rfl
    rw [hzero] at HO HF
    go_wp2_with (go_at_call 49; refine HO.out.mono ?_)
    rintro e w6 ⟨vo, lo, Wo, rfl, hO, _, hM, hFr⟩
    have hA : (decide (lo.length = (rootsU rt G.N).length)) = @decide (Acyc G rt) (Classical.propDecidable _) := by
      rw [decide_eq_decide]; exact (hO.ends gi).1
    have HX := Lib.hid (⟨hM, HF.out.trans (hFr.two g)⟩ : GM B G rt E 0 g mb (.slice (some ⟨p, 0, none⟩) G.N cap) sl w6 ∧ Fr2 p g w w6)
    rw [hA]
    clear hO hM hFr hA HF HO
    go_wp2
    go_ret
    exact ⟨⟨rfl, HX.out.1⟩, HX.out.2⟩
end Go.Proofs.YtdcfemojkdoakaaDoor
/- A loop over an iterator whose rounds are told something of the memory beside what they are handed (an error that the iterator has just made), and that goes on reading blocks of its own behind a round: our own contract and our own law for the caller, over the library's steps of the loop's record. -/
namespace Go.Proofs.YtdcfemojkdoakaaDoor
open Go.RowKit

theorem grown_of_below {X Y : World} (h : Below X.heap.size X Y) : X.grownBy Y none := ⟨h.os, h.tape, h.output, h.size, fun k hk _ => h.block k hk⟩

/-- What a round keeps: the blocks from N on that were there, and those that K names. -/
structure Kept (K : Nat → Prop) (N : Nat) (X Y : World) : Prop where
  size : X.heap.size ≤ Y.heap.size
  block : ∀ k, N ≤ k ∨ K k → k < X.heap.size → Y.heap[k]? = X.heap[k]?

/-- The contract. Between two rounds the iterator may have laid blocks ('Below', from X0, where the last round ended, to X, where the next begins); the rounds may be told 'Ex x' of the world in which they are handed x; a round that goes on keeps what the iterator has laid since X0, and the blocks of K. -/
def SeqTold {α : Type} (n : Nat) (P : Program) (g : Nat) (lb : Array Value) (encs : α → Array Value) (Ex : α → World → Prop) (K : Nat → Prop) (S Sp : List α → Prop) (N : Nat) (w : World) : Prop :=
  ∀ (l : Nat) (J Jx : List α → World → Prop) (W : World), Below w.heap.size w W →
    (∀ pre x X0 X, J pre X0 → pre.length < N → Below X0.heap.size X0 X → Ex x X → YieldAt Fence.wide (n - 1) P l (encs x) X fun e Y =>
      (e = .returned (.bool true) ∧ J (pre ++ [x]) Y ∧ Kept K X0.heap.size X Y) ∨ (e = .returned (.bool false) ∧ Jx (pre ++ [x]) Y)) →
    J [] W →
    CallsIn Fence.wide n P g (#[.func (.yield l) #[] #[]] ++ lb) W fun e Y => (∃ v, e = .returned v) ∧ ((∃ xs, S xs ∧ J xs Y) ∨ (∃ pre, Sp pre ∧ Jx pre Y))

/-- How a round's body may be left: by its end, or by a return. The body may write the blocks of T alone, and what it has made itself. -/
def RoundPost {σ α : Type} (B : Nat) (T : Nat → Prop) (I : σ → List α → World → Prop) (Ix : List α → World → Prop) (xs : List α) (X : World) : Exit → Act → World → Prop
  | .normal, _, Y => KeepsFrom B X Y ∧ (∀ k, ¬ T k → k < X.heap.size → Y.heap[k]? = X.heap[k]?) ∧ ∃ s, I s xs Y
  | .ret, _, Y => KeepsFrom B X Y ∧ Ix xs Y
  | _, _, _ => False

/-- **The statement 'for .. := range f', its body left by its end or by a return.** 's': what the body keeps of its own; 'T s': the blocks that it may write there. -/
theorem range_told {n : Nat} {P : Program} {σ α : Type} {g : Operand} {ps : Array Tmp} {assign body : Code} {Q : Exit → Act → World → Prop} {a : Act} {w : World} (h1 : 1 ≤ n)
    {gf : Nat} {lb : Array Value} (hg : a.eval g = .func (.func gf) #[] lb) (eg : ∀ args w, (callFunc gf args).run P w = .ok (.enter gf args) w)
    {encs : α → Array Value} {Ex : α → World → Prop} {K : Nat → Prop} {S Sp : List α → Prop} {N : Nat} {w0 : World} (hseq : SeqTold (n - 1) P gf lb encs Ex K S Sp N w0)
    (hK : ∀ k, K k → k < w.heap.size) (hb0 : Below w0.heap.size w0 w) (hps : ∀ x, (encs x).size = ps.size)
    (I : σ → List α → World → Prop) (Ix : List α → World → Prop) (T : σ → Nat → Prop) (hI : ∀ s, OwnFrom w.heap.size (I s)) (hIx : OwnFrom w.heap.size Ix)
    (hT : ∀ s pre X k, I s pre X → T s k → k < X.heap.size ∧ ¬ K k) (h0 : ∃ s, I s [] w)
    (Ax : α → Act → World → Prop) (hAx : ∀ x a', OwnFrom w.heap.size (fun (_ : Unit) W => Ax x a' W))
    (hassign : ∀ (l : Nat) (s : σ) (pre : List α) (x : α) (X : World) (C : Act → World → Prop), I s pre X → Ex x X →
      (∀ a' Y, KeepsFrom w.heap.size X Y → Below X.heap.size X Y → Ax x a' Y → C a' Y) →
      assign.wpIn (Fence.wide.inRound l) (n - 1 - 1) P (Exit.then C (fun _ _ _ => False)) { tmps := (ps.zip (encs x)).foldl (fun t (p, v) => t.setIfInBounds p v) a.tmps, defers := [] } X)
    (hbody : ∀ (l : Nat) (s : σ) (pre : List α) (x : α) (a' : Act) (X : World), I s pre X → pre.length < N → Ax x a' X → body.wpIn (Fence.wide.inRound l) (n - 1 - 1) P (RoundPost w.heap.size (T s) I Ix (pre ++ [x]) X) a' X)
    (hdone : ∀ (D : Nat) (s : σ) (xs : List α) (W : World), w.heap.size ≤ D → S xs → I s xs W → W.heap[D]? = some (.deferred (some [])) → Q .normal { a with defers := { target := .collected D, args := #[] } :: a.defers } W)
    (hstop : ∀ (D : Nat) (pre : List α) (W : World), w.heap.size ≤ D → Sp pre → Ix pre W → W.heap[D]? = some (.deferred (some [])) → Code.ret.wpIn Fence.wide n P Q { a with defers := { target := .collected D, args := #[] } :: a.defers } W) :
    (Code.rangeFunc g ps assign body).wpIn Fence.wide n P Q a w := by
  refine wpIn_rangeFunc fun fn _ => ?_
  -- the two blocks that the loop lays: the rounds' deferred calls at B, the record behind it
  generalize hB : w.heap.size = B at *
  obtain ⟨R, hR⟩ : ∃ R : LoopState → Option Code → Obj, R = fun st pe => .loop { state := st, pending := pe, fn, tmps := a.tmps, params := ps, assign, body, defers := B } := ⟨_, rfl⟩
  have hcells : ∀ st pe, (R st pe).isCells = false := fun st pe => by rw [hR]; rfl
  obtain ⟨V, hV⟩ : ∃ V, (w.alloc (.deferred (some []))).alloc (R .ready none) = V := ⟨_, rfl⟩
  have below : Below w.heap.size w V := by rw [← hV]; exact ((Below.refl _ w).alloc (Nat.le_refl _) _).alloc (by simp) _
  have hVL : V.heap[B + 1]? = some (R .ready none) := by
    rw [← hV]
    have := World.alloc_heap_new (w.alloc (.deferred (some []))) (R .ready none)
    rwa [World.size_alloc, hB] at this
  have hVB : V.heap[B]? = some (.deferred (some [])) := by
    rw [← hV, Below.heap_alloc _ _ _ (by simp; omega), ← hB]
    exact World.alloc_heap_new w _
  obtain ⟨s0, h0⟩ := h0
  have hVI : I s0 [] V := hI _ _ _ _ none h0 (grown_of_below below) (fun r e => by cases e)
  -- turning the record keeps what is asked
  have turn : ∀ {X : World} {o : Obj} (o' : Obj), X.heap[B + 1]? = some o → o.isCells = false → (∀ s xs, I s xs X → I s xs (X.putObj (B + 1) o')) ∧ (∀ xs, Ix xs X → Ix xs (X.putObj (B + 1) o')) ∧
      (∀ x a', Ax x a' X → Ax x a' (X.putObj (B + 1) o')) ∧ (∀ k, k ≠ B + 1 → (X.putObj (B + 1) o').heap[k]? = X.heap[k]?) ∧ (X.putObj (B + 1) o').heap[B + 1]? = some o' ∧ (X.putObj (B + 1) o').heap[B]? = X.heap[B]? :=
    fun {X o} o' hl ho => by
      have hlt := (Array.getElem?_eq_some_iff.1 hl).1
      exact ⟨fun s xs h => (hI s).putObj _ h (by omega) hl ho, fun xs h => hIx.putObj _ h (by omega) hl ho, fun x a' h => (hAx x a').putObj (s := ()) _ h (by omega) hl ho,
        fun k hk => World.putObj_heap_other hk, World.putObj_heap_same hlt, World.putObj_heap_other (by omega)⟩
  refine ⟨B + 1, [{ target := .collected B, args := #[] }], V, { target := .fn (.func gf) lb, args := #[.func (.yield (B + 1)) #[] #[]] }, V, gf, #[.func (.yield (B + 1)) #[] #[]] ++ lb, V, ?_, ?_, fun _ _ => trivial, ?_, fun _ => h1, ?_⟩
  · have e := run_enterLoop_outer (P := P) (w := w) fn a.tmps ps assign body
    rw [hB] at e
    rw [← hV, hR]
    exact e
  · simp only [resolve, hg]
    simp [go_sem]
  · simp [invoke, go_sem, eg]
  · refine (hseq (B + 1)
      (fun pre X => (∃ s, I s pre X) ∧ X.heap[B + 1]? = some (R .ready none) ∧ X.heap[B]? = some (.deferred (some [])))
      (fun pre X => Ix pre X ∧ X.heap[B + 1]? = some (R .done (some .ret)) ∧ X.heap[B]? = some (.deferred (some [])))
      V (hb0.trans (below.mono (by rw [hB]; have := hb0.size; omega)))
      ?_ ⟨⟨s0, hVI⟩, hVL, hVB⟩).mono ?_
    · -- a round
      rintro pre x X0 X ⟨⟨s, hi0⟩, hl0, hd0⟩ hlen hX hex
      have hlt0 := (Array.getElem?_eq_some_iff.1 hl0).1
      have hi : I s pre X := hI _ _ _ _ none hi0 (grown_of_below hX) (fun r e => by cases e)
      have hl := (hX.block _ hlt0).trans hl0
      have hd := (hX.block _ (Array.getElem?_eq_some_iff.1 hd0).1).trans hd0
      have hl' := hl
      rw [hR] at hl'
      refine ⟨fn, _, assign, body, run_yield (P := P) (args := encs x) hl' (hps x), roundIn_of_wpIn trivial (hassign _ s pre x X _ hi hex ?_)⟩
      intro a' Y hk hb hax
      have hiY : I s pre Y := hI _ _ _ _ none hi (grown_of_below hb) (fun r e => by cases e)
      have hlY := hk.same _ _ (by omega) hl (hcells _ _)
      have hdY := hk.same _ _ (Nat.le_refl _) hd rfl
      have hlY' := hlY
      rw [hR] at hlY'
      have begins := run_beginRound (P := P) hlY' rfl
      obtain ⟨t1, _, t3, t4, t5, t6⟩ := turn (R .busy none) hlY (hcells _ _)
      refine ⟨Y.putObj (B + 1) (R .busy none), by rw [begins, hR], ?_⟩
      have ends : ∀ (jump : Option Code) (Z : World), KeepsFrom B (Y.putObj (B + 1) (R .busy none)) Z → Z.heap[B + 1]? = some (R .busy none) ∧ Z.heap[B]? = some (.deferred (some [])) ∧
          (Instr.endRound (B + 1) jump).run P Z = .ok (.bool jump.isNone) (Z.putObj (B + 1) (R (if jump.isNone then .ready else .done) jump)) := fun jump Z hz => by
        have z1 := hz.same _ _ (by omega) t5 (hcells _ _)
        refine ⟨z1, hz.same _ _ (Nat.le_refl _) (t6.trans hdY) rfl, ?_⟩
        rw [hR] at z1 ⊢
        exact run_endRound (P := P) jump z1
      refine wpIn_mono (hbody _ s pre x a' _ (t1 _ _ hiY) hlen (t3 _ _ hax)) ?_
      rintro e a3 Z hp
      cases e with
      | normal =>
        obtain ⟨hz, hzb, s', hzi⟩ := hp
        obtain ⟨z1, z2, z3⟩ := ends none Z hz
        obtain ⟨u1, _, _, u4, u5, u6⟩ := turn (R .ready none) z1 (hcells _ _)
        refine ⟨_, _, z3, .inl ⟨rfl, ⟨⟨s', u1 _ _ hzi⟩, u5, u6.trans z2⟩, ?_, ?_⟩⟩
        · have := hb.size; have := hz.size; simp at this ⊢; omega
        · intro k hk hkX
          have hne : k ≠ B + 1 := by
            rcases hk with hk | hk
            · omega
            · have := hK k hk; omega
          have hnT : ¬ T s k := by
            intro ht
            rcases hk with hk | hk
            · have := (hT s pre X0 k hi0 ht).1; omega
            · exact (hT s pre X0 k hi0 ht).2 hk
          have hkY : k < Y.heap.size := by have := hb.size; omega
          exact (u4 k hne).trans ((hzb k hnT (by simpa using hkY)).trans ((t4 k hne).trans (hb.block k hkX)))
      | ret =>
        obtain ⟨hz, hzi⟩ := hp
        obtain ⟨z1, z2, z3⟩ := ends (some .ret) Z hz
        obtain ⟨_, u2, _, _, u5, u6⟩ := turn (R .done (some .ret)) z1 (hcells _ _)
        exact ⟨_, _, z3, .inr ⟨rfl, u2 _ hzi, u5, u6.trans z2⟩⟩
      | exit id => exact hp.elim
      | goto t => exact hp.elim
      | panic ch => exact hp.elim
      | outgrown => exact hp.elim
    · -- behind the iterator
      rintro e Z ⟨⟨v, rfl⟩, (⟨xs, hS, ⟨s, hi⟩, hl, hd⟩ | ⟨pre, hSp, hi, hl, hd⟩)⟩
      · obtain ⟨u1, _, _, _, _, u6⟩ := turn (R .exhausted none) hl (hcells _ _)
        have hl' := hl
        rw [hR] at hl'
        refine ⟨none, _, by have e := run_endLoop (P := P) hl' (by simp); exact e, ?_⟩
        have := hdone B s xs _ (Nat.le_refl _) hS (u1 _ _ hi) (u6.trans hd)
        rw [hR] at this
        exact this
      · obtain ⟨_, u2, _, _, _, u6⟩ := turn (R .exhausted (some .ret)) hl (hcells _ _)
        have hl' := hl
        rw [hR] at hl'
        refine ⟨some .ret, _, by have e := run_endLoop (P := P) hl' (by simp); exact e, ?_⟩
        have := hstop B pre _ (Nat.le_refl _) hSp (u2 _ hi) (u6.trans hd)
        rw [hR] at this
        exact this
end Go.Proofs.YtdcfemojkdoakaaDoor
/- A row of places from behind: slices.Backward over this program. -/
namespace Go.Proofs.YtdcfemojkdoakaaDoor
open Go.RowKit
attribute [local go_sem] Oper.semAt_some

def encK (vs : List Nat) (i : Nat) : Array Value := #[.int .i64 (i : Int), .int .i64 (vs.getD i 0 : Nat)]
theorem rangeI_back (m n : Nat) (pre : List Nat) (h : pre ++ (List.range (m + 1)).reverse = (List.range n).reverse) : (pre ++ [m]) ++ (List.range m).reverse = (List.range n).reverse := by
  rw [← h, List.range_succ]; simp

set_option maxRecDepth 100000 in
set_option maxHeartbeats 2000000 in
theorem backI_told (n : Nat) (hn : 1 ≤ n) (vs : List Nat) (hvs : vs.length ≤ 1000000) (a : Option Addr) (cap g Bn : Nat) (w : World) (hBn : w.cell? ⟨Bn, 0, none⟩ = some (.slice a vs.length cap))
    (hrow : ∀ i, i < vs.length → a = some ⟨g, 0, none⟩ ∧ vs.length ≤ cap ∧ w.cell? ⟨g, i, none⟩ = some (.int .i64 (vs.getD i 0 : Nat))) :
    SeqTold n Tryd.prog 96 #[.pointer (some ⟨Bn, 0, none⟩)] (encK vs) (fun _ _ => True) (fun k => k = Bn ∨ k = g) (fun xs => xs = (List.range vs.length).reverse) (fun _ => True) (vs.length + 1) w := by
  intro l J Jx W hW hY h0
  have hBW : W.cell? ⟨Bn, 0, none⟩ = some (.slice a vs.length cap) := (hW.cell (p := ⟨Bn, 0, none⟩) (World.block_lt_of_cell? _ _ hBn)).trans hBn
  have hrW : ∀ i, i < vs.length → a = some ⟨g, 0, none⟩ ∧ vs.length ≤ cap ∧ W.cell? ⟨g, i, none⟩ = some (.int .i64 (vs.getD i 0 : Nat)) := fun i hi => by
    obtain ⟨e1, e2, e3⟩ := hrow i hi
    exact ⟨e1, e2, (hW.cell (p := ⟨g, i, none⟩) (World.block_lt_of_cell? _ _ e3)).trans e3⟩
  have HRW := Lib.hid hrW
  clear hBn hrow hrW
  refine callsIn_of_wp Tryd.func96 rfl trivial ?_ rfl
  simp only [Tryd.ntmps96, List.size_toArray, List.length_cons, List.length_nil, Nat.reduceAdd, Nat.reduceSub, Array.replicate_succ, Array.replicate_zero, List.push_toArray, List.append_toArray, List.nil_append, List.cons_append]
  gi_wp2
  gi_loopw [3] (fun vi wr => ∃ (m : Nat) (pre : List Nat), vi = .int .i64 ((m : Int) - 1) ∧ (m ≤ vs.length ∧ pre.length + m = vs.length) ∧ Hid (pre ++ (List.range m).reverse = (List.range vs.length).reverse) ∧ J pre wr ∧
      wr.cell? ⟨Bn, 0, none⟩ = some (.slice a vs.length cap) ∧ Hid (∀ i, i < vs.length → a = some ⟨g, 0, none⟩ ∧ vs.length ≤ cap ∧ wr.cell? ⟨g, i, none⟩ = some (.int .i64 (vs.getD i 0 : Nat)))) (fun vi _ => (intOf vi + 1).toNat)
  case atStart => exact ⟨vs.length, [], rfl, ⟨Nat.le_refl _, by simp⟩, Lib.hid (by simp), h0, hBW, HRW⟩
  case round =>
    obtain ⟨m, pre, rfl, ⟨hm, hpl⟩, hpre, hJ, hBr, hRr⟩ := hrel
    by_cases hpos : 0 < m
    · obtain ⟨m', rfl⟩ : ∃ m', m = m' + 1 := ⟨m - 1, by omega⟩
      have hI : ((m' + 1 : Nat) : Int) - 1 = (m' : Int) := by omega
      obtain ⟨rfl, hcap, hcell⟩ := hRr.out m' (by omega)
      obtain ⟨fn, tmps, assign, body, hy, hR⟩ := hY pre m' wr wr hJ (by omega) (Below.refl _ _) trivial
      dsimp only [encK] at hy
      rw [hI]
      have hlt1 : (m' : Int) < (vs.length : Int) := by omega
      have hge1 : (0 : Int) ≤ (m' : Int) := by omega
      have HPre := Lib.hid (rangeI_back m' vs.length pre hpre.out)
      obtain ⟨t, ht⟩ : ∃ t, vs.getD m' 0 = t := ⟨_, rfl⟩
      rw [ht] at hcell hy
      clear hY hI ht hBW HRW hpre
      gi_wp2
      refine hR.mono ?_
      clear hR hy
      rintro e W3 (⟨rfl, hJ3, hk3⟩ | ⟨rfl, hJx3⟩)
      · have hbl : ∀ (b o : Nat) (u : Value), b = Bn ∨ b = g → wr.cell? ⟨b, o, none⟩ = some u → W3.cell? ⟨b, o, none⟩ = some u := fun b o u hb hu => by
          have q1 := World.block_lt_of_cell? _ _ hu
          have q3 := hk3.block b (.inr hb) q1
          exact (World.cell?_of_block (a := ⟨b, o, none⟩) q3).trans hu
        have cB := hbl Bn 0 _ (.inl rfl) hBr
        have CR := Lib.hid (fun i (hi : i < vs.length) => (⟨rfl, (hRr.out i hi).2.1, hbl g i _ (.inr rfl) (hRr.out i hi).2.2⟩ : (some (⟨g, 0, none⟩ : Addr) = some ⟨g, 0, none⟩ ∧ vs.length ≤ cap ∧ W3.cell? ⟨g, i, none⟩ = some (.int .i64 (vs.getD i 0 : Nat)))))
        clear hbl hk3
        gi_wp2
        go_roundw
        case rel => exact ⟨m', pre ++ [m'], by go_num, ⟨by omega, by simp; omega⟩, HPre, hJ3, cB, CR⟩
        case measure => simp [intOf]
      · gi_wp2
        refine bodyPost_ret (results_none rfl _ _ _) rfl ⟨⟨_, rfl⟩, .inr ⟨_, trivial, hJx3⟩⟩
    · obtain rfl : m = 0 := by omega
      clear hY hBW HRW
      gi_wp2
      go_end0
      exact ⟨⟨_, rfl⟩, .inl ⟨pre, by have := hpre.out; simpa using this, hJ⟩⟩
set_option maxRecDepth 100000 in
set_option maxHeartbeats 1000000 in
theorem backwardI_any (a : Option Addr) (n c : Nat) (w : World) : Calls Tryd.prog 80 #[.slice a n c] w fun e w' => e = .returned (.func (.func 96) #[] #[.pointer (some ⟨w.heap.size, 0, none⟩)]) ∧ w.alloc (.cells #[.slice a n c] 22) = w' := by
  go_enter Tryd.func80, Tryd.ntmps80
  go_wp2
  go_ret
  exact ⟨rfl, rfl⟩
end Go.Proofs.YtdcfemojkdoakaaDoor
/- A loop over an iterator whose rounds know which one they are. -/
namespace Go.Proofs.YtdcfemojkdoakaaDoor
open Go.RowKit

/-- As SeqTold, and each round knows which one it is. Between two rounds the iterator may have laid blocks ('Below', from X0, where the last round ended, to X, where the next begins); the rounds may be told 'Ex x' of the world in which they are handed x; a round that goes on keeps what the iterator has laid since X0, and the blocks of K. -/
def SeqToldN {α : Type} (n : Nat) (P : Program) (g : Nat) (lb : Array Value) (encs : α → Array Value) (Ex : α → World → Prop) (K : Nat → Prop) (Nx : List α → α → Prop) (S Sp : List α → Prop) (N : Nat) (w : World) : Prop :=
  ∀ (l : Nat) (J Jx : List α → World → Prop) (W : World), Below w.heap.size w W →
    (∀ pre x X0 X, J pre X0 → pre.length < N → Below X0.heap.size X0 X → Ex x X → Nx pre x → YieldAt Fence.wide (n - 1) P l (encs x) X fun e Y =>
      (e = .returned (.bool true) ∧ J (pre ++ [x]) Y ∧ Kept K X0.heap.size X Y) ∨ (e = .returned (.bool false) ∧ Jx (pre ++ [x]) Y)) →
    J [] W →
    CallsIn Fence.wide n P g (#[.func (.yield l) #[] #[]] ++ lb) W fun e Y => (∃ v, e = .returned v) ∧ ((∃ xs, S xs ∧ J xs Y) ∨ (∃ pre, Sp pre ∧ Jx pre Y))

/-- **The statement 'for .. := range f', its body left by its end or by a return.** 's': what the body keeps of its own; 'T s': the blocks that it may write there. -/
theorem range_toldN {n : Nat} {P : Program} {σ α : Type} {g : Operand} {ps : Array Tmp} {assign body : Code} {Q : Exit → Act → World → Prop} {a : Act} {w : World} (h1 : 1 ≤ n)
    {gf : Nat} {lb : Array Value} (hg : a.eval g = .func (.func gf) #[] lb) (eg : ∀ args w, (callFunc gf args).run P w = .ok (.enter gf args) w)
    {encs : α → Array Value} {Ex : α → World → Prop} {K : Nat → Prop} {Nx : List α → α → Prop} {S Sp : List α → Prop} {N : Nat} {w0 : World} (hseq : SeqToldN (n - 1) P gf lb encs Ex K Nx S Sp N w0)
    (hK : ∀ k, K k → k < w.heap.size) (hb0 : Below w0.heap.size w0 w) (hps : ∀ x, (encs x).size = ps.size)
    (I : σ → List α → World → Prop) (Ix : List α → World → Prop) (T : σ → Nat → Prop) (hI : ∀ s, OwnFrom w.heap.size (I s)) (hIx : OwnFrom w.heap.size Ix)
    (hT : ∀ s pre X k, I s pre X → T s k → k < X.heap.size ∧ ¬ K k) (h0 : ∃ s, I s [] w)
    (Ax : α → Act → World → Prop) (hAx : ∀ x a', OwnFrom w.heap.size (fun (_ : Unit) W => Ax x a' W))
    (hassign : ∀ (l : Nat) (s : σ) (pre : List α) (x : α) (X : World) (C : Act → World → Prop), I s pre X → Ex x X →
      (∀ a' Y, KeepsFrom w.heap.size X Y → Below X.heap.size X Y → Ax x a' Y → C a' Y) →
      assign.wpIn (Fence.wide.inRound l) (n - 1 - 1) P (Exit.then C (fun _ _ _ => False)) { tmps := (ps.zip (encs x)).foldl (fun t (p, v) => t.setIfInBounds p v) a.tmps, defers := [] } X)
    (hbody : ∀ (l : Nat) (s : σ) (pre : List α) (x : α) (a' : Act) (X : World), I s pre X → pre.length < N → Nx pre x → Ax x a' X → body.wpIn (Fence.wide.inRound l) (n - 1 - 1) P (RoundPost w.heap.size (T s) I Ix (pre ++ [x]) X) a' X)
    (hdone : ∀ (D : Nat) (s : σ) (xs : List α) (W : World), w.heap.size ≤ D → S xs → I s xs W → W.heap[D]? = some (.deferred (some [])) → Q .normal { a with defers := { target := .collected D, args := #[] } :: a.defers } W)
    (hstop : ∀ (D : Nat) (pre : List α) (W : World), w.heap.size ≤ D → Sp pre → Ix pre W → W.heap[D]? = some (.deferred (some [])) → Code.ret.wpIn Fence.wide n P Q { a with defers := { target := .collected D, args := #[] } :: a.defers } W) :
    (Code.rangeFunc g ps assign body).wpIn Fence.wide n P Q a w := by
  refine wpIn_rangeFunc fun fn _ => ?_
  -- the two blocks that the loop lays: the rounds' deferred calls at B, the record behind it
  generalize hB : w.heap.size = B at *
  obtain ⟨R, hR⟩ : ∃ R : LoopState → Option Code → Obj, R = fun st pe => .loop { state := st, pending := pe, fn, tmps := a.tmps, params := ps, assign, body, defers := B } := ⟨_, rfl⟩
  have hcells : ∀ st pe, (R st pe).isCells = false := fun st pe => by rw [hR]; rfl
  obtain ⟨V, hV⟩ : ∃ V, (w.alloc (.deferred (some []))).alloc (R .ready none) = V := ⟨_, rfl⟩
  have below : Below w.heap.size w V := by rw [← hV]; exact ((Below.refl _ w).alloc (Nat.le_refl _) _).alloc (by simp) _
  have hVL : V.heap[B + 1]? = some (R .ready none) := by
    rw [← hV]
    have := World.alloc_heap_new (w.alloc (.deferred (some []))) (R .ready none)
    rwa [World.size_alloc, hB] at this
  have hVB : V.heap[B]? = some (.deferred (some [])) := by
    rw [← hV, Below.heap_alloc _ _ _ (by simp; omega), ← hB]
    exact World.alloc_heap_new w _
  obtain ⟨s0, h0⟩ := h0
  have hVI : I s0 [] V := hI _ _ _ _ none h0 (grown_of_below below) (fun r e => by cases e)
  -- turning the record keeps what is asked
  have turn : ∀ {X : World} {o : Obj} (o' : Obj), X.heap[B + 1]? = some o → o.isCells = false → (∀ s xs, I s xs X → I s xs (X.putObj (B + 1) o')) ∧ (∀ xs, Ix xs X → Ix xs (X.putObj (B + 1) o')) ∧
      (∀ x a', Ax x a' X → Ax x a' (X.putObj (B + 1) o')) ∧ (∀ k, k ≠ B + 1 → (X.putObj (B + 1) o').heap[k]? = X.heap[k]?) ∧ (X.putObj (B + 1) o').heap[B + 1]? = some o' ∧ (X.putObj (B + 1) o').heap[B]? = X.heap[B]? :=
    fun {X o} o' hl ho => by
      have hlt := (Array.getElem?_eq_some_iff.1 hl).1
      exact ⟨fun s xs h => (hI s).putObj _ h (by omega) hl ho, fun xs h => hIx.putObj _ h (by omega) hl ho, fun x a' h => (hAx x a').putObj (s := ()) _ h (by omega) hl ho,
        fun k hk => World.putObj_heap_other hk, World.putObj_heap_same hlt, World.putObj_heap_other (by omega)⟩
  refine ⟨B + 1, [{ target := .collected B, args := #[] }], V, { target := .fn (.func gf) lb, args := #[.func (.yield (B + 1)) #[] #[]] }, V, gf, #[.func (.yield (B + 1)) #[] #[]] ++ lb, V, ?_, ?_, fun _ _ => trivial, ?_, fun _ => h1, ?_⟩
  · have e := run_enterLoop_outer (P := P) (w := w) fn a.tmps ps assign body
    rw [hB] at e
    rw [← hV, hR]
    exact e
  · simp only [resolve, hg]
    simp [go_sem]
  · simp [invoke, go_sem, eg]
  · refine (hseq (B + 1)
      (fun pre X => (∃ s, I s pre X) ∧ X.heap[B + 1]? = some (R .ready none) ∧ X.heap[B]? = some (.deferred (some [])))
      (fun pre X => Ix pre X ∧ X.heap[B + 1]? = some (R .done (some .ret)) ∧ X.heap[B]? = some (.deferred (some [])))
      V (hb0.trans (below.mono (by rw [hB]; have := hb0.size; omega)))
      ?_ ⟨⟨s0, hVI⟩, hVL, hVB⟩).mono ?_
    · -- a round
      rintro pre x X0 X ⟨⟨s, hi0⟩, hl0, hd0⟩ hlen hX hex hnx
      have hlt0 := (Array.getElem?_eq_some_iff.1 hl0).1
      have hi : I s pre X := hI _ _ _ _ none hi0 (grown_of_below hX) (fun r e => by cases e)
      have hl := (hX.block _ hlt0).trans hl0
      have hd := (hX.block _ (Array.getElem?_eq_some_iff.1 hd0).1).trans hd0
      have hl' := hl
      rw [hR] at hl'
      refine ⟨fn, _, assign, body, run_yield (P := P) (args := encs x) hl' (hps x), roundIn_of_wpIn trivial (hassign _ s pre x X _ hi hex ?_)⟩
      intro a' Y hk hb hax
      have hiY : I s pre Y := hI _ _ _ _ none hi (grown_of_below hb) (fun r e => by cases e)
      have hlY := hk.same _ _ (by omega) hl (hcells _ _)
      have hdY := hk.same _ _ (Nat.le_refl _) hd rfl
      have hlY' := hlY
      rw [hR] at hlY'
      have begins := run_beginRound (P := P) hlY' rfl
      obtain ⟨t1, _, t3, t4, t5, t6⟩ := turn (R .busy none) hlY (hcells _ _)
      refine ⟨Y.putObj (B + 1) (R .busy none), by rw [begins, hR], ?_⟩
      have ends : ∀ (jump : Option Code) (Z : World), KeepsFrom B (Y.putObj (B + 1) (R .busy none)) Z → Z.heap[B + 1]? = some (R .busy none) ∧ Z.heap[B]? = some (.deferred (some [])) ∧
          (Instr.endRound (B + 1) jump).run P Z = .ok (.bool jump.isNone) (Z.putObj (B + 1) (R (if jump.isNone then .ready else .done) jump)) := fun jump Z hz => by
        have z1 := hz.same _ _ (by omega) t5 (hcells _ _)
        refine ⟨z1, hz.same _ _ (Nat.le_refl _) (t6.trans hdY) rfl, ?_⟩
        rw [hR] at z1 ⊢
        exact run_endRound (P := P) jump z1
      refine wpIn_mono (hbody _ s pre x a' _ (t1 _ _ hiY) hlen hnx (t3 _ _ hax)) ?_
      rintro e a3 Z hp
      cases e with
      | normal =>
        obtain ⟨hz, hzb, s', hzi⟩ := hp
        obtain ⟨z1, z2, z3⟩ := ends none Z hz
        obtain ⟨u1, _, _, u4, u5, u6⟩ := turn (R .ready none) z1 (hcells _ _)
        refine ⟨_, _, z3, .inl ⟨rfl, ⟨⟨s', u1 _ _ hzi⟩, u5, u6.trans z2⟩, ?_, ?_⟩⟩
        · have := hb.size; have := hz.size; simp at this ⊢; omega
        · intro k hk hkX
          have hne : k ≠ B + 1 := by
            rcases hk with hk | hk
            · omega
            · have := hK k hk; omega
          have hnT : ¬ T s k := by
            intro ht
            rcases hk with hk | hk
            · have := (hT s pre X0 k hi0 ht).1; omega
            · exact (hT s pre X0 k hi0 ht).2 hk
          have hkY : k < Y.heap.size := by have := hb.size; omega
          exact (u4 k hne).trans ((hzb k hnT (by simpa using hkY)).trans ((t4 k hne).trans (hb.block k hkX)))
      | ret =>
        obtain ⟨hz, hzi⟩ := hp
        obtain ⟨z1, z2, z3⟩ := ends (some .ret) Z hz
        obtain ⟨_, u2, _, _, u5, u6⟩ := turn (R .done (some .ret)) z1 (hcells _ _)
        exact ⟨_, _, z3, .inr ⟨rfl, u2 _ hzi, u5, u6.trans z2⟩⟩
      | exit id => exact hp.elim
      | goto t => exact hp.elim
      | panic ch => exact hp.elim
      | outgrown => exact hp.elim
    · -- behind the iterator
      rintro e Z ⟨⟨v, rfl⟩, (⟨xs, hS, ⟨s, hi⟩, hl, hd⟩ | ⟨pre, hSp, hi, hl, hd⟩)⟩
      · obtain ⟨u1, _, _, _, _, u6⟩ := turn (R .exhausted none) hl (hcells _ _)
        have hl' := hl
        rw [hR] at hl'
        refine ⟨none, _, by have e := run_endLoop (P := P) hl' (by simp); exact e, ?_⟩
        have := hdone B s xs _ (Nat.le_refl _) hS (u1 _ _ hi) (u6.trans hd)
        rw [hR] at this
        exact this
      · obtain ⟨_, u2, _, _, _, u6⟩ := turn (R .exhausted (some .ret)) hl (hcells _ _)
        have hl' := hl
        rw [hR] at hl'
        refine ⟨some .ret, _, by have e := run_endLoop (P := P) hl' (by simp); exact e, ?_⟩
        have := hstop B pre _ (Nat.le_refl _) hSp (u2 _ hi) (u6.trans hd)
        rw [hR] at this
        exact this

end Go.Proofs.YtdcfemojkdoakaaDoor
/- A row of places from behind, each round told which one it is. -/
namespace Go.Proofs.YtdcfemojkdoakaaDoor
open Go.RowKit
attribute [local go_sem] Oper.semAt_some

set_option maxRecDepth 100000 in
set_option maxHeartbeats 2000000 in
theorem backI_toldN (n : Nat) (hn : 1 ≤ n) (vs : List Nat) (hvs : vs.length ≤ 1000000) (a : Option Addr) (cap g Bn : Nat) (w : World) (hBn : w.cell? ⟨Bn, 0, none⟩ = some (.slice a vs.length cap))
    (hrow : ∀ i, i < vs.length → a = some ⟨g, 0, none⟩ ∧ vs.length ≤ cap ∧ w.cell? ⟨g, i, none⟩ = some (.int .i64 (vs.getD i 0 : Nat))) :
    SeqToldN n Tryd.prog 96 #[.pointer (some ⟨Bn, 0, none⟩)] (encK vs) (fun _ _ => True) (fun k => k = Bn ∨ k = g) (fun pre x => pre ++ (List.range (x + 1)).reverse = (List.range vs.length).reverse) (fun xs => xs = (List.range vs.length).reverse) (fun _ => True) (vs.length + 1) w := by
  intro l J Jx W hW hY h0
  have hBW : W.cell? ⟨Bn, 0, none⟩ = some (.slice a vs.length cap) := (hW.cell (p := ⟨Bn, 0, none⟩) (World.block_lt_of_cell? _ _ hBn)).trans hBn
  have hrW : ∀ i, i < vs.length → a = some ⟨g, 0, none⟩ ∧ vs.length ≤ cap ∧ W.cell? ⟨g, i, none⟩ = some (.int .i64 (vs.getD i 0 : Nat)) := fun i hi => by
    obtain ⟨e1, e2, e3⟩ := hrow i hi
    exact ⟨e1, e2, (hW.cell (p := ⟨g, i, none⟩) (World.block_lt_of_cell? _ _ e3)).trans e3⟩
  have HRW := Lib.hid hrW
  clear hBn hrow hrW
  refine callsIn_of_wp Tryd.func96 rfl trivial ?_ rfl
  simp only [Tryd.ntmps96, List.size_toArray, List.length_cons, List.length_nil, Nat.reduceAdd, Nat.reduceSub, Array.replicate_succ, Array.replicate_zero, List.push_toArray, List.append_toArray, List.nil_append, List.cons_append]
  gi_wp2
  gi_loopw [3] (fun vi wr => ∃ (m : Nat) (pre : List Nat), vi = .int .i64 ((m : Int) - 1) ∧ (m ≤ vs.length ∧ pre.length + m = vs.length) ∧ Hid (pre ++ (List.range m).reverse = (List.range vs.length).reverse) ∧ J pre wr ∧
      wr.cell? ⟨Bn, 0, none⟩ = some (.slice a vs.length cap) ∧ Hid (∀ i, i < vs.length → a = some ⟨g, 0, none⟩ ∧ vs.length ≤ cap ∧ wr.cell? ⟨g, i, none⟩ = some (.int .i64 (vs.getD i 0 : Nat)))) (fun vi _ => (intOf vi + 1).toNat)
  case atStart => exact ⟨vs.length, [], rfl, ⟨Nat.le_refl _, by simp⟩, Lib.hid (by simp), h0, hBW, HRW⟩
  case round =>
    obtain ⟨m, pre, rfl, ⟨hm, hpl⟩, hpre, hJ, hBr, hRr⟩ := hrel
    by_cases hpos : 0 < m
    · obtain ⟨m', rfl⟩ : ∃ m', m = m' + 1 := ⟨m - 1, by omega⟩
      have hI : ((m' + 1 : Nat) : Int) - 1 = (m' : Int) := by omega
      obtain ⟨rfl, hcap, hcell⟩ := hRr.out m' (by omega)
      obtain ⟨fn, tmps, assign, body, hy, hR⟩ := hY pre m' wr wr hJ (by omega) (Below.refl _ _) trivial hpre.out
      dsimp only [encK] at hy
      rw [hI]
      have hlt1 : (m' : Int) < (vs.length : Int) := by omega
      have hge1 : (0 : Int) ≤ (m' : Int) := by omega
      have HPre := Lib.hid (rangeI_back m' vs.length pre hpre.out)
      obtain ⟨t, ht⟩ : ∃ t, vs.getD m' 0 = t := ⟨_, rfl⟩
      rw [ht] at hcell hy
      clear hY hI ht hBW HRW hpre
      gi_wp2
      refine hR.mono ?_
      clear hR hy
      rintro e W3 (⟨rfl, hJ3, hk3⟩ | ⟨rfl, hJx3⟩)
      · have hbl : ∀ (b o : Nat) (u : Value), b = Bn ∨ b = g → wr.cell? ⟨b, o, none⟩ = some u → W3.cell? ⟨b, o, none⟩ = some u := fun b o u hb hu => by
          have q1 := World.block_lt_of_cell? _ _ hu
          have q3 := hk3.block b (.inr hb) q1
          exact (World.cell?_of_block (a := ⟨b, o, none⟩) q3).trans hu
        have cB := hbl Bn 0 _ (.inl rfl) hBr
        have CR := Lib.hid (fun i (hi : i < vs.length) => (⟨rfl, (hRr.out i hi).2.1, hbl g i _ (.inr rfl) (hRr.out i hi).2.2⟩ : (some (⟨g, 0, none⟩ : Addr) = some ⟨g, 0, none⟩ ∧ vs.length ≤ cap ∧ W3.cell? ⟨g, i, none⟩ = some (.int .i64 (vs.getD i 0 : Nat)))))
        clear hbl hk3
        gi_wp2
        go_roundw
        case rel => exact ⟨m', pre ++ [m'], by go_num, ⟨by omega, by simp; omega⟩, HPre, hJ3, cB, CR⟩
        case measure => simp [intOf]
      · gi_wp2
        refine bodyPost_ret (results_none rfl _ _ _) rfl ⟨⟨_, rfl⟩, .inr ⟨_, trivial, hJx3⟩⟩
    · obtain rfl : m = 0 := by omega
      clear hY hBW HRW
      gi_wp2
      go_end0
      exact ⟨⟨_, rfl⟩, .inl ⟨pre, by have := hpre.out; simpa using this, hJ⟩⟩
end Go.Proofs.YtdcfemojkdoakaaDoor
/- found: the row of the types that are made, in memory. -/
namespace Go.Proofs.YtdcfemojkdoakaaDoor
open Go.RowKit Go.Maps Go.Sort Go.Lib
attribute [local go_sem] Oper.semAt_some

/-- Block M holds n types; those that are done are told, and their rows lie behind M and ahead of D. -/
def MadeAt (M D n : Nat) (tt : Nat → T) (dn : Nat → Prop) (w : World) : Prop :=
  ∃ cs, ∃ z : Nat → Value, w.heap[M]? = some (.cells cs 29 (0, 0)) ∧ cs.size = n * 3 ∧
    ∀ j, j < n → dn j → (cs[j * 3]? = some (.int .i64 (tt j).kind) ∧ cs[j * 3 + 1]? = some (.string (tt j).name) ∧ cs[j * 3 + 2]? = some (z j)) ∧ TyIn (fun k => M < k ∧ k < D) w (tt j) (z j)
theorem MadeAt.lt {M D n : Nat} {tt : Nat → T} {dn : Nat → Prop} {w : World} (h : MadeAt M D n tt dn w) : M < w.heap.size := by
  obtain ⟨cs, z, h1, _⟩ := h; exact (Array.getElem?_eq_some_iff.1 h1).1
theorem MadeAt.start (M D n : Nat) (tt : Nat → T) (w : World) (h : w.heap[M]? = some (.cells (zeros n) 29 (0, 0))) : MadeAt M D n tt (fun _ => False) w :=
  ⟨_, fun _ => undef, h, by simp [zeros, size_madeCells], fun j _ h => h.elim⟩
/-- What keeps the types' blocks from M on to D keeps all. -/
theorem MadeAt.keep {M D D' n : Nat} {tt : Nat → T} {dn : Nat → Prop} {w w' : World} (h : MadeAt M D n tt dn w) (hk : ∀ (k : Nat) (cs : Array Value) (fz : Nat × Nat), M ≤ k → k < D ∨ k = M → w.heap[k]? = some (.cells cs 29 fz) → w'.heap[k]? = some (.cells cs 29 fz)) (hD : D ≤ D') : MadeAt M D' n tt dn w' := by
  obtain ⟨cs, z, h1, h2, h3⟩ := h
  refine ⟨cs, z, hk _ _ _ (Nat.le_refl _) (.inr rfl) h1, h2, fun j hj hd => ⟨(h3 j hj hd).1, ?_⟩⟩
  exact ((h3 j hj hd).2.keep (fun k _ _ ho hh => hk _ _ _ (Nat.le_of_lt ho.1) (.inl ho.2) hh)).mono fun k ho => ⟨ho.1, Nat.lt_of_lt_of_le ho.2 hD⟩
theorem MadeAt.fr {M D n p : Nat} {tt : Nat → T} {dn : Nat → Prop} {w w' : World} (h : MadeAt M D n tt dn w) (hf : Fr p w w') (hp : p < M) : MadeAt M D n tt dn w' :=
  h.keep (fun k _ _ hk _ hh => (hf.2 k (Array.getElem?_eq_some_iff.1 hh).1 (by omega)).trans hh) (Nat.le_refl _)
theorem MadeAt.below {M D n : Nat} {tt : Nat → T} {dn : Nat → Prop} {w w' : World} (h : MadeAt M D n tt dn w) (hb : Below w.heap.size w w') : MadeAt M D n tt dn w' :=
  h.keep (fun k _ _ _ _ hh => (hb.block k (Array.getElem?_eq_some_iff.1 hh).1).trans hh) (Nat.le_refl _)
theorem MadeAt.cells {M D n : Nat} {tt : Nat → T} {dn : Nat → Prop} {w : World} (h : MadeAt M D n tt dn w) {i : Nat} (hi : i < n) : ∃ x y z, w.cell? ⟨M, i * 3, none⟩ = some x ∧ w.cell? ⟨M, i * 3 + 1, none⟩ = some y ∧ w.cell? ⟨M, i * 3 + 2, none⟩ = some z ∧ w.frozen? ⟨M, i * 3, none⟩ = false ∧ w.frozen? ⟨M, i * 3 + 1, none⟩ = false ∧ w.frozen? ⟨M, i * 3 + 2, none⟩ = false := by
  obtain ⟨cs, z, h1, h2, _⟩ := h
  refine ⟨cs[i * 3]'(by omega), cs[i * 3 + 1]'(by omega), cs[i * 3 + 2]'(by omega), ?_, ?_, ?_, Lib.frozen_of_heap h1 _, Lib.frozen_of_heap h1 _, Lib.frozen_of_heap h1 _⟩ <;> (rw [Lib.cell_of_heap h1]; simp; try omega)
theorem MadeAt.get {M D n : Nat} {tt : Nat → T} {dn : Nat → Prop} {w : World} (h : MadeAt M D n tt dn w) {i : Nat} (hi : i < n) (hd : dn i) : ∃ a c, w.cell? ⟨M, i * 3, none⟩ = some (.int .i64 (tt i).kind) ∧ w.cell? ⟨M, i * 3 + 1, none⟩ = some (.string (tt i).name) ∧ w.cell? ⟨M, i * 3 + 2, none⟩ = some (.slice a (tt i).kids.length c) ∧ TyIn (fun k => M < k ∧ k < D) w (tt i) (.slice a (tt i).kids.length c) := by
  obtain ⟨cs, z, h1, _, h3⟩ := h
  obtain ⟨⟨a1, a2, a3⟩, a4⟩ := h3 i hi hd
  obtain ⟨a, c, e⟩ := a4.shape
  rw [e] at a3 a4
  rw [Lib.cell_of_heap h1, Lib.cell_of_heap h1, Lib.cell_of_heap h1]
  exact ⟨a, c, a1, a2, a3, a4⟩
/-- Three stores: one more is done. -/
theorem MadeAt.set {M D n : Nat} {tt : Nat → T} {dn dn' : Nat → Prop} {w : World} (h : MadeAt M D n tt dn w) {i : Nat} (hi : i < n) {v : Value} (hv : TyIn (fun k => M < k ∧ k < D) w (tt i) v) (hdn : ∀ j, dn' j → dn j ∨ j = i) :
    MadeAt M D n tt dn' (((w.setCell ⟨M, i * 3, none⟩ (.int .i64 (tt i).kind)).setCell ⟨M, i * 3 + 1, none⟩ (.string (tt i).name)).setCell ⟨M, i * 3 + 2, none⟩ v) := by
  obtain ⟨cs, z, h1, h2, h3⟩ := h
  have hoth : ∀ k, k ≠ M → (((w.setCell ⟨M, i * 3, none⟩ (.int .i64 (tt i).kind)).setCell ⟨M, i * 3 + 1, none⟩ (.string (tt i).name)).setCell ⟨M, i * 3 + 2, none⟩ v).heap[k]? = w.heap[k]? := fun k hk =>
    (Below.heap_setCell _ ⟨M, i * 3 + 2, none⟩ _ k hk).trans ((Below.heap_setCell _ ⟨M, i * 3 + 1, none⟩ _ k hk).trans (Below.heap_setCell _ ⟨M, i * 3, none⟩ _ k hk))
  refine ⟨((cs.setIfInBounds (i * 3) (.int .i64 (tt i).kind)).setIfInBounds (i * 3 + 1) (.string (tt i).name)).setIfInBounds (i * 3 + 2) v, fun j => if j = i then v else z j, blk_set (blk_set (blk_set h1 _) _) _, by simpa using h2, fun j hj hd => ?_⟩
  by_cases e : j = i
  · subst e
    refine ⟨⟨?_, ?_, ?_⟩, ?_⟩
    · simp [Array.getElem?_setIfInBounds, h2]; omega
    · simp [Array.getElem?_setIfInBounds, h2]; omega
    · simp [Array.getElem?_setIfInBounds, h2]; omega
    · simp only [if_true]
      exact hv.keep (fun k _ _ hk hh => (hoth k (by omega)).trans hh)
  · obtain ⟨⟨a1, a2, a3⟩, a4⟩ := h3 j hj ((hdn j hd).resolve_right e)
    refine ⟨⟨?_, ?_, ?_⟩, ?_⟩
    · rw [Array.getElem?_setIfInBounds_ne (by omega), Array.getElem?_setIfInBounds_ne (by omega), Array.getElem?_setIfInBounds_ne (by omega)]; exact a1
    · rw [Array.getElem?_setIfInBounds_ne (by omega), Array.getElem?_setIfInBounds_ne (by omega), Array.getElem?_setIfInBounds_ne (by omega)]; exact a2
    · rw [Array.getElem?_setIfInBounds_ne (by omega), Array.getElem?_setIfInBounds_ne (by omega), Array.getElem?_setIfInBounds_ne (by omega)]; simp only [if_neg e]; exact a3
    · simp only [if_neg e]
      exact a4.keep (fun k _ _ hk hh => (hoth k (by omega)).trans hh)
/-- Three stores into another row. -/
theorem MadeAt.other {M D n b : Nat} {tt : Nat → T} {dn : Nat → Prop} {w : World} (h : MadeAt M D n tt dn w) (hD : D ≤ b) (hM : M < b) (o1 o2 o3 : Nat) (x y z : Value) : MadeAt M D n tt dn (((w.setCell ⟨b, o1, none⟩ x).setCell ⟨b, o2, none⟩ y).setCell ⟨b, o3, none⟩ z) :=
  h.keep (fun k _ _ _ h1 hh => ((Below.heap_setCell _ ⟨b, o3, none⟩ _ k (by show k ≠ b; omega)).trans ((Below.heap_setCell _ ⟨b, o2, none⟩ _ k (by show k ≠ b; omega)).trans (Below.heap_setCell _ ⟨b, o1, none⟩ _ k (by show k ≠ b; omega)))).trans hh) (Nat.le_refl _)
/-- The row of one type's parts, behind M. -/
theorem RowTo.fr {N G p : Nat} {l : List T} {i : Nat} {w w' : World} (h : RowTo N G l i w) (hf : Fr p w w') (hp : p < N) (hpG : p < G) : RowTo N G l i w' := by
  obtain ⟨cs, z, h1, h2, h3⟩ := h
  refine ⟨cs, z, (hf.2 G (Array.getElem?_eq_some_iff.1 h1).1 (by omega)).trans h1, h2, fun j hj hi => ⟨(h3 j hj hi).1, ?_⟩⟩
  exact ((h3 j hj hi).2.keep (fun k _ _ hk hh => (hf.2 k hk.2 (by omega)).trans hh)).mono (fun k hk => ⟨hk.1, Nat.lt_of_lt_of_le hk.2 hf.1.size⟩)
theorem RowTo.fin {M R : Nat} {l : List T} {w : World} (h : RowTo (M + 1) R l l.length w) (hR : M < R) {t : T} (ht : t.kids = l) : TyIn (fun k => M < k ∧ k < w.heap.size) w t (.slice (some ⟨R, 0, none⟩) l.length l.length) := by
  subst ht
  obtain ⟨cs, z, h1, h2, h3⟩ := h
  refine .row t R t.kids.length cs (0, 0) z ⟨hR, (Array.getElem?_eq_some_iff.1 h1).1⟩ h1 (Nat.le_refl _) (fun i hi => (h3 i hi hi).1) (fun i hi => ?_)
  exact (h3 i hi hi).2.mono (fun k hk => ⟨by omega, hk.2⟩)
/-- What is behind the places that are done. -/
def dnOf (ls : List Nat) (m : Nat) (i : Nat) : Prop := ∃ q, m ≤ q ∧ q < ls.length ∧ ls.getD q 0 = i
theorem dnOf_step {ls : List Nat} {m : Nat} (j : Nat) (h : dnOf ls m j) : dnOf ls (m + 1) j ∨ j = ls.getD m 0 := by
  obtain ⟨q, h1, h2, h3⟩ := h
  by_cases e : q = m
  · subst e; exact .inr h3.symm
  · exact .inl ⟨q, by omega, h2, h3⟩
theorem pre_len {pre : List Nat} {m n : Nat} (h : pre ++ (List.range m).reverse = (List.range n).reverse) : pre.length + m = n := by
  have := congrArg List.length h
  simpa using this
/-- What the type at place i is made of. -/
theorem sub_place {G : Gr} {rt : Nat → Nat} {σ : Sg} (g : GI G rt) (h : SI G σ rt) {i : Nat} (hi : i < G.N) (hr : rt i = i) :
    (sub σ (G.tr i)).kind = (G.tr i).kind ∧ (sub σ (G.tr i)).name = (G.tr i).name ∧ (sub σ (G.tr i)).kids = (G.ag i).map fun x => sub σ (G.tr (rt x)) := by
  cases hv : (G.tr i).isV with
  | true =>
    have e := h.free i hi hr hv
    have e2 := g.ok.var_no hi hv
    refine ⟨by rw [e], by rw [e], ?_⟩
    rw [e, g.ok.kids i hi, e2]; rfl
  | false =>
    obtain ⟨h1, h2, h3, _⟩ := sub_parts σ (G.tr i) hv
    refine ⟨h1, h2, ?_⟩
    rw [h3, g.ok.kids i hi, List.map_map]
    refine List.map_congr_left fun x hx => ?_
    exact h.root g (g.ok.arg hi hx)
end Go.Proofs.YtdcfemojkdoakaaDoor
/- The chapter's example holds; rows that are written out. -/
namespace Go.Proofs.YtdcfemojkdoakaaDoor
open Go.RowKit Go.Sort Go.Lib
attribute [local go_sem] Oper.semAt_some

theorem rowP_one {w : World} {b : Nat} (x : PR) (h : w.heap[b]? = some (.cells #[.string x.n, .int .i64 x.t.kind, .string x.t.name, .slice x.a x.t.kids.length x.c] 119 (0, 0))) : RowP b [x] w := by
  refine ⟨_, h, by simp, fun i hi => ?_⟩
  obtain rfl : i = 0 := by simpa using hi
  exact ⟨rfl, rfl, rfl, rfl⟩
theorem rowP_two {w : World} {b : Nat} (x y : PR) (h : w.heap[b]? = some (.cells #[.string x.n, .int .i64 x.t.kind, .string x.t.name, .slice x.a x.t.kids.length x.c, .string y.n, .int .i64 y.t.kind, .string y.t.name, .slice y.a y.t.kids.length y.c] 119 (0, 0))) : RowP b [x, y] w := by
  refine ⟨_, h, by simp, fun i hi => ?_⟩
  match i, hi with
  | 0, _ => exact ⟨rfl, rfl, rfl, rfl⟩
  | 1, _ => exact ⟨rfl, rfl, rfl, rfl⟩
  | n + 2, hi => simp at hi; omega
theorem SubAt.shape {v : Value} {d : List PR} {w : World} (h : SubAt v d w) : ∃ a c, v = .slice a d.length c := by
  rcases h.1.1 with ⟨rfl, a, c, rfl, _⟩ | ⟨g, cap, rfl, _⟩
  · exact ⟨a, c, rfl⟩
  · exact ⟨_, _, rfl⟩
set_option maxRecDepth 100000 in
set_option maxHeartbeats 1000000 in
theorem len_any (a : Option Addr) (n c : Nat) (w : World) :
    Calls Tryd.prog 19 #[.agg #[.slice a n c]] w fun e w' => e = .returned (.int .i64 (n : Int)) ∧ Below w.heap.size w w' := by
  have HB := Lib.hid (fun o => (Below.refl _ w).alloc (Nat.le_refl _) o)
  go_enter Tryd.func19, Tryd.ntmps19
  go_wp2
  go_ret
  exact ⟨rfl, HB.out _⟩
theorem made_ty {d l : List PR} (h : Made d l) : ∀ t, app l t = app d t := app_congr h.same
theorem fits_small {t : T} (h : tsize t ≤ 1000000000) : Fits t := by
  refine T.by_kids (P := fun t => tsize t ≤ 1000000000 → Fits t) (fun t H ht => ?_) t h
  obtain ⟨h1, h2⟩ := kids_small ht
  exact .mk t (by omega) (fun k hk => H k hk (h2 k hk))
theorem ty_cons (n : ByteArray) (x : PR) (l : List PR) : ty n (x :: l) = if x.n = n then x.t else ty n l := by
  unfold ty; rw [lk_cons]
  by_cases h : x.n = n
  · rw [if_pos h, if_pos h]; rfl
  · rw [if_neg h, if_neg h]
theorem ty_nil (n : ByteArray) : ty n [] = .var n := rfl
theorem leaf_at (t : T) (h : t.kids = []) (w : World) (a : Option Addr) (c : Nat) : TysAt w (.slice a t.kids.length c) t.kids := by rw [h]; exact TysAt.nil w a c

def tA : T := .var ⟨#[97]⟩
def tB : T := .var ⟨#[98]⟩
def tInt : T := .con ⟨#[73, 110, 116]⟩ []
def pInt : PR := ⟨⟨#[97]⟩, tInt, none, 0⟩
theorem app_int : app [pInt] tA = tInt := by rw [tA, app, ty_cons]; exact if_pos rfl
end Go.Proofs.YtdcfemojkdoakaaDoor
/- A region that draws its order, by an invariant: each operation is run once, at whatever state meets the facts on those that it waits for. -/
namespace Go.Proofs.YtdcfemojkdoakaaDoor

def upd (x : Nat → Value) (i : Nat) (v : Value) : Nat → Value := fun j => if j = i then v else x j
theorem upd_same (x : Nat → Value) (i : Nat) (v : Value) : upd x i v i = v := by simp [upd]
theorem upd_other (x : Nat → Value) {i j : Nat} (v : Value) (h : j ≠ i) : upd x i v j = x j := by simp [upd, h]

def AllAt (f : Nat → Oper → Prop) : Nat → List Oper → Prop
  | _, [] => True
  | n, o :: os => f n o ∧ AllAt f (n + 1) os

theorem AllAt.get {f : Nat → Oper → Prop} : ∀ {l : List Oper} {n : Nat}, AllAt f n l → ∀ {i : Nat} {o : Oper}, l[i]? = some o → f (n + i) o
  | [], _, _, i, o, h => by simp at h
  | a :: l, n, hl, 0, o, h => by simp at h; subst h; exact hl.1
  | a :: l, n, hl, i + 1, o, h => by
    have := AllAt.get hl.2 (i := i) (o := o) (by simpa using h)
    rw [show n + (i + 1) = n + 1 + i by omega]; exact this

/-- What is asked of operation 'o', number 'i'. -/
structure StepAt (P : Program) (fr : (Nat → Value) → Act) (S : World → Prop) (Rel : World → World → Prop) (Vals : Nat → Value → World → Prop)
    (ops : Array Oper) (Q : Exit → Act → World → Prop) (i : Nat) (o : Oper) : Prop where
  back : ∀ e ∈ o.after, Region.binds .any e = true → e.on < i
  put : ∀ x v, (fr x).put o.dst v = fr (upd x i v)
  run : ∀ (x : Nat → Value) (w : World), S w → (∀ e ∈ o.after, Region.binds .any e = true → Vals e.on (x e.on) w) →
    ∀ K : Act → World → Prop, (∀ v w', Rel w w' → Vals i v w' → K ((fr x).put o.dst v) w') →
      if Region.wanted o (yielded ops (fr x).tmps) = true then Oper.wp P o (fr x) w K Q else K ((fr x).put o.dst undef) w

section
variable {P : Program} {ops : Array Oper} {Q : Exit → Act → World → Prop} {fr : (Nat → Value) → Act} {S : World → Prop} {Rel : World → World → Prop} {Vals : Nat → Value → World → Prop}

theorem all_of_none (hback : ∀ i o, ops[i]? = some o → ∀ e ∈ o.after, Region.binds .any e = true → e.on < i) {listed : Array Bool} (hz : listed.size = ops.size)
    (h : Region.ready .any ops listed = []) : ∀ i, i < ops.size → listed.getD i false = true := by
  intro i
  induction i using Nat.strongRecOn with
  | ind i ih =>
    intro hi
    cases hl : listed.getD i false with
    | true => rfl
    | false =>
      have : i ∈ Region.ready .any ops listed := mem_ready.2 ⟨by
        have : i < listed.size := by omega
        simp [this] at hl ⊢; exact hl, ops[i], Array.getElem?_eq_getElem hi, fun e he hb => by
          have hlt := hback i ops[i] (Array.getElem?_eq_getElem hi) e he hb
          exact ih e.on hlt (by omega)⟩
      rw [h] at this; cases this

theorem inv_any (hput : ∀ i o, ops[i]? = some o → StepAt P fr S Rel Vals ops Q i o)
    (hrel : ∀ w w', S w → Rel w w' → S w') (hval : ∀ i v w w', S w → Vals i v w → Rel w w' → Vals i v w')
    (hfin : ∀ x w, S w → (∀ i, i < ops.size → Vals i (x i) w) → Q .normal (fr x) w) :
    ∀ (fuel : Nat) (listed : Array Bool) (x : Nat → Value) (w : World), listed.size = ops.size → ops.size ≤ fuel + listed.toList.count true → S w →
      (∀ i, listed.getD i false = true → Vals i (x i) w) → wpAny P .any ops Q fuel listed (fr x) w := by
  have hend : ∀ (listed : Array Bool) (x : Nat → Value) (w : World), listed.size = ops.size → S w → (∀ i, listed.getD i false = true → Vals i (x i) w) →
      Region.ready .any ops listed = [] → Q .normal (fr x) w := fun listed x w hz hS hV h =>
    hfin x w hS fun i hi => hV i (all_of_none (fun i o h => (hput i o h).back) hz h i hi)
  intro fuel
  induction fuel with
  | zero =>
    intro listed x w hz hc hS hV
    have hall : listed.toList.count true = listed.toList.length := by
      have := List.count_le_length (a := true) (l := listed.toList)
      simp at this hc ⊢; omega
    have hr : Region.ready .any ops listed = [] := by
      cases h : Region.ready .any ops listed with
      | nil => rfl
      | cons i l =>
        have hi : i ∈ Region.ready .any ops listed := by rw [h]; simp
        obtain ⟨h0, o, ho, _⟩ := mem_ready.1 hi
        have hlt : i < listed.size := by rw [hz]; exact (Array.getElem?_eq_some_iff.1 ho).1
        have := List.count_eq_length.1 hall listed[i] (by simp)
        simp [hlt] at h0
        rw [h0] at this; cases this
    exact ⟨hr, hend listed x w hz hS hV hr⟩
  | succ fuel ih =>
    intro listed x w hz hc hS hV
    refine ⟨hend listed x w hz hS hV, fun i hi => ?_⟩
    obtain ⟨h0, o, ho, hdep⟩ := mem_ready.1 hi
    have hlt : i < listed.size := by rw [hz]; exact (Array.getElem?_eq_some_iff.1 ho).1
    have h0' : listed[i] = false := by simpa [hlt] using h0
    have H := hput i o ho
    have hK : ∀ v w', Rel w w' → Vals i v w' → wpAny P .any ops Q fuel (listed.setIfInBounds i true) ((fr x).put o.dst v) w' := fun v w' hr hv => by
      rw [H.put]
      refine ih _ _ _ (by simpa using hz) ?_ (hrel w w' hS hr) fun j hj => ?_
      · have : (listed.setIfInBounds i true).toList.count true = listed.toList.count true + 1 := by
          rw [Array.toList_setIfInBounds, List.count_set (by simpa using hlt)]
          simp [h0']
        omega
      · by_cases hji : j = i
        · subst hji; rw [upd_same]; exact hv
        · rw [upd_other x v hji]
          exact hval _ _ _ _ hS (hV j (by rw [getD_set_ne false (Ne.symm hji)] at hj; exact hj)) hr
    have := H.run x w hS (fun e he hb => hV e.on (hdep e he hb)) _ hK
    unfold wpOp
    simp only [ho]
    split
    · rename_i hw; rw [if_pos hw] at this; exact .inl this
    · rename_i hw; rw [if_neg hw] at this; exact this

theorem region_inv (fr : (Nat → Value) → Act) (S : World → Prop) (Rel : World → World → Prop) (Vals : Nat → Value → World → Prop) (x0 : Nat → Value) {id : Nat} {a : Act} {w : World}
    (hm : P.follows .mixedOrders = true) (ha : a = fr x0) (hS : S w.drew)
    (hrel : ∀ w w', S w → Rel w w' → S w') (hval : ∀ i v w w', S w → Vals i v w → Rel w w' → Vals i v w')
    (hops : AllAt (StepAt P fr S Rel Vals ops Q) 0 ops.toList)
    (hfin : ∀ x w, S w → (∀ i, i < ops.size → Vals i (x i) w) → Q .normal (fr x) w) : (Code.region id ops true).wp P Q a w := by
  subst ha
  refine wp_region_any hm ?_
  exact inv_any (fun i o h => by have := hops.get (i := i) (o := o) (by simpa using h); rwa [Nat.zero_add] at this) hrel hval hfin _ _ _ _ (by simp) (by simp) hS
    (fun i hi => by
      by_cases h : i < ops.size
      · simp [h] at hi
      · simp [h] at hi)
end
end Go.Proofs.YtdcfemojkdoakaaDoor
