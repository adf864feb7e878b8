/- slices.Backward over types; types.Var, types.Con, types.Fun. -/
import Derived.Test.YteoelcefjjmjiaaTyOwn
import Derived.Test.YteoelcefjjmjiaaTold
import Derived.Shelf.Abstract
import Derived.Shelf.RegionOpen
import Derived.OwnWalkIn
import Derived.TacticsInMore
import Derived.LoopNIn
import Derived.LoopIn
namespace Go.Proofs.Yteoelcefjjmjiaa
open Go.RowKit
attribute [local go_sem] Oper.semAt_some

theorem block_kept {W W' : World} {row : Option Nat} {b : Nat} {c : Array Value} {t : TypeId} {m : Nat × Nat} (h : W.heap[b]? = some (.cells c t m)) (hg : W.grownBy W' row)
    (hr : ∀ r, row = some r → ∃ o : Obj, W.heap[r]? = some o ∧ o.isCells = false) : W'.heap[b]? = some (.cells c t m) := by
  refine (hg.block b (Array.getElem?_eq_some_iff.1 h).1 fun e => ?_).trans h
  obtain ⟨o, ho, hc⟩ := hr b e.symm
  rw [h] at ho; cases ho; cases hc
theorem tyIn_kept {ok : Nat → Prop} {W W' : World} {row : Option Nat} {t : T} {v : Value} (h : TyIn ok W t v) (hg : W.grownBy W' row)
    (hr : ∀ r, row = some r → ∃ o : Obj, W.heap[r]? = some o ∧ o.isCells = false) : TyIn ok W' t v := h.keep fun _ _ _ _ hh => block_kept hh hg hr
theorem tysAt_kept {W W' : World} {row : Option Nat} {l : List T} {v : Value} (h : TysAt W v l) (hg : W.grownBy W' row)
    (hr : ∀ r, row = some r → ∃ o : Obj, W.heap[r]? = some o ∧ o.isCells = false) : TysAt W' v l := h.keep fun _ _ _ hh => block_kept hh hg hr

def noT : T := .var ⟨#[]⟩
def encT (l : List T) (pa : Nat → Option Addr) (ca : Nat → Nat) (i : Nat) : Array Value := #[.int .i64 (i : Int), .agg #[.int .i64 (l.getD i noT).kind, .string (l.getD i noT).name, .slice (pa i) (l.getD i noT).kids.length (ca i)]]
theorem range_back (m n : Nat) (pre : List Nat) (h : pre ++ (List.range (m + 1)).reverse = (List.range n).reverse) : (pre ++ [m]) ++ (List.range m).reverse = (List.range n).reverse := by
  rw [← h, List.range_succ]; simp
/-- The cells of a row of types. -/
def RowC (w : World) (a : Option Addr) (g cap : Nat) (l : List T) (pa : Nat → Option Addr) (ca : Nat → Nat) : Prop :=
  ∀ i, i < l.length → (a = some ⟨g, 0, none⟩ ∧ l.length ≤ cap) ∧ w.cell? ⟨g, i * 3, none⟩ = some (.int .i64 (l.getD i noT).kind) ∧ w.cell? ⟨g, i * 3 + 1, none⟩ = some (.string (l.getD i noT).name) ∧ w.cell? ⟨g, i * 3 + 2, none⟩ = some (.slice (pa i) (l.getD i noT).kids.length (ca i))
theorem RowC.keep {w W : World} {a : Option Addr} {g cap : Nat} {l : List T} {pa : Nat → Option Addr} {ca : Nat → Nat} (h : RowC w a g cap l pa ca) (hk : ∀ o u, w.cell? ⟨g, o, none⟩ = some u → W.cell? ⟨g, o, none⟩ = some u) : RowC W a g cap l pa ca := fun i hi => by
  obtain ⟨e1, e2, e3, e4⟩ := h i hi
  exact ⟨e1, hk _ _ e2, hk _ _ e3, hk _ _ e4⟩
theorem TysAt.rowC {w : World} {a : Option Addr} {c : Nat} {l : List T} (h : TysAt w (.slice a l.length c) l) : ∃ g pa ca, (l = [] ∨ g < w.heap.size) ∧ RowC w a g c l pa ca ∧ ∀ i, i < l.length → TysAt w (.slice (pa i) (l.getD i noT).kids.length (ca i)) (l.getD i noT).kids := by
  by_cases h0 : l = []
  · subst h0
    exact ⟨0, fun _ => none, fun _ => 0, .inl rfl, fun i hi => by simp at hi, fun i hi => by simp at hi⟩
  · obtain ⟨g, cap, e, hg, hc, hr⟩ := h.row h0
    cases e
    have : ∀ i, ∃ a' c', ∀ (hi : i < l.length), (w.cell? ⟨g, i * 3, none⟩ = some (.int .i64 l[i].kind) ∧ w.cell? ⟨g, i * 3 + 1, none⟩ = some (.string l[i].name) ∧ w.cell? ⟨g, i * 3 + 2, none⟩ = some (.slice a' l[i].kids.length c')) ∧ TysAt w (.slice a' l[i].kids.length c') l[i].kids := fun i => by
      by_cases hi : i < l.length
      · obtain ⟨a', c', h1, h2, h3, h4⟩ := hr i hi
        exact ⟨a', c', fun _ => ⟨⟨h1, h2, h3⟩, h4⟩⟩
      · exact ⟨none, 0, fun h => absurd h hi⟩
    refine ⟨g, fun i => (this i).choose, fun i => (this i).choose_spec.choose, .inr hg, fun i hi => ?_, fun i hi => ?_⟩
    · obtain ⟨⟨h1, h2, h3⟩, _⟩ := (this i).choose_spec.choose_spec hi
      have e : l.getD i noT = l[i] := by simp [List.getD, hi]
      rw [e]
      exact ⟨⟨rfl, hc⟩, h1, h2, h3⟩
    · have e : l.getD i noT = l[i] := by simp [List.getD, hi]
      rw [e]
      exact ((this i).choose_spec.choose_spec hi).2

set_option maxRecDepth 100000 in
set_option maxHeartbeats 2000000 in
theorem backT_told (n : Nat) (hn : 1 ≤ n) (l : List T) (hl : l.length ≤ 1000000000) (a : Option Addr) (cap g Bn : Nat) (pa : Nat → Option Addr) (ca : Nat → Nat) (w : World) (hBn : w.cell? ⟨Bn, 0, none⟩ = some (.slice a l.length cap))
    (hrow : RowC w a g cap l pa ca) :
    SeqTold n Try.prog 48 #[.pointer (some ⟨Bn, 0, none⟩)] (encT l pa ca) (fun i _ => i < l.length) (fun k => k = Bn ∨ k = g) (fun xs => xs = (List.range l.length).reverse) (fun _ => True) (l.length + 1) w := by
  intro ly J Jx W hW hY h0
  have hBW : W.cell? ⟨Bn, 0, none⟩ = some (.slice a l.length cap) := (hW.cell (p := ⟨Bn, 0, none⟩) (World.block_lt_of_cell? _ _ hBn)).trans hBn
  have hrW : RowC W a g cap l pa ca := hrow.keep fun o u hu => (hW.cell (p := ⟨g, o, none⟩) (World.block_lt_of_cell? _ _ hu)).trans hu
  have HRW := Lib.hid hrW
  clear hBn hrow hrW
  refine callsIn_of_wp Try.func48 rfl trivial ?_ rfl
  simp only [Try.ntmps48, List.size_toArray, List.length_cons, List.length_nil, Nat.reduceAdd, Nat.reduceSub, Array.replicate_succ, Array.replicate_zero, List.push_toArray, List.append_toArray, List.nil_append, List.cons_append]
  gi_wp2
  gi_loopw [3] (fun vi wr => ∃ (m : Nat) (pre : List Nat), vi = .int .i64 ((m : Int) - 1) ∧ (m ≤ l.length ∧ pre.length + m = l.length) ∧ Hid (pre ++ (List.range m).reverse = (List.range l.length).reverse) ∧ J pre wr ∧
      wr.cell? ⟨Bn, 0, none⟩ = some (.slice a l.length cap) ∧ Hid (RowC wr a g cap l pa ca)) (fun vi _ => (intOf vi + 1).toNat)
  case atStart => exact ⟨l.length, [], rfl, ⟨Nat.le_refl _, by simp⟩, Lib.hid (by simp), h0, hBW, HRW⟩
  case round =>
    obtain ⟨m, pre, rfl, ⟨hm, hpl⟩, hpre, hJ, hBr, hRr⟩ := hrel
    by_cases hpos : 0 < m
    · obtain ⟨m', rfl⟩ : ∃ m', m = m' + 1 := ⟨m - 1, by omega⟩
      have hI : ((m' + 1 : Nat) : Int) - 1 = (m' : Int) := by omega
      obtain ⟨⟨rfl, hcap⟩, hcell0, hcell1, hcell2⟩ := hRr.out m' (by omega)
      obtain ⟨fn, tmps, assign, body, hy, hR⟩ := hY pre m' wr wr hJ (by omega) (Below.refl _ _) (by omega)
      dsimp only [encT] at hy
      rw [hI]
      have hlt1 : (m' : Int) < (l.length : Int) := by omega
      have hge1 : (0 : Int) ≤ (m' : Int) := by omega
      have HPre := Lib.hid (range_back m' l.length pre hpre.out)
      obtain ⟨t, ht⟩ : ∃ t, l.getD m' noT = t := ⟨_, rfl⟩
      rw [ht] at hcell0 hcell1 hcell2 hy
      clear hY hI ht hBW HRW hpre
      gi_wp2
      refine hR.mono ?_
      clear hR hy
      rintro e W3 (⟨rfl, hJ3, hk3⟩ | ⟨rfl, hJx3⟩)
      · have hbl : ∀ (b o : Nat) (u : Value), b = Bn ∨ b = g → wr.cell? ⟨b, o, none⟩ = some u → W3.cell? ⟨b, o, none⟩ = some u := fun b o u hb hu => by
          have q1 := World.block_lt_of_cell? _ _ hu
          have q3 := hk3.block b (.inr hb) q1
          exact (World.cell?_of_block (a := ⟨b, o, none⟩) q3).trans hu
        have cB := hbl Bn 0 _ (.inl rfl) hBr
        have CR := Lib.hid (hRr.out.keep fun o u hu => hbl g o u (.inr rfl) hu)
        clear hbl hk3
        gi_wp2
        go_roundw
        case rel => exact ⟨m', pre ++ [m'], by go_num, ⟨by omega, by simp; omega⟩, HPre, hJ3, cB, CR⟩
        case measure => simp [intOf]
      · gi_wp2
        refine bodyPost_ret (results_none rfl _ _ _) rfl ⟨⟨_, rfl⟩, .inr ⟨_, trivial, hJx3⟩⟩
    · obtain rfl : m = 0 := by omega
      clear hY hBW HRW
      gi_wp2
      go_end0
      exact ⟨⟨_, rfl⟩, .inl ⟨pre, by have := hpre.out; simpa using this, hJ⟩⟩

set_option maxHeartbeats 1000000 in
theorem backwardT_any (a : Option Addr) (n c : Nat) (w : World) : Calls Try.prog 42 #[.slice a n c] w fun e w' => e = .returned (.func (.func 48) #[] #[.pointer (some ⟨w.heap.size, 0, none⟩)]) ∧ w.alloc (.cells #[.slice a n c] 27) = w' := by
  go_enter Try.func42, Try.ntmps42
  go_wp2
  go_ret
  exact ⟨rfl, rfl⟩

set_option maxHeartbeats 1000000 in
theorem tvar_any (n : ByteArray) (w : World) :
    Calls Try.prog 26 #[.string n] w fun e w' => e = .returned (tyV (.var n) (.slice none 0 0)) ∧ Below w.heap.size w w' := by
  go_enter Try.func26, Try.ntmps26
  go_wp2
  refine bodyPost_ret (v := tyV (.var n) (.slice none 0 0)) (by simp [results, Try.results26, go_sem, tyV, T.kind, T.name]) rfl ⟨rfl, (Below.refl _ w).alloc (Nat.le_refl _) _⟩

set_option maxHeartbeats 1000000 in
theorem tcon_any (n : ByteArray) (l : List T) (v : Value) (w : World) (hs : tsizes l + 1 ≤ 1000000000) (h : TysAt w v l) :
    Calls Try.prog 23 #[.string n, v] w fun e w' => (∃ a c, e = .returned (tyV (.con n l) (.slice a l.length c)) ∧ TyIn (fun k => w.heap.size < k) w' (.con n l) (.slice a l.length c)) ∧ Below w.heap.size w w' := by
  obtain ⟨a, c, rfl⟩ := h.shape
  have HO := Lib.hid (fun (o : Obj) => own_any (t := .con n l) (w := w.alloc o) (by rw [tsize_eq]; simp only [T.kids]; omega) (h.keep (keepT_alloc w o)))
  have HB := Lib.hid (fun (o : Obj) => (Below.refl _ w).alloc (Nat.le_refl _) o)
  clear h
  simp only [tyV, show (T.con n l).kind = 2 from rfl, show (T.con n l).name = n from rfl, show (T.con n l).kids = l from rfl] at HO ⊢
  go_enter Try.func23, Try.ntmps23
  go_wp2_with (go_at_call 31; refine (HO.out _).mono ?_)
  rintro e w2 ⟨⟨a', c', rfl, h1⟩, h2⟩
  have hz : w2.heap[w.heap.size]? = some (.cells #[.int .i64 0, .string ⟨#[]⟩, .slice none 0 0] 29 (0, 0)) := (h2.block _ (by simp)).trans (alloc_new w _)
  obtain ⟨c0, c1, c2⟩ := three_cells hz
  have f0 := Lib.frozen_of_heap hz 0
  have f1 := Lib.frozen_of_heap hz 1
  have f2 := Lib.frozen_of_heap hz 2
  have hlt := (Array.getElem?_eq_some_iff.1 hz).1
  have HZ := Lib.hid hz; have H1 := Lib.hid h1; have H2 := Lib.hid h2
  clear hz h1 h2
  go_wp2
  refine bodyPost_ret (v := .agg #[.int .i64 2, .string n, .slice a' l.length c']) (by have hc := three_cells (set3_block HZ.out (.int .i64 2) (.string n) (.slice a' l.length c')); simp [results, Try.results23, go_sem, hc.1, hc.2.1, hc.2.2]) rfl ⟨⟨a', c', rfl, ?_⟩, ?_⟩
  · refine (H1.out.keep fun k cs fz hk hh => ?_).mono fun k hk => by simp at hk; omega
    have hk' : k ≠ w.heap.size := by simp at hk; omega
    exact (Below.heap_setCell _ ⟨w.heap.size, 2, none⟩ _ k hk').trans ((Below.heap_setCell _ ⟨w.heap.size, 1, none⟩ _ k hk').trans ((Below.heap_setCell _ ⟨w.heap.size, 0, none⟩ _ k hk').trans hh))
  · exact ((((HB.out _).trans (H2.out.mono (by simp))).setCell (p := ⟨w.heap.size, 0, none⟩) (Nat.le_refl _) _).setCell (p := ⟨w.heap.size, 1, none⟩) (Nat.le_refl _) _).setCell (p := ⟨w.heap.size, 2, none⟩) (Nat.le_refl _) _
end Go.Proofs.Yteoelcefjjmjiaa
