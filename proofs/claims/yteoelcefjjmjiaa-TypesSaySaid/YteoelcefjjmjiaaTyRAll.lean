/- The document's parts of a type, as a row. -/
import Derived.Test.YteoelcefjjmjiaaTyAll
import Derived.Test.YteoelcefjjmjiaaTyRVars
namespace Go.Proofs.Yteoelcefjjmjiaa
open Go.RowKit
attribute [local go_sem] Oper.semAt_some

/-- The cells of a row of types. -/
def cellsOf (l : List Tl) : List Value := l.flatMap (fun x => [.int .i64 x.1.kind, .string x.1.name, .slice x.2.1 x.1.kids.length x.2.2])
theorem cellsOf_nil : cellsOf [] = [] := rfl
theorem cellsOf_append (l m : List Tl) : cellsOf (l ++ m) = cellsOf l ++ cellsOf m := by simp [cellsOf]
theorem cellsOf_one (x : Tl) : cellsOf [x] = [.int .i64 x.1.kind, .string x.1.name, .slice x.2.1 x.1.kids.length x.2.2] := by simp [cellsOf]
theorem cellsOf_cons (x : Tl) (l : List Tl) : cellsOf (x :: l) = [.int .i64 x.1.kind, .string x.1.name, .slice x.2.1 x.1.kids.length x.2.2] ++ cellsOf l := by simp [cellsOf]
theorem cellsOf_len (l : List Tl) : (cellsOf l).length = l.length * 3 := by
  induction l with
  | nil => rfl
  | cons x l ih => rw [show x :: l = [x] ++ l from rfl, cellsOf_append, List.length_append, ih, cellsOf_one]; simp; omega
theorem cellsOf_at (l : List Tl) (i : Nat) (h : i < l.length) : (cellsOf l)[i * 3]? = some (.int .i64 l[i].1.kind) ∧ (cellsOf l)[i * 3 + 1]? = some (.string l[i].1.name) ∧ (cellsOf l)[i * 3 + 2]? = some (.slice l[i].2.1 l[i].1.kids.length l[i].2.2) := by
  induction l generalizing i with
  | nil => cases h
  | cons x l ih =>
    rw [cellsOf_cons]
    cases i with
    | zero => exact ⟨rfl, rfl, rfl⟩
    | succ i =>
      have := ih i (by simpa using h)
      rw [show (i + 1) * 3 = i * 3 + 3 by omega, List.getElem?_append_right (by simp), List.getElem?_append_right (by simp), List.getElem?_append_right (by simp)]
      simp only [List.length_cons, List.length_nil, List.getElem_cons_succ]
      rw [show i * 3 + 3 - (0 + 1 + 1 + 1) = i * 3 by omega, show i * 3 + 3 + 1 - (0 + 1 + 1 + 1) = i * 3 + 1 by omega, show i * 3 + 3 + 2 - (0 + 1 + 1 + 1) = i * 3 + 2 by omega]
      exact this
theorem cellsOf_cell (l : List Tl) : ∀ u ∈ cellsOf l, u.oneCell' = true := by
  intro u hu
  simp only [cellsOf, List.mem_flatMap] at hu
  obtain ⟨x, _, hx⟩ := hu
  simp only [List.mem_cons, List.not_mem_nil, or_false] at hx
  rcases hx with rfl | rfl | rfl <;> rfl
theorem own_some {W : World} {B : Nat} {e : TypeId} {size n : Nat} {v : Value} {xs : List Value} (h : W.ownsRow B e size v n xs) (h0 : 0 < n) : ∃ g cap, v = .slice (some ⟨g, 0, none⟩) n cap := by
  rcases h.2 with ⟨_, h1⟩ | ⟨g, cap, _, h1, _⟩
  · omega
  · exact ⟨g, cap, h1⟩
theorem own_cells {W : World} {B : Nat} {e : TypeId} {size n : Nat} {v : Value} {xs : List Value} {g cap : Nat} (h : W.ownsRow B e size v n xs) (hv : v = .slice (some ⟨g, 0, none⟩) n cap) : ∀ j u, xs[j]? = some u → W.cell? ((⟨g, 0, none⟩ : Addr).add j) = some u := by
  intro j u hu
  rcases h.2 with ⟨e1, _⟩ | ⟨g', cap', cur, e1, _, hg, _, _, _, htk⟩
  · rw [hv] at e1; cases e1
  · rw [hv] at e1
    cases e1
    have hadd : (⟨g, 0, none⟩ : Addr).add j = ⟨g, j, none⟩ := by unfold Addr.add; split <;> simp_all
    rw [hadd, Lib.cell_of_heap hg]
    rw [← htk, List.getElem?_take] at hu
    split at hu
    · simpa using hu
    · cases hu
theorem tys_of_row {W : World} {B : Nat} {v : Value} {xs : List Tl} (h : W.ownsRow B 29 3 v xs.length (cellsOf xs)) (hk : ∀ x ∈ xs, TysAt W (.slice x.2.1 x.1.kids.length x.2.2) x.1.kids) : TysAt W v (xs.map (·.1)) := by
  rcases h.2 with ⟨rfl, h0⟩ | ⟨g, cap, cur, rfl, _, hg, hc, _, hsz, htk⟩
  · exact .inl ⟨by simpa using h0, none, 0, rfl⟩
  · have hat : ∀ j, j < xs.length * 3 → cur[j]? = (cellsOf xs)[j]? := fun j hj => by
      rw [← htk, List.getElem?_take, if_pos hj, Array.getElem?_toList]
    refine .inr ⟨g, cap, cur, _, fun i => if h : i < xs.length then .int .i64 xs[i].1.kind else undef, fun i => if h : i < xs.length then .string xs[i].1.name else undef, fun i => if h : i < xs.length then .slice xs[i].2.1 xs[i].1.kids.length xs[i].2.2 else undef, by simp, hg, by simpa using hc, fun i hi => ?_, fun i hi => ?_⟩
    · have hi' : i < xs.length := by simpa using hi
      obtain ⟨e1, e2, e3⟩ := cellsOf_at xs i hi'
      simp only [dif_pos hi']
      exact ⟨(hat _ (by omega)).trans e1, (hat _ (by omega)).trans e2, (hat _ (by omega)).trans e3⟩
    · have hi' : i < xs.length := by simpa using hi
      simp only [dif_pos hi', List.getElem_map]
      exact TyAt.mk _ (hk _ (List.getElem_mem hi'))

def RAllOK (t : T) : Prop := ∀ (K : Nat → Prop) (a : Option Addr) (c : Nat) (w : World), (∀ k, K k → k < w.heap.size) → TyIn K w t (.slice a t.kids.length c) → tsize t ≤ 1000000 →
    Calls Try.prog 18 #[tyV t (.slice a t.kids.length c)] w fun e w' => (∃ v, e = .returned v ∧ ∃ xs : List Tl, (xs.map (·.1) = parts t ∧ ∀ x ∈ xs, TyIn K w x.1 (.slice x.2.1 x.1.kids.length x.2.2)) ∧ w'.ownsRow w.heap.size 29 3 v xs.length (cellsOf xs)) ∧ Below w.heap.size w w'

/-- What the loop keeps. -/
def RAllI (K : Nat → Prop) (w : World) (l : List T) (v : Value) (n : Nat) (wr : World) : Prop := (∃ xs : List Tl, (xs.map (·.1) = l ∧ ∀ x ∈ xs, TyIn K w x.1 (.slice x.2.1 x.1.kids.length x.2.2)) ∧ n = xs.length ∧ wr.ownsRow (w.heap.size + 1) 29 3 v xs.length (cellsOf xs)) ∧ Below w.heap.size w wr

set_option maxHeartbeats 4000000 in
theorem rall_step (t : T) (H : ∀ k ∈ t.kids, RAllOK k) : RAllOK t := by
  intro K a c w hK ht hs
  have hz := tsize_eq t
  have hlen := len_sizes' t.kids
  have HR := Lib.hid ht.part
  have HS := Lib.hid H
  have HT := Lib.hid ht
  have HK := Lib.hid hK
  obtain ⟨i0, hi, hz0, hz1, hz2⟩ := info_parts Try.infoTy
  clear H ht hK
  simp only [tyV]
  go_enter Try.func18, Try.ntmps18
  go_wp2
  go_loopw [3, 4] (fun vo vi wr => ∃ (i n d : Nat) (b : Option Addr), i ≤ t.kids.length ∧ vi = .int .i64 i ∧ vo = .slice b n d ∧ Hid (RAllI K w (t :: partss (t.kids.take i)) (.slice b n d) n wr) ∧ Hid (wr.heap[w.heap.size]? = some (.cells #[.int .i64 t.kind, .string t.name, .slice a t.kids.length c] 29 (0, 0)))) (fun _ vi _ => t.kids.length - (intOf vi).toNat)
  case atStart =>
    refine ⟨0, 1, 1, _, Nat.zero_le _, rfl, rfl, Lib.hid ⟨⟨[(t, a, c)], ⟨by simp [partss], fun x hx => by simp at hx; subst hx; exact HT.out⟩, rfl, ?_⟩, ((Below.refl _ w).alloc (Nat.le_refl _) _).alloc (by simp) _⟩, Lib.hid ((Below.heap_alloc _ _ _ (by simp)).trans (alloc_new w _))⟩
    refine ⟨rfl, .inr ⟨w.heap.size + 1, 1, #[.int .i64 t.kind, .string t.name, .slice a t.kids.length c], rfl, Nat.le_refl _, ?_, Nat.le_refl _, by unfold maxLen; omega, rfl, ?_⟩⟩
    · have := alloc_new (w.alloc (.cells #[.int .i64 t.kind, .string t.name, .slice a t.kids.length c] 29)) (.cells #[.int .i64 t.kind, .string t.name, .slice a t.kids.length c] 29)
      simpa using this
    · rw [cellsOf_one]; rfl
  case round =>
    obtain ⟨i, n, d, b, hi', rfl, rfl, hF, hBox⟩ := hrel
    obtain ⟨b0, b1, b2⟩ := three_cells hBox.out
    by_cases hlt : i < t.kids.length
    · obtain ⟨⟨xs, ⟨hx1, hx2⟩, rfl, hrow⟩, hBl⟩ := hF.out
      obtain ⟨g, pa, ca, rfl, hcap, hr⟩ := HR.out i hlt
      obtain ⟨⟨hg, x0, x1, x2⟩, xk⟩ := hr wr (fun k hk hx => hBl.block k hx)
      have hsz := tsizes_take t.kids i hlt
      have hkk := size_mem' (List.getElem_mem hlt)
      have hxl : xs.length = 1 + tsizes (t.kids.take i) := by
        have := congrArg List.length hx1
        simp only [List.length_map, List.length_cons, partss_len] at this
        omega
      have hpt := partss_take t.kids i hlt
      have hpl := parts_len t.kids[i]
      have HC := Lib.hid (HS.out t.kids[i] (List.getElem_mem hlt) K pa ca wr (fun k hk => Nat.lt_of_lt_of_le (HK.out k hk) hBl.size) xk (by omega))
      have HX1 := Lib.hid hx1; have HX2 := Lib.hid hx2; have HRow := Lib.hid hrow; have HBl := Lib.hid hBl; have HPT := Lib.hid hpt; have HPL := Lib.hid hpl
      have hxs2 : xs.length + tsize t.kids[i] ≤ 1000000 := by omega
      clear hr xk hsz hkk HS HR hF hx1 hx2 hrow hBl hpt hpl hxl HT
      generalize t.kids[i] = u at x0 x1 x2 HC HPT HPL hxs2
      simp only [tyV] at HC
      have hlt1 : ((i : Int) < (t.kids.length : Int)) := by omega
      go_wp2_with (first
        | (go_at_call 18; refine HC.out.mono ?_; rintro e w2 ⟨⟨v2, rfl, ys, ⟨hy1, hy2⟩, hyr⟩, hb2⟩; have hyn : xs.length + ys.length ≤ 1000000 ∧ 0 < ys.length := (by have e : ys.length = tsize u := (by rw [← HPL.out, ← hy1]; simp); have := tsize_eq u; omega); obtain ⟨hyn1, hyn2⟩ := hyn; obtain ⟨ga, da, rfl⟩ := own_some hyr hyn2; have HY1 := Lib.hid hy1; have HY2 := Lib.hid hy2; have HYR := Lib.hid hyr; have HB2 := Lib.hid hb2; have HRow2 := Lib.hid (row_kept HRow.out fun k cs fz hk => (hb2.block k (Array.getElem?_eq_some_iff.1 hk).1).trans hk); have HBox2 := Lib.hid ((hb2.block _ (Array.getElem?_eq_some_iff.1 hBox.out).1).trans hBox.out); clear hy1 hy2 hyr hb2)
        | (at_builtin; refine wpList_append_own _ rfl _ _ 27 rfl (w.heap.size + 1) 29 i0 (.agg #[.int .i64 0, .string ⟨#[]⟩, .slice none 0 0]) 3 48 Try.underlying27 hi hz0 hz1 hz2 rfl (by decide) _ _ _ rfl HRow2.out ⟨ga, 0, none⟩ ys.length da (cellsOf ys) rfl (cellsOf_len ys) (own_cells HYR.out rfl) (cellsOf_cell ys) (by unfold maxLen; omega) (by omega) (by have := (Array.getElem?_eq_some_iff.1 HBox2.out).1; omega) ?_; intro v' w1 hown' hgrow _; obtain ⟨gb, gc, rfl⟩ := row_slice hown'; have HOW := Lib.hid hown'; have HBW := Lib.hid (below_grown0 (HBl.out.trans (HB2.out.mono HBl.out.size)) (own_base HRow2.out (Nat.le_succ _)) hgrow (by have := HBl.out.size; have := HB2.out.size; omega)); have HBox3 := Lib.hid (show w1.heap[w.heap.size]? = _ from ((hgrow.block w.heap.size (Array.getElem?_eq_some_iff.1 HBox2.out).1 (fun e => by have := (HRow2.out.lt _ e.symm).1; omega)).trans HBox2.out)); clear hown' hgrow))
      go_roundw
      case rel =>
        refine ⟨i + 1, _, gc, gb, by omega, by go_num, rfl, Lib.hid ⟨⟨xs ++ ys, ⟨?_, ?_⟩, by simp, ?_⟩, HBW.out⟩, HBox3⟩
        · rw [List.map_append, HX1.out, HY1.out, HPT.out]; simp
        · intro x hx
          rcases List.mem_append.1 hx with hx | hx
          · exact HX2.out x hx
          · exact (HY2.out x hx).keep fun k cs fz hk hh => (HBl.out.block k (HK.out k hk)).symm.trans hh
        · rw [cellsOf_append, List.length_append]; exact HOW.out
      case measure => simp [intOf]; omega
    · obtain rfl : i = t.kids.length := by omega
      rw [List.take_length, ← parts_eq] at hF
      clear HR HS HT HK
      go_wp2
      go_ret
      obtain ⟨⟨xs, h1, h2, h3⟩, h4⟩ := hF.out
      subst h2
      exact ⟨⟨_, rfl, xs, h1, own_base h3 (Nat.le_succ _)⟩, h4⟩
theorem rall_any {t : T} {v : Value} {w : World} (hs : tsize t ≤ 1000000) (h : TyIn (fun k => k < w.heap.size) w t v) :
    Calls Try.prog 18 #[tyV t v] w fun e w' => (∃ v, e = .returned v ∧ TysAt w' v (parts t)) ∧ Below w.heap.size w w' := by
  obtain ⟨a, c, rfl⟩ := h.shape
  refine (T.by_kids (P := RAllOK) rall_step t _ a c w (fun k hk => hk) h hs).mono ?_
  rintro e w' ⟨⟨v, rfl, xs, ⟨h1, h2⟩, h3⟩, h4⟩
  exact ⟨⟨v, rfl, by rw [← h1]; exact tys_of_row h3 fun x hx => (h2 x hx).tys.keep (KeepT.of_below h4)⟩, h4⟩
end Go.Proofs.Yteoelcefjjmjiaa
