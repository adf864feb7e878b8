/- The document's Apply. -/
import Derived.Test.YtmbaolcdjgilpaaSbRGet
import Derived.Test.YtmbaolcdjgilpaaSbNext
import Derived.Deep.AppendLies
namespace Go.Proofs.Ytmbaolcdjgilpaa
open Go.RowKit Go.Sort Go.Lib
attribute [local go_sem] Oper.semAt_some

/-- A type, where its row lies. -/
abbrev Tl := T × Option Addr × Nat
/-- The cells of a row of types. -/
def cellsOf (l : List Tl) : List Value := l.flatMap (fun x => [.int .i64 x.1.kind, .string x.1.name, .slice x.2.1 x.1.kids.length x.2.2])
theorem cellsOf_snoc (l : List Tl) (x : Tl) : cellsOf (l ++ [x]) = cellsOf l ++ [.int .i64 x.1.kind, .string x.1.name, .slice x.2.1 x.1.kids.length x.2.2] := by simp [cellsOf]
theorem cellsOf_cons (x : Tl) (l : List Tl) : cellsOf (x :: l) = [.int .i64 x.1.kind, .string x.1.name, .slice x.2.1 x.1.kids.length x.2.2] ++ cellsOf l := by simp [cellsOf]
theorem cellsOf_at (l : List Tl) (i : Nat) (h : i < l.length) : (cellsOf l)[i * 3]? = some (.int .i64 l[i].1.kind) ∧ (cellsOf l)[i * 3 + 1]? = some (.string l[i].1.name) ∧ (cellsOf l)[i * 3 + 2]? = some (.slice l[i].2.1 l[i].1.kids.length l[i].2.2) := by
  induction l generalizing i with
  | nil => cases h
  | cons x l ih =>
    rw [cellsOf_cons]
    cases i with
    | zero => exact ⟨rfl, rfl, rfl⟩
    | succ i =>
      have := ih i (by simpa using h)
      rw [show (i + 1) * 3 = i * 3 + 3 by omega, List.getElem?_append_right (by simp), List.getElem?_append_right (by simp), List.getElem?_append_right (by simp)]
      simp only [List.length_cons, List.length_nil, List.getElem_cons_succ]
      rw [show i * 3 + 3 - (0 + 1 + 1 + 1) = i * 3 by omega, show i * 3 + 3 + 1 - (0 + 1 + 1 + 1) = i * 3 + 1 by omega, show i * 3 + 3 + 2 - (0 + 1 + 1 + 1) = i * 3 + 2 by omega]
      exact this
/-- A row of types out of its cells, in blocks that are ok. -/
theorem in_of_row {ok : Nat → Prop} {W : World} {B : Nat} {v : Value} {xs : List Tl} {t : T} (ht : t.kids = xs.map (·.1)) (h : W.ownsRow B 34 3 v xs.length (cellsOf xs)) (hv : ∀ g, v.ownBlock = some g → ok g) (hk : ∀ x ∈ xs, TyIn ok W x.1 (.slice x.2.1 x.1.kids.length x.2.2)) : TyIn ok W t v := by
  have hlen : t.kids.length = xs.length := by rw [ht]; simp
  rcases h.2 with ⟨rfl, h0⟩ | ⟨g, cap, cur, rfl, _, hg, hc, _, hsz, htk⟩
  · exact .leaf t none 0 (List.length_eq_zero_iff.1 (hlen.trans h0))
  · have hat : ∀ j, j < xs.length * 3 → cur[j]? = (cellsOf xs)[j]? := fun j hj => by
      rw [← htk, List.getElem?_take, if_pos hj, Array.getElem?_toList]
    rw [← hlen]
    refine .row t g cap cur (0, 0) (fun i => if h : i < xs.length then .slice xs[i].2.1 xs[i].1.kids.length xs[i].2.2 else undef) (hv g rfl) hg (by omega) (fun i hi => ?_) (fun i hi => ?_)
    · have hi' : i < xs.length := by omega
      obtain ⟨e1, e2, e3⟩ := cellsOf_at xs i hi'
      have ek : t.kids[i] = xs[i].1 := by simp [ht]
      simp only [dif_pos hi', ek]
      exact ⟨(hat _ (by omega)).trans e1, (hat _ (by omega)).trans e2, (hat _ (by omega)).trans e3⟩
    · have hi' : i < xs.length := by omega
      have ek : t.kids[i] = xs[i].1 := by simp [ht]
      simp only [dif_pos hi', ek]
      exact hk _ (List.getElem_mem hi')
/-- A part of a row. -/
theorem TyIn.part {K : Nat → Prop} {X : World} {t : T} {a : Option Addr} {c : Nat} (h : TyIn K X t (.slice a t.kids.length c)) (i : Nat) (hi : i < t.kids.length) : ∃ g pa ca, a = some ⟨g, 0, none⟩ ∧ t.kids.length ≤ c ∧ ∀ W, KeepK K X W → (g < W.heap.size ∧ W.cell? ⟨g, i * 3, none⟩ = some (.int .i64 t.kids[i].kind) ∧ W.cell? ⟨g, i * 3 + 1, none⟩ = some (.string t.kids[i].name) ∧ W.cell? ⟨g, i * 3 + 2, none⟩ = some (.slice pa t.kids[i].kids.length ca)) ∧ TyIn K W t.kids[i] (.slice pa t.kids[i].kids.length ca) := by
  obtain ⟨v, hv⟩ : ∃ v, v = Value.slice a t.kids.length c := ⟨_, rfl⟩
  rw [← hv] at h
  cases h with
  | leaf _ _ _ h0 => rw [h0] at hi; cases hi
  | row _ g cap cs fz z h0 h1 h2 h3 h4 =>
    cases hv
    obtain ⟨pa, ca, e⟩ := (h4 i hi).shape
    obtain ⟨c1, c2, c3⟩ := h3 i hi
    rw [e] at c3
    refine ⟨g, pa, ca, rfl, h2, fun W hk => ?_⟩
    have hW := (hk g h0 (Array.getElem?_eq_some_iff.1 h1).1).trans h1
    refine ⟨⟨(Array.getElem?_eq_some_iff.1 hW).1, ?_, ?_, ?_⟩, ?_⟩
    · simp only [World.cell?, hW]; simpa using c1
    · simp only [World.cell?, hW]; simpa using c2
    · simp only [World.cell?, hW]; simpa using c3
    · rw [← e]; exact (h4 i hi).keepK hk

/-- The pairs that the document's Apply is handed: their types' rows lie ahead of N. -/
def Src4 (N : Nat) (v : Value) (d : List PR) (w : World) : Prop := GivenG 47 v d w ∧ (∀ x ∈ d, TyIn (fun k => k < N) w x.t (.slice x.a x.t.kids.length x.c)) ∧ N ≤ w.heap.size
theorem Src4.below {N : Nat} {v : Value} {d : List PR} {w W : World} (h : Src4 N v d w) (hb : Below w.heap.size w W) : Src4 N v d W :=
  ⟨h.1.below hb, fun x hx => (h.2.1 x hx).keep fun k _ _ hk hh => (hb.block k (by have := h.2.2; omega)).trans hh, Nat.le_trans h.2.2 hb.size⟩
def RApp (d : List PR) (t : T) : Prop := ∀ (N : Nat) (v : Value) (a : Option Addr) (c : Nat) (w : World), Src4 N v d w → TyIn (fun k => k < N) w t (.slice a t.kids.length c) → tsize t ≤ 1000000 →
    Calls Try.prog 13 #[v, tyV t (.slice a t.kids.length c)] w fun e w' => (∃ a' c', e = .returned (tyV (app d t) (.slice a' (app d t).kids.length c')) ∧ TyIn (fun k => k < N ∨ w.heap.size ≤ k) w' (app d t) (.slice a' (app d t).kids.length c')) ∧ Below w.heap.size w w'

set_option maxHeartbeats 4000000 in
theorem rapp_var (d : List PR) (hl : d.length < 1000000) (n : ByteArray) : RApp d (.var n) := by
  intro N v a c w hs ht hz
  have HG := Lib.hid (fun (V : World) (hb : Below w.heap.size w V) => rget_any v d n V (hs.1.below hb) (by omega))
  have HS := Lib.hid hs
  obtain ⟨av, cv, rfl, _⟩ := hs.1.shape
  have HB2 := Lib.hid (fun o1 o2 => below_two w o1 o2)
  have e0 : (T.var n).kids.length = 0 := rfl
  have e1 : (T.var n).kind = 1 := rfl
  have e2 : (T.var n).name = n := rfl
  obtain ⟨res, hres⟩ : ∃ r, lk n d = r := ⟨_, rfl⟩
  have HRes := Lib.hid hres
  have hap : app d (.var n) = ((res.map PR.t).getD (.var n)) := by rw [app_v]; unfold ty; rw [hres]
  rw [hap]
  simp only [tyV, e0, e1, e2]
  clear hs ht hz hap e0 e1 e2
  rw [hres] at HG
  clear hres
  go_enter Try.func13, Try.ntmps13
  cases res with
  | none =>
    simp only [fv', Option.isSome_none, Option.map_none, Option.getD_none] at HG ⊢
    go_wp2_with (go_at_call 33; refine (HG.out _ (HB2.out _ _)).mono ?_)
    rintro e w2 ⟨rfl, hb2⟩
    have hbw : Below w.heap.size w w2 := (HB2.out _ _).trans (hb2.mono (by simp; omega))
    have hy := (hb2.block w.heap.size (by simp; omega)).trans ((Below.heap_alloc _ _ _ (by simp)).trans (alloc_new w _))
    have hz := (hb2.block (w.heap.size + 1) (by simp)).trans (new_two w _ _)
    obtain ⟨y0, y1, y2⟩ := three_cells hy
    obtain ⟨z0, z1, z2⟩ := three_cells hz
    have u0 := Lib.frozen_of_heap hz 0
    have u1 := Lib.frozen_of_heap hz 1
    have u2 := Lib.frozen_of_heap hz 2
    have ly := (Array.getElem?_eq_some_iff.1 hy).1
    have lz := (Array.getElem?_eq_some_iff.1 hz).1
    have HB := Lib.hid hbw
    have HZ := Lib.hid hz
    have lW : w.heap.size < w2.heap.size := by omega
    clear hb2 hbw hy hz HG
    go_wp2
    have hs3 := set3_block HZ.out (.int .i64 1) (.string n) (.slice a 0 c)
    have hc := three_cells ((Below.heap_alloc _ (.cells #[.int .i64 0, .string ⟨#[]⟩, .slice none 0 0] 34) _ (Array.getElem?_eq_some_iff.1 hs3).1).trans hs3)
    exact bodyPost_ret (v := .agg #[.int .i64 1, .string n, .slice a 0 c]) (by simp [results, Try.results13, go_sem, hc.1, hc.2.1, hc.2.2]) rfl ⟨⟨a, c, rfl, .leaf _ _ _ rfl⟩, (below_set3 HB.out (Nat.le_succ _) _ _ _).alloc (by have := HB.out.size; simp; omega) _⟩
  | some x =>
    simp only [fv', Option.isSome_some, Option.map_some, Option.getD_some] at HG ⊢
    have HX := Lib.hid (HS.out.2.1 x (lk_name HRes.out).1)
    have HN := Lib.hid HS.out.2.2
    go_wp2_with (go_at_call 33; refine (HG.out _ (HB2.out _ _)).mono ?_)
    rintro e w2 ⟨rfl, hb2⟩
    have hbw : Below w.heap.size w w2 := (HB2.out _ _).trans (hb2.mono (by simp; omega))
    have hy := (hb2.block w.heap.size (by simp; omega)).trans ((Below.heap_alloc _ _ _ (by simp)).trans (alloc_new w _))
    have hz := (hb2.block (w.heap.size + 1) (by simp)).trans (new_two w _ _)
    obtain ⟨y0, y1, y2⟩ := three_cells hy
    obtain ⟨z0, z1, z2⟩ := three_cells hz
    have u0 := Lib.frozen_of_heap hz 0
    have u1 := Lib.frozen_of_heap hz 1
    have u2 := Lib.frozen_of_heap hz 2
    have ly := (Array.getElem?_eq_some_iff.1 hy).1
    have lz := (Array.getElem?_eq_some_iff.1 hz).1
    have HB := Lib.hid hbw
    have HZ := Lib.hid hz
    have lW : w.heap.size < w2.heap.size := by omega
    clear hb2 hbw hy hz HG
    go_wp2
    have hs3 := set3_block HZ.out (.int .i64 x.t.kind) (.string x.t.name) (.slice x.a x.t.kids.length x.c)
    have hc := three_cells ((Below.heap_alloc _ (.cells #[.int .i64 x.t.kind, .string x.t.name, .slice x.a x.t.kids.length x.c] 34) _ (Array.getElem?_eq_some_iff.1 hs3).1).trans hs3)
    refine bodyPost_ret (v := .agg #[.int .i64 x.t.kind, .string x.t.name, .slice x.a x.t.kids.length x.c]) (by simp [results, Try.results13, go_sem, hc.1, hc.2.1, hc.2.2]) rfl ⟨⟨x.a, x.c, rfl, ?_⟩, (below_set3 HB.out (Nat.le_succ _) _ _ _).alloc (by have := HB.out.size; simp; omega) _⟩
    refine (HX.out.keep fun k _ _ hk hh => ?_).mono fun k hk => .inl hk
    have hkw : k < w.heap.size := Nat.lt_of_lt_of_le hk HN.out
    exact (Below.heap_alloc _ _ k (by simp; omega)).trans ((set3_others _ _ _ (by omega)).trans ((HB.out.block k hkw).trans hh))
end Go.Proofs.Ytmbaolcdjgilpaa
