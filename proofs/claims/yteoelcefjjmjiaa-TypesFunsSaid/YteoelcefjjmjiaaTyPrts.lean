/- types.Parts: what Fun makes, taken apart: the loop. -/
import Derived.Test.YteoelcefjjmjiaaTyPrt
import Derived.Test.YteoelcefjjmjiaaMakeType
namespace Go.Proofs.Yteoelcefjjmjiaa
open Go.RowKit
attribute [local go_sem] Oper.semAt_some

theorem TyAt.inside {ok : Nat → Prop} {w : World} (hk : ∀ (k : Nat) (cs : Array Value) (fz : Nat × Nat), w.heap[k]? = some (.cells cs 29 fz) → ok k) {t : T} {k n v : Value} (h : TyAt w t k n v) : TyIn ok w t v := by
  induction h with
  | leaf t a c h => exact .leaf t a c h
  | row t g cap cs fz x y z h1 h2 h3 h4 ih =>
    refine .row t g cap cs fz z (hk _ _ _ h1) h1 h2 (fun i hi => ?_) ih
    obtain ⟨e1, e2, _⟩ := (h4 i hi).shape
    obtain ⟨c1, c2, c3⟩ := h3 i hi
    exact ⟨by rw [c1, e1], by rw [c2, e2], c3⟩
theorem TysAt.inside {ok : Nat → Prop} {w : World} (hk : ∀ (k : Nat) (cs : Array Value) (fz : Nat × Nat), w.heap[k]? = some (.cells cs 29 fz) → ok k) {t : T} {v : Value} (h : TysAt w v t.kids) : TyIn ok w t v := (TyAt.mk t h).inside hk
/-- The two parts of a function in memory. -/
theorem TyIn.both {ok : Nat → Prop} {X : World} {y u z : T} {a : Option Addr} {c : Nat} (h : TyIn ok X y (.slice a y.kids.length c)) (hy : y.kids = [u, z]) : ∃ g pa ca pb cb, a = some ⟨g, 0, none⟩ ∧ 2 ≤ c ∧ g < X.heap.size ∧ ok g ∧
    (X.cell? ⟨g, 0, none⟩ = some (.int .i64 u.kind) ∧ X.cell? ⟨g, 1, none⟩ = some (.string u.name) ∧ X.cell? ⟨g, 2, none⟩ = some (.slice pa u.kids.length ca)) ∧ (X.cell? ⟨g, 3, none⟩ = some (.int .i64 z.kind) ∧ X.cell? ⟨g, 4, none⟩ = some (.string z.name) ∧ X.cell? ⟨g, 5, none⟩ = some (.slice pb z.kids.length cb)) ∧
    TyIn ok X u (.slice pa u.kids.length ca) ∧ TyIn ok X z (.slice pb z.kids.length cb) := by
  obtain ⟨v, hv⟩ : ∃ v, v = Value.slice a y.kids.length c := ⟨_, rfl⟩
  rw [← hv] at h
  cases h with
  | leaf _ _ _ h0 => rw [hy] at h0; cases h0
  | row _ g cap cs fz q h0 h1 h2 h3 h4 =>
    cases hv
    have hl : y.kids.length = 2 := by rw [hy]; rfl
    have e0 : y.kids[0]'(by omega) = u := by simp [hy]
    have e1 : y.kids[1]'(by omega) = z := by simp [hy]
    have k0 := h4 0 (by omega)
    have k1 := h4 1 (by omega)
    rw [e0] at k0; rw [e1] at k1
    obtain ⟨pa, ca, eq0⟩ := k0.shape
    obtain ⟨pb, cb, eq1⟩ := k1.shape
    obtain ⟨a0, a1, a2⟩ := h3 0 (by omega)
    obtain ⟨b0, b1, b2⟩ := h3 1 (by omega)
    rw [e0] at a0 a1; rw [e1] at b0 b1; rw [eq0] at a2 k0; rw [eq1] at b2 k1
    refine ⟨g, pa, ca, pb, cb, rfl, by omega, (Array.getElem?_eq_some_iff.1 h1).1, h0, ⟨?_, ?_, ?_⟩, ⟨?_, ?_, ?_⟩, k0, k1⟩
    all_goals simp only [World.cell?, h1]
    · simpa using a0
    · simpa using a1
    · simpa using a2
    · simpa using b0
    · simpa using b1
    · simpa using b2
theorem funT_drop (l : List T) (x : T) (i : Nat) (h : i < l.length) : funT (l.drop i) x = .fn l[i] (funT (l.drop (i + 1)) x) := by
  rw [List.drop_eq_getElem_cons h]; rfl
theorem funT_sizes (l : List T) (x : T) : tsize (funT l x) = tsizes l + tsize x + l.length := by
  induction l with
  | nil => simp [funT, tsizes]
  | cons a l ih =>
    have : funT (a :: l) x = .fn a (funT l x) := rfl
    rw [this, tsize, tsizes, ih, List.length_cons]; omega
def sliceLen : Value → Nat
  | .slice _ n _ => n
  | _ => 0
/-- What the loop keeps. -/
def PtI (w : World) (l : List T) (v : Value) (xs : List Tl) (X : World) : Prop :=
  (xs.map (·.1) = l.take xs.length ∧ xs.length ≤ l.length) ∧ (X.ownsRow (w.heap.size + 1 + 1) 29 3 v xs.length (cellsOf xs) ∧ ∀ x ∈ xs, TyIn (fun k => (w.heap.size + 1 + 1 ≤ k) ∧ some k ≠ v.ownBlock) X x.1 (.slice x.2.1 x.1.kids.length x.2.2)) ∧ Below w.heap.size w X ∧ w.heap.size + 1 + 1 ≤ X.heap.size

theorem row_at {w w' : World} {base : Nat} {e : TypeId} {size : Nat} {v : Value} {n : Nat} {xs : List Value} (h : w.ownsRow base e size v n xs) (hk : ∀ g, v.ownBlock = some g → w'.heap[g]? = w.heap[g]?) : w'.ownsRow base e size v n xs := by
  refine ⟨h.1, ?_⟩
  rcases h.2 with h0 | ⟨g, cap, cur, rfl, hb, hg, r⟩
  · exact .inl h0
  · exact .inr ⟨g, cap, cur, rfl, hb, (hk g rfl).trans hg, r⟩
theorem cell_kept {w W : World} {B g o : Nat} (hk : ∀ k ob, w.heap[k]? = some ob → k < B → W.heap[k]? = some ob) (hg : g < w.heap.size) (hB : g < B) : W.cell? ⟨g, o, none⟩ = w.cell? ⟨g, o, none⟩ :=
  World.cell?_of_block ((hk g _ (Array.getElem?_eq_getElem hg) hB).trans (Array.getElem?_eq_getElem hg).symm)
set_option maxRecDepth 100000 in
set_option maxHeartbeats 4000000 in
theorem parts_any (l : List T) (x : T) (a : Option Addr) (c : Nat) (w : World) (hx : isFnT x = false) (hs : tsizes l + tsize x + l.length ≤ 1000000) (h : TysAt w (.slice a (funT l x).kids.length c) (funT l x).kids) :
    Calls Try.prog 25 #[tyV (funT l x) (.slice a (funT l x).kids.length c)] w fun e w' => (∃ pa pc za zc, e = .returned (.tuple #[.slice pa l.length pc, tyV x (.slice za x.kids.length zc)]) ∧ TysAt w' (.slice pa l.length pc) l ∧ TysAt w' (.slice za x.kids.length zc) x.kids) ∧ Below w.heap.size w w' := by
  have lt : ∀ (k : Nat) (cs : Array Value) (fz : Nat × Nat), w.heap[k]? = some (.cells cs 29 fz) → k < w.heap.size := fun k _ _ hk => (Array.getElem?_eq_some_iff.1 hk).1
  have HT := Lib.hid (h.inside lt)
  have HFx := Lib.hid hx
  obtain ⟨i0, hi, hz0, hz1, hz2⟩ := info_parts Try.infoTy
  have hll := len_sizes l
  have HB2 := Lib.hid (show ∀ o1 o2 : Obj, Below w.heap.size w ((w.alloc o1).alloc o2) from fun o1 o2 => ((Below.refl _ w).alloc (Nat.le_refl _) _).alloc (by simp) _)
  have HN2 := Lib.hid (show ∀ o1 o2 : Obj, ((w.alloc o1).alloc o2).heap[w.heap.size + 1]? = some o2 from fun o1 o2 => by have := alloc_new (w.alloc o1) o2; simpa using this)
  clear h lt hx
  obtain ⟨f, hf⟩ : ∃ f, funT l x = f := ⟨_, rfl⟩
  have HFl := Lib.hid hf
  rw [hf] at HT ⊢
  clear hf
  simp only [tyV]
  go_enter Try.func25, Try.ntmps25
  go_wp2
  go_loopw [4] (fun vo wr => ∃ (b : Option Addr) (e : Nat) (xs : List Tl) (y : T) (ya : Option Addr) (yc : Nat), vo = .slice b xs.length e ∧ Hid (y = funT (l.drop xs.length) x) ∧ Hid (PtI w l (.slice b xs.length e) xs wr) ∧ Hid (wr.heap[w.heap.size]? = some (.cells #[.int .i64 y.kind, .string y.name, .slice ya y.kids.length yc] 29 (0, 0)) ∧ TyIn (fun k => k < w.heap.size) wr y (.slice ya y.kids.length yc)) ∧ Hid (wr.heap[w.heap.size + 1]? = some (.cells #[.int .i64 0, .string ⟨#[]⟩, .slice none 0 0] 29 (0, 0)))) (fun vo _ => l.length - sliceLen vo)
  case atStart =>
    exact ⟨none, 0, [], f, a, c, rfl, Lib.hid HFl.out.symm, Lib.hid ⟨⟨rfl, Nat.zero_le _⟩, ⟨World.ownsRow_nil _ _ _ _, (fun _ h => nomatch h)⟩, HB2.out _ _, by simp⟩, Lib.hid ⟨(Below.heap_alloc _ _ _ (by simp)).trans (alloc_new w _), HT.out.keep fun k cs fz hk hh => ((HB2.out _ _).block k hk).trans hh⟩, Lib.hid (HN2.out _ _)⟩
  case round =>
    obtain ⟨b, e, xs, y, ya, yc, rfl, hy, hF, hBx, hRs⟩ := hrel
    obtain ⟨y0, y1, y2⟩ := three_cells hBx.out.1
    have ly := (Array.getElem?_eq_some_iff.1 hBx.out.1).1
    have lz := (Array.getElem?_eq_some_iff.1 hRs.out).1
    by_cases hlt : xs.length < l.length
    · have hfn := funT_drop l x xs.length hlt
      obtain ⟨u, hu⟩ : ∃ u, l[xs.length] = u := ⟨_, rfl⟩
      obtain ⟨z, hz⟩ : ∃ z, funT (l.drop (xs.length + 1)) x = z := ⟨_, rfl⟩
      have husz := size_mem (List.getElem_mem hlt)
      rw [hu, hz] at hfn
      rw [hu] at husz
      have hyk : y.kids = [u, z] := by rw [hy.out, hfn]; rfl
      have hyf : isFnT y = true := by rw [hy.out, hfn]; rfl
      have hyl : y.kids.length = 2 := by rw [hyk]; rfl
      obtain ⟨g, qa, qc, pb, cb, rfl, hc2, hgX, hgw, ⟨u0, u1, u2⟩, ⟨v0, v1, v2⟩, ku, kz⟩ := hBx.out.2.both hyk
      have HI := Lib.hid (isfun_any y (some ⟨g, 0, none⟩) yc wr)
      rw [hyf] at HI
      have HU := Lib.hid hu; have HZ := Lib.hid hz; have HKu := Lib.hid ku; have HKz := Lib.hid kz
      have hxs : xs.length ≤ 1000000 := by omega
      have hx1 := hF.out.1.1
      have HTk := Lib.hid (show ∀ (q : Option Addr) (r : Nat), (xs ++ [((u, q, r) : Tl)]).map (fun z => z.1) = l.take (xs.length + 1) from fun q r => by rw [List.map_append, hx1, List.take_succ_eq_append_getElem hlt, hu]; rfl)
      have hyI : (0 : Int) < (y.kids.length : Int) := by omega
      have hyI1 : (1 : Int) < (y.kids.length : Int) := by omega
      clear hyk hyf hu hz ku kz hfn hx1 hyl hy
      simp only [tyV] at HI
      go_wp2_with (first
        | (go_at_call 43; refine HI.out.mono ?_; rintro e1 w1 ⟨rfl, hb1⟩; have HB1 := Lib.hid hb1; have k0 := (hb1.cell (p := ⟨w.heap.size, 0, none⟩) ly).trans y0; have k1 := (hb1.cell (p := ⟨w.heap.size, 1, none⟩) ly).trans y1; have k2 := (hb1.cell (p := ⟨w.heap.size, 2, none⟩) ly).trans y2; have d0 := (hb1.cell (p := ⟨g, 0, none⟩) hgX).trans u0; have d1 := (hb1.cell (p := ⟨g, 1, none⟩) hgX).trans u1; have d2 := (hb1.cell (p := ⟨g, 2, none⟩) hgX).trans u2; clear hb1 y0 y1 y2 u0 u1 u2)
        | (go_at_call 31; refine (own_any (t := u) (v := .slice qa u.kids.length qc) (w := w1) (by omega) (HKu.out.tys.keep (KeepT.of_below HB1.out))).mono ?_; rintro e2 w2 ⟨⟨a2, c2, rfl, g1⟩, g2⟩; have hb12 := HB1.out.trans (g2.mono HB1.out.size); have HB12 := Lib.hid hb12; have G1 := Lib.hid g1; have G2 := Lib.hid g2; have HRow2 := Lib.hid (row_kept hF.out.2.1.1 fun k _ _ hk => (hb12.block k (Array.getElem?_eq_some_iff.1 hk).1).trans hk); clear g1 g2 hb12 k0 k1 k2 d0 d1 d2; simp only [tyV])
        | (at_builtin; refine wpList_append_lies _ rfl _ _ 27 rfl (w.heap.size + 1 + 1) 29 i0 (.agg #[.int .i64 0, .string ⟨#[]⟩, .slice none 0 0]) 3 48 Try.underlying27 hi hz0 hz1 hz2 rfl (by decide) _ _ _ rfl (HRow2.out.alloc _) ⟨w2.heap.size, 0, none⟩ 1 1 [.int .i64 u.kind, .string u.name, .slice a2 u.kids.length c2] rfl rfl (cell_new3 _ _ _ _ _) (by simp [Value.oneCell']) (by decide) (by unfold maxLen; omega) (by omega) (by have := hF.out.2.2.2; have := HB12.out.size; simp; omega) _ rfl ?_; intro g3 cap3 w3 ho3 hg3 hat3 hlt3; have hkp : ∀ k o, wr.heap[k]? = some o → k < w.heap.size + 1 + 1 → w3.heap[k]? = some o := (fun k o hk hlt => (hg3.block k (by have := HB12.out.size; have := (Array.getElem?_eq_some_iff.1 hk).1; simp; omega) (fun e => by have := (hF.out.2.1.1.lt _ e.symm).1; omega)).trans ((Below.heap_alloc w2 _ k (by have := HB12.out.size; have := (Array.getElem?_eq_some_iff.1 hk).1; omega)).trans ((HB12.out.block k (Array.getElem?_eq_some_iff.1 hk).1).trans hk))); have HKp := Lib.hid hkp; have hbx3 := hkp _ _ hBx.out.1 (by omega); obtain ⟨k0, k1, k2⟩ := three_cells hbx3; have f0 := Lib.frozen_of_heap hbx3 0; have f1 := Lib.frozen_of_heap hbx3 1; have f2 := Lib.frozen_of_heap hbx3 2; have lb3 := (Array.getElem?_eq_some_iff.1 hbx3).1; have d3 := (cell_kept hkp hgX (by omega)).trans v0; have d4 := (cell_kept hkp hgX (by omega)).trans v1; have d5 := (cell_kept hkp hgX (by omega)).trans v2; have HO3 := Lib.hid ho3; have HG3 := Lib.hid hg3; have HAt3 := Lib.hid hat3; have HBx3 := Lib.hid hbx3; clear ho3 hg3 hat3 hkp hbx3))
      have hs12 := HB12.out.size
      have hsw := hF.out.2.2.2
      have hs3 := HG3.out.size
      simp at hs3
      have hw3 : Below w.heap.size w w3 := ((hF.out.2.2.1.trans (HB12.out.mono hF.out.2.2.1.size)).alloc (by omega) _).grown HG3.out (by simp; omega) (fun j hj => by have := (hF.out.2.1.1.lt j hj).1; omega)
      have HW3 := Lib.hid hw3
      clear hw3
      go_roundw
      case rel =>
        have hz3 := set3_block HBx3.out (.int .i64 z.kind) (.string z.name) (.slice pb z.kids.length cb)
        have hot : ∀ k, k ≠ w.heap.size → (((w3.setCell ⟨w.heap.size, 0, none⟩ (.int .i64 z.kind)).setCell ⟨w.heap.size, 1, none⟩ (.string z.name)).setCell ⟨w.heap.size, 2, none⟩ (.slice pb z.kids.length cb)).heap[k]? = w3.heap[k]? := fun k hk => heap_set3 _ _ _ hk
        have hsz3 : (((w3.setCell ⟨w.heap.size, 0, none⟩ (.int .i64 z.kind)).setCell ⟨w.heap.size, 1, none⟩ (.string z.name)).setCell ⟨w.heap.size, 2, none⟩ (.slice pb z.kids.length cb)).heap.size = w3.heap.size := size_set3 _ _ _
        have hbl3 := below_set3 HW3.out (Nat.le_refl _) (.int .i64 z.kind) (.string z.name) (.slice pb z.kids.length cb)
        generalize ((w3.setCell ⟨w.heap.size, 0, none⟩ (.int .i64 z.kind)).setCell ⟨w.heap.size, 1, none⟩ (.string z.name)).setCell ⟨w.heap.size, 2, none⟩ (.slice pb z.kids.length cb) = W at *
        have hbs := beside_next (x := (u, a2, c2)) (ok := fun k => w.heap.size + 1 + 1 ≤ k) (v' := .slice (some ⟨g3, 0, none⟩) (xs.length + 1) cap3) (fun y hy => (hF.out.2.1.2 y hy).keep fun k _ _ _ hk => (HB12.out.block k (Array.getElem?_eq_some_iff.1 hk).1).trans hk) (G1.out.mono fun k hk => ⟨by have h9 : w1.heap.size ≤ k := hk; have := HB1.out.size; omega, fun e9 => by have h9 : w1.heap.size ≤ k := hk; have := (hF.out.2.1.1.lt k e9.symm).2; have := HB1.out.size; omega⟩) HG3.out HAt3.out rfl
        refine ⟨some ⟨g3, 0, none⟩, cap3, xs ++ [(u, a2, c2)], z, pb, cb, by simp, Lib.hid (by rw [List.length_append, List.length_singleton]; exact HZ.out.symm), Lib.hid ⟨⟨?_, by simp; omega⟩, ⟨?_, ?_⟩, hbl3, by omega⟩, Lib.hid ⟨hz3, ?_⟩, Lib.hid ?_⟩
        · rw [List.length_append, List.length_singleton]; exact HTk.out a2 c2
        · rw [cellsOf_snoc, List.length_append]
          exact row_at HO3.out fun g9 hg9 => hot g9 (by have := (HO3.out.lt g9 hg9).1; omega)
        · rw [List.length_append, List.length_singleton]
          exact fun q hq => (hbs q hq).keep fun k _ _ hk hh => (hot k (by have := hk.1; omega)).trans hh
        · exact HKz.out.keep fun k _ _ hk hh => (hot k (by omega)).trans (HKp.out k _ hh (by omega))
        · exact (hot _ (by omega)).trans (HKp.out _ _ hRs.out (by omega))
      case measure => simp [sliceLen]; omega
    · have hfull : xs.length = l.length := by have := hF.out.1.2; omega
      have hyx : y = x := by rw [hy.out, hfull, List.drop_length]; rfl
      subst hyx
      have HI := Lib.hid (isfun_any y ya yc wr)
      rw [HFx.out] at HI
      have hmap := hF.out.1.1
      rw [hfull, List.take_length] at hmap
      have htys := tys_of_row hF.out.2.1.1 (fun q hq => (hF.out.2.1.2 q hq).tys)
      rw [hmap] at htys
      have hbxT := hBx.out.2.tys
      have HTy := Lib.hid htys; have HXt := Lib.hid hbxT; have HBl := Lib.hid hF.out.2.2.1; have HLn := Lib.hid hfull
      have hys : tsize y ≤ 1000000000 := by omega
      clear htys hbxT hmap hF hfull hy
      simp only [tyV] at HI
      go_wp2_with (first
        | (go_at_call 43; refine HI.out.mono ?_; rintro e1 w1 ⟨rfl, hb1⟩; have HB1 := Lib.hid hb1; have k0 := (hb1.cell (p := ⟨w.heap.size, 0, none⟩) ly).trans y0; have k1 := (hb1.cell (p := ⟨w.heap.size, 1, none⟩) ly).trans y1; have k2 := (hb1.cell (p := ⟨w.heap.size, 2, none⟩) ly).trans y2; clear hb1 y0 y1 y2)
        | (go_at_call 31; refine (own_any (t := y) (v := .slice ya y.kids.length yc) (w := w1) hys (HXt.out.keep (KeepT.of_below HB1.out))).mono ?_; rintro e2 w2 ⟨⟨a2, c2, rfl, g1⟩, g2⟩; have hb12 := HB1.out.trans (g2.mono HB1.out.size); have hr2 := (hb12.block _ lz).trans hRs.out; obtain ⟨z0, z1, z2⟩ := three_cells hr2; have f0 := Lib.frozen_of_heap hr2 0; have f1 := Lib.frozen_of_heap hr2 1; have f2 := Lib.frozen_of_heap hr2 2; have l2 := (Array.getElem?_eq_some_iff.1 hr2).1; have HR2 := Lib.hid hr2; have HB12 := Lib.hid hb12; have G1 := Lib.hid g1; clear g1 g2 hb12 hr2 k0 k1 k2; simp only [tyV]))
      have hs3 := set3_block HR2.out (.int .i64 y.kind) (.string y.name) (.slice a2 y.kids.length c2)
      have hc := three_cells hs3
      refine bodyPost_ret (v := .tuple #[.slice b xs.length e, .agg #[.int .i64 y.kind, .string y.name, .slice a2 y.kids.length c2]]) (by simp [results, Try.results25, go_sem, hc.1, hc.2.1, hc.2.2]) rfl ⟨⟨b, e, a2, c2, by rw [HLn.out], ?_, ?_⟩, below_set3 (HBl.out.trans (HB12.out.mono HBl.out.size)) (Nat.le_succ _) _ _ _⟩
      · rw [← HLn.out]
        exact ((HTy.out.keep (KeepT.of_below HB12.out))).elsewhere HR2.out (fun k hk => heap_set3 _ _ _ hk)
      · exact G1.out.tys.elsewhere HR2.out (fun k hk => heap_set3 _ _ _ hk)
end Go.Proofs.Yteoelcefjjmjiaa
