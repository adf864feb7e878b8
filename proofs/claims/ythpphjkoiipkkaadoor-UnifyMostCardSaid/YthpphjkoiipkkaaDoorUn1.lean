/- Merged: UfMostA, UfClosed, UfTypes, UfHole, MtPlain, MtR. -/
import Derived.Test.YthpphjkoiipkkaaDoorUm10
import Derived.Test.YthpphjkoiipkkaaDoorUm18
import Derived.Test.YthpphjkoiipkkaaDoorUm13
import Derived.Test.YthpphjkoiipkkaaDoorUm11
import Derived.Test.YthpphjkoiipkkaaDoorUm16
/- UnifyMost: types that go by others; what the law's helpers make. -/
namespace Go.Proofs.YthpphjkoiipkkaaDoor
open Go.RowKit Go.Sort Go.Lib
attribute [local go_sem] Oper.semAt_some

/-- Types that some types for variables, given ahead, make one: none is ever greater than what these make of it. -/
def usetG (V : List ByteArray) (θ : Sg) (hθ : ∀ x ∈ V, tsize (θ x) ≤ 900000000) (hn : ∀ x ∈ V, x.size ≤ 1000) : USet where
  V := V
  O := fun t => TIn V t ∧ Plain3 t ∧ tsize (sub θ t) ≤ 900000000 ∧ tsize t ≤ 400000
  kid := fun t ht k hk => by
    cases hv : t.isV with
    | true => rw [isV_var hv] at hk; cases hk
    | false =>
      obtain ⟨_, _, a3, _⟩ := sub_parts θ t hv
      have : tsize (sub θ k) < tsize (sub θ t) := tsize_kid (by rw [a3]; exact List.mem_map.2 ⟨k, hk, rfl⟩)
      exact ⟨ht.1.kid hv hk, ht.2.1.kid hk, by have := ht.2.2.1; omega, by have := ht.2.2.2; have := tsize_kid hk; omega⟩
  tin := fun t ht => ht.1
  var := fun x hx => ⟨fun y hy => by simp [vs] at hy; exact hy ▸ hx, .mk _ (by simp [T.kind]) (fun k hk => by cases hk), hθ x hx, by simp [tsize]⟩
  plain := fun t ht => ht.2.1
  G := fun σ => Goes θ σ
  P := fun a b => sub θ a = sub θ b
  start := goes_var θ
  kids := fun a b e ha hb _ i h1 h2 => by
    obtain ⟨_, _, a3, _⟩ := sub_parts θ a ha
    obtain ⟨_, _, b3, _⟩ := sub_parts θ b hb
    have h : a.kids.map (sub θ) = b.kids.map (sub θ) := by rw [← a3, ← b3, e]
    have h3 : (a.kids.map (sub θ))[i]'(by simpa using h1) = (b.kids.map (sub θ))[i]'(by simpa using h2) := by simp only [h]
    rwa [List.getElem_map, List.getElem_map] at h3
  «at» := fun σ a b hg e => by rw [hg.sub, hg.sub]; exact e
  fin := fun f σ a b τ hi hg e h => by
    obtain ⟨τ', e', hg'⟩ := uni_most f σ a b _ θ h hi hg e
    injection e' with e'
    rw [e']; exact hg'
  le := fun σ _ hg t ht => by
    have h1 := size_sub_ge (σ := θ) (sub σ t)
    rw [hg.sub] at h1
    exact Nat.le_trans h1 ht.2.2.1
  nm := hn
  sz := fun t ht => ht.2.2.2
/-- A type without variables. -/
def Shut (t : T) : Prop := vs t = []
theorem shut_sub {t : T} (h : Shut t) (σ : Sg) : sub σ t = t := sub_id fun x hx => by rw [h] at hx; cases hx
theorem shut_kid {t k : T} (h : Shut t) (hk : k ∈ t.kids) : Shut k := by
  cases hv : t.isV with
  | true => rw [isV_var hv] at hk; cases hk
  | false =>
    refine List.eq_nil_iff_forall_not_mem.2 fun x hx => ?_
    have h9 : x ∈ vs t := (vs_kids hv).2 ⟨k, hk, hx⟩
    rw [h] at h9; cases h9
theorem shut_of_sub {σ : Sg} {t : T} (h : ∀ y ∈ vs t, Shut (σ y)) : Shut (sub σ t) := by
  refine List.eq_nil_iff_forall_not_mem.2 fun x hx => ?_
  obtain ⟨y, hy, hx⟩ := (vs_sub t).1 hx
  rw [h y hy] at hx; cases hx
def nH : ByteArray := ⟨#[104]⟩
/-- Three pairs, for the three variables. -/
def three (x y z : T) (ax ay az : Option Addr) (cx cy cz : Nat) : List PR := [⟨nA, x, ax, cx⟩, ⟨nB, y, ay, cy⟩, ⟨nC, z, az, cz⟩]
theorem ab : nA ≠ nB := by decide
theorem ac : nA ≠ nC := by decide
theorem bc : nB ≠ nC := by decide
theorem three_a (x y z : T) (ax ay az : Option Addr) (cx cy cz : Nat) : ty nA (three x y z ax ay az cx cy cz) = x := ty_some (x := ⟨nA, x, ax, cx⟩) (by rw [three, lk_cons, if_pos rfl])
theorem three_b (x y z : T) (ax ay az : Option Addr) (cx cy cz : Nat) : ty nB (three x y z ax ay az cx cy cz) = y := ty_some (x := ⟨nB, y, ay, cy⟩) (by rw [three, lk_cons, if_neg ab, lk_cons, if_pos rfl])
theorem three_c (x y z : T) (ax ay az : Option Addr) (cx cy cz : Nat) : ty nC (three x y z ax ay az cx cy cz) = z := ty_some (x := ⟨nC, z, az, cz⟩) (by rw [three, lk_cons, if_neg ac, lk_cons, if_neg bc, lk_cons, if_pos rfl])
theorem three_shut {x y z : T} {ax ay az : Option Addr} {cx cy cz : Nat} (hx : Shut x) (hy : Shut y) (hz : Shut z) {t : T} (h : T.Good t) : Shut (app (three x y z ax ay az cx cy cz) t) := by
  rw [app_sub]
  refine shut_of_sub fun n hn => ?_
  have := good_in t h n hn
  simp only [V3, List.mem_cons, List.not_mem_nil, or_false] at this
  rcases this with rfl | rfl | rfl
  · show Shut (ty nA _); rw [three_a]; exact hx
  · show Shut (ty nB _); rw [three_b]; exact hy
  · show Shut (ty nC _); rw [three_c]; exact hz
theorem three_size {x y z : T} {ax ay az : Option Addr} {cx cy cz M : Nat} (hM : 1 ≤ M) (hx : tsize x ≤ M) (hy : tsize y ≤ M) (hz : tsize z ≤ M) {t : T} (h : T.Good t) : tsize (app (three x y z ax ay az cx cy cz) t) ≤ tsize t * M := by
  rw [app_sub]
  refine size_subs hM t fun n hn => ?_
  have := good_in t h n hn
  simp only [V3, List.mem_cons, List.not_mem_nil, or_false] at this
  rcases this with rfl | rfl | rfl
  · show tsize (ty nA _) ≤ M; rw [three_a]; exact hx
  · show tsize (ty nB _) ≤ M; rw [three_b]; exact hy
  · show tsize (ty nC _) ≤ M; rw [three_c]; exact hz
theorem three_plain {x y z : T} {ax ay az : Option Addr} {cx cy cz : Nat} (hx : Plain3 x) (hy : Plain3 y) (hz : Plain3 z) {t : T} (h : T.Good t) : Plain3 (app (three x y z ax ay az cx cy cz) t) := by
  rw [app_sub]
  refine plain_sub t (good_plain t h) fun n hn => ?_
  have := good_in t h n hn
  simp only [V3, List.mem_cons, List.not_mem_nil, or_false] at this
  rcases this with rfl | rfl | rfl
  · show Plain3 (ty nA _); rw [three_a]; exact hx
  · show Plain3 (ty nB _); rw [three_b]; exact hy
  · show Plain3 (ty nC _); rw [three_c]; exact hz
theorem tInt_shut : Shut tInt := by simp [Shut, tInt, vs, vss]
/-- What a part's hole is: some type in the place of the variable h makes the whole again. -/
def Holed (u v : T) : Prop := ∃ s, sub (one nH s) v = u ∧ (∀ x ∈ vs v, x = nH) ∧ Shut s ∧ tsize s ≤ tsize u ∧ Plain3 s ∧ Plain3 v
theorem holed_all {u : T} (h : Shut u) (hp : Plain3 u) : Holed u (.var nH) := ⟨u, one_at nH u, fun x hx => by simpa [vs] using hx, h, Nat.le_refl _, hp, .mk _ (by simp [T.kind]) fun k hk => by cases hk⟩
theorem holed_none {u : T} (h : Shut u) (hp : Plain3 u) : Holed u u := by
  refine ⟨u, shut_sub h _, fun x hx => ?_, h, Nat.le_refl _, hp, hp⟩
  rw [h] at hx; cases hx
theorem holed_kid {u v : T} {i : Nat} (hu : Shut u) (hp : Plain3 u) (hi : i < u.kids.length) {k' : T} (h : Holed u.kids[i] k') (hk : v.kind = u.kind) (hn : v.name = u.name) (hv : v.kids = u.kids.set i k') : Holed u v := by
  obtain ⟨s, h1, h2, h3, h4, h5, h6⟩ := h
  have hvv : v.isV = false := by
    cases e : v.isV with
    | false => rfl
    | true =>
      have h8 : v.kids = [] := by rw [isV_var e]; rfl
      rw [h8] at hv
      have h9 := congrArg List.length hv
      rw [List.length_set] at h9
      change 0 = u.kids.length at h9
      omega
  have hmem : ∀ k ∈ v.kids, k = k' ∨ k ∈ u.kids := fun k hk => by
    rw [hv] at hk
    rcases List.mem_or_eq_of_mem_set hk with h | h
    · exact .inr h
    · exact .inl h
  refine ⟨s, ?_, ?_, h3, ?_, h5, .mk _ (by rw [hk]; exact hp.four) fun k hk => ?_⟩
  · obtain ⟨a1, a2, a3, _⟩ := sub_parts (one nH s) v hvv
    refine T.ext3 (a1.trans hk) (a2.trans hn) ?_
    rw [a3, hv]
    apply List.ext_getElem
    · simp
    · intro j h7 h8
      rw [List.getElem_map, List.getElem_set]
      split
      · rename_i e; subst e; exact h1
      · exact shut_sub (shut_kid hu (List.getElem_mem _)) _
  · intro x hx
    obtain ⟨k, hk, hx⟩ := (vs_kids hvv).1 hx
    rcases hmem k hk with rfl | hk
    · exact h2 x hx
    · rw [shut_kid hu hk] at hx; cases hx
  · exact Nat.le_trans h4 (Nat.le_of_lt (tsize_kid (List.getElem_mem hi)))
  · rcases hmem k hk with rfl | hk
    · exact h6
    · exact hp.kid hk
end Go.Proofs.YthpphjkoiipkkaaDoor
/- UnifyMost: closed. -/
namespace Go.Proofs.YthpphjkoiipkkaaDoor
open Go.RowKit Go.Sort Go.Lib
attribute [local go_sem] Oper.semAt_some

def MadeC (B p : Nat) (a : Option Addr) (n c k : Nat) (w : World) (e : Ending) (w' : World) : Prop :=
  (∃ x xa xc, e = .returned (.agg #[.int .i64 x.kind, .string x.name, .slice xa x.kids.length xc]) ∧ (Shut x ∧ Plain3 x ∧ tsize x ≤ 23) ∧ TysAt w' (.slice xa x.kids.length xc) x.kids) ∧ (∃ k', k' ≤ k + 8 ∧ SeqAt B p a n c k' w') ∧ MkFr B p w w'
theorem givenG_three {T : TypeId} {w : World} {b : Nat} (x y z : PR) (h : w.heap[b]? = some (.cells #[.string x.n, .int .i64 x.t.kind, .string x.t.name, .slice x.a x.t.kids.length x.c, .string y.n, .int .i64 y.t.kind, .string y.t.name, .slice y.a y.t.kids.length y.c, .string z.n, .int .i64 z.t.kind, .string z.t.name, .slice z.a z.t.kids.length z.c] T (0, 0))) : GivenG T (.slice (some ⟨b, 0, none⟩) 3 3) [x, y, z] w := by
  refine .inr ⟨by simp, b, 3, rfl, _, h, by simp, fun i hi => ?_⟩
  match i, hi with
  | 0, _ => exact ⟨rfl, rfl, rfl, rfl⟩
  | 1, _ => exact ⟨rfl, rfl, rfl, rfl⟩
  | 2, _ => exact ⟨rfl, rfl, rfl, rfl⟩
set_option maxRecDepth 100000 in
set_option maxHeartbeats 2000000 in
theorem closed_any (B p : Nat) (a : Option Addr) (n c k : Nat) (w : World) (h : SeqAt B p a n c k w) (hk : k < 900000000000000000) (hn : n < 1152921504606846976) :
    Calls Tryd.prog 18 #[.pointer (some ⟨p, 0, none⟩)] w (MadeC B p a n c k w) := by
  have hp := h.lt
  have hBw : B ≤ w.heap.size := by have := h.1.1; omega
  have HZ0 := Lib.hid (fun o => (Below.refl _ w).alloc (Nat.le_refl _) o)
  have HM := Lib.hid (fun (o : Obj) => make_n2 B p a n c k (w.alloc o) (h.below (HZ0.out o)) (by omega) hn)
  have HB0 := Lib.hid hBw
  clear h hBw
  go_enter Tryd.func18, Tryd.ntmps18
  go_wp2_with (go_at_call 9; refine (HM.out _).mono ?_)
  rintro e W1 ⟨⟨t, u, rfl, hg, hu⟩, ⟨k1, hk1, hs1⟩, hf1⟩
  obtain ⟨pa, ca, rfl⟩ := hu.shape
  have hz1 := hf1.2 _ _ (alloc_new w _) (by omega)
  have HF1 := Lib.hid ((MkFr.of_below (p := p) (HZ0.out _) HB0.out).trans hf1)
  have HT := Lib.hid hu.tys; have HS1 := Lib.hid hs1; have HZ1 := Lib.hid hz1
  have hts : tsize t ≤ 23 := by have := tsize2_text t hg.1; have := hg.2.2; omega
  have hgd := hg.1
  clear hu hg hs1 hf1 hz1 HM
  simp only [tyV]
  have HC := Lib.hid (fun (o : Obj) => con_any ⟨#[73, 110, 116]⟩ none [] 0 0 (W1.alloc o) (TysAt.nil _ _ _))
  go_wp2_with (go_at_call 25; refine (HC.out _).mono ?_)
  rintro e W2 ⟨⟨u, rfl, hu⟩, hb2⟩
  obtain ⟨ia, ic, rfl⟩ := hu.shape
  have hb12 := (below_a W1 _).trans (hb2.mono (by simp))
  have HB12 := Lib.hid hb12
  have hb2x := (hb2.block W1.heap.size (by simp)).trans (alloc_new W1 _)
  obtain ⟨x0, x1, x2⟩ := three_cells hb2x
  have lx := (Array.getElem?_eq_some_iff.1 hb2x).1
  have lz : w.heap.size < W2.heap.size := Nat.lt_of_lt_of_le (Array.getElem?_eq_some_iff.1 HZ1.out).1 hb12.size
  clear hu hb2 hb12 hb2x HC
  simp only [tyV, show (T.con ⟨#[73, 110, 116]⟩ []).kind = 2 from rfl, show (T.con ⟨#[73, 110, 116]⟩ []).name = ⟨#[73, 110, 116]⟩ from rfl, List.length_nil]
  have e0 : tInt.kids.length = 0 := rfl
  have HA := Lib.hid (fun (o1 : Obj) => rapp_big (d := three tInt tInt tInt ia ia ia ic ic ic) (t := t) (v := .slice (some ⟨W2.heap.size + 1, 0, none⟩) 3 3) (a := pa) (c := ca)
    (w := (W2.alloc o1).alloc (.cells #[.string ⟨#[97]⟩, .int .i64 2, .string ⟨#[73, 110, 116]⟩, .slice ia 0 ic, .string ⟨#[98]⟩, .int .i64 2, .string ⟨#[73, 110, 116]⟩, .slice ia 0 ic, .string ⟨#[99]⟩, .int .i64 2, .string ⟨#[73, 110, 116]⟩, .slice ia 0 ic] 53)) (by simp [three])
    (givenG_three _ _ _ (new_two W2 o1 _))
    (fun x hx => by simp only [three, List.mem_cons, List.not_mem_nil, or_false] at hx; rcases hx with rfl | rfl | rfl <;> exact TysAt.nil _ _ _)
    (((HT.out.keep (KeepT.of_below HB12.out)).keep (keepT_alloc W2 o1)).keep (keepT_alloc _ _)) (by omega))
  go_wp2_with (go_at_call 15; refine (HA.out _).mono ?_)
  rintro e W3 ⟨⟨za, zc, rfl, hin⟩, hb3⟩
  have hb23 := (below_two W2 _ _).trans (hb3.mono (by simp; omega))
  have hz3 := (hb23.block _ lz).trans ((HB12.out.block _ (Array.getElem?_eq_some_iff.1 HZ1.out).1).trans HZ1.out)
  have HZ3 := Lib.hid hz3; have HIN := Lib.hid hin
  have HB13 := Lib.hid (HB12.out.trans (hb23.mono HB12.out.size))
  obtain ⟨z0, z1, z2⟩ := three_cells hz3
  have f0 := Lib.frozen_of_heap hz3 0
  have f1 := Lib.frozen_of_heap hz3 1
  have f2 := Lib.frozen_of_heap hz3 2
  have l3 := (Array.getElem?_eq_some_iff.1 hz3).1
  have hshut := three_shut (ax := ia) (ay := ia) (az := ia) (cx := ic) (cy := ic) (cz := ic) tInt_shut tInt_shut tInt_shut hgd
  have hplain := three_plain (ax := ia) (ay := ia) (az := ia) (cx := ic) (cy := ic) (cz := ic) o1_int.2.1 o1_int.2.1 o1_int.2.1 hgd
  have hsize := three_size (ax := ia) (ay := ia) (az := ia) (cx := ic) (cy := ic) (cz := ic) (M := 1) (Nat.le_refl _) o1_int.2.2 o1_int.2.2 o1_int.2.2 hgd
  obtain ⟨x, hx⟩ : ∃ x, app (three tInt tInt tInt ia ia ia ic ic ic) t = x := ⟨_, rfl⟩
  rw [hx] at hshut hplain hsize HIN
  rw [hx]
  clear hin hb3 hb23 hz3 HA x0 x1 x2 lx
  go_wp2
  have hs3 := set3_block HZ3.out (.int .i64 x.kind) (.string x.name) (.slice za x.kids.length zc)
  have hc := three_cells hs3
  have hot : ∀ i, i ≠ w.heap.size → (((W3.setCell ⟨w.heap.size, 0, none⟩ (.int .i64 x.kind)).setCell ⟨w.heap.size, 1, none⟩ (.string x.name)).setCell ⟨w.heap.size, 2, none⟩ (.slice za x.kids.length zc)).heap[i]? = W3.heap[i]? := fun i hi => set3_others _ _ _ hi
  have hbel : Below B W3 (((W3.setCell ⟨w.heap.size, 0, none⟩ (.int .i64 x.kind)).setCell ⟨w.heap.size, 1, none⟩ (.string x.name)).setCell ⟨w.heap.size, 2, none⟩ (.slice za x.kids.length zc)) := below_set3 (Below.refl _ _) HB0.out _ _ _
  have hs3' := HS1.out.below HB13.out
  have hfr := HF1.out.trans (MkFr.of_below HB13.out (Nat.le_trans HB0.out HF1.out.1.size))
  refine bodyPost_ret (v := .agg #[.int .i64 x.kind, .string x.name, .slice za x.kids.length zc]) (by simp [results, Tryd.results18, go_sem, hc.1, hc.2.1, hc.2.2]) rfl ⟨⟨x, za, zc, rfl, ⟨hshut, hplain, by omega⟩, HIN.out.elsewhere HZ3.out hot⟩, ⟨k1, by omega, ⟨hs3'.1.1, (hot p (by omega)).trans hs3'.1.2⟩, hs3'.2.keep hbel⟩, hfr.1.trans hbel, fun i o hi hip => ?_⟩
  have hlt := (Array.getElem?_eq_some_iff.1 hi).1
  exact (hot i (by omega)).trans (hfr.2 i o hi hip)
end Go.Proofs.YthpphjkoiipkkaaDoor
/- The document's Types: a row of types, copied. -/
namespace Go.Proofs.YthpphjkoiipkkaaDoor
open Go.RowKit Go.Sort Go.Lib
attribute [local go_sem] Oper.semAt_some

theorem make_types (n : Nat) (hn : n ≤ 1000000000) (w : World) :
    (Instr.makeSlice 27 (.int .i64 0) (.int .i64 (n : Int))).run Tryd.prog w = .ok (.slice (some ⟨w.heap.size, 0, none⟩) 0 n) (w.alloc (.cells (madeCells #[.int .i64 0, .string ⟨#[]⟩, .slice none 0 0] (n * 3)) 29)) := by
  obtain ⟨i, hi, hzz⟩ := Option.map_eq_some_iff.1 Tryd.infoTy
  simp only [Prod.mk.injEq] at hzz
  obtain ⟨hz, hs, hb⟩ := hzz
  have hr := run_make (P := Tryd.prog) w 27 29 i _ Tryd.underlying27 hi hz .i64 .i64 0 n (by omega) (by omega) (by rw [hb]; omega) (by omega)
  simp only [Int.toNat_natCast, hs] at hr
  exact hr
/-- A row of types, each with its place. -/
theorem row_list {w : World} {l : List T} {a : Option Addr} {c : Nat} (h : TysAt w (.slice a l.length c) l) : ∃ xs : List Tl, xs.map (·.1) = l ∧ ∀ i (hi : i < xs.length), (∃ g, a = some ⟨g, 0, none⟩ ∧ xs.length ≤ c ∧ g < w.heap.size ∧
    w.cell? ⟨g, i * 3, none⟩ = some (.int .i64 xs[i].1.kind) ∧ w.cell? ⟨g, i * 3 + 1, none⟩ = some (.string xs[i].1.name) ∧ w.cell? ⟨g, i * 3 + 2, none⟩ = some (.slice xs[i].2.1 xs[i].1.kids.length xs[i].2.2)) ∧ TysAt w (.slice xs[i].2.1 xs[i].1.kids.length xs[i].2.2) xs[i].1.kids := by
  have h1 : ∀ i : Fin l.length, ∃ p : Option Addr × Nat, (∃ g, a = some ⟨g, 0, none⟩ ∧ l.length ≤ c ∧ g < w.heap.size ∧
      w.cell? ⟨g, i.1 * 3, none⟩ = some (.int .i64 l[i.1].kind) ∧ w.cell? ⟨g, i.1 * 3 + 1, none⟩ = some (.string l[i.1].name) ∧ w.cell? ⟨g, i.1 * 3 + 2, none⟩ = some (.slice p.1 l[i.1].kids.length p.2)) ∧ TysAt w (.slice p.1 l[i.1].kids.length p.2) l[i.1].kids := fun i => by
    obtain ⟨g, pa, ca, e, hc, hk⟩ := h.part i.1 i.2
    obtain ⟨⟨h1, h2, h3, h4⟩, h5⟩ := hk w (KeepT.refl w)
    exact ⟨(pa, ca), ⟨g, e, hc, h1, h2, h3, h4⟩, h5⟩
  have h2 := fun i => Classical.choose_spec (h1 i)
  refine ⟨List.ofFn fun i : Fin l.length => (l[i.1], Classical.choose (h1 i)), ?_, fun i hi => ?_⟩
  · apply List.ext_getElem
    · simp
    · intro i h3 h4; simp
  · have hi' : i < l.length := by simpa using hi
    have e : (List.ofFn fun i : Fin l.length => (l[i.1], Classical.choose (h1 i)))[i] = (l[i], Classical.choose (h1 ⟨i, hi'⟩)) := by simp
    rw [e]
    simpa using h2 ⟨i, hi'⟩
theorem beside_keep {xs : List Tl} {w W : World} (h : ∀ x ∈ xs, TyIn (fun k => k < w.heap.size) w x.1 (.slice x.2.1 x.1.kids.length x.2.2)) (hb : Below w.heap.size w W) : ∀ x ∈ xs, TyIn (fun k => k < w.heap.size) W x.1 (.slice x.2.1 x.1.kids.length x.2.2) :=
  fun x hx => (h x hx).keep fun k _ _ hk hh => (hb.block k hk).trans hh
set_option maxRecDepth 100000 in
set_option maxHeartbeats 2000000 in
theorem typesR_any (xs : List Tl) (hl : xs.length ≤ 1000000) (a : Option Addr) (c : Nat) (w : World) (h : ∀ i (hi : i < xs.length), ∃ g, a = some ⟨g, 0, none⟩ ∧ xs.length ≤ c ∧ g < w.heap.size ∧
    w.cell? ⟨g, i * 3, none⟩ = some (.int .i64 xs[i].1.kind) ∧ w.cell? ⟨g, i * 3 + 1, none⟩ = some (.string xs[i].1.name) ∧ w.cell? ⟨g, i * 3 + 2, none⟩ = some (.slice xs[i].2.1 xs[i].1.kids.length xs[i].2.2)) :
    Calls Tryd.prog 38 #[.slice a xs.length c] w fun e w' => (∃ v, e = .returned v ∧ w'.ownsRow w.heap.size 29 3 v xs.length (cellsOf xs)) ∧ Below w.heap.size w w' := by
  have HR := Lib.hid h
  have hmk := make_types xs.length (by omega)
  obtain ⟨i0, hi, hz0, hz1, hz2⟩ := info_parts Tryd.infoTy
  clear h
  go_enter Tryd.func38, Tryd.ntmps38
  go_wp2
  go_loopw [3, 4] (fun v vi wr => ∃ (i : Nat) (b : Option Addr) (d : Nat), i ≤ xs.length ∧ vi = .int .i64 i ∧ v = .slice b i d ∧ Hid (Below w.heap.size w wr) ∧ Hid (wr.ownsRow w.heap.size 29 3 (.slice b i d) i (cellsOf (xs.take i)))) (fun _ vi _ => xs.length - (intOf vi).toNat)
  case atStart => exact ⟨0, _, _, Nat.zero_le _, rfl, rfl, Lib.hid ((Below.refl _ w).alloc (Nat.le_refl _) _), Lib.hid (World.ownsRow_made w _ xs.length (Nat.le_refl _) (by unfold maxLen; omega) (by simp [size_madeCells]))⟩
  case round =>
    obtain ⟨i, b, d, hi', rfl, rfl, hB, hO⟩ := hrel
    by_cases hlt : i < xs.length
    · obtain ⟨g, rfl, hc, hg, c0, c1, c2⟩ := HR.out i hlt
      have x0 := (hB.out.cell (p := ⟨g, i * 3, none⟩) hg).trans c0
      have x1 := (hB.out.cell (p := ⟨g, i * 3 + 1, none⟩) hg).trans c1
      have x2 := (hB.out.cell (p := ⟨g, i * 3 + 2, none⟩) hg).trans c2
      have HT := Lib.hid (show cellsOf (xs.take (i + 1)) = cellsOf (xs.take i) ++ [.int .i64 xs[i].1.kind, .string xs[i].1.name, .slice xs[i].2.1 xs[i].1.kids.length xs[i].2.2] by rw [List.take_succ_eq_append_getElem hlt, cellsOf_snoc])
      have hgr : g < wr.heap.size := Nat.lt_of_lt_of_le hg hB.out.size
      clear HR hmk c0 c1 c2
      generalize xs[i] = u at x0 x1 x2 HT
      have hlt1 : ((i : Int) < (xs.length : Int)) := by omega
      go_wp2_with (at_builtin; refine wpList_append_lies _ rfl _ _ 27 rfl w.heap.size 29 i0 (.agg #[.int .i64 0, .string ⟨#[]⟩, .slice none 0 0]) 3 48 Tryd.underlying27 hi hz0 hz1 hz2 rfl (by decide) _ _ _ rfl (hO.out.alloc _) ⟨wr.heap.size, 0, none⟩ 1 1 [.int .i64 u.1.kind, .string u.1.name, .slice u.2.1 u.1.kids.length u.2.2] rfl rfl (cell_new3 _ _ _ _ _) (by simp [Value.oneCell']) (by decide) (by unfold maxLen; omega) (by omega) (by have := hB.out.size; simp <;> omega) _ rfl ?_; intro g5 cap5 w5 ho5 hg5 hat5 hlt5; have HO5 := Lib.hid ho5; have HB5 := Lib.hid ((hB.out.alloc hB.out.size _).grown hg5 (by have := hB.out.size; simp; omega) fun j hj => (hO.out.lt j hj).1); clear ho5 hg5 hat5 hlt5)
      go_roundw
      case rel => exact ⟨i + 1, _, cap5, by omega, by go_num, rfl, HB5, Lib.hid (by rw [HT.out]; exact HO5.out)⟩
      case measure => simp [intOf]; omega
    · obtain rfl : i = xs.length := by omega
      rw [List.take_length] at hO
      have hlt1 : ¬ ((xs.length : Int) < (xs.length : Int)) := by omega
      clear HR hmk
      go_wp2
      go_ret
      exact ⟨⟨_, rfl, hO.out⟩, hB.out⟩
end Go.Proofs.YthpphjkoiipkkaaDoor
/- UnifyMost: hole. -/
namespace Go.Proofs.YthpphjkoiipkkaaDoor
open Go.RowKit Go.Sort Go.Lib
attribute [local go_sem] Oper.semAt_some

theorem MkFr.set {B p : Nat} {w X : World} (h : MkFr B p w X) {b o : Nat} (hb : w.heap.size ≤ b) (hB : B ≤ b) (v : Value) : MkFr B p w (X.setCell ⟨b, o, none⟩ v) :=
  ⟨h.1.setCell (p := ⟨b, o, none⟩) hB v, fun k ob hk hp => (Below.heap_setCell X ⟨b, o, none⟩ v k (by have := (Array.getElem?_eq_some_iff.1 hk).1; show k ≠ b; omega)).trans (h.2 k ob hk hp)⟩
theorem SeqAt.set {B p : Nat} {a : Option Addr} {n c k : Nat} {X : World} (h : SeqAt B p a n c k X) {b o : Nat} (hb : b ≠ p) (hB : B ≤ b) (v : Value) : SeqAt B p a n c k (X.setCell ⟨b, o, none⟩ v) :=
  ⟨⟨h.1.1, (Below.heap_setCell X ⟨b, o, none⟩ v p (fun e => hb e.symm)).trans h.1.2⟩, h.2.keep ((Below.refl B X).setCell (p := ⟨b, o, none⟩) hB v)⟩
theorem TyIn.set {ok : Nat → Prop} {X : World} {t : T} {u : Value} (h : TyIn ok X t u) {b o : Nat} (hb : ¬ ok b) (v : Value) : TyIn ok (X.setCell ⟨b, o, none⟩ v) t u :=
  h.keep fun k _ _ hk hh => (Below.heap_setCell X ⟨b, o, none⟩ v k (fun e => hb (by have e : k = b := e; rw [← e]; exact hk))).trans hh
theorem own_set {W : World} {base : Nat} {e : TypeId} {size : Nat} {v : Value} {n : Nat} {L : List Value} (h : W.ownsRow base e size v n L) {g : Nat} (hg : v.ownBlock = some g) (j : Nat) (x : Value) : (W.setCell ⟨g, j, none⟩ x).ownsRow base e size v n (L.set j x) := by
  obtain ⟨h0, h⟩ := h
  rcases h with ⟨rfl, _⟩ | ⟨g', cap, cur, rfl, hb, hc, h1, h2, h3, h4⟩
  · cases hg
  · obtain rfl : g' = g := by simpa [Value.ownBlock] using hg
    refine ⟨by rw [List.length_set]; exact h0, .inr ⟨g', cap, cur.setIfInBounds j x, rfl, hb, blk_set hc x, h1, h2, by rw [Array.size_setIfInBounds]; exact h3, ?_⟩⟩
    rw [Array.toList_setIfInBounds, List.take_set, h4]
theorem own_away {W : World} {base : Nat} {e : TypeId} {size : Nat} {v : Value} {n : Nat} {L : List Value} (h : W.ownsRow base e size v n L) {b o : Nat} (hb : v.ownBlock ≠ some b) (x : Value) : (W.setCell ⟨b, o, none⟩ x).ownsRow base e size v n L := by
  refine ⟨h.1, ?_⟩
  rcases h.2 with h0 | ⟨g, cap, cur, rfl, h1, h2, r⟩
  · exact .inl h0
  · exact .inr ⟨g, cap, cur, rfl, h1, (Below.heap_setCell W ⟨b, o, none⟩ x g (fun e => hb (by rw [e]; rfl))).trans h2, r⟩
theorem cellsOf_set (xs : List Tl) (i : Nat) (y : Tl) : cellsOf (xs.set i y) = if i < xs.length then (((cellsOf xs).set (i * 3) (.int .i64 y.1.kind)).set (i * 3 + 1) (.string y.1.name)).set (i * 3 + 2) (.slice y.2.1 y.1.kids.length y.2.2) else cellsOf xs := by
  induction xs generalizing i with
  | nil => simp
  | cons x xs ih =>
    cases i with
    | zero => simp [cellsOf_cons]
    | succ i =>
      rw [List.set_cons_succ, cellsOf_cons, ih, cellsOf_cons]
      by_cases h : i < xs.length
      · rw [if_pos h, if_pos (by simpa using h)]
        have e : ∀ (l : List Value) (j : Nat) (v : Value), (([.int .i64 x.1.kind, .string x.1.name, .slice x.2.1 x.1.kids.length x.2.2] : List Value) ++ l).set (3 + j) v = [.int .i64 x.1.kind, .string x.1.name, .slice x.2.1 x.1.kids.length x.2.2] ++ l.set j v := fun l j v => by
          rw [show 3 + j = j + 1 + 1 + 1 by omega]; rfl
        rw [show (i + 1) * 3 = 3 + i * 3 by omega, show 3 + i * 3 + 1 = 3 + (i * 3 + 1) by omega, show 3 + i * 3 + 2 = 3 + (i * 3 + 2) by omega, e, e, e]
      · rw [if_neg h, if_neg (by simpa using h)]
/-- A row of types, each with its place, in blocks that are told. -/
theorem row_listK {K : Nat → Prop} {w : World} {t : T} {a : Option Addr} {c : Nat} (h : TyIn K w t (.slice a t.kids.length c)) : ∃ xs : List Tl, xs.map (·.1) = t.kids ∧ ∀ i (hi : i < xs.length), (∃ g, a = some ⟨g, 0, none⟩ ∧ xs.length ≤ c ∧ g < w.heap.size ∧
    w.cell? ⟨g, i * 3, none⟩ = some (.int .i64 xs[i].1.kind) ∧ w.cell? ⟨g, i * 3 + 1, none⟩ = some (.string xs[i].1.name) ∧ w.cell? ⟨g, i * 3 + 2, none⟩ = some (.slice xs[i].2.1 xs[i].1.kids.length xs[i].2.2)) ∧ TyIn K w xs[i].1 (.slice xs[i].2.1 xs[i].1.kids.length xs[i].2.2) := by
  have h1 : ∀ i : Fin t.kids.length, ∃ p : Option Addr × Nat, (∃ g, a = some ⟨g, 0, none⟩ ∧ t.kids.length ≤ c ∧ g < w.heap.size ∧
      w.cell? ⟨g, i.1 * 3, none⟩ = some (.int .i64 t.kids[i.1].kind) ∧ w.cell? ⟨g, i.1 * 3 + 1, none⟩ = some (.string t.kids[i.1].name) ∧ w.cell? ⟨g, i.1 * 3 + 2, none⟩ = some (.slice p.1 t.kids[i.1].kids.length p.2)) ∧ TyIn K w t.kids[i.1] (.slice p.1 t.kids[i.1].kids.length p.2) := fun i => by
    obtain ⟨g, pa, ca, e, hc, hk⟩ := h.part i.1 i.2
    obtain ⟨⟨h1, h2, h3, h4⟩, h5⟩ := hk w (fun k _ _ => rfl)
    exact ⟨(pa, ca), ⟨g, e, hc, h1, h2, h3, h4⟩, h5⟩
  have h2 := fun i => Classical.choose_spec (h1 i)
  refine ⟨List.ofFn fun i : Fin t.kids.length => (t.kids[i.1], Classical.choose (h1 i)), ?_, fun i hi => ?_⟩
  · apply List.ext_getElem
    · simp
    · intro i h3 h4; simp
  · have hi' : i < t.kids.length := by simpa using hi
    have e : (List.ofFn fun i : Fin t.kids.length => (t.kids[i.1], Classical.choose (h1 i)))[i] = (t.kids[i], Classical.choose (h1 ⟨i, hi'⟩)) := by simp
    rw [e]
    simpa using h2 ⟨i, hi'⟩
def HoleOK (u : T) : Prop := Shut u → Plain3 u → tsize u ≤ 2000 → ∀ (B p : Nat) (a : Option Addr) (n c k : Nat) (w : World) (aa : Option Addr) (ac : Nat) (K : Nat → Prop), SeqAt B p a n c k w → k + 2 * tsize u < 900000000000000000 → n < 1152921504606846976 → (∀ j, K j → j < w.heap.size) → TyIn K w u (.slice aa u.kids.length ac) →
  Calls Tryd.prog 19 #[.agg #[.int .i64 u.kind, .string u.name, .slice aa u.kids.length ac], .pointer (some ⟨p, 0, none⟩)] w fun e w' => (∃ v va vc, e = .returned (.agg #[.int .i64 v.kind, .string v.name, .slice va v.kids.length vc]) ∧ Holed u v ∧ TyIn (fun j => K j ∨ w.heap.size + 2 ≤ j) w' v (.slice va v.kids.length vc)) ∧ (∃ k', k' ≤ k + 2 * tsize u ∧ SeqAt B p a n c k' w') ∧ MkFr B p w w'
theorem row_at {w w' : World} {base : Nat} {e : TypeId} {size : Nat} {v : Value} {n : Nat} {xs : List Value} (h : w.ownsRow base e size v n xs) (hk : ∀ g, v.ownBlock = some g → w'.heap[g]? = w.heap[g]?) : w'.ownsRow base e size v n xs := by
  refine ⟨h.1, ?_⟩
  rcases h.2 with h0 | ⟨g, cap, cur, rfl, hb, hg, r⟩
  · exact .inl h0
  · exact .inr ⟨g, cap, cur, rfl, hb, (hk g rfl).trans hg, r⟩
theorem set_kid (u : T) (i : Nat) (hi : i < u.kids.length) (k' : T) : ∃ v : T, v.kind = u.kind ∧ v.name = u.name ∧ v.kids = u.kids.set i k' := by
  cases u with
  | var n => cases hi
  | con n l => exact ⟨.con n (l.set i k'), rfl, rfl, rfl⟩
  | fn a b =>
    match i, hi with
    | 0, _ => exact ⟨.fn k' b, rfl, rfl, rfl⟩
    | 1, _ => exact ⟨.fn a k', rfl, rfl, rfl⟩
    | n + 2, hi => exact absurd hi (by simp [T.kids])
  | all n a =>
    match i, hi with
    | 0, _ => exact ⟨.all n k', rfl, rfl, rfl⟩
    | n + 1, hi => exact absurd hi (by simp [T.kids])
theorem own_form {W : World} {base : Nat} {e : TypeId} {v : Value} {n : Nat} {L : List Value} (h : W.ownsRow base e 3 v n L) (hn : 0 < n) : ∃ g cap cur, v = .slice (some ⟨g, 0, none⟩) n cap ∧ base ≤ g ∧ W.heap[g]? = some (.cells cur e (0, 0)) ∧ n ≤ cap ∧ n * 3 ≤ cur.size ∧ ∀ j, j < n * 3 → cur[j]? = L[j]? := by
  rcases h.2 with ⟨_, h0⟩ | ⟨g, cap, cur, rfl, hb, hc, h1, h2, h3, h4⟩
  · omega
  · refine ⟨g, cap, cur, rfl, hb, hc, h1, by rw [h3]; exact Nat.mul_le_mul_right 3 h1, fun j hj => ?_⟩
    rw [← h4, List.getElem?_take, if_pos hj, Array.getElem?_toList]
set_option maxRecDepth 100000 in
set_option maxHeartbeats 4000000 in
theorem hole_step (u : T) (IH : ∀ x ∈ u.kids, HoleOK x) : HoleOK u := by
  intro hsh hpl hsz B p a n c k w aa ac K hs hk hn hK hT
  have hp := hs.lt
  have hpos := tsize_pos u
  have hlen := len_sizes' u.kids
  have heq := tsize_eq u
  have HW0 := Lib.hid (fun o1 o2 => below_two w o1 o2)
  have HB0 := Lib.hid (show B ≤ w.heap.size by have := hs.1.1; omega)
  have HN1 := Lib.hid (fun o1 o2 => next_any B p a n c k 4 _ (hs.below (HW0.out o1 o2)) (by decide) (by decide) (by omega) hn)
  have HT := Lib.hid hT
  have HFR0 := Lib.hid (fun o1 o2 => MkFr.of_below (p := p) (HW0.out o1 o2) HB0.out)
  have HS := Lib.hid hs
  clear hs hT
  go_enter Tryd.func19, Tryd.ntmps19
  go_wp2_with (go_at_call 23; refine (HN1.out _ _).mono ?_)
  rintro e W1 ⟨⟨r, hr, rfl⟩, hs1, hf1⟩
  have hbN := hf1.2 w.heap.size _ ((Below.heap_alloc _ _ _ (by simp)).trans (alloc_new w _)) (by omega)
  have hbR := hf1.2 (w.heap.size + 1) _ (new_two w _ _) (by omega)
  have hkt1 := (KeepT.of_below (HW0.out _ _)).trans (KeepT.of_mk hf1 (HS.out.below (HW0.out _ _)))
  have HF1 := Lib.hid ((HFR0.out _ _).trans hf1)
  have HS1 := Lib.hid hs1; have HBN := Lib.hid hbN; have HBR := Lib.hid hbR
  have HT1 := Lib.hid (HT.out.keep fun j cs fz _ hh => hkt1 j cs fz hh)
  obtain ⟨x0, x1, x2⟩ := three_cells hbN
  obtain ⟨z0, z1, z2⟩ := three_cells hbR
  have f0 := Lib.frozen_of_heap hbR 0
  have f1 := Lib.frozen_of_heap hbR 1
  have f2 := Lib.frozen_of_heap hbR 2
  have lN := (Array.getElem?_eq_some_iff.1 hbN).1
  have lR := (Array.getElem?_eq_some_iff.1 hbR).1
  have hBN : B ≤ w.heap.size := HB0.out
  clear hs1 hf1 hbN hbR hkt1 HN1 HFR0 HW0
  by_cases hr0 : r = 0
  · subst hr0
    have HV := Lib.hid (fun (o : Obj) (h : o = o) => var_any ⟨#[104]⟩ W1)
    go_wp2_with (go_at_call 24; refine (var_any ⟨#[104]⟩ _).mono ?_)
    rintro e W2 ⟨⟨va, rfl, hva⟩, hb2⟩
    obtain ⟨qa, qc, rfl⟩ := hva.shape
    have hbR2 := (hb2.block _ lR).trans HBR.out
    have HBR2 := Lib.hid hbR2; have HB2 := Lib.hid hb2
    clear z0 z1 z2 f0 f1 f2 x0 x1 x2
    obtain ⟨z0, z1, z2⟩ := three_cells hbR2
    have f0 := Lib.frozen_of_heap hbR2 0
    have f1 := Lib.frozen_of_heap hbR2 1
    have f2 := Lib.frozen_of_heap hbR2 2
    have lR2 := (Array.getElem?_eq_some_iff.1 hbR2).1
    clear hbR2 hb2 hva HV
    simp only [tyV, show (T.var ⟨#[104]⟩).kind = 1 from rfl, show (T.var ⟨#[104]⟩).name = ⟨#[104]⟩ from rfl, List.length_nil]
    go_wp2
    have hc := three_cells (set3_block HBR2.out (.int .i64 1) (.string ⟨#[104]⟩) (.slice qa 0 qc))
    exact bodyPost_ret (v := .agg #[.int .i64 1, .string ⟨#[104]⟩, .slice qa 0 qc]) (by simp [results, Tryd.results19, go_sem, hc.1, hc.2.1, hc.2.2]) rfl ⟨⟨.var nH, qa, qc, rfl, holed_all hsh hpl, .leaf _ _ _ rfl⟩, ⟨k + 1, by omega, (((HS1.out.below HB2.out).set (by omega) (by omega) _).set (by omega) (by omega) _).set (by omega) (by omega) _⟩, (((HF1.out.trans (MkFr.of_below HB2.out (Nat.le_trans HB0.out (by omega)))).set (by omega) (by omega) _).set (by omega) (by omega) _).set (by omega) (by omega) _⟩
  · have hrI : ¬ ((r : Int) = 0) := by omega
    by_cases h0 : u.kids.length = 0
    · have h0I : ((u.kids.length : Int) = 0) := by omega
      go_wp2
      have hc := three_cells (set3_block HBR.out (.int .i64 u.kind) (.string u.name) (.slice aa 0 ac))
      have hne : ¬ (K (w.heap.size + 1) ∨ w.heap.size + 2 ≤ w.heap.size + 1) := fun h => by
        rcases h with h | h
        · have := hK _ h; omega
        · omega
      exact bodyPost_ret (v := .agg #[.int .i64 u.kind, .string u.name, .slice aa 0 ac]) (by simp [results, Tryd.results19, go_sem, hc.1, hc.2.1, hc.2.2]) rfl ⟨⟨u, aa, ac, by rw [h0], holed_none hsh hpl, (((HT1.out.mono fun j hj => .inl hj).set hne _).set hne _).set hne _⟩, ⟨k + 1, by omega, ((HS1.out.set (by omega) (by omega) _).set (by omega) (by omega) _).set (by omega) (by omega) _⟩, ((HF1.out.set (by omega) (by omega) _).set (by omega) (by omega) _).set (by omega) (by omega) _⟩
    · have h0I : ¬ ((u.kids.length : Int) = 0) := by omega
      have HN2 := Lib.hid (next_any B p a n c (k + 1) u.kids.length W1 HS1.out (by omega) (by omega) (by omega) hn)
      go_wp2_with (go_at_call 23; refine HN2.out.mono ?_)
      rintro e W2 ⟨⟨i, hi, rfl⟩, hs2, hf2⟩
      have hkt2 := KeepT.of_mk hf2 HS1.out
      have hbN2 := hf2.2 _ _ HBN.out (by omega)
      have hbR2 := hf2.2 _ _ HBR.out (by omega)
      have HF2 := Lib.hid (HF1.out.trans hf2)
      have HS2 := Lib.hid hs2
      have HT2 := Lib.hid (HT1.out.keep fun j cs fz _ hh => hkt2 j cs fz hh)
      obtain ⟨xs, hxs, hrow⟩ := row_listK HT2.out
      have hxl : xs.length = u.kids.length := by rw [← hxs]; simp
      have HTy := Lib.hid (typesR_any xs (by omega) aa ac W2 (fun i hi => (hrow i hi).1))
      rw [hxl] at HTy
      clear x0 x1 x2 z0 z1 z2 f0 f1 f2 lN lR HN2 HBN HBR HT1
      obtain ⟨x0, x1, x2⟩ := three_cells hbN2
      have lN := (Array.getElem?_eq_some_iff.1 hbN2).1
      have lR := (Array.getElem?_eq_some_iff.1 hbR2).1
      have HBN := Lib.hid hbN2; have HBR := Lib.hid hbR2
      clear hbN2 hbR2 hs2 hf2 hkt2
      go_wp2_with (go_at_call 38; refine HTy.out.mono ?_)
      rintro e W3 ⟨⟨v4, rfl, ho⟩, hb3⟩
      obtain ⟨g, cap, cur, rfl, hg1, hg2, hg3, hg4, hg5⟩ := own_form ho (by omega)
      have hix : i < xs.length := by omega
      have hmem : xs[i].1 ∈ u.kids := by rw [← hxs]; exact List.mem_map.2 ⟨xs[i], List.getElem_mem hix, rfl⟩
      have hki : xs[i].1 = u.kids[i] := by simp only [← hxs, List.getElem_map]
      have hkt3 := KeepT.of_below hb3
      obtain ⟨q0, q1, q2⟩ := cellsOf_at xs i hix
      have hsk := shut_kid hsh hmem
      have hpk := hpl.kid hmem
      have hzk := tsize_kid hmem
      have y0 : W3.cell? ⟨g, i * 3, none⟩ = some (.int .i64 xs[i].1.kind) := by rw [Lib.cell_of_heap hg2, hg5 _ (by omega)]; exact q0
      have y1 : W3.cell? ⟨g, i * 3 + 1, none⟩ = some (.string xs[i].1.name) := by rw [Lib.cell_of_heap hg2, hg5 _ (by omega)]; exact q1
      have y2 : W3.cell? ⟨g, i * 3 + 2, none⟩ = some (.slice xs[i].2.1 xs[i].1.kids.length xs[i].2.2) := by rw [Lib.cell_of_heap hg2, hg5 _ (by omega)]; exact q2
      have hs3 := HS2.out.below hb3
      have hF3 := HF2.out.trans (MkFr.of_below hb3 (by omega))
      have hrow3 := fun j (hj : j < xs.length) => ((hrow j hj).2).keep fun k cs fz _ hh => hkt3 k cs fz hh
      have hbN3 := (hb3.block _ lN).trans HBN.out
      have hbR3 := (hb3.block _ lR).trans HBR.out
      have HI := Lib.hid (IH _ hmem hsk hpk (by omega) B p a n c (k + 1 + 1) W3 xs[i].2.1 xs[i].2.2 K hs3 (by omega) hn (fun j hj => by have := hK j hj; have := hb3.size; omega) (hrow3 i hix))
      have HOwn := Lib.hid ho; have HRow3 := Lib.hid hrow3; have HF3 := Lib.hid hF3; have HS3 := Lib.hid hs3; have HG2 := Lib.hid hg2
      have HBN3 := Lib.hid hbN3; have HBR3 := Lib.hid hbR3
      have lg := (Array.getElem?_eq_some_iff.1 hg2).1
      have hiI : (i : Int) < (u.kids.length : Int) := by omega
      have hsz3 := hb3.size
      clear x0 x1 x2 q0 q1 q2 hs3 hF3 hrow3 hbN3 hbR3 ho hrow hkt3 hsk hpk hb3 HTy hg2 hg5
      obtain ⟨q, hq⟩ : ∃ q, xs[i] = q := ⟨_, rfl⟩
      rw [hq] at y0 y1 y2 HI hki hzk
      have HQ := Lib.hid hq; have HKI := Lib.hid hki; have HXS := Lib.hid hxs; have HXL := Lib.hid hxl; have HHI := Lib.hid hi; have HHX := Lib.hid hix
      clear hq hki hxs hxl hmem
      go_wp2_with (go_at_call 19; refine HI.out.mono ?_)
      rintro e W4 ⟨⟨v5, va, vc, rfl, hh5, ht5⟩, ⟨k5, hk5, hs5⟩, hf5⟩
      have hbN4 := hf5.2 _ _ HBN3.out (by omega)
      have hbR4 := hf5.2 _ _ HBR3.out (by omega)
      have hg4' := hf5.2 _ _ HG2.out (by omega)
      have HOwn4 := Lib.hid (show W4.ownsRow W2.heap.size 29 3 (.slice (some ⟨g, 0, none⟩) u.kids.length cap) u.kids.length (cellsOf xs) from by
        have := row_at (w' := W4) HOwn.out (fun g' hg' => by
          obtain rfl : g = g' := by simpa [Value.ownBlock] using hg'
          exact hg4'.trans HG2.out.symm)
        exact this)
      have y0' : W4.cell? ⟨g, i * 3, none⟩ = some (.int .i64 q.1.kind) := by rw [Lib.cell_of_heap hg4', ← Lib.cell_of_heap HG2.out]; exact y0
      have y1' : W4.cell? ⟨g, i * 3 + 1, none⟩ = some (.string q.1.name) := by rw [Lib.cell_of_heap hg4', ← Lib.cell_of_heap HG2.out]; exact y1
      have y2' : W4.cell? ⟨g, i * 3 + 2, none⟩ = some (.slice q.2.1 q.1.kids.length q.2.2) := by rw [Lib.cell_of_heap hg4', ← Lib.cell_of_heap HG2.out]; exact y2
      have fg0 := Lib.frozen_of_heap hg4' (i * 3)
      have fg1 := Lib.frozen_of_heap hg4' (i * 3 + 1)
      have fg2 := Lib.frozen_of_heap hg4' (i * 3 + 2)
      obtain ⟨x0, x1, x2⟩ := three_cells hbN4
      have fN2 := Lib.frozen_of_heap hbN4 2
      obtain ⟨z0, z1, z2⟩ := three_cells hbR4
      have fR0 := Lib.frozen_of_heap hbR4 0
      have fR1 := Lib.frozen_of_heap hbR4 1
      have fR2 := Lib.frozen_of_heap hbR4 2
      have lg4 := (Array.getElem?_eq_some_iff.1 hg4').1
      have lN4 := (Array.getElem?_eq_some_iff.1 hbN4).1
      have lR4 := (Array.getElem?_eq_some_iff.1 hbR4).1
      have hgN : g ≠ w.heap.size := by omega
      have hgR : g ≠ w.heap.size + 1 := by omega
      have HF5 := Lib.hid (HF3.out.trans hf5)
      have HT5 := Lib.hid ht5; have HH5 := Lib.hid hh5; have HS5 := Lib.hid hs5; have HK5 := Lib.hid hk5; have HBR4 := Lib.hid hbR4
      have HRow4 := Lib.hid (show ∀ j (hj : j < xs.length), TyIn K W4 xs[j].1 (.slice xs[j].2.1 xs[j].1.kids.length xs[j].2.2) from fun j hj => (HRow3.out j hj).keep fun k cs fz _ hh => KeepT.of_mk hf5 HS3.out k cs fz hh)
      clear hf5 ht5 hh5 hs5 hk5 hbN4 hbR4 hg4' y0 y1 y2 HI
      go_wp2
      obtain ⟨v, hvk, hvn, hvs⟩ := set_kid u i HHI.out v5
      have hvl : v.kids.length = u.kids.length := by rw [hvs, List.length_set]
      have hmap : v.kids = (xs.set i (v5, va, vc)).map (·.1) := by rw [List.map_set, HXS.out]; exact hvs
      have hxl' : (xs.set i (v5, va, vc)).length = u.kids.length := by rw [List.length_set]; exact HXL.out
      have hzk' := hzk
      have hkk := HK5.out
      have o3 := own_set (own_set (own_set HOwn4.out (g := g) rfl (i * 3) (.int .i64 v5.kind)) (g := g) rfl (i * 3 + 1) (.string v5.name)) (g := g) rfl (i * 3 + 2) (.slice va v5.kids.length vc)
      have ecs := cellsOf_set xs i (v5, va, vc)
      rw [if_pos HHX.out] at ecs
      rw [← ecs] at o3
      have hneN : (Value.slice (some ⟨g, 0, none⟩) u.kids.length cap).ownBlock ≠ some w.heap.size := fun e => hgN (by simpa [Value.ownBlock] using e)
      have hneR : (Value.slice (some ⟨g, 0, none⟩) u.kids.length cap).ownBlock ≠ some (w.heap.size + 1) := fun e => hgR (by simpa [Value.ownBlock] using e)
      have o7 := own_away (o := 2) (own_away (o := 1) (own_away (o := 0) (own_away (o := 2) o3 hneN (.slice (some ⟨g, 0, none⟩) u.kids.length cap)) hneR (.int .i64 u.kind)) hneR (.string u.name)) hneR (.slice (some ⟨g, 0, none⟩) u.kids.length cap)
      have hset : ∀ {ok : Nat → Prop} {t : T} {z : Value}, TyIn ok W4 t z → ¬ ok g → ¬ ok w.heap.size → ¬ ok (w.heap.size + 1) → TyIn ok (((((((W4.setCell ⟨g, i * 3, none⟩ (.int .i64 v5.kind)).setCell ⟨g, i * 3 + 1, none⟩ (.string v5.name)).setCell ⟨g, i * 3 + 2, none⟩ (.slice va v5.kids.length vc)).setCell ⟨w.heap.size, 2, none⟩ (.slice (some ⟨g, 0, none⟩) u.kids.length cap)).setCell ⟨w.heap.size + 1, 0, none⟩ (.int .i64 u.kind)).setCell ⟨w.heap.size + 1, 1, none⟩ (.string u.name)).setCell ⟨w.heap.size + 1, 2, none⟩ (.slice (some ⟨g, 0, none⟩) u.kids.length cap)) t z :=
        fun h h1 h2 h3 => ((((((h.set h1 _).set h1 _).set h1 _).set h2 _).set h3 _).set h3 _).set h3 _
      have hKg : ¬ K g := fun h => by have := hK _ h; omega
      have hKN : ¬ K w.heap.size := fun h => by have := hK _ h; omega
      have hKR : ¬ K (w.heap.size + 1) := fun h => by have := hK _ h; omega
      have hgw : ∀ g', (Value.slice (some ⟨g, 0, none⟩) u.kids.length cap).ownBlock = some g' → w.heap.size + 2 ≤ g' := fun g' hg' => by
        obtain rfl : g = g' := by simpa [Value.ownBlock] using hg'
        omega
      have hin : TyIn (fun j => K j ∨ w.heap.size + 2 ≤ j) (((((((W4.setCell ⟨g, i * 3, none⟩ (.int .i64 v5.kind)).setCell ⟨g, i * 3 + 1, none⟩ (.string v5.name)).setCell ⟨g, i * 3 + 2, none⟩ (.slice va v5.kids.length vc)).setCell ⟨w.heap.size, 2, none⟩ (.slice (some ⟨g, 0, none⟩) u.kids.length cap)).setCell ⟨w.heap.size + 1, 0, none⟩ (.int .i64 u.kind)).setCell ⟨w.heap.size + 1, 1, none⟩ (.string u.name)).setCell ⟨w.heap.size + 1, 2, none⟩ (.slice (some ⟨g, 0, none⟩) u.kids.length cap)) v (.slice (some ⟨g, 0, none⟩) u.kids.length cap) := by
        refine in_of_row (B := W2.heap.size) (xs := xs.set i (v5, va, vc)) hmap (by rw [hxl']; exact o7) (fun g' hg' => .inr (hgw g' hg')) fun x hx => ?_
        rcases List.mem_or_eq_of_mem_set hx with hx | rfl
        · obtain ⟨j, hj, rfl⟩ := List.mem_iff_getElem.1 hx
          exact (hset (HRow4.out j hj) hKg hKN hKR).mono fun j hj => .inl hj
        · refine (hset HT5.out ?_ ?_ ?_).mono fun j hj => hj.imp id (fun h => by omega)
          · rintro (h | h)
            · exact hKg h
            · omega
          · rintro (h | h)
            · exact hKN h
            · omega
          · rintro (h | h)
            · exact hKR h
            · omega
      have hbX : ((((W4.setCell ⟨g, i * 3, none⟩ (.int .i64 v5.kind)).setCell ⟨g, i * 3 + 1, none⟩ (.string v5.name)).setCell ⟨g, i * 3 + 2, none⟩ (.slice va v5.kids.length vc)).setCell ⟨w.heap.size, 2, none⟩ (.slice (some ⟨g, 0, none⟩) u.kids.length cap)).heap[w.heap.size + 1]? = some (.cells #[.int .i64 0, .string ⟨#[]⟩, .slice none 0 0] 29 (0, 0)) := by
        rw [Below.heap_setCell _ _ _ _ (show w.heap.size + 1 ≠ w.heap.size by omega), Below.heap_setCell _ _ _ _ (show w.heap.size + 1 ≠ g by omega), Below.heap_setCell _ _ _ _ (show w.heap.size + 1 ≠ g by omega), Below.heap_setCell _ _ _ _ (show w.heap.size + 1 ≠ g by omega)]
        exact HBR4.out
      have hc := three_cells (set3_block hbX (.int .i64 u.kind) (.string u.name) (.slice (some ⟨g, 0, none⟩) u.kids.length cap))
      have hhol := holed_kid hsh hpl HHI.out (by rw [← HKI.out]; exact HH5.out) hvk hvn hvs
      have gB : B ≤ g := by omega
      have gp : g ≠ p := by omega
      have gw : w.heap.size ≤ g := by omega
      refine bodyPost_ret (v := .agg #[.int .i64 u.kind, .string u.name, .slice (some ⟨g, 0, none⟩) u.kids.length cap]) (by simp [results, Tryd.results19, go_sem, hc.1, hc.2.1, hc.2.2]) rfl ⟨⟨v, some ⟨g, 0, none⟩, cap, by rw [hvk, hvn, hvl], hhol, by rw [hvl]; exact hin⟩, ⟨k5, by omega, ((((((HS5.out.set gp gB _).set gp gB _).set gp gB _).set (by omega) (by omega) _).set (by omega) (by omega) _).set (by omega) (by omega) _).set (by omega) (by omega) _⟩, ((((((HF5.out.set gw gB _).set gw gB _).set gw gB _).set (by omega) (by omega) _).set (by omega) (by omega) _).set (by omega) (by omega) _).set (by omega) (by omega) _⟩
theorem hole_ok : ∀ u, HoleOK u := T.kidsInd fun u ih => hole_step u ih
end Go.Proofs.YthpphjkoiipkkaaDoor
/- Matching, as plain data: what the chapter's way finds; that it finds whatever there is. -/
namespace Go.Proofs.YthpphjkoiipkkaaDoor

/-- Names with their types, the first of a name counts. -/
noncomputable def lkt (n : ByteArray) (l : List (ByteArray × T)) : Option T := (l.find? fun x => decide (x.1 = n)).map (·.2)
theorem lkt_nt (n : ByteArray) : ∀ l : List PR, lkt n (l.map nt) = (lk n l).map (·.t)
  | [] => rfl
  | x :: l => by
    rw [lk_cons]
    unfold lkt
    rw [List.map_cons, List.find?_cons]
    by_cases h : x.n = n
    · simp [nt, h]
    · have e : decide ((nt x).1 = n) = false := decide_eq_false h
      rw [e, if_neg h]
      exact lkt_nt n l
theorem lkt_in {n : ByteArray} {l : List (ByteArray × T)} {t : T} (h : lkt n l = some t) : (n, t) ∈ l := by
  unfold lkt at h
  obtain ⟨x, hx, rfl⟩ := Option.map_eq_some_iff.1 h
  have h1 := List.mem_of_find?_eq_some hx
  have h2 := List.find?_some hx
  simp only [decide_eq_true_eq] at h2
  rw [← h2]; exact h1
/-- The parts, one after another, with what was found so far. -/
def mtL (rec : List (ByteArray × T) → T → T → Option (List (ByteArray × T))) : List (ByteArray × T) → List T → List T → Option (List (ByteArray × T))
  | s, a :: l, b :: m => match rec s a b with
    | none => none
    | some s' => mtL rec s' l m
  | s, _, _ => some s
/-- One type onto another. -/
noncomputable def mt : Nat → List (ByteArray × T) → T → T → Option (List (ByteArray × T))
  | 0, _, _, _ => none
  | f + 1, s, a, b =>
    if a.kind = 1 then match lkt a.name s with
      | some t => if eqB t b = true then some s else none
      | none => some (s ++ [(a.name, b)])
    else if a.kind = b.kind ∧ a.name = b.name ∧ a.kids.length = b.kids.length then mtL (mt f) s a.kids b.kids else none
/-- Types for variables that say what was found. -/
def SaysT (θ : Sg) (s : List (ByteArray × T)) : Prop := ∀ p ∈ s, θ p.1 = p.2
theorem tsize_kids_le {t k : T} (h : k ∈ t.kids) : tsize k < tsize t := by
  have e := tsize_eq t
  have : ∀ l : List T, k ∈ l → tsize k ≤ tsizes l := by
    intro l
    induction l with
    | nil => intro h; cases h
    | cons a l ih =>
      intro h
      rw [tsizes]
      rcases List.mem_cons.1 h with rfl | h
      · omega
      · have := ih h; omega
  have := this _ h
  omega
/-- What is there is found. -/
theorem mt_hit (θ : Sg) : ∀ (f : Nat) (s : List (ByteArray × T)) (a : T), tsize a ≤ f → SaysT θ s → ∃ s', mt f s a (sub θ a) = some s' ∧ SaysT θ s' ∧ s'.length ≤ s.length + tsize a
  | 0, s, a, h, _ => absurd (tsize_pos a) (by omega)
  | f + 1, s, a, h, hs => by
    by_cases hv : a.kind = 1
    · have ha := isV_var (isV_kind.2 hv)
      have e : sub θ a = θ a.name := by conv => lhs; rw [ha]
                                        rfl
      rw [mt, if_pos hv]
      cases hl : lkt a.name s with
      | some t =>
        have ht : θ a.name = t := hs _ (lkt_in hl)
        rw [e, ht]
        exact ⟨s, by simp [eqB], hs, by omega⟩
      | none =>
        refine ⟨_, rfl, fun p hp => ?_, by have := tsize_pos a; simp; omega⟩
        rcases List.mem_append.1 hp with hp | hp
        · exact hs p hp
        · obtain rfl := List.mem_singleton.1 hp
          exact e.symm
    · have hv' : a.isV = false := by
        cases hb : a.isV with
        | false => rfl
        | true => exact absurd (isV_kind.1 hb) hv
      obtain ⟨h1, h2, h3, _⟩ := sub_parts θ a hv'
      rw [mt, if_neg hv, if_pos ⟨h1.symm, h2.symm, by rw [h3, List.length_map]⟩, h3]
      have hz := tsize_eq a
      have key : ∀ (l : List T) (s : List (ByteArray × T)), (∀ k ∈ l, tsize k ≤ f) → SaysT θ s → ∃ s', mtL (mt f) s l (l.map (sub θ)) = some s' ∧ SaysT θ s' ∧ s'.length ≤ s.length + tsizes l := by
        intro l
        induction l with
        | nil => intro s _ hs; exact ⟨s, rfl, hs, by simp [tsizes]⟩
        | cons k l ih =>
          intro s hk hs
          obtain ⟨s1, e1, g1, l1⟩ := mt_hit θ f s k (hk k (by simp)) hs
          obtain ⟨s2, e2, g2, l2⟩ := ih s1 (fun x hx => hk x (List.mem_cons_of_mem _ hx)) g1
          refine ⟨s2, ?_, g2, by rw [tsizes]; omega⟩
          rw [List.map_cons, mtL, e1]; exact e2
      obtain ⟨s', e', g', l'⟩ := key a.kids s (fun k hk => by have := tsize_kids_le hk; omega) hs
      exact ⟨s', e', g', by omega⟩
end Go.Proofs.YthpphjkoiipkkaaDoor
/- The document's match. -/
namespace Go.Proofs.YthpphjkoiipkkaaDoor
open Go.RowKit Go.Sort Go.Lib
attribute [local go_sem] Oper.semAt_some

theorem RowG.news {T : TypeId} {g : Nat} {l : List PR} {w : World} (h : RowG T g l w) : ∀ j u, (cellsP l)[j]? = some u → w.cell? ((⟨g, 0, none⟩ : Addr).add j) = some u := by
  intro j u hu
  have hj : j < l.length * 4 := by have := (List.getElem?_eq_some_iff.1 hu).1; rwa [cellsP_len] at this
  have hadd : (⟨g, 0, none⟩ : Addr).add j = ⟨g, j, none⟩ := by unfold Addr.add; split <;> simp_all
  obtain ⟨cs, h1, _, h3⟩ := h
  rw [hadd, Lib.cell_of_heap h1, row_cells (g := g) h3 rfl j hj, hu]
/-- A row with no elements in a block of its own. -/
theorem own_lit (w : World) (o : Obj) (base : Nat) (T : TypeId) (hb : base ≤ w.heap.size) : ((w.alloc o).alloc (.cells #[] T)).ownsRow base T 4 (.slice (some ⟨w.heap.size + 1, 0, none⟩) 0 0) 0 [] :=
  ⟨rfl, .inr ⟨w.heap.size + 1, 0, #[], rfl, by omega, new_two w o _, Nat.le_refl _, by unfold maxLen; omega, rfl, rfl⟩⟩
def MRes (r : Option (List (ByteArray × T))) (E : Ending) (w' : World) : Prop :=
  match r with
  | none => ∃ v, E = .returned (.tuple #[v, .bool false])
  | some s' => ∃ v q, E = .returned (.tuple #[v, .bool true]) ∧ GivenG 53 v q w' ∧ Typ q w' ∧ q.map nt = s'
theorem cell_new4'' (w : World) (o o' : Obj) (x y z u : Value) (t : TypeId) : ∀ j v, [x, y, z, u][j]? = some v → (((w.alloc o).alloc o').alloc (.cells #[x, y, z, u] t)).cell? ((⟨w.heap.size + 1 + 1, 0, none⟩ : Addr).add j) = some v := by
  have := cell_new4 ((w.alloc o).alloc o') x y z u t
  simpa using this
theorem own_lit2 (w : World) (o o' : Obj) (base : Nat) (T : TypeId) (hb : base ≤ w.heap.size) : (((w.alloc o).alloc o').alloc (.cells #[] T)).ownsRow base T 4 (.slice (some ⟨w.heap.size + 1 + 1, 0, none⟩) 0 0) 0 [] := by
  have := own_lit (w.alloc o) o' base T (by simp; omega)
  simpa using this
theorem below_3b (w : World) (o1 o2 o3 : Obj) : Below w.heap.size w (((w.alloc o1).alloc o2).alloc o3) := (below_two w o1 o2).alloc (by simp; omega) _
theorem new_3b (w : World) (o1 o2 o3 : Obj) : (((w.alloc o1).alloc o2).alloc o3).heap[w.heap.size + 1 + 1]? = some o3 := by
  have := new_two (w.alloc o1) o2 o3
  simpa using this
theorem new_mid (w : World) (o1 o2 o3 : Obj) : (((w.alloc o1).alloc o2).alloc o3).heap[w.heap.size + 1]? = some o2 :=
  (Below.heap_alloc _ _ _ (by simp)).trans (new_two w o1 o2)
theorem cell_mid4 (w : World) (o o' : Obj) (x y z u : Value) (t : TypeId) : ∀ j v, [x, y, z, u][j]? = some v → (((w.alloc o).alloc (.cells #[x, y, z, u] t)).alloc o').cell? ((⟨w.heap.size + 1, 0, none⟩ : Addr).add j) = some v := World.news_of_block (new_mid w o _ o')
theorem lit_keep {w w2 X W : World} {q a c : Nat} {L : List Value} {T : TypeId} (hw : Below w.heap.size w w2) (hx : Below w2.heap.size w2 X) (hg : X.grownBy W (Value.slice (some ⟨q, 0, none⟩) a c).ownBlock) (hq : w2.heap.size ≤ q) (ho : X.ownsRow w.heap.size T 4 (.slice (some ⟨q, 0, none⟩) a c) a L) : Below w.heap.size w W ∧ ∀ (k : Nat) (o : Obj), w2.heap[k]? = some o → W.heap[k]? = some o := by
  refine ⟨(hw.trans (hx.mono hw.size)).grown hg (Nat.le_trans hw.size hx.size) fun j hj => (ho.lt j hj).1, fun k o hk => ?_⟩
  have lk := (Array.getElem?_eq_some_iff.1 hk).1
  refine (hg.block k (Nat.lt_of_lt_of_le lk hx.size) (fun e => ?_)).trans ((hx.block k lk).trans hk)
  simp only [Value.ownBlock, Option.some.injEq] at e
  omega
theorem match_end {w W : World} {d : List PR} {x : PR} {v : Value} {k : Nat} {L : List Value} {T : TypeId} (ho : W.ownsRow w.heap.size T 4 v k L) (hk : k = d.length + 1) (hL : L = cellsP d ++ encP x) (hb : Below w.heap.size w W) (td : Typ d w) (hx : TysAt w (.slice x.a x.t.kids.length x.c) x.t.kids) : GivenG T v (d ++ [x]) W ∧ Typ (d ++ [x]) W := by
  have hkt := KeepT.of_below hb
  refine ⟨given_of_row (base := w.heap.size) ?_ (fun e => by simp at e), fun y hy => ?_⟩
  · rw [cellsP_snoc, List.length_append, ← hL]; rw [hk] at ho; exact ho
  · rcases List.mem_append.1 hy with hy | hy
    · exact (td y hy).keep hkt
    · obtain rfl := List.mem_singleton.1 hy
      exact hx.keep hkt
/-- Both boxes, behind a call. -/
theorem boxes_after {w W : World} {x0 x1 x2 y0 y1 y2 : Value} {T : TypeId} (hb : Below ((w.alloc (.cells #[x0, x1, x2] T)).alloc (.cells #[y0, y1, y2] T)).heap.size ((w.alloc (.cells #[x0, x1, x2] T)).alloc (.cells #[y0, y1, y2] T)) W) :
    W.heap[w.heap.size]? = some (.cells #[x0, x1, x2] T (0, 0)) ∧ W.heap[w.heap.size + 1]? = some (.cells #[y0, y1, y2] T (0, 0)) ∧ Below w.heap.size w W :=
  ⟨(hb.block _ (by simp; omega)).trans ((Below.heap_alloc _ _ _ (by simp)).trans (alloc_new w _)), (hb.block _ (by simp)).trans (new_two w _ _), (below_two w _ _).trans (hb.mono (by simp; omega))⟩
end Go.Proofs.YthpphjkoiipkkaaDoor
