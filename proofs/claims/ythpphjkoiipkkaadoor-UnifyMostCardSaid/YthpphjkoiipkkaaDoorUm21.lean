/- Merged: UfOne, PlainRow, UfDoor, IntsRow, UfOccA, UfOcc. -/
import Derived.Test.YthpphjkoiipkkaaDoorUm20
import Derived.Test.YthpphjkoiipkkaaDoorRows
import Derived.ProofKit
import Derived.OpenShut
import Derived.Carry
import Derived.Test.YthpphjkoiipkkaaDoorUm17
import Derived.LaidMore
import Derived.ChangeOld
import Derived.Stop.Joined
import Derived.Stop.LaidTwo
import Derived.Test.YthpphjkoiipkkaaDoorUm9
import Derived.Test.YthpphjkoiipkkaaDoorUm18
/- UnifyOne, walked, out of what the program's Unify tells. -/
namespace Go.Proofs.YthpphjkoiipkkaaDoor
open Go.RowKit Go.Sort Go.Lib
attribute [local go_sem] Oper.semAt_some

theorem BoxT.byMk {b B p : Nat} {t : T} {a : Option Addr} {c : Nat} {a2 : Option Addr} {n2 c2 k : Nat} {w W : World} (h : BoxT b t a c w) (hf : MkFr B p w W) (hs : SeqAt B p a2 n2 c2 k w) (hne : b ≠ p) : BoxT b t a c W :=
  ⟨hf.2 b _ h.1 hne, h.2.keep (KeepT.of_mk hf hs)⟩
theorem bad_told {aT aO : Addr} {S : USet} {e : Bool} {E : Ending} {w : World} (h : PRes aT aO S (.bad e) E w) : ∃ x a c, E = .returned (.tuple #[.agg #[.slice a 0 c], .iface 143 (.pointer (some x))]) := by
  obtain ⟨a, c, h⟩ := h; exact ⟨_, a, c, h⟩
set_option maxRecDepth 100000 in
set_option maxHeartbeats 8000000 in
theorem one_law (HU : PUni) (aT aO : Addr) (a1 a2 : Option Addr) (n1 n2 c1 c2 : Nat) (w : World) (hE : TwoE aT aO w) (hl1 : IntsAt w.heap.size a1 n1 w) (hl2 : IntsAt w.heap.size a2 n2 w) :
    Calls Tryd.prog 4 #[.slice a1 n1 c1, .slice a2 n2 c2] w fun e w' => e = .returned (.bool true) ∧ Below w.heap.size w w' := by
  have HL1 := Lib.hid hl1; have HL2 := Lib.hid hl2; have HE := Lib.hid hE
  have HF := Lib.hid (first_uni HU aT aO w hE)
  have HUh := Lib.hid HU
  clear hl1 hl2 hE HU
  by_cases hb1 : n1 ≤ 100
  · by_cases hb2 : n2 ≤ 100
    · have hn1 : n1 < 1152921504606846976 := by omega
      have hn2 : n2 < 1152921504606846976 := by omega
      have hb1I : ¬ ((100 : Int) < (n1 : Int)) := by omega
      have hb2I : ¬ ((100 : Int) < (n2 : Int)) := by omega
      go_enter Tryd.func4, Tryd.ntmps4
      go_wp2_with (go_at_call 8; refine HF.out.mono ?_; rintro e w1 ⟨rfl, h1⟩; have HB1 := Lib.hid h1; clear h1 HF)
      refine (make_n4 _ _ _ _ _ _ _ (seq_new HB1.out HL1.out) (by decide) hn1).mono ?_
      rintro e W1 ⟨⟨t, u, rfl, hg, hu⟩, _, hf⟩
      obtain ⟨pa, ca, rfl⟩ := hu.shape
      have HB2 := Lib.hid ((HB1.out.alloc HB1.out.size _).trans hf.1)
      have HT := Lib.hid hu.tys; have HG := Lib.hid (made_small hg (by decide))
      clear hu hf hg HB1 HL1
      simp only [tyV]
      go_wp2_with (go_at_call 9; refine with_calls (fun V => (BoxT W1.heap.size t pa ca V ∧ SeqAt w.heap.size (W1.heap.size + 1) a2 n2 c2 0 V) ∧ Below w.heap.size w V) ⟨⟨(BoxT.new HT.out).alloc _, by have := seq_new (c := c2) (HB2.out.alloc HB2.out.size (.cells #[.int .i64 t.kind, .string t.name, .slice pa t.kids.length ca] 29)) HL2.out; simpa using this⟩, (HB2.out.alloc HB2.out.size _).alloc (by simp; have := HB2.out.size; omega) _⟩ ?_)
      rintro V2 ⟨⟨h1, h2⟩, h3⟩
      refine (make_n4 _ _ _ _ _ _ _ h2 (by decide) hn2).mono ?_
      rintro e W3 ⟨⟨u, uv, rfl, hg, hu⟩, _, hf⟩
      obtain ⟨pb, cb, rfl⟩ := hu.shape
      have HB3 := Lib.hid (h3.trans hf.1)
      have HX3 := Lib.hid (h1.byMk hf h2 (by omega))
      have HT3 := Lib.hid hu.tys; have HGU := Lib.hid (made_small hg (by decide))
      clear hu hf hg h1 h2 h3 HB2 HT HL2
      simp only [tyV]
      generalize W1.heap.size = bt at *
      generalize w1.heap.size = q1 at *
      obtain ⟨r, hr, hrs⟩ := uni_start uset3 HG.out HGU.out trivial
      obtain ⟨q, hq, _⟩ := uni_start uset3 HGU.out HG.out trivial
      have HR := Lib.hid hr; have HQ := Lib.hid hq; have HRs := Lib.hid hrs
      have hrq := uni_turn hr hq
      clear hr hq hrs
      have HU1 := Lib.hid (fun (V : World) (hb : Below W3.heap.size W3 V) => HUh.out uset3 (by decide) t u r pa pb ca cb V aT aO HR.out HG.out HGU.out trivial (HE.out.below (HB3.out.trans (hb.mono HB3.out.size))) (HX3.out.below hb).2 (HT3.out.keep (KeepT.of_below hb)))
      have HU2 := Lib.hid (fun (V : World) (hb : Below W3.heap.size W3 V) => HUh.out uset3 (by decide) u t q pb pa cb ca V aT aO HQ.out HGU.out HG.out trivial (HE.out.below (HB3.out.trans (hb.mono HB3.out.size))) (HT3.out.keep (KeepT.of_below hb)) (HX3.out.below hb).2)
      obtain ⟨x0, x1, x2⟩ := HX3.out.cells
      have lx := HX3.out.lt
      have HA3 := Lib.hid (fun o => (Below.refl _ W3).alloc (Nat.le_refl _) o)
      rcases hrq with ⟨τ, τ', rfl, rfl⟩ | ⟨e1, e2, rfl, rfl⟩
      · obtain ⟨hi, e12⟩ := HRs.out τ rfl
        have hts : tsize t ≤ 900000000 := by have := HG.out.2.2; omega
        have hus : tsize u ≤ 900000000 := by have := HGU.out.2.2; omega
        obtain ⟨tx, htx⟩ : ∃ x, sub τ t = x := ⟨_, rfl⟩
        have hux : sub τ u = tx := e12.symm.trans htx
        have hxx : sub τ tx = tx := by rw [← htx]; exact hi.idem.twice t
        have hxs : tsize tx ≤ 900000000 := by rw [← htx]; exact uset3.le τ hi.src trivial t HG.out
        have HXS := Lib.hid hxs; have HXX := Lib.hid hxx; have HI := Lib.hid hi; have HTX := Lib.hid htx; have HUX := Lib.hid hux; have HTS := Lib.hid hts; have HUS := Lib.hid hus
        clear hxs hxx hi htx hux hts hus e12 HRs
        go_wp2_with (first
          | (go_at_call 10; refine (HU1.out _ (HA3.out _)).mono ?_; rintro E w4 ⟨⟨sv, l, rfl, g1, g2⟩, hb4⟩; obtain ⟨sa, sc, rfl⟩ := g1.shape; have hX4 := (HX3.out.alloc _).below hb4; have hY4 := (BoxT.new HT3.out).below hb4; have hw4 := (HA3.out _).trans (hb4.mono (by simp)); have HX4 := Lib.hid hX4; have HY4 := Lib.hid hY4; have HW4 := Lib.hid hw4; have HG1 := Lib.hid g1; have HP := Lib.hid g2; clear x0 x1 x2 lx; obtain ⟨x0, x1, x2⟩ := hX4.cells; obtain ⟨y0, y1, y2⟩ := hY4.cells; have lx := hX4.lt; have ly := hY4.lt; have HA4 := Lib.hid (fun o => (Below.refl _ w4).alloc (Nat.le_refl _) o); clear g1 g2 hb4 hX4 hY4 hw4 HU1 HX3)
          | (go_at_call 10; refine (HU2.out _ (HW4.out.trans ((HA4.out _).mono HW4.out.size))).mono ?_; rintro E w5 ⟨⟨sv2, l2, rfl, g1, g2⟩, hb5⟩; obtain ⟨sb, sd, rfl⟩ := g1.shape; have hX5 := (HX4.out.alloc _).below hb5; have hY5 := (HY4.out.alloc _).below hb5; have hS5 := (BoxS.new HG1.out).below hb5; have hw5 := HW4.out.trans (((HA4.out _).trans (hb5.mono (by simp))).mono HW4.out.size); have HUP5 : Hid (UP w bt W3.heap.size w4.heap.size t u pa pb ca cb sa sc l w5) := Lib.hid ⟨⟨hX5, hY5⟩, hS5, HB3.out.trans (hw5.mono HB3.out.size)⟩; clear x0 x1 x2 lx y0 y1 y2 ly; obtain ⟨x0, x1, x2⟩ := hX5.cells; obtain ⟨y0, y1, y2⟩ := hY5.cells; have z0 := hS5.cell; have lx := hX5.lt; have ly := hY5.lt; have lz := hS5.lt; clear g1 g2 hb5 hX5 hY5 hS5 hw5 HU2 HX4 HY4 HW4)
          | (go_at_call 14; have hv5 := HUP5.out.below ((Below.refl _ w5).alloc (Nat.le_refl _) (.cells #[.slice sb l2.length sd] 33 (0, 0))); refine (pap_ret hv5.2.1.2 HP.out HI.out (by decide) HTS.out HTX.out hv5.1.1.2).mono ?_; rintro E w6 ⟨⟨xa, xc, rfl, k1⟩, hb6⟩; have hv6 := hv5.below hb6; have HUP6 := Lib.hid hv6; have HK1 := Lib.hid k1; clear x0 x1 x2 lx y0 y1 y2 ly z0 lz; obtain ⟨x0, x1, x2⟩ := hv6.1.1.cells; obtain ⟨y0, y1, y2⟩ := hv6.1.2.cells; have z0 := hv6.2.1.cell; have lx := hv6.1.1.lt; have ly := hv6.1.2.lt; have lz := hv6.2.1.lt; clear k1 hb6 hv5 hv6 HUP5 HTX)
          | (go_at_call 14; have hv6 := HUP6.out.below ((Below.refl _ w6).alloc (Nat.le_refl _) (.cells #[.int .i64 tx.kind, .string tx.name, .slice xa tx.kids.length xc] 29 (0, 0))); refine (pap_ret hv6.2.1.2 HP.out HI.out (by decide) HUS.out HUX.out hv6.1.2.2).mono ?_; rintro E w7 ⟨⟨ya, yc, rfl, k2⟩, hb7⟩; have hv7 := hv6.below hb7; have hb12 := (BoxT.new HK1.out).below hb7; have HUO : Hid (UO w w4.heap.size w6.heap.size w7.heap.size tx xa ya xc yc sa sc l ((w7.alloc (.cells #[.int .i64 tx.kind, .string tx.name, .slice ya tx.kids.length yc] 29 (0, 0))).drew)) := Lib.hid (UO.below (X := w7.alloc (.cells #[.int .i64 tx.kind, .string tx.name, .slice ya tx.kids.length yc] 29 (0, 0))) ⟨⟨hb12.alloc _, BoxT.new k2⟩, hv7.2.1.alloc _, hv7.2.2.alloc hv7.2.2.size _⟩ (below_d _)); clear x0 x1 x2 lx y0 y1 y2 ly z0 lz k2 hb7 hv6 hv7 hb12 HUP6 HUX HK1))
        refine uno_here (w := w) (b8 := w4.heap.size) (b12 := w6.heap.size) (b13 := w7.heap.size) (tx := tx) (xa := xa) (ya := ya) (sa := sa) (xc := xc) (yc := yc) (sc := sc) (l := l)
          (fun V h => sameU_ret HXS.out h.1.1.2 h.1.2.2)
          (fun V h => pap_ret h.2.1.2 HP.out HI.out (by decide) HXS.out HXX.out h.1.1.2)
          (fun V h za zc k => sameU_ret HXS.out k h.1.1.2)
          _ (by kernel_rfl) (by kernel_rfl) (by kernel_rfl) (by kernel_rfl) (by kernel_rfl) (by kernel_rfl) (by kernel_rfl) HUO.out ?_
        intro x V2 hV2 hx
        simp only [unoFr, hx]
        simp only [Array.getD_eq_getD_getElem?, List.getElem?_toArray, List.getElem?_cons_succ, List.getElem?_cons_zero, Option.getD_some]
        go_wp2
        go_ret
        exact ⟨rfl, hV2.2.2⟩
      · go_wp2_with (first
          | (go_at_call 10; refine (HU1.out _ (HA3.out _)).mono ?_; rintro E w4 ⟨h4, hb4⟩; obtain ⟨x4, sa, sc, rfl⟩ := bad_told h4; clear h4; have hX4 := (HX3.out.alloc _).below hb4; have hY4 := (BoxT.new HT3.out).below hb4; have hw4 := (HA3.out _).trans (hb4.mono (by simp)); have HX4 := Lib.hid hX4; have HY4 := Lib.hid hY4; have HW4 := Lib.hid hw4; clear x0 x1 x2 lx; obtain ⟨x0, x1, x2⟩ := hX4.cells; obtain ⟨y0, y1, y2⟩ := hY4.cells; have lx := hX4.lt; have ly := hY4.lt; have HA4 := Lib.hid (fun o => (Below.refl _ w4).alloc (Nat.le_refl _) o); clear hb4 hX4 hY4 hw4 HU1 HX3)
          | (go_at_call 10; refine (HU2.out _ (HW4.out.trans ((HA4.out _).mono HW4.out.size))).mono ?_; rintro E w5 ⟨h5, hb5⟩; obtain ⟨x5, sb, sd, rfl⟩ := bad_told h5; clear h5; have HW5 := Lib.hid (HB3.out.trans ((HW4.out.trans (((HA4.out _).trans (hb5.mono (by simp))).mono HW4.out.size)).mono HB3.out.size)); clear hb5 HU2))
        go_ret
        exact ⟨rfl, HW5.out.alloc HW5.out.size _⟩
    · have hb1I : ¬ ((100 : Int) < (n1 : Int)) := by omega
      have hb2I : ((100 : Int) < (n2 : Int)) := by omega
      go_enter Tryd.func4, Tryd.ntmps4
      go_wp2_with (go_at_call 8; refine HF.out.mono ?_; rintro e w1 ⟨rfl, h1⟩; have HB1 := Lib.hid h1; clear h1 HF)
      go_ret
      exact ⟨rfl, HB1.out⟩
  · have hb1I : ((100 : Int) < (n1 : Int)) := by omega
    go_enter Tryd.func4, Tryd.ntmps4
    go_wp2_with (go_at_call 8; refine HF.out.mono ?_; rintro e w1 ⟨rfl, h1⟩; have HB1 := Lib.hid h1; clear h1 HF)
    go_ret
    exact ⟨rfl, HB1.out⟩
end Go.Proofs.YthpphjkoiipkkaaDoor
/- What the plain rows of this seat share. -/
namespace Go.Proofs.YthpphjkoiipkkaaDoor
open Go.ChangeShapes Go.WideShapes Go.ChangeAt Go.RowKit

theorem own : ownKnob Tryd.prog.godebug = none := by kernel_rfl
theorem laidOut : laidOutB Tryd.prog = true := by kernel_rfl
theorem bounds_i64 {z : Int} (h : (Lit.int .i64 z).wf = true) : -9223372036854775808 ≤ z ∧ z ≤ 9223372036854775807 := by
  have h1 : IntKind.i64.min = -9223372036854775808 := rfl
  have h2 : IntKind.i64.max = 9223372036854775807 := rfl
  simp only [Lit.wf, Bool.and_eq_true, decide_eq_true_eq] at h
  omega
end Go.Proofs.YthpphjkoiipkkaaDoor
/- What the rows of the laws with listed errors hand to the walks: where api's errors lie, each its own. -/
namespace Go.Proofs.YthpphjkoiipkkaaDoor
open Go.ChangeShapes Go.WideShapes Go.ChangeAt Go.RowKit

theorem cellsStr : Tryd.prog.cellsOf 9 = 1 := by kernel_rfl
theorem cellsErrStr : Tryd.prog.cellsOf 160 = 1 := by kernel_rfl
def errName : String := "*errors.errorString"
theorem star : errName = "*" ++ "errors.errorString" := by decide
theorem rowErr (u : TypeId) (h : Tryd.prog.typeName? 3 u = some errName) : u = 143 :=
  typeName_ptr_named (nm := "errors.errorString") (by rw [← star]; kernel_rfl) (by kernel_rfl) (by decide) u (by rw [← star]; exact h)
/-- A sentinel of the list's head, its block's row among what is never written. -/
theorem laid_one {P : Program} {n nm : String} {text : List UInt8} {r : List (String × DataW Unit)} {W : World} {g : Nat} {ti tp te ts : TypeId} {ms : Array (String × TypeId)} {f : Field}
    (h : laidMet P ((n, .iface nm (.ptr (.agg [.lit (.string text)]))) :: r) W)
    (hg : P.globalNamed n = some g) (ht : (P.globals[g]?).map (·.type) = some ti) (hi : P.underlying ti = some (.interface ms)) (hrow : ∀ u, P.typeName? 3 u = some nm → u = tp)
    (hp : P.underlying tp = some (.pointer te)) (he : P.underlying te = some (.struct #[f])) (hft : f.type = ts) (hfo : f.offset = 0) (hs : P.underlying ts = some .string) (hc : P.cellsOf te = 1) (hcs : P.cellsOf ts = 1) :
    ∃ (a : Addr) (s : ByteArray), W.var? P n = some #[.iface tp (.pointer (some a))] ∧ W.cell? a = some (.string s) ∧ s.data.toList = text ∧ ∃ c t, W.heap[a.block]? = some (.cells c t (0, 0)) := by
  obtain ⟨ps, ⟨g0, t0, cs0, f0, p0, q0, hg0, ht0, hv0, hd0, _, e0⟩, _, hrows⟩ := h
  obtain rfl := Option.some.inj (hg.symm.trans hg0)
  obtain rfl := Option.some.inj (ht.symm.trans ht0)
  subst e0
  obtain ⟨l0⟩ := cs0
  have ok0 : ∀ u v, l0 = [.iface u v] → Value.okWide P W .any 0 u v := fun u v e => by
    subst e
    exact (hrows g 0 (by simp [MemPlace.row])).2 u v (by simpa using World.var?_cell hg0 hv0 0)
  obtain ⟨a0, s0, rfl, hc0, hs0, hz0, rfl⟩ := errorString_of_trod hi hrow hp he hft hfo hs hc hcs hd0 ok0
  exact ⟨a0, s0, hv0, hc0, hs0, (hrows a0.block a0.off (by simp [MemPlace.row])).1⟩
/-- Where a listed error lies, and what is behind it. -/
def ErrIn (W : World) (g : Nat) (text : List UInt8) (a : Addr) : Prop := W.cell? ⟨g, 0, none⟩ = some (errP a) ∧ (∃ s : ByteArray, W.cell? a = some (.string s) ∧ s.data.toList = text) ∧ ∃ c t, W.heap[a.block]? = some (.cells c t (0, 0))
theorem err_in {r : List (String × DataW Unit)} {n : String} {text : List UInt8} {W : World} {g : Nat} (h : laidMet Tryd.prog ((n, .iface errName (.ptr (.agg [.lit (.string text)]))) :: r) W)
    (hg : Tryd.prog.globalNamed n = some g) (tg : (Tryd.prog.globals[g]?).map (·.type) = some 35) : (∃ a, ErrIn W g text a) ∧ laidMet Tryd.prog r W := by
  obtain ⟨a, s, hv, h1, h2, h3⟩ := laid_one h hg tg Tryd.underlying35 rowErr Tryd.underlying143 Tryd.underlying160 rfl rfl Tryd.underlying9 cellsErrStr cellsStr
  exact ⟨⟨a, by simpa [errP] using World.var?_cell hg hv 0, ⟨s, h1, h2⟩, h3⟩, h.tail⟩
/-- Errors that say unlike things lie in unlike places. -/
theorem errs_of {W : World} (L : List (Nat × List UInt8)) (av : Nat → Addr) (hL : L.map (·.1) = errGs) (h : ∀ i (hi : i < L.length), ErrIn W L[i].1 L[i].2 (av i)) (hn : (L.map (·.2)).Nodup) : Errs av W := by
  have hd : ∀ i j (hi : i < L.length) (hj : j < L.length), L[i].2 = L[j].2 → i = j := fun i j hi hj e => by
    have hp := List.pairwise_iff_getElem.1 hn
    rcases Nat.lt_trichotomy i j with h | h | h
    · exact absurd (by rw [List.getElem_map, List.getElem_map]; exact e) (hp i j (by simpa using hi) (by simpa using hj) h)
    · exact h
    · exact absurd (by rw [List.getElem_map, List.getElem_map]; exact e.symm) (hp j i (by simpa using hj) (by simpa using hi) h)
  have hlen : L.length = 15 := by have := congrArg List.length hL; simpa [errGs] using this
  refine ⟨fun i hi => ?_, fun i j hi hj e => ?_⟩
  · have hi' : i < L.length := by omega
    have e : errGs.getD i 0 = L[i].1 := by rw [← hL]; simp [List.getD, hi']
    rw [e]
    exact ⟨(h i hi').1, (h i hi').2.2⟩
  · have hi' : i < L.length := by omega
    have hj' : j < L.length := by omega
    obtain ⟨s, h1, h2⟩ := (h i hi').2.1
    obtain ⟨s', h3, h4⟩ := (h j hj').2.1
    rw [e, h3] at h1
    cases h1
    exact hd i j hi' hj' (h2.symm.trans h4)
end Go.Proofs.YthpphjkoiipkkaaDoor
/- Slices of numbers that came in, for the plain rows. -/
namespace Go.Proofs.YthpphjkoiipkkaaDoor
open Go.ChangeShapes Go.WideShapes Go.ChangeAt Go.RowKit

/-- A slice of numbers that came in, nil or not, holds some numbers. -/
theorem opened_ints {H : Type} {enc : TypeId × Value → H} {W : World} {a0 : Option Addr} {len cap : Nat} {d0 : DataW H} {p : List MemPlace}
    (h0 : DataW.Trod enc Tryd.prog W 0 (fun _ => true) true 22 (.slice a0 len cap) d0 p) : IntsAt W.heap.size a0 len W := by
  obtain ⟨fuel, hf⟩ := h0
  rcases open_ints Tryd.underlying22 Tryd.underlying3 (by kernel_rfl) hf with ⟨hcs, _⟩ | ⟨x, l, c, zs, hcs, _, hl, hm, hz, _, hcell, hwz⟩
  · simp [Value.cells] at hcs
    obtain ⟨rfl, rfl, rfl⟩ := hcs
    exact .inl rfl
  · simp [Value.cells] at hcs
    obtain ⟨rfl, rfl, rfl⟩ := hcs
    simp only [if_true] at hz
    by_cases h0 : len = 0
    · exact .inl h0
    · obtain ⟨b, o, spot⟩ := x
      have hc0 := hcell 0 (by omega)
      have hspot : spot = none := by simpa [Addr.add] using World.cell?_spot hc0
      subst hspot
      have ea : ∀ j, (⟨b, o, none⟩ : Addr).add j = ⟨b, o + j, none⟩ := fun j => by unfold Addr.add; split <;> simp_all
      refine .inr ⟨b, o, rfl, World.block_lt_of_cell? _ _ hc0, fun j hj => ?_⟩
      have hc := hcell j (by omega)
      rw [ea] at hc
      have hjz : j < zs.length := by omega
      exact ⟨zs[j], by rw [hc]; simp [List.getD, List.getElem?_eq_getElem hjz], bounds_i64 (hwz _ (List.getElem_mem hjz))⟩

end Go.Proofs.YthpphjkoiipkkaaDoor
/- UnifyOccurs: its types, what its calls come to. -/
namespace Go.Proofs.YthpphjkoiipkkaaDoor
open Go.RowKit Go.Sort Go.Lib
attribute [local go_sem] Oper.semAt_some

theorem uni_one {a b : T} {r : UR} (h : stepU (uni 0) T.var a b = some r) : Uni T.var a b r := ⟨1, by rw [uni, sub_var, sub_var]; exact h⟩
theorem uni_self (x : ByteArray) : Uni T.var (.var x) (.var x) (.ok T.var) := uni_one (by unfold stepU; rw [if_pos ⟨rfl, rfl, rfl⟩])
theorem uni_leftIn {x : ByteArray} {t : T} (hv : t.isV = false) (h : x ∈ vs t) : Uni T.var (.var x) t (.bad true) := uni_one (by
  unfold stepU
  rw [if_neg (fun e => by rw [hv] at e; cases e.2.1), if_pos (show (T.var x).isV = true from rfl)]
  unfold bindU
  rw [if_pos (show (T.var x).name ∈ vs t from h)])
theorem uni_rightIn {x : ByteArray} {t : T} (hv : t.isV = false) (h : x ∈ vs t) : Uni T.var t (.var x) (.bad true) := uni_one (by
  unfold stepU
  rw [if_neg (fun e => by rw [hv] at e; cases e.1), if_neg (by rw [hv]; simp), if_pos (show (T.var x).isV = true from rfl)]
  unfold bindU
  rw [if_pos (show (T.var x).name ∈ vs t from h)])
theorem uni_leftOk {x : ByteArray} {t : T} (h : x ∉ vs t) : ∃ τ, Uni T.var (.var x) t (.ok τ) := by
  by_cases hv : t.isV = true
  · by_cases e : x = t.name
    · exfalso; rw [isV_var hv] at h; simp [vs] at h; exact h e
    · exact ⟨_, uni_one (by
        unfold stepU
        rw [if_neg (fun k => e k.2.2), if_pos (show (T.var x).isV = true from rfl)]
        unfold bindU
        rw [if_neg (show ¬ (T.var x).name ∈ vs t from h)])⟩
  · exact ⟨_, uni_one (by
      unfold stepU
      rw [if_neg (fun k => hv k.2.1), if_pos (show (T.var x).isV = true from rfl)]
      unfold bindU
      rw [if_neg (show ¬ (T.var x).name ∈ vs t from h)])⟩
theorem uni_clash {a b : T} (ha : a.isV = false) (hb : b.isV = false) (h : ¬ (a.kind = b.kind ∧ a.name = b.name ∧ a.kids.length = b.kids.length)) : Uni T.var a b (.bad false) := uni_one (by
  unfold stepU
  rw [if_neg (fun e => by rw [ha] at e; cases e.1), if_neg (by rw [ha]; simp), if_neg (by rw [hb]; simp), if_neg h])
def nV : ByteArray := ⟨#[118]⟩
def nPair : ByteArray := ⟨#[80, 97, 105, 114]⟩
def tV : T := .var nV
def tIn (t : T) : T := .con nPair [t, tV]
def tFF : T := .fn tInt tInt
def tW (t : T) : T := .con nPair [t]
def s4 : USet := usetV (V3 ++ [nV]) 53 (by decide) (by decide) (by intro x hx; simp [V3, nV] at hx; rcases hx with rfl | rfl | rfl | rfl <;> decide) (by decide)
theorem v_not {t : T} (h : T.Good t) : nV ∉ vs t := fun hx => by
  have := good_in t h _ hx
  simp [V3, nV] at this
theorem o4_t {t : T} (h : T.Good t) (hs : tsize t ≤ 51) : s4.O t := ⟨fun x hx => List.mem_append_left _ (good_in t h x hx), good_plain t h, by omega⟩
theorem o4_v : s4.O tV := s4.var _ (by simp [s4, usetV])
theorem plain_con {n : ByteArray} {l : List T} (h : ∀ k ∈ l, Plain3 k) : Plain3 (.con n l) := .mk _ (by simp [T.kind]) h
theorem o4_in {t : T} (h : T.Good t) (hs : tsize t ≤ 51) : s4.O (tIn t) := by
  refine ⟨fun x hx => ?_, plain_con fun k hk => ?_, ?_⟩
  · rw [vs_kids rfl] at hx
    obtain ⟨k, hk, hx⟩ := hx
    simp only [tIn, T.kids, List.mem_cons, List.not_mem_nil, or_false] at hk
    rcases hk with rfl | rfl
    · exact (o4_t h hs).1 x hx
    · exact o4_v.1 x hx
  · simp only [List.mem_cons, List.not_mem_nil, or_false] at hk
    rcases hk with rfl | rfl
    · exact good_plain _ h
    · exact o4_v.2.1
  · simp only [tIn, tV, tsize, tsizes]; omega
theorem o4_i : s4.O tInt := ⟨fun x hx => by simp [tInt, vs, vss] at hx, .mk _ (by simp [tInt, T.kind]) (fun k hk => by simp [tInt, T.kids] at hk), by simp [tInt, tsize, tsizes]⟩
theorem o4_f : s4.O tFF := ⟨fun x hx => by simp [tFF, tInt, vs, vss] at hx, .mk _ (by simp [tFF, T.kind]) (fun k hk => by simp [tFF, T.kids] at hk; subst hk; exact o4_i.2.1), by simp [tFF, tInt, tsize, tsizes]⟩
theorem o4_w {t : T} (h : T.Good t) (hs : tsize t ≤ 51) : s4.O (tW t) := by
  refine ⟨fun x hx => ?_, plain_con fun k hk => ?_, ?_⟩
  · rw [vs_kids rfl] at hx
    obtain ⟨k, hk, hx⟩ := hx
    simp only [tW, T.kids, List.mem_cons, List.not_mem_nil, or_false] at hk
    subst hk
    exact (o4_t h hs).1 x hx
  · simp only [List.mem_cons, List.not_mem_nil, or_false] at hk
    subst hk
    exact good_plain _ h
  · simp only [tW, tsize, tsizes]; omega
theorem self_none {l : List PR} (h : PInv s4 l T.var) : l.length = 0 := by
  have h1 := h.few
  have h2 : uns s4.V T.var = s4.V.length := by
    unfold uns
    congr 1
    exact List.filter_eq_self.2 fun x _ => by simp
  omega
/-- The law's types in their boxes. -/
def UC (w : World) (N : Nat) (t : T) (pa : Option Addr) (ca : Nat) (V : World) : Prop :=
  (BoxT N t pa ca V ∧ BoxT (N + 1) tV none 0 V ∧ BoxT (N + 1 + 1 + 1) (tIn t) (some ⟨N + 1 + 1, 0, none⟩) 2 V) ∧
  (BoxT (N + 1 + 1 + 1 + 1) tInt none 0 V ∧ BoxT (N + 1 + 1 + 1 + 1 + 1 + 1) tFF (some ⟨N + 1 + 1 + 1 + 1 + 1, 0, none⟩) 2 V ∧ BoxT (N + 1 + 1 + 1 + 1 + 1 + 1 + 1 + 1) (tW t) (some ⟨N + 1 + 1 + 1 + 1 + 1 + 1 + 1, 0, none⟩) 1 V) ∧ Below w.heap.size w V
theorem UC.below {w : World} {N : Nat} {t : T} {pa : Option Addr} {ca : Nat} {X Y : World} (h : UC w N t pa ca X) (hb : Below X.heap.size X Y) : UC w N t pa ca Y :=
  ⟨⟨h.1.1.below hb, h.1.2.1.below hb, h.1.2.2.below hb⟩, ⟨h.2.1.1.below hb, h.2.1.2.1.below hb, h.2.1.2.2.below hb⟩, h.2.2.trans (hb.mono h.2.2.size)⟩
theorem uc_start {w W : World} {t : T} {pa : Option Addr} {ca : Nat} (hT : TysAt W (.slice pa t.kids.length ca) t.kids) (hw : Below w.heap.size w W) :
    UC w W.heap.size t pa ca (((((((((W.alloc (.cells #[.int .i64 t.kind, .string t.name, .slice pa t.kids.length ca] 29)).alloc (.cells #[.int .i64 1, .string ⟨#[118]⟩, .slice none 0 0] 29)).alloc (.cells #[.int .i64 t.kind, .string t.name, .slice pa t.kids.length ca, .int .i64 1, .string ⟨#[118]⟩, .slice none 0 0] 29)).alloc
      (.cells #[.int .i64 2, .string ⟨#[80, 97, 105, 114]⟩, .slice (some ⟨W.heap.size + 1 + 1, 0, none⟩) 2 2] 29)).alloc (.cells #[.int .i64 2, .string ⟨#[73, 110, 116]⟩, .slice none 0 0] 29)).alloc (.cells #[.int .i64 2, .string ⟨#[73, 110, 116]⟩, .slice none 0 0, .int .i64 2, .string ⟨#[73, 110, 116]⟩, .slice none 0 0] 29)).alloc
      (.cells #[.int .i64 3, .string ⟨#[]⟩, .slice (some ⟨W.heap.size + 1 + 1 + 1 + 1 + 1, 0, none⟩) 2 2] 29)).alloc (.cells #[.int .i64 t.kind, .string t.name, .slice pa t.kids.length ca] 29)).alloc (.cells #[.int .i64 2, .string ⟨#[80, 97, 105, 114]⟩, .slice (some ⟨W.heap.size + 1 + 1 + 1 + 1 + 1 + 1 + 1, 0, none⟩) 1 1] 29)) := by
  have k1 := BoxT.new (t := t) hT
  have t1 := hT.keep (keepT_alloc W (.cells #[.int .i64 t.kind, .string t.name, .slice pa t.kids.length ca] 29))
  have w1 := hw.alloc hw.size (.cells #[.int .i64 t.kind, .string t.name, .slice pa t.kids.length ca] 29)
  have s1 : (W.alloc (.cells #[.int .i64 t.kind, .string t.name, .slice pa t.kids.length ca] 29)).heap.size = W.heap.size + 1 := by simp
  have hN := hw.size
  clear hT hw
  generalize W.heap.size = N at *
  generalize W.alloc (.cells #[.int .i64 t.kind, .string t.name, .slice pa t.kids.length ca] 29) = W1 at *
  have k2 := BoxT.new (w := W1) (t := tV) (TysAt.nil _ none 0)
  have k1' := k1.alloc (.cells #[.int .i64 1, .string ⟨#[118]⟩, .slice none 0 0] 29)
  have t2 := t1.keep (keepT_alloc W1 (.cells #[.int .i64 1, .string ⟨#[118]⟩, .slice none 0 0] 29))
  have w2 := w1.alloc (by omega) (.cells #[.int .i64 1, .string ⟨#[118]⟩, .slice none 0 0] 29)
  have s2 : (W1.alloc (.cells #[.int .i64 1, .string ⟨#[118]⟩, .slice none 0 0] 29)).heap.size = N + 1 + 1 := by simp [s1]
  rw [s1] at k2
  change BoxT (N + 1) tV none 0 (W1.alloc (.cells #[.int .i64 1, .string ⟨#[118]⟩, .slice none 0 0] 29)) at k2
  clear k1 t1 w1 s1
  generalize W1.alloc (.cells #[.int .i64 1, .string ⟨#[118]⟩, .slice none 0 0] 29) = W2 at *
  have r3 : TysAt (W2.alloc (.cells #[.int .i64 t.kind, .string t.name, .slice pa t.kids.length ca, .int .i64 1, .string ⟨#[118]⟩, .slice none 0 0] 29)) (.slice (some ⟨N + 1 + 1, 0, none⟩) 2 2) [t, tV] := TysAt.two s2.symm (TyAt.mk t t2) (TyAt.mk tV (TysAt.nil _ none 0))
  have b3 := below_a W2 (.cells #[.int .i64 t.kind, .string t.name, .slice pa t.kids.length ca, .int .i64 1, .string ⟨#[118]⟩, .slice none 0 0] 29)
  have s3 : (W2.alloc (.cells #[.int .i64 t.kind, .string t.name, .slice pa t.kids.length ca, .int .i64 1, .string ⟨#[118]⟩, .slice none 0 0] 29)).heap.size = N + 1 + 1 + 1 := by simp [s2]
  have c1 := k1'.below b3; have c2 := k2.below b3; have t3 := t2.keep (KeepT.of_below b3); have w3 := w2.trans (b3.mono w2.size)
  clear k1' k2 t2 w2 s2 b3
  generalize W2.alloc (.cells #[.int .i64 t.kind, .string t.name, .slice pa t.kids.length ca, .int .i64 1, .string ⟨#[118]⟩, .slice none 0 0] 29) = W3 at *
  have k3 := BoxT.new (w := W3) (t := tIn t) (a := some ⟨N + 1 + 1, 0, none⟩) (c := 2) r3
  rw [s3] at k3
  change BoxT (N + 1 + 1 + 1) (tIn t) (some ⟨N + 1 + 1, 0, none⟩) 2 (W3.alloc (.cells #[.int .i64 2, .string ⟨#[80, 97, 105, 114]⟩, .slice (some ⟨N + 1 + 1, 0, none⟩) 2 2] 29)) at k3
  have b4 := below_a W3 (.cells #[.int .i64 2, .string ⟨#[80, 97, 105, 114]⟩, .slice (some ⟨N + 1 + 1, 0, none⟩) 2 2] 29)
  have s4 : (W3.alloc (.cells #[.int .i64 2, .string ⟨#[80, 97, 105, 114]⟩, .slice (some ⟨N + 1 + 1, 0, none⟩) 2 2] 29)).heap.size = N + 1 + 1 + 1 + 1 := by simp [s3]
  have d1 := c1.below b4; have d2 := c2.below b4; have t4 := t3.keep (KeepT.of_below b4); have w4 := w3.trans (b4.mono w3.size)
  clear c1 c2 r3 t3 w3 s3 b4
  generalize W3.alloc (.cells #[.int .i64 2, .string ⟨#[80, 97, 105, 114]⟩, .slice (some ⟨N + 1 + 1, 0, none⟩) 2 2] 29) = W4 at *
  have k4 := BoxT.new (w := W4) (t := tInt) (TysAt.nil _ none 0)
  rw [s4] at k4
  change BoxT (N + 1 + 1 + 1 + 1) tInt none 0 (W4.alloc (.cells #[.int .i64 2, .string ⟨#[73, 110, 116]⟩, .slice none 0 0] 29)) at k4
  have b5 := below_a W4 (.cells #[.int .i64 2, .string ⟨#[73, 110, 116]⟩, .slice none 0 0] 29)
  have s5 : (W4.alloc (.cells #[.int .i64 2, .string ⟨#[73, 110, 116]⟩, .slice none 0 0] 29)).heap.size = N + 1 + 1 + 1 + 1 + 1 := by simp [s4]
  have e1 := d1.below b5; have e2 := d2.below b5; have e3 := k3.below b5; have t5 := t4.keep (KeepT.of_below b5); have w5 := w4.trans (b5.mono w4.size)
  clear d1 d2 k3 t4 w4 s4 b5
  generalize W4.alloc (.cells #[.int .i64 2, .string ⟨#[73, 110, 116]⟩, .slice none 0 0] 29) = W5 at *
  have r6 : TysAt (W5.alloc (.cells #[.int .i64 2, .string ⟨#[73, 110, 116]⟩, .slice none 0 0, .int .i64 2, .string ⟨#[73, 110, 116]⟩, .slice none 0 0] 29)) (.slice (some ⟨N + 1 + 1 + 1 + 1 + 1, 0, none⟩) 2 2) [tInt, tInt] := TysAt.two s5.symm (TyAt.mk tInt (TysAt.nil _ none 0)) (TyAt.mk tInt (TysAt.nil _ none 0))
  have b6 := below_a W5 (.cells #[.int .i64 2, .string ⟨#[73, 110, 116]⟩, .slice none 0 0, .int .i64 2, .string ⟨#[73, 110, 116]⟩, .slice none 0 0] 29)
  have s6 : (W5.alloc (.cells #[.int .i64 2, .string ⟨#[73, 110, 116]⟩, .slice none 0 0, .int .i64 2, .string ⟨#[73, 110, 116]⟩, .slice none 0 0] 29)).heap.size = N + 1 + 1 + 1 + 1 + 1 + 1 := by simp [s5]
  have f1 := e1.below b6; have f2 := e2.below b6; have f3 := e3.below b6; have f4 := k4.below b6; have t6 := t5.keep (KeepT.of_below b6); have w6 := w5.trans (b6.mono w5.size)
  clear e1 e2 e3 k4 t5 w5 s5 b6
  generalize W5.alloc (.cells #[.int .i64 2, .string ⟨#[73, 110, 116]⟩, .slice none 0 0, .int .i64 2, .string ⟨#[73, 110, 116]⟩, .slice none 0 0] 29) = W6 at *
  have k6 := BoxT.new (w := W6) (t := tFF) (a := some ⟨N + 1 + 1 + 1 + 1 + 1, 0, none⟩) (c := 2) r6
  rw [s6] at k6
  change BoxT (N + 1 + 1 + 1 + 1 + 1 + 1) tFF (some ⟨N + 1 + 1 + 1 + 1 + 1, 0, none⟩) 2 (W6.alloc (.cells #[.int .i64 3, .string ⟨#[]⟩, .slice (some ⟨N + 1 + 1 + 1 + 1 + 1, 0, none⟩) 2 2] 29)) at k6
  have b7 := below_a W6 (.cells #[.int .i64 3, .string ⟨#[]⟩, .slice (some ⟨N + 1 + 1 + 1 + 1 + 1, 0, none⟩) 2 2] 29)
  have s7 : (W6.alloc (.cells #[.int .i64 3, .string ⟨#[]⟩, .slice (some ⟨N + 1 + 1 + 1 + 1 + 1, 0, none⟩) 2 2] 29)).heap.size = N + 1 + 1 + 1 + 1 + 1 + 1 + 1 := by simp [s6]
  have g1 := f1.below b7; have g2 := f2.below b7; have g3 := f3.below b7; have g4 := f4.below b7; have t7 := t6.keep (KeepT.of_below b7); have w7 := w6.trans (b7.mono w6.size)
  clear f1 f2 f3 f4 r6 t6 w6 s6 b7
  generalize W6.alloc (.cells #[.int .i64 3, .string ⟨#[]⟩, .slice (some ⟨N + 1 + 1 + 1 + 1 + 1, 0, none⟩) 2 2] 29) = W7 at *
  have r8 : TysAt (W7.alloc (.cells #[.int .i64 t.kind, .string t.name, .slice pa t.kids.length ca] 29)) (.slice (some ⟨N + 1 + 1 + 1 + 1 + 1 + 1 + 1, 0, none⟩) 1 1) [t] := TysAt.one s7.symm (TyAt.mk t t7)
  have b8 := below_a W7 (.cells #[.int .i64 t.kind, .string t.name, .slice pa t.kids.length ca] 29)
  have s8 : (W7.alloc (.cells #[.int .i64 t.kind, .string t.name, .slice pa t.kids.length ca] 29)).heap.size = N + 1 + 1 + 1 + 1 + 1 + 1 + 1 + 1 := by simp [s7]
  have h1 := g1.below b8; have h2 := g2.below b8; have h3 := g3.below b8; have h4 := g4.below b8; have h6 := k6.below b8; have w8 := w7.trans (b8.mono w7.size)
  clear g1 g2 g3 g4 k6 t7 w7 s7 b8
  generalize W7.alloc (.cells #[.int .i64 t.kind, .string t.name, .slice pa t.kids.length ca] 29) = W8 at *
  have k8 := BoxT.new (w := W8) (t := tW t) (a := some ⟨N + 1 + 1 + 1 + 1 + 1 + 1 + 1, 0, none⟩) (c := 1) r8
  rw [s8] at k8
  exact ⟨⟨h1.alloc _, h2.alloc _, h3.alloc _⟩, ⟨h4.alloc _, h6.alloc _, k8⟩, w8.alloc w8.size _⟩
theorem UC.cells {w : World} {N : Nat} {t : T} {pa : Option Addr} {ca : Nat} {X : World} (h : UC w N t pa ca X) :
    ((X.cell? ⟨N, 0, none⟩ = some (.int .i64 t.kind) ∧ X.cell? ⟨N, 1, none⟩ = some (.string t.name) ∧ X.cell? ⟨N, 2, none⟩ = some (.slice pa t.kids.length ca)) ∧
     (X.cell? ⟨N + 1, 0, none⟩ = some (.int .i64 1) ∧ X.cell? ⟨N + 1, 1, none⟩ = some (.string ⟨#[118]⟩) ∧ X.cell? ⟨N + 1, 2, none⟩ = some (.slice none 0 0)) ∧
     (X.cell? ⟨N + 1 + 1 + 1, 0, none⟩ = some (.int .i64 2) ∧ X.cell? ⟨N + 1 + 1 + 1, 1, none⟩ = some (.string ⟨#[80, 97, 105, 114]⟩) ∧ X.cell? ⟨N + 1 + 1 + 1, 2, none⟩ = some (.slice (some ⟨N + 1 + 1, 0, none⟩) 2 2))) ∧
    ((X.cell? ⟨N + 1 + 1 + 1 + 1, 0, none⟩ = some (.int .i64 2) ∧ X.cell? ⟨N + 1 + 1 + 1 + 1, 1, none⟩ = some (.string ⟨#[73, 110, 116]⟩) ∧ X.cell? ⟨N + 1 + 1 + 1 + 1, 2, none⟩ = some (.slice none 0 0)) ∧
     (X.cell? ⟨N + 1 + 1 + 1 + 1 + 1 + 1, 0, none⟩ = some (.int .i64 3) ∧ X.cell? ⟨N + 1 + 1 + 1 + 1 + 1 + 1, 1, none⟩ = some (.string ⟨#[]⟩) ∧ X.cell? ⟨N + 1 + 1 + 1 + 1 + 1 + 1, 2, none⟩ = some (.slice (some ⟨N + 1 + 1 + 1 + 1 + 1, 0, none⟩) 2 2)) ∧
     (X.cell? ⟨N + 1 + 1 + 1 + 1 + 1 + 1 + 1 + 1, 0, none⟩ = some (.int .i64 2) ∧ X.cell? ⟨N + 1 + 1 + 1 + 1 + 1 + 1 + 1 + 1, 1, none⟩ = some (.string ⟨#[80, 97, 105, 114]⟩) ∧ X.cell? ⟨N + 1 + 1 + 1 + 1 + 1 + 1 + 1 + 1, 2, none⟩ = some (.slice (some ⟨N + 1 + 1 + 1 + 1 + 1 + 1 + 1, 0, none⟩) 1 1))) ∧
    (N < X.heap.size ∧ N + 1 < X.heap.size ∧ N + 1 + 1 + 1 < X.heap.size ∧ N + 1 + 1 + 1 + 1 < X.heap.size ∧ N + 1 + 1 + 1 + 1 + 1 + 1 < X.heap.size ∧ N + 1 + 1 + 1 + 1 + 1 + 1 + 1 + 1 < X.heap.size) :=
  ⟨⟨h.1.1.cells, h.1.2.1.cells, h.1.2.2.cells⟩, ⟨h.2.1.1.cells, h.2.1.2.1.cells, h.2.1.2.2.cells⟩, h.1.1.lt, h.1.2.1.lt, h.1.2.2.lt, h.2.1.1.lt, h.2.1.2.1.lt, h.2.1.2.2.lt⟩
def zS (sa : Option Addr) (sc : Nat) : Obj := .cells #[.slice sa 0 sc] 33 (0, 0)
end Go.Proofs.YthpphjkoiipkkaaDoor
/- UnifyOccurs, walked, out of what the program's Unify tells. -/
namespace Go.Proofs.YthpphjkoiipkkaaDoor
open Go.RowKit Go.Sort Go.Lib
attribute [local go_sem] Oper.semAt_some

theorem two_of_errs {av : Nat → Addr} {w : World} (h : Errs av w) : TwoE (av 5) (av 6) w := ⟨(h.1 5 (by decide)).1, (h.1 6 (by decide)).1⟩
theorem ev_type (av : Nat → Addr) : EvAt av 106 (errP (av 5)) := .inr ⟨5, by decide, rfl, rfl⟩
theorem ev_occur (av : Nat → Addr) : EvAt av 107 (errP (av 6)) := .inr ⟨6, by decide, rfl, rfl⟩
/-- What each of the law's six calls tells. -/
def OccOK (av : Nat → Addr) (w : World) (N : Nat) (t : T) (pa : Option Addr) (ca : Nat) : Prop := ∀ V, UC w N t pa ca V →
  (Calls Tryd.prog 10 #[.agg #[.int .i64 1, .string ⟨#[118]⟩, .slice none 0 0], .agg #[.int .i64 1, .string ⟨#[118]⟩, .slice none 0 0]] V fun E w' => (∃ sa sc, E = .returned (.tuple #[.agg #[.slice sa 0 sc], .nilIface])) ∧ Below V.heap.size V w') ∧
  (Calls Tryd.prog 10 #[.agg #[.int .i64 1, .string ⟨#[118]⟩, .slice none 0 0], .agg #[.int .i64 2, .string ⟨#[80, 97, 105, 114]⟩, .slice (some ⟨N + 1 + 1, 0, none⟩) 2 2]] V fun E w' => (∃ sa sc, E = .returned (.tuple #[.agg #[.slice sa 0 sc], .iface 143 (.pointer (some (av 6)))])) ∧ Below V.heap.size V w') ∧
  (Calls Tryd.prog 10 #[.agg #[.int .i64 2, .string ⟨#[80, 97, 105, 114]⟩, .slice (some ⟨N + 1 + 1, 0, none⟩) 2 2], .agg #[.int .i64 1, .string ⟨#[118]⟩, .slice none 0 0]] V fun E w' => (∃ sa sc, E = .returned (.tuple #[.agg #[.slice sa 0 sc], .iface 143 (.pointer (some (av 6)))])) ∧ Below V.heap.size V w') ∧
  (Calls Tryd.prog 10 #[.agg #[.int .i64 2, .string ⟨#[73, 110, 116]⟩, .slice none 0 0], .agg #[.int .i64 3, .string ⟨#[]⟩, .slice (some ⟨N + 1 + 1 + 1 + 1 + 1, 0, none⟩) 2 2]] V fun E w' => (∃ sa sc, E = .returned (.tuple #[.agg #[.slice sa 0 sc], .iface 143 (.pointer (some (av 5)))])) ∧ Below V.heap.size V w') ∧
  (Calls Tryd.prog 10 #[.agg #[.int .i64 2, .string ⟨#[80, 97, 105, 114]⟩, .slice (some ⟨N + 1 + 1, 0, none⟩) 2 2], .agg #[.int .i64 2, .string ⟨#[80, 97, 105, 114]⟩, .slice (some ⟨N + 1 + 1 + 1 + 1 + 1 + 1 + 1, 0, none⟩) 1 1]] V fun E w' => (∃ sa sc, E = .returned (.tuple #[.agg #[.slice sa 0 sc], .iface 143 (.pointer (some (av 5)))])) ∧ Below V.heap.size V w') ∧
  (Calls Tryd.prog 10 #[.agg #[.int .i64 1, .string ⟨#[118]⟩, .slice none 0 0], .agg #[.int .i64 t.kind, .string t.name, .slice pa t.kids.length ca]] V fun E w' => (∃ sa sn sc, E = .returned (.tuple #[.agg #[.slice sa sn sc], .nilIface])) ∧ Below V.heap.size V w')
theorem occ_ok (HU : PUni) (av : Nat → Addr) (w : World) (hE : Errs av w) (N : Nat) (t : T) (pa : Option Addr) (ca : Nat) (hg : T.Good t) (hs : tsize t ≤ 51) : OccOK av w N t pa ca := by
  intro V hV
  have hT := (two_of_errs hE).below hV.2.2
  have nil : ∀ t : T, t.kids = [] → TysAt V (.slice none t.kids.length 0) t.kids := fun t h => by rw [h]; exact TysAt.nil _ _ _
  have kIn := hV.1.2.2.2
  have kFF := hV.2.1.2.1.2
  have kW := hV.2.1.2.2.2
  have kT := hV.1.1.2
  refine ⟨?_, ?_, ?_, ?_, ?_, ?_⟩
  · refine (HU s4 (by decide) tV tV _ none none 0 0 V _ _ (uni_self nV) o4_v o4_v trivial hT (nil tV rfl) (nil tV rfl)).mono ?_
    rintro E w' ⟨⟨sv, l, rfl, h1, h2⟩, hb⟩
    obtain ⟨sa, sc, rfl⟩ := h1.shape
    rw [self_none h2]
    exact ⟨⟨sa, sc, rfl⟩, hb⟩
  · refine (HU s4 (by decide) tV (tIn t) _ none _ 0 2 V _ _ (uni_leftIn rfl (by simp [tIn, tV, vs, vss])) o4_v (o4_in hg hs) trivial hT (nil tV rfl) kIn).mono ?_
    rintro E w' ⟨⟨sa, sc, rfl⟩, hb⟩
    exact ⟨⟨sa, sc, rfl⟩, hb⟩
  · refine (HU s4 (by decide) (tIn t) tV _ _ none 2 0 V _ _ (uni_rightIn rfl (by simp [tIn, tV, vs, vss])) (o4_in hg hs) o4_v trivial hT kIn (nil tV rfl)).mono ?_
    rintro E w' ⟨⟨sa, sc, rfl⟩, hb⟩
    exact ⟨⟨sa, sc, rfl⟩, hb⟩
  · refine (HU s4 (by decide) tInt tFF _ none _ 0 2 V _ _ (uni_clash rfl rfl (fun h => by have := h.1; simp [tInt, tFF, T.kind] at this)) o4_i o4_f trivial hT (nil tInt rfl) kFF).mono ?_
    rintro E w' ⟨⟨sa, sc, rfl⟩, hb⟩
    exact ⟨⟨sa, sc, rfl⟩, hb⟩
  · refine (HU s4 (by decide) (tIn t) (tW t) _ _ _ 2 1 V _ _ (uni_clash rfl rfl (fun h => by have := h.2.2; simp [tIn, tW, T.kids] at this)) (o4_in hg hs) (o4_w hg hs) trivial hT kIn kW).mono ?_
    rintro E w' ⟨⟨sa, sc, rfl⟩, hb⟩
    exact ⟨⟨sa, sc, rfl⟩, hb⟩
  · obtain ⟨τ, hτ⟩ := uni_leftOk (x := nV) (v_not hg)
    refine (HU s4 (by decide) tV t _ none pa 0 ca V _ _ hτ o4_v (o4_t hg hs) trivial hT (nil tV rfl) kT).mono ?_
    rintro E w' ⟨⟨sv, l, rfl, h1, h2⟩, hb⟩
    obtain ⟨sa, sc, rfl⟩ := h1.shape
    exact ⟨⟨sa, _, sc, rfl⟩, hb⟩
set_option maxRecDepth 100000 in
set_option maxHeartbeats 8000000 in
theorem occ_law (HU : PUni) (av : Nat → Addr) (a : Option Addr) (n c : Nat) (w : World) (hE : Errs av w) (hl : IntsAt w.heap.size a n w) :
    Calls Tryd.prog 6 #[.slice a n c] w fun e w' => e = .returned (.bool true) ∧ Below w.heap.size w w' := by
  have HL := Lib.hid hl; have HE := Lib.hid hE
  have HF := Lib.hid (first_uni HU (av 5) (av 6) w (two_of_errs hE))
  have HUh := Lib.hid HU
  clear hl hE HU
  by_cases hb : n ≤ 60
  · have hn : n < 1152921504606846976 := by omega
    have hbI : ¬ ((60 : Int) < (n : Int)) := by omega
    have hbD : decide ((60 : Int) < (n : Int)) = false := by simpa using hbI
    go_enter Tryd.func6, Tryd.ntmps6
    go_wp2_with (go_at_call 8; refine HF.out.mono ?_; rintro e w1 ⟨rfl, h1⟩; have HB1 := Lib.hid h1; clear h1 HF)
    refine (make_n3 _ _ _ _ _ _ _ (seq_new HB1.out HL.out) (by decide) hn).mono ?_
    rintro e W1 ⟨⟨t, u, rfl, hg, hu⟩, hk, hf⟩
    obtain ⟨pa, ca, rfl⟩ := hu.shape
    have hts : tsize t ≤ 51 := by have := tsize2_text t hg.1; have := hg.2.2; omega
    have HC := Lib.hid (uc_start hu.tys ((HB1.out.alloc HB1.out.size (.cells #[.slice a n c, .int .i64 0] 26)).trans hf.1))
    have HO := Lib.hid (occ_ok HUh.out av w HE.out W1.heap.size t pa ca hg.1 hts)
    clear hu hf hg hk HB1 HL HUh
    simp only [tyV]
    go_wp2_with (go_at_call 10; refine with_calls (UC w W1.heap.size t pa ca) HC.out ?_; clear HC; intro X hX; refine (HO.out X hX).1.mono ?_; rintro E V1 ⟨⟨sa, sc, rfl⟩, hb1⟩; have hq := hX.below hb1; have HV1 := Lib.hid hq; obtain ⟨⟨-, ⟨b0, b1, b2⟩, ⟨c0, c1, c2⟩⟩, ⟨-, -, -⟩, -, lb, lc, -, -, -⟩ := hq.cells; clear hq hb1 hX)
    go_wp2_with (go_at_call 10; refine with_calls (fun X => UC w W1.heap.size t pa ca X ∧ X.heap[V1.heap.size]? = some (zS sa sc)) ⟨HV1.out.below (below_a _ _), alloc_new V1 _⟩ ?_; intro X hX; refine (HO.out X hX.1).2.1.mono ?_; rintro E V2 ⟨⟨s2, k2, rfl⟩, hb2⟩; have hq := hX.1.below hb2; have HV2 := Lib.hid (And.intro hq ((hb2.block _ (Array.getElem?_eq_some_iff.1 hX.2).1).trans hX.2)); clear b0 b1 b2 lb c0 c1 c2 lc HV1; obtain ⟨⟨-, ⟨b0, b1, b2⟩, ⟨c0, c1, c2⟩⟩, ⟨-, -, -⟩, -, lb, lc, -, -, -⟩ := hq.cells; clear hq hb2 hX)
    go_wp2_with (go_at_call 10; refine with_calls (fun X => UC w W1.heap.size t pa ca X ∧ X.heap[V1.heap.size]? = some (zS sa sc)) ⟨HV2.out.1.below (below_a _ _), ((below_a _ _).block _ (Array.getElem?_eq_some_iff.1 HV2.out.2).1).trans HV2.out.2⟩ ?_; intro X hX; refine (HO.out X hX.1).2.2.1.mono ?_; rintro E V3 ⟨⟨s3, k3, rfl⟩, hb3⟩; have hq := hX.1.below hb3; have HV3 := Lib.hid (And.intro hq ((hb3.block _ (Array.getElem?_eq_some_iff.1 hX.2).1).trans hX.2)); clear b0 b1 b2 lb c0 c1 c2 lc HV2; obtain ⟨⟨-, -, -⟩, ⟨⟨d0, d1, d2⟩, ⟨e0, e1, e2⟩, -⟩, -, -, -, ld, le, -⟩ := hq.cells; clear hq hb3 hX)
    go_wp2_with (go_at_call 10; refine with_calls (fun X => UC w W1.heap.size t pa ca X ∧ X.heap[V1.heap.size]? = some (zS sa sc)) ⟨HV3.out.1.below (below_a _ _), ((below_a _ _).block _ (Array.getElem?_eq_some_iff.1 HV3.out.2).1).trans HV3.out.2⟩ ?_; intro X hX; refine (HO.out X hX.1).2.2.2.1.mono ?_; rintro E V4 ⟨⟨s4, k4, rfl⟩, hb4⟩; have hq := hX.1.below hb4; have HV4 := Lib.hid (And.intro hq ((hb4.block _ (Array.getElem?_eq_some_iff.1 hX.2).1).trans hX.2)); clear d0 d1 d2 ld e0 e1 e2 le HV3; obtain ⟨⟨-, -, ⟨c0, c1, c2⟩⟩, ⟨-, -, ⟨f0, f1, f2⟩⟩, -, -, lc, -, -, lf⟩ := hq.cells; clear hq hb4 hX)
    go_wp2_with (go_at_call 10; refine with_calls (fun X => UC w W1.heap.size t pa ca X ∧ X.heap[V1.heap.size]? = some (zS sa sc)) ⟨HV4.out.1.below (below_a _ _), ((below_a _ _).block _ (Array.getElem?_eq_some_iff.1 HV4.out.2).1).trans HV4.out.2⟩ ?_; intro X hX; refine (HO.out X hX.1).2.2.2.2.1.mono ?_; rintro E V5 ⟨⟨s5, k5, rfl⟩, hb5⟩; have hq := hX.1.below hb5; have HV5 := Lib.hid (And.intro hq ((hb5.block _ (Array.getElem?_eq_some_iff.1 hX.2).1).trans hX.2)); clear c0 c1 c2 lc f0 f1 f2 lf HV4; obtain ⟨⟨⟨a0, a1, a2⟩, ⟨b0, b1, b2⟩, -⟩, ⟨-, -, -⟩, la, lb, -, -, -, -⟩ := hq.cells; clear hq hb5 hX)
    go_wp2_with (first
      | (go_at_call 10; refine with_calls (fun X => UC w W1.heap.size t pa ca X ∧ X.heap[V1.heap.size]? = some (zS sa sc)) ⟨HV5.out.1.below (below_a _ _), ((below_a _ _).block _ (Array.getElem?_eq_some_iff.1 HV5.out.2).1).trans HV5.out.2⟩ ?_; intro X hX; refine (HO.out X hX.1).2.2.2.2.2.mono ?_; rintro E V6 ⟨⟨s6, n6, k6, rfl⟩, hb6⟩; have hq := hX.1.below hb6; have HV6 := Lib.hid (And.intro hq ((hb6.block _ (Array.getElem?_eq_some_iff.1 hX.2).1).trans hX.2)); clear a0 a1 a2 la b0 b1 b2 lb HV5; clear hq hb6 hX; have z0 : V6.cell? ⟨V1.heap.size, 0, none⟩ = some (.slice sa 0 sc) := (by rw [Lib.cell_of_heap HV6.out.2]; rfl); have lz := (Array.getElem?_eq_some_iff.1 HV6.out.2).1)
      | (go_at_call 21; refine (len_ret _ _ _ _).mono ?_; rintro e Wz ⟨rfl, hbz⟩; have HBz := Lib.hid ((HV6.out.1.2.2.alloc HV6.out.1.2.2.size _).trans (hbz.mono (by have := HV6.out.1.2.2.size; simp; omega))); clear hbz HV6 z0 lz)
      | (go_at_call 12; (first | refine (is_ev (ev_occur av) _ (HE.out.below HBz.out)).mono ?_ | refine (is_ev (ev_type av) _ (HE.out.below HBz.out)).mono ?_); rintro e Wz ⟨rfl, hbz⟩; have HBy := Lib.hid (HBz.out.trans (hbz.mono HBz.out.size)); clear hbz HBz; have HBz := HBy; clear HBy))
    go_ret
    exact ⟨rfl, HBz.out⟩
  · have hbI : ((60 : Int) < (n : Int)) := by omega
    go_enter Tryd.func6, Tryd.ntmps6
    go_wp2_with (go_at_call 8; refine HF.out.mono ?_; rintro e w1 ⟨rfl, h1⟩; have HB1 := Lib.hid h1; clear h1 HF)
    go_ret
    exact ⟨rfl, HB1.out⟩
end Go.Proofs.YthpphjkoiipkkaaDoor
