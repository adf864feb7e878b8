/- Merged: UgFound, UfOneA, UfOneR. -/
import Derived.Test.YthpphjkoiipkkaaDoorUm12
import Derived.Test.YthpphjkoiipkkaaDoorUm19
import Derived.Test.YthpphjkoiipkkaaDoorUm9
import Derived.LoopNIn
import Derived.LoopIn
import Derived.Test.YthpphjkoiipkkaaDoorUm18
import Derived.Test.YthpphjkoiipkkaaDoorUm10
/- found: what the graph has come to. -/
namespace Go.Proofs.YthpphjkoiipkkaaDoor
open Go.RowKit Go.Maps Go.Sort Go.Lib
attribute [local go_sem] Oper.semAt_some

set_option maxRecDepth 100000 in
set_option maxHeartbeats 8000000 in
theorem found_gen {B : Nat} {G : Gr} {rt : Nat → Nat} {σ : Sg} {E c g mb p cap : Nat} {sl : Nat → Value} {w : World} {v : Value} {ls : List Nat} (h : GM B G rt E c g mb (.slice (some ⟨p, 0, none⟩) G.N cap) sl w) (gi : GI G rt) (hsi : SI G σ rt) (hE : ∀ i, i < G.N → (G.ag i).length ≤ 1000000) (hN : G.N ≤ 1000000) (hN0 : 0 < G.N) (hv : PlcAt w v ls) (hlt : ls.length ≤ G.N ∧ ∀ i ∈ ls, i < G.N ∧ rt i = i) (htop : ∀ q (hq : q < ls.length), ∀ x ∈ G.ag ls[q], ∃ p, ∃ hp : p < ls.length, q < p ∧ ls[p] = rt x)
    (hall : ∀ i, i < G.N → rt i = i → i ∈ ls) {V : List ByteArray} (hVI : VarIn V G) (hVl : V.length < 20) (hVz : ∀ x ∈ V, tsize (σ x) ≤ 900000000) :
    Calls Tryd.prog 37 #[gp g, v] w fun e w' => (∃ sv d, e = .returned (.agg #[sv]) ∧ SubAt sv d w' ∧ IsSg d σ) ∧ Below B w w' := by
  have HG := Lib.hid h; have HI := Lib.hid gi
  have y0 := h.top0
  have hg := h.lt
  have hpt := (h.part hN0).1
  have hcp := (h.part hN0).2.1
  obtain ⟨va, vc, q, rfl, hq, hrow⟩ := plc_row hv
  have hqn : q ≠ p ∧ q ≤ w.heap.size := by
    obtain ⟨cur, hc⟩ := h.kind
    rcases hq with rfl | ⟨cs, fz, hq⟩
    · exact ⟨by omega, Nat.le_refl _⟩
    · refine ⟨fun e => ?_, Nat.le_of_lt (Array.getElem?_eq_some_iff.1 hq).1⟩
      subst e; rw [hc] at hq; cases hq
  have hbs : B ≤ w.heap.size := by have := h.bg; omega
  have hmb : mb < w.heap.size := by obtain ⟨_, _, _, f, _, k, _⟩ := h; exact k.lt
  have hmk : ∀ W : World, (Instr.makeSlice 27 (.int .i64 (G.N : Int)) (.int .i64 (G.N : Int))).run Tryd.prog W = .ok (.slice (some ⟨W.heap.size, 0, none⟩) G.N G.N) (W.alloc (.cells (zeros G.N) 29)) := fun W => make_row3 G.N (by omega) W
  have HRow := Lib.hid hrow; have HV := Lib.hid hv; have HLt := Lib.hid hlt; have HSI := Lib.hid hsi; have HTop := Lib.hid htop; have HEE := Lib.hid hE; have HAll := Lib.hid hall; have HVI := Lib.hid (And.intro hVI (And.intro hVl hVz))
  clear hall hVI hVl hVz h gi hsi htop hrow hq hv hlt hE
  refine (callsIn_wide (n := 3)).1 ?_
  refine callsIn_of_wp_marks Tryd.func37 rfl trivial ?_ rfl
  simp only [Tryd.ntmps37, List.size_toArray, List.length_cons, List.length_nil, Nat.reduceAdd, Nat.reduceSub, Array.replicate_succ, Array.replicate_zero, List.push_toArray, List.append_toArray, List.nil_append, List.cons_append]
  gi_wp2_with (refine ⟨trivial, ?_⟩; gi_at_call 53; refine (callsIn_wide.2 (backwardI_any _ _ _ _)).mono ?_; rintro e1 w1 ⟨rfl, rfl⟩)
  have HF0 := FI.start HG.out hbs σ ls va ls.length vc
  have hBn : (((((w.alloc (.cells #[gp g] 96)).alloc (.cells #[.slice none 0 0] 33)).alloc (.cells (zeros G.N) 29)).alloc (.cells #[.slice (some ⟨w.heap.size + 1 + 1, 0, none⟩) G.N G.N] 27)).alloc (.cells #[.slice va ls.length vc] 22)).heap[w.heap.size + 1 + 1 + 1 + 1]? = some (.cells #[.slice va ls.length vc] 22 (0, 0)) := by
    have := alloc_new ((((w.alloc (.cells #[gp g] 96)).alloc (.cells #[.slice none 0 0] 33)).alloc (.cells (zeros G.N) 29)).alloc (.cells #[.slice (some ⟨w.heap.size + 1 + 1, 0, none⟩) G.N G.N] 27)) (.cells #[.slice va ls.length vc] 22)
    simpa using this
  have hsz : (((((w.alloc (.cells #[gp g] 96)).alloc (.cells #[.slice none 0 0] 33)).alloc (.cells (zeros G.N) 29)).alloc (.cells #[.slice (some ⟨w.heap.size + 1 + 1, 0, none⟩) G.N G.N] 27)).alloc (.cells #[.slice va ls.length vc] 22)).heap.size = w.heap.size + 1 + 1 + 1 + 1 + 1 := by simp
  have hB0 : Below w.heap.size w (((((w.alloc (.cells #[gp g] 96)).alloc (.cells #[.slice none 0 0] 33)).alloc (.cells (zeros G.N) 29)).alloc (.cells #[.slice (some ⟨w.heap.size + 1 + 1, 0, none⟩) G.N G.N] 27)).alloc (.cells #[.slice va ls.length vc] 22)) := (((((Below.refl w.heap.size w).alloc (Nat.le_refl _) _).alloc (by simp) _).alloc (by simp; omega) _).alloc (by simp; omega) _).alloc (by simp; omega) _
  obtain ⟨W0, hW0⟩ : ∃ W0, (((((w.alloc (.cells #[gp g] 96)).alloc (.cells #[.slice none 0 0] 33)).alloc (.cells (zeros G.N) 29)).alloc (.cells #[.slice (some ⟨w.heap.size + 1 + 1, 0, none⟩) G.N G.N] 27)).alloc (.cells #[.slice va ls.length vc] 22)) = W0 := ⟨_, rfl⟩
  rw [hW0] at HF0 hBn hsz hB0 ⊢
  clear hW0
  have hc7 : W0.cell? ⟨w.heap.size + 1 + 1 + 1 + 1, 0, none⟩ = some (.slice va ls.length vc) := by rw [Lib.cell_of_heap hBn]; rfl
  have hr0 : ∀ i, i < ls.length → va = some ⟨q, 0, none⟩ ∧ ls.length ≤ vc ∧ W0.cell? ⟨q, i, none⟩ = some (.int .i64 (ls.getD i 0 : Nat)) := fun i hi => by
    obtain ⟨f1, f2, f3⟩ := HRow.out i hi
    exact ⟨f1, f2, (hB0.cell (p := ⟨q, i, none⟩) (World.block_lt_of_cell? _ _ f3)).trans f3⟩
  refine range_toldN (n := 3) (σ := Unit) (by omega) (gf := 62) (lb := #[.pointer (some ⟨w.heap.size + 1 + 1 + 1 + 1, 0, none⟩)]) rfl (enters_of Tryd.func62 (by kernel_rfl) rfl)
    (backI_toldN 2 (by omega) ls (by have := HLt.out.1; omega) va vc q (w.heap.size + 1 + 1 + 1 + 1) W0 hc7 hr0)
    (fun k hk => by rcases hk with rfl | rfl <;> omega) (Below.refl _ _) (fun x => rfl)
    (fun _ pre X => FI B G rt E c g mb p cap sl σ ls w pre X)
    (fun _ _ => False)
    (fun _ k => k = p ∨ k = w.heap.size + 1 + 1)
    ?hI ?hIx ?hT ⟨(), HF0⟩
    (fun i a' W => a' = { tmps := #[gp g, .slice va ls.length vc, .pointer (some ⟨w.heap.size, 0, none⟩), undef, .pointer (some ⟨w.heap.size + 1, 0, none⟩), .pointer (some ⟨w.heap.size + 1 + 1 + 1, 0, none⟩), undef, .int .i64 (ls.getD i 0 : Nat), undef, undef, undef, undef, undef, undef, undef, gp g, .pointer (some ⟨g, 0, none⟩), .pointer (some ⟨g, 0, none⟩), .slice (some ⟨p, 0, none⟩) G.N cap, .int .i64 (G.N : Int), .slice (some ⟨w.heap.size + 1 + 1, 0, none⟩) G.N G.N, .slice va ls.length vc, .func (.func 62) #[] #[.pointer (some ⟨w.heap.size + 1 + 1 + 1 + 1, 0, none⟩)], .int .i64 (i : Int), .int .i64 (ls.getD i 0 : Nat), undef, undef, undef, undef, undef, undef, undef, undef, undef, undef, undef, undef, undef, undef, undef, undef, undef, undef, undef, undef, undef, undef, undef, undef, undef, undef, undef, undef, undef, undef, undef, undef, undef, undef, undef, undef, undef, undef, undef, undef, undef, undef, undef, undef, undef, undef, undef, undef, undef, undef, undef, undef, undef, undef, undef, undef, undef, undef, undef, undef, undef, undef, undef, undef, undef, undef], defers := [] })
    ?hAx ?assign ?body ?done ?stop
  case hI => exact fun _ pre X Y row h hg hr => h.kept hg hr (by omega) (by omega)
  case hIx => exact fun _ _ _ _ h => h.elim
  case hT =>
    rintro _ pre X k h (rfl | rfl)
    · exact ⟨(h.gm.part hN0).1, fun hk => by rcases hk with hk | hk <;> omega⟩
    · obtain ⟨_, _, _, _, _, hm⟩ := h.made
      exact ⟨hm.lt, fun hk => by rcases hk with hk | hk <;> omega⟩
  case hAx => exact fun x a' _ X Y row h _ _ => h
  case assign =>
    rintro l _ pre i X C hI0 hex hC
    dsimp only [encK]
    gi_wp2
    exact hC _ _ ((KeepsOthers.refl _).from _) (Below.refl _ _) rfl
  case body =>
    rintro l _ pre i a' X hF hlen hpre rfl
    obtain ⟨hgm, hb0, hb1, hb3, ⟨m, D, hm, hD, hD3, hmade⟩, hlow⟩ := hF
    have hi : i < ls.length := by have := pre_len hpre; omega
    have hmi : m = i + 1 := by have := pre_len hpre; have := pre_len hm; omega
    subst hmi
    obtain ⟨t, ht⟩ : ∃ t, ls.getD i 0 = t := ⟨_, rfl⟩
    have htm : t ∈ ls := by subst ht; simp [List.getD, hi]
    obtain ⟨htN, htr⟩ := HLt.out.2 t htm
    obtain ⟨hpX, _, pa, pc, x0, x1, x2, hpl⟩ := hgm.part htN
    obtain ⟨nx, x3⟩ := hgm.part4 htN
    have gt := hgm.top0
    have cb0 : X.cell? ⟨w.heap.size, 0, none⟩ = some (gp g) := by rw [Lib.cell_of_heap hb0]; rfl
    have cb3 : X.cell? ⟨w.heap.size + 1 + 1 + 1, 0, none⟩ = some (.slice (some ⟨w.heap.size + 1 + 1, 0, none⟩) G.N G.N) := by rw [Lib.cell_of_heap hb3]; rfl
    have l3 := (Array.getElem?_eq_some_iff.1 hb3).1
    have hgX := hgm.lt
    have htz : (t : Int) < (G.N : Int) := by omega
    have htz0 : (0 : Int) ≤ (t : Int) := by omega
    have hmk2 : ∀ W : World, (Instr.makeSlice 27 (.int .i64 ((G.ag t).length : Int)) (.int .i64 ((G.ag t).length : Int))).run Tryd.prog W = .ok (.slice (some ⟨W.heap.size, 0, none⟩) (G.ag t).length (G.ag t).length) (W.alloc (.cells (zeros (G.ag t).length) 29)) := fun W => make_row3 _ (by have := HEE.out t htN; omega) W
    obtain ⟨n, hn⟩ : ∃ n, (G.ag t).length = n := ⟨_, rfl⟩
    obtain ⟨tk, htk⟩ : ∃ k, (G.tr t).kind = k := ⟨_, rfl⟩
    obtain ⟨tn, htn⟩ : ∃ k, (G.tr t).name = k := ⟨_, rfl⟩
    have HGM := Lib.hid hgm; have Hb0 := Lib.hid hb0; have Hb1 := Lib.hid hb1; have Hb3 := Lib.hid hb3; have HMade := Lib.hid hmade; have HLow := Lib.hid hlow; have HPre := Lib.hid hpre; have HT := Lib.hid ht; have HN := Lib.hid hn; have HTK := Lib.hid htk; have HTN := Lib.hid htn
    have HPl := Lib.hid hpl
    rw [hn] at x2 hmk2; rw [htk] at x0; rw [htn] at x1
    rw [ht]
    clear hgm hb0 hb1 hb3 hmade hlow hpre ht hm htm hr0 hc7 hpl HF0 hBn hsz hB0 y0 hmk hn htk htn
    gi_wp2
    have hP : ((X.alloc (.cells #[.int .i64 tk, .string tn, .slice pa n pc, .int .i64 (nx : Int)] 102)).alloc (.cells (zeros n) 29)).heap[X.heap.size]? = some (.cells #[.int .i64 tk, .string tn, .slice pa n pc, .int .i64 (nx : Int)] 102 (0, 0)) := by
      rw [Below.heap_alloc _ _ _ (by simp)]; exact alloc_new X _
    have hR : ((X.alloc (.cells #[.int .i64 tk, .string tn, .slice pa n pc, .int .i64 (nx : Int)] 102)).alloc (.cells (zeros n) 29)).heap[X.heap.size + 1]? = some (.cells (zeros n) 29 (0, 0)) := by
      have := alloc_new (X.alloc (.cells #[.int .i64 tk, .string tn, .slice pa n pc, .int .i64 (nx : Int)] 102)) (.cells (zeros n) 29)
      simpa using this
    have hsX : ((X.alloc (.cells #[.int .i64 tk, .string tn, .slice pa n pc, .int .i64 (nx : Int)] 102)).alloc (.cells (zeros n) 29)).heap.size = X.heap.size + 1 + 1 := by simp
    have hbX : Below X.heap.size X ((X.alloc (.cells #[.int .i64 tk, .string tn, .slice pa n pc, .int .i64 (nx : Int)] 102)).alloc (.cells (zeros n) 29)) := ((Below.refl _ X).alloc (Nat.le_refl _) _).alloc (by simp) _
    have hoX : KeepsOthers X ((X.alloc (.cells #[.int .i64 tk, .string tn, .slice pa n pc, .int .i64 (nx : Int)] 102)).alloc (.cells (zeros n) 29)) := (KeepsOthers.alloc X _).trans (KeepsOthers.alloc _ _)
    obtain ⟨X1, hX1⟩ : ∃ X1, (X.alloc (.cells #[.int .i64 tk, .string tn, .slice pa n pc, .int .i64 (nx : Int)] 102)).alloc (.cells (zeros n) 29) = X1 := ⟨_, rfl⟩
    rw [hX1] at hP hR hsX hbX hoX ⊢
    clear hX1
    have HP1 := Lib.hid hP; have HbX := Lib.hid hbX; have HoX := Lib.hid hoX
    have HL0 : LI B G rt E c g mb p cap sl (w.heap.size + 1 + 1) (X.heap.size + 1) ((G.ag t).map fun x => sub σ (G.tr (rt x))) X1 0 X1 := LI.start (HGM.out.keep hbX) hR (by rw [List.length_map]; exact HN.out.symm)
    clear hP hR hbX hoX x0 x1 x2 x3 gt cb0 cb3 hmk2
    gi_loopw [39] (fun vi wr => ∃ j : Nat, vi = .int .i64 (j : Int) ∧ j ≤ n ∧ LI B G rt E c g mb p cap sl (w.heap.size + 1 + 1) (X.heap.size + 1) ((G.ag t).map fun x => sub σ (G.tr (rt x))) X1 j wr) (fun vi _ => n - (intOf vi).toNat)
    case atStart => exact ⟨0, rfl, Nat.zero_le _, HL0⟩
    case round =>
      obtain ⟨j, rfl, hj, hG2, hRow, hK, hBel, hKo⟩ := hrel
      clear HL0
      have kp : ∀ {k : Nat} {o : Obj}, X.heap[k]? = some o → k ≠ p → wr.heap[k]? = some o := fun {k o} hk hkp => by
        have h1 := (Array.getElem?_eq_some_iff.1 hk).1
        exact (hK k (by omega) hkp).trans ((HbX.out.block k h1).trans hk)
      have hb0' := kp Hb0.out (by omega)
      have hb3' := kp Hb3.out (by omega)
      have cb0 : wr.cell? ⟨w.heap.size, 0, none⟩ = some (gp g) := by rw [Lib.cell_of_heap hb0']; rfl
      have cb3 : wr.cell? ⟨w.heap.size + 1 + 1 + 1, 0, none⟩ = some (.slice (some ⟨w.heap.size + 1 + 1, 0, none⟩) G.N G.N) := by rw [Lib.cell_of_heap hb3']; rfl
      by_cases hlt : j < n
      · have hjz : (j : Int) < (n : Int) := by omega
        have hpk : ∀ (k : Nat) (cs : Array Value) (fz : Nat × Nat), X.heap[k]? = some (.cells cs 3 fz) → wr.heap[k]? = some (.cells cs 3 fz) := fun k cs fz hk => kp hk (by
          rintro rfl
          obtain ⟨cur, hc⟩ := HGM.out.kind
          rw [hc] at hk; cases hk)
        obtain ⟨q', cap', e, hq', hc', hx⟩ := (HPl.out.keep hpk).row (k := j) (by rw [HN.out]; exact hlt)
        rw [HN.out] at hc'
        obtain ⟨rfl, rfl⟩ : pa = some ⟨q', 0, none⟩ ∧ pc = cap' := by injection e with e1 e2 e3; exact ⟨e1, e3⟩
        clear e
        have hjl : j < (G.ag t).length := by rw [HN.out]; exact hlt
        obtain ⟨x, hxe⟩ : ∃ x, (G.ag t)[j] = x := ⟨_, rfl⟩
        rw [hxe] at hx
        have hxm : x ∈ G.ag t := by rw [← hxe]; exact List.getElem_mem hjl
        have hxN : x < G.N := HI.out.ok.arg htN hxm
        have hdn : dnOf ls (i + 1) (rt x) := by
          have e2 : ls[i] = t := by have := HT.out; simpa [List.getD, hi] using this
          obtain ⟨p', hp', h1, h2⟩ := HTop.out i hi x (by rw [e2]; exact hxm)
          exact ⟨p', by omega, hp', by simp [List.getD, hp', h2]⟩
        have hrx := HI.out.lt x hxN
        have hmw : MadeAt (w.heap.size + 1 + 1) D G.N (fun i => sub σ (G.tr i)) (dnOf ls (i + 1)) wr := HMade.out.keep (fun k cs fz hk1 hk2 hk => kp hk (by omega)) (Nat.le_refl _)
        have HRow := Lib.hid hRow; have HMw := Lib.hid hmw; have HXE := Lib.hid hxe; have HK := Lib.hid hK; have HBel := Lib.hid hBel; have HKo := Lib.hid hKo; have HG2 := Lib.hid hG2
        have Hb3' := Lib.hid hb3'; have HDn := Lib.hid hdn
        have hwr3 := (Array.getElem?_eq_some_iff.1 hb3').1
        have hwr0 := (Array.getElem?_eq_some_iff.1 hb0').1
        have HC := Lib.hid (root_any hG2.drew hxN)
        have hjm : j < ((G.ag t).map fun x => sub σ (G.tr (rt x))).length := by rw [List.length_map, HN.out]; exact hlt
        have hrz : ((rt x : Nat) : Int) < (G.N : Int) := by omega
        have hrz0 : (0 : Int) ≤ ((rt x : Nat) : Int) := by omega
        clear hRow hmw hxe hK hBel hKo hG2 hb3' hb0' hpk hdn hxm kp
        have hXw : X.heap.size ≤ wr.heap.size := by have := HBel.out.size; omega
        obtain ⟨a9, c9, m0, m1, m2, mT⟩ := HMw.out.get hrx HDn.out
        obtain ⟨r0, r1, r2, s0, s1, s2, fr0, fr1, fr2⟩ := HRow.out.cells hjm
        have hlj : ((G.ag t).map fun x => sub σ (G.tr (rt x)))[j] = sub σ (G.tr (rt x)) := by rw [List.getElem_map, HXE.out]
        obtain ⟨u, hu⟩ : ∃ u, sub σ (G.tr (rt x)) = u := ⟨_, rfl⟩
        rw [hu] at m0 m1 m2 mT hlj
        have hFC : FC p w.heap.size (w.heap.size + 1 + 1 + 1) (w.heap.size + 1 + 1) (X.heap.size + 1) G.N j (rt x) g u a9 c9 wr := ⟨cb0, cb3, m0, m1, m2, ⟨_, s0⟩, ⟨_, s1⟩, ⟨_, s2⟩, fr0, fr1, fr2, by omega, by omega, by omega, by omega⟩
        have HFC := Lib.hid hFC; have HTy := Lib.hid mT; have HLj := Lib.hid hlj
        clear m0 m1 m2 mT r0 r1 r2 s0 s1 s2 fr0 fr1 fr2 hFC hlj hu
        gi_wp2
        refine fnd_here (B := B) (G := G) (rt := rt) (E := E) (c := c) (g := g) (mb := mb) (p := p) (cap := cap) (sl := sl) (b2 := w.heap.size) (b5 := w.heap.size + 1 + 1 + 1) (M := w.heap.size + 1 + 1) (R := X.heap.size + 1) (j := j) (n := n) (ix := x) (u := u) (ad := a9) (ac := c9) (wr := wr) hjz hrz
          (fun V h => (root_any h.1 hxN).mono fun e Y h => h) wr (by kernel_rfl) (by kernel_rfl) (by kernel_rfl) (by kernel_rfl) (by kernel_rfl) (by kernel_rfl) (by kernel_rfl) (FSt.start HG2.out HFC.out) ?_
        intro xv V hV hx7
        have hN := LI.next HGM.out (Nat.le_succ _) ⟨HG2.out, HRow.out, HK.out, HBel.out, HKo.out⟩ hV.1 hV.2.1 hjm HLj.out ((HTy.out.keep (fun k _ _ hk hh => (hV.2.1.2 k (by have := hk.2; have := hD; omega) (by have := hk.1; omega)).trans hh)).mono (fun k hk => ⟨⟨hk.1, by have := hk.2; omega⟩, by have := hk.2; have := hV.2.1.1.size; omega⟩)) (by omega) (by omega)
        have HNx := Lib.hid hN
        clear hN hV HFC HTy HLj HMw HG2 HRow HK HBel HKo Hb3' HC
        simp only [fndFr, hx7]
        simp only [Array.getD_eq_getD_getElem?, List.getElem?_toArray, List.getElem?_cons_succ, List.getElem?_cons_zero, Option.getD_some]
        gi_wp2
        have h6 : n ≤ 1000000 := by rw [← HN.out]; exact HEE.out t htN
        have hwj : wrap64 ((j : Int) + 1) = ((j + 1 : Nat) : Int) := by unfold wrap64; omega
        have hj1 : j + 1 ≤ n := hlt
        rw [hwj]
        clear h6 hwj
        exact ⟨⟨j + 1, rfl, hj1, HNx.out⟩, Nat.sub_lt_sub_left hlt (Nat.lt_succ_self j)⟩
      · have hjz : ¬ ((j : Int) < (n : Int)) := by omega
        have hjn : j = n := by omega
        have hXw : X.heap.size ≤ wr.heap.size := by have := hBel.size; omega
        have hP1 := (hK X.heap.size (by omega) (by omega)).trans HP1.out
        have p0 : wr.cell? ⟨X.heap.size, 0, none⟩ = some (.int .i64 tk) := by rw [Lib.cell_of_heap hP1]; rfl
        have p1 : wr.cell? ⟨X.heap.size, 1, none⟩ = some (.string tn) := by rw [Lib.cell_of_heap hP1]; rfl
        have hmw : MadeAt (w.heap.size + 1 + 1) D G.N (fun i => sub σ (G.tr i)) (dnOf ls (i + 1)) wr := HMade.out.keep (fun k cs fz hk1 hk2 hk => kp hk (by omega)) (Nat.le_refl _)
        obtain ⟨_, _, _, z0, z1, z2, f0, f1, f2⟩ := hmw.cells htN
        have hBp : B ≤ p := by obtain ⟨_, _, ⟨_, _, _, r, _⟩, _⟩ := HG.out; exact (r.lt p rfl).1
        have HLI : Hid (LI B G rt E c g mb p cap sl (w.heap.size + 1 + 1) (X.heap.size + 1) ((G.ag t).map fun x => sub σ (G.tr (rt x))) X1 j wr) := Lib.hid ⟨hG2, hRow, hK, hBel, hKo⟩
        have HJN := Lib.hid hjn
        clear hRow hmw hK hBel hKo hG2 hb3' hb0' kp hP1 hlt hjn
        gi_wp2
        have hR := FI.round HI.out HSI.out Hb0.out Hb1.out Hb3.out HPre.out hD HMade.out HLow.out HbX.out HoX.out hsX (HJN.out ▸ HLI.out) HN.out htN htr HT.out HG.out hpt hBp HTK.out HTN.out
        exact ⟨hR.1.from _, hR.2.1, (), hR.2.2⟩
  case done =>
    rintro D _ xs W hD rfl hF hK
    obtain ⟨hgm, hb0, hb1, hb3, ⟨m, D2, hm, hD2, hD3, hmade⟩, hlow⟩ := hF
    have hm0 : m = 0 := by have := pre_len hm; simp at this; omega
    subst hm0
    have c0 : W.cell? ⟨w.heap.size, 0, none⟩ = some (gp g) := by rw [Lib.cell_of_heap hb0]; rfl
    have gt := hgm.top0
    have hgW := hgm.lt
    have hpW := (hgm.part hN0).1
    have hDW : D < W.heap.size := (Array.getElem?_eq_some_iff.1 hK).1
    have hMW := hmade.lt
    have HGW := Lib.hid hgm; have Hb0 := Lib.hid hb0; have Hb1 := Lib.hid hb1; have Hb3 := Lib.hid hb3; have HMade := Lib.hid hmade; have HLow := Lib.hid hlow; have HK := Lib.hid hK
    have HP0 : Hid (PS B G rt σ E c g mb p cap sl W 0 [] (.slice none 0 0) W) := Lib.hid (PS.start hgm)
    clear hgm hb0 hb1 hb3 hmade hlow hK hm hc7 hr0 hBn HF0 y0
    gi_wp2
    gi_loopw [12, 68] (fun vl vi wr => ∃ (k : Nat) (d : List PR), vi = .int .i64 (k : Int) ∧ k ≤ G.N ∧ PS B G rt σ E c g mb p cap sl W k d vl wr) (fun _ vi _ => G.N - (intOf vi).toNat)
    case atStart => exact ⟨0, [], rfl, Nat.zero_le _, HP0.out⟩
    case round =>
      obtain ⟨k, d, rfl, hk, hP⟩ := hrel
      have hwW := hP.fr.1.size
      have cb0 : wr.cell? ⟨w.heap.size, 0, none⟩ = some (gp g) := hP.fr.cell c0 (by omega)
      have l0 : w.heap.size < wr.heap.size := by omega
      have HP := Lib.hid hP
      by_cases hlt : k < G.N
      · have hkz : (k : Int) < (G.N : Int) := by omega
        have hkz0 : (0 : Int) ≤ (k : Int) := by omega
        obtain ⟨hpr, _, pa, pc, x0, x1, x2, _⟩ := hP.gm.part hlt
        obtain ⟨nx, x3⟩ := hP.gm.part4 hlt
        have gtr := hP.gm.top0
        have hgr := hP.gm.lt
        obtain ⟨n, hn⟩ : ∃ n, (G.ag k).length = n := ⟨_, rfl⟩
        obtain ⟨tk, htk⟩ : ∃ z, (G.tr k).kind = z := ⟨_, rfl⟩
        obtain ⟨tn, htn⟩ : ∃ z, (G.tr k).name = z := ⟨_, rfl⟩
        rw [hn] at x2; rw [htk] at x0; rw [htn] at x1
        have HTN := Lib.hid htn
        have hba : ∀ o : Obj, Below wr.heap.size wr (wr.alloc o) := fun o => (Below.refl _ wr).alloc (Nat.le_refl _) o
        have HBA := Lib.hid hba
        obtain ⟨vb, hvb⟩ : ∃ b, (G.tr k).isV = b := ⟨_, rfl⟩
        have HVB := Lib.hid hvb
        have hIV : ∀ o : Obj, Calls Tryd.prog 47 #[gp g, .int .i64 (k : Int)] (wr.alloc o) fun e w' => e = .returned (.bool vb) ∧ w' = wr.alloc o := fun o => by
          have := isVar_any (hP.gm.keep (hba o)) hlt
          rw [hvb] at this; exact this
        have HIV := Lib.hid hIV
        clear hP hn htk htn hba hvb hIV
        cases vb with
        | true =>
          gi_wp2_with (refine ⟨trivial, ?_⟩; gi_at_call 47; refine (callsIn_wide.2 (HIV.out _)).mono ?_; rintro e w1 ⟨rfl, rfl⟩)
          obtain ⟨X2, hX2⟩ : ∃ X2, wr.alloc (.cells #[.int .i64 tk, .string tn, .slice pa n pc, .int .i64 (nx : Int)] 102) = X2 := ⟨_, rfl⟩
          have hFa : Fr p wr X2 := by rw [← hX2]; exact Fr.of_below (HBA.out _)
          have hn1 : X2.cell? ⟨wr.heap.size, 1, none⟩ = some (.string tn) := by rw [← hX2, Lib.cell_of_heap (alloc_new wr _)]; rfl
          have hPX : PS B G rt σ E c g mb p cap sl W k d u12 X2 := by rw [← hX2]; exact HP.out.made (HBA.out _) hpW
          rw [hX2]
          have hrx := HI.out.lt k hlt
          have hdn : dnOf ls 0 (rt k) := by
            obtain ⟨q', hq1, hq2⟩ := List.getElem_of_mem (HAll.out (rt k) hrx (HI.out.fix k hlt))
            exact ⟨q', Nat.zero_le _, hq1, by simp [List.getD, hq1, hq2]⟩
          obtain ⟨a9, c9, m0, m1, m2, mT⟩ := (HMade.out.fr hPX.fr (by omega)).get hrx hdn
          have cb3 : X2.cell? ⟨w.heap.size + 1 + 1 + 1, 0, none⟩ = some (.slice (some ⟨w.heap.size + 1 + 1, 0, none⟩) G.N G.N) := hPX.fr.cell (by rw [Lib.cell_of_heap Hb3.out]; rfl) (by omega)
          have hTC : TC p w.heap.size (w.heap.size + 1 + 1 + 1) wr.heap.size (w.heap.size + 1 + 1) G.N (rt k) g ⟨tn, sub σ (G.tr (rt k)), a9, c9⟩ X2 := ⟨hFa.cell cb0 (by omega), cb3, m0, m1, m2, hn1, by omega, by omega, by omega, by omega, by have := hFa.1.size; omega⟩
          have hrz : ((rt k : Nat) : Int) < (G.N : Int) := by omega
          have hdl : d.length ≤ 1000 := by have := hPX.pl.small (by omega) HVI.out.1; have := HVI.out.2.1; omega
          refine wpIn_wide.2 ?_
          refine trd_here (B := B) (G := G) (rt := rt) (E := E) (c := c) (g := g) (mb := mb) (p := p) (cap := cap) (sl := sl) (b2 := w.heap.size) (b5 := w.heap.size + 1 + 1 + 1) (b14 := wr.heap.size) (M := w.heap.size + 1 + 1) (base := W.heap.size) (ix := k) (pr := ⟨tn, sub σ (G.tr (rt k)), a9, c9⟩) (ds := d) (lv := u12) (wr := X2) hrz hPX.own hpW hPX.fr.1.size hdl
            (fun V h => (root_any h.1 hlt).mono fun e Y h => h) X2 (by kernel_rfl) (by kernel_rfl) (by kernel_rfl) (by kernel_rfl) (by kernel_rfl) (by kernel_rfl) (by kernel_rfl) (TSt.start hPX.gm hTC) ?_
          intro xv V9 g9 c9' w9 hV9 ho9 hg9
          have hvar : G.tr k = .var tn := by
            have := isV_var HVB.out
            rw [this]; exact congrArg T.var HTN.out
          have hsx : sub σ (G.tr (rt k)) = σ tn := by rw [← HSI.out.root HI.out hlt, hvar]; rfl
          have hN9 := PS.next (x := ⟨tn, sub σ (G.tr (rt k)), a9, c9⟩) hPX HI.out HGW.out hpW ⟨hV9.1, hV9.2.1⟩ ho9 hg9 hlt hvar hsx ((mT.keep (fun k _ _ hk hh => (hV9.2.1.2 k (Array.getElem?_eq_some_iff.1 hh).1 (by have := hk.1; omega)).trans hh)).tys)
          have HN9 := Lib.hid hN9
          have hlt' : k + 1 ≤ G.N := hlt
          clear hN9 hsx hvar hV9 ho9 hg9 hTC hPX hFa hX2 hn1 m0 m1 m2 mT cb3 HIV HBA hdn
          simp only [trdFr, Act.put, List.setIfInBounds_toArray, List.set_cons_zero, List.set_cons_succ]
          simp only [Array.getD_eq_getD_getElem?, List.getElem?_toArray, List.getElem?_cons_succ, List.getElem?_cons_zero, Option.getD_some]
          gi_wp2
          rw [show (k : Int) + 1 = ((k + 1 : Nat) : Int) from (Int.natCast_succ k).symm]
          exact ⟨⟨k + 1, d ++ [⟨tn, sub σ (G.tr (rt k)), a9, c9⟩], rfl, hlt', HN9.out⟩, Nat.sub_lt_sub_left hlt (Nat.lt_succ_self k)⟩
        | false =>
          gi_wp2_with (refine ⟨trivial, ?_⟩; gi_at_call 47; refine (callsIn_wide.2 (HIV.out _)).mono ?_; rintro e w1 ⟨rfl, rfl⟩)
          have hlt' : k + 1 ≤ G.N := hlt
          have hPX := (HP.out.made (HBA.out (.cells #[.int .i64 tk, .string tn, .slice pa n pc, .int .i64 (nx : Int)] 102)) hpW).skip HVB.out
          rw [show (k : Int) + 1 = ((k + 1 : Nat) : Int) from (Int.natCast_succ k).symm]
          exact ⟨⟨k + 1, d, rfl, hlt', hPX⟩, Nat.sub_lt_sub_left hlt (Nat.lt_succ_self k)⟩
      · have hkz : ¬ ((k : Int) < (G.N : Int)) := by omega
        have hkN : k = G.N := by omega
        subst hkN
        obtain ⟨q1, q2, q3, q4, q5, q6⟩ := hP.ready HSI.out HVI.out.1 HVI.out.2.1 HVI.out.2.2
        have HOF := Lib.hid (of_any q1 q2 q3 q4 q5)
        have HQ6 := Lib.hid q6
        have hb1r : wr.heap[w.heap.size + 1]? = some (.cells #[.slice none 0 0] 33 (0, 0)) := (hP.fr.2 _ (by omega) (by omega)).trans Hb1.out
        have Hb1r := Lib.hid hb1r
        clear hP q1 q2 q3 q4 q5 q6 hb1r
        gi_wp2_with (refine ⟨trivial, ?_⟩; gi_at_call 54; refine (callsIn_wide.2 HOF.out).mono ?_; rintro e w2 ⟨⟨sv, l9, rfl, hs9, hm9⟩, hb9⟩; obtain ⟨sa, sc, rfl⟩ := hs9.shape; have hb1s := (hb9.block _ (Array.getElem?_eq_some_iff.1 Hb1r.out).1).trans Hb1r.out; have z0 : w2.cell? ⟨w.heap.size + 1, 0, none⟩ = some (.slice none 0 0) := (by rw [Lib.cell_of_heap hb1s]; rfl); have z1 := Lib.frozen_of_heap hb1s 0; have HS9 := Lib.hid hs9; have HM9 := Lib.hid hm9; have HB9 := Lib.hid hb9; have HB1s := Lib.hid hb1s; clear hs9 hm9 hb9 hb1s)
        have hs' := HS9.out.other (x := .slice sa l9.length sc) HB1s.out
        have hDr : D ≠ w.heap.size + 1 := by omega
        have hKr : wr.heap[D]? = some (.deferred (some [])) := (HP.out.fr.2 D hDW (by omega)).trans HK.out
        have hK2 : w2.heap[D]? = some (.deferred (some [])) := (HB9.out.block D (by omega)).trans hKr
        have hKZ : (w2.setCell ⟨w.heap.size + 1, 0, none⟩ (.slice sa l9.length sc)).heap[D]? = some (.deferred (some [])) := (Below.heap_setCell _ ⟨w.heap.size + 1, 0, none⟩ _ D hDr).trans hK2
        have hZ1 : (w2.setCell ⟨w.heap.size + 1, 0, none⟩ (.slice sa l9.length sc)).heap[w.heap.size + 1]? = some (.cells #[.slice sa l9.length sc] 33 (0, 0)) := blk_set HB1s.out _
        have hBZ : Below B w (w2.setCell ⟨w.heap.size + 1, 0, none⟩ (.slice sa l9.length sc)) := ((HLow.out.trans (HP.out.fr.below (by have := HGW.out.bp; omega) (by omega))).trans (HB9.out.mono (by omega))).setCell (p := ⟨w.heap.size + 1, 0, none⟩) (by show B ≤ w.heap.size + 1; omega) _
        obtain ⟨Z, hZ⟩ : ∃ Z, w2.setCell ⟨w.heap.size + 1, 0, none⟩ (.slice sa l9.length sc) = Z := ⟨_, rfl⟩
        rw [hZ] at hs' hKZ hZ1 hBZ ⊢
        clear hZ
        have hoth : ∀ k, k ≠ D → (Z.putObj D (.deferred none)).heap[k]? = Z.heap[k]? := fun k hk => World.putObj_heap_other hk
        have hs2 := hs'.turn (w' := Z.putObj D (.deferred none)) (fun k cs T fz hk => (hoth k (fun e => by subst e; rw [hKZ] at hk; cases hk)).trans hk)
        have hZ2 := (hoth _ (Ne.symm hDr)).trans hZ1
        have d2 : (Z.putObj D (.deferred none)).cell? ⟨w.heap.size + 1, 0, none⟩ = some (.slice sa l9.length sc) := by rw [Lib.cell_of_heap hZ2]; rfl
        have hB2 : Below B Z (Z.putObj D (.deferred none)) := ⟨rfl, rfl, rfl, by simp [World.putObj], fun k hk => hoth k (by omega)⟩
        refine ⟨by simp, .inl ⟨_, _, rfl, run_takeDeferred hKZ, ?_⟩⟩
        exact ⟨.agg #[.slice sa l9.length sc], by simp [results, Tryd.results37, go_sem, d2], ⟨_, _, rfl, hs2, fun n => (HM9.out.same n).trans (HQ6.out n)⟩, hBZ.trans hB2⟩
  case stop =>
    rintro D pre W hD _ h
    exact h.elim
/-- The contract of found holds. -/
theorem found_ok : FoundOK := fun _ _ _ _ _ _ _ _ _ _ _ _ _ _ _ _ hsi _ ag hN0 hv hlt hall htop hVl hz hS =>
  (found_gen ag.gm ag.gi hsi (fun i hi => Nat.le_trans (ag.hE i hi) (Nat.le_trans ag.e hS)) (Nat.le_trans ag.n hS) hN0 hv hlt htop hall ag.vars hVl hz).mono fun _ _ h => h
/-- The program's Unify answers as the document's. -/
theorem puni_ok : PUni := puni found_ok
end Go.Proofs.YthpphjkoiipkkaaDoor
/- UnifyOne: what its last statement keeps. -/
namespace Go.Proofs.YthpphjkoiipkkaaDoor
open Go.RowKit Go.Sort Go.Lib
/-- Both applied, and what was found. -/
def UO (w : World) (b8 b12 b13 : Nat) (x : T) (xa ya : Option Addr) (xc yc : Nat) (sa : Option Addr) (sc : Nat) (l : List PR) (V : World) : Prop :=
  (BoxT b12 x xa xc V ∧ BoxT b13 x ya yc V) ∧ BoxS b8 (.slice sa l.length sc) l V ∧ Below w.heap.size w V
theorem UO.below {w : World} {b8 b12 b13 : Nat} {x : T} {xa ya : Option Addr} {xc yc : Nat} {sa : Option Addr} {sc : Nat} {l : List PR} {X Y : World} (h : UO w b8 b12 b13 x xa ya xc yc sa sc l X) (hb : Below X.heap.size X Y) : UO w b8 b12 b13 x xa ya xc yc sa sc l Y :=
  ⟨⟨h.1.1.below hb, h.1.2.below hb⟩, h.2.1.below hb, h.2.2.trans (hb.mono h.2.2.size)⟩
theorem UO.cells {w : World} {b8 b12 b13 : Nat} {x : T} {xa ya : Option Addr} {xc yc : Nat} {sa : Option Addr} {sc : Nat} {l : List PR} {X : World} (h : UO w b8 b12 b13 x xa ya xc yc sa sc l X) :
    (X.cell? ⟨b12, 0, none⟩ = some (.int .i64 x.kind) ∧ X.cell? ⟨b12, 1, none⟩ = some (.string x.name) ∧ X.cell? ⟨b12, 2, none⟩ = some (.slice xa x.kids.length xc)) ∧
    (X.cell? ⟨b13, 0, none⟩ = some (.int .i64 x.kind) ∧ X.cell? ⟨b13, 1, none⟩ = some (.string x.name) ∧ X.cell? ⟨b13, 2, none⟩ = some (.slice ya x.kids.length yc)) ∧ X.cell? ⟨b8, 0, none⟩ = some (.slice sa l.length sc) :=
  ⟨h.1.1.cells, h.1.2.cells, h.2.1.cell⟩
/-- Both types, and what was found. -/
def UP (w : World) (b6 b7 b8 : Nat) (t u : T) (pa pb : Option Addr) (ca cb : Nat) (sa : Option Addr) (sc : Nat) (l : List PR) (V : World) : Prop :=
  (BoxT b6 t pa ca V ∧ BoxT b7 u pb cb V) ∧ BoxS b8 (.slice sa l.length sc) l V ∧ Below w.heap.size w V
theorem UP.below {w : World} {b6 b7 b8 : Nat} {t u : T} {pa pb : Option Addr} {ca cb : Nat} {sa : Option Addr} {sc : Nat} {l : List PR} {X Y : World} (h : UP w b6 b7 b8 t u pa pb ca cb sa sc l X) (hb : Below X.heap.size X Y) : UP w b6 b7 b8 t u pa pb ca cb sa sc l Y :=
  ⟨⟨h.1.1.below hb, h.1.2.below hb⟩, h.2.1.below hb, h.2.2.trans (hb.mono h.2.2.size)⟩
end Go.Proofs.YthpphjkoiipkkaaDoor
/- UnifyOne: its last statement, a region of 18 operations that draws its order, by an invariant. (Made by a program.) -/
namespace Go.Proofs.YthpphjkoiipkkaaDoor
open Go.RowKit Go.Sort Go.Lib
attribute [local go_sem] Oper.semAt_some

noncomputable def unoOps : Array Oper := regionIn 14 (Tryd.f4.body.getD .skip)
def unoFr (b : Nat → Value) (d : List Deferred) (x : Nat → Value) : Act := { tmps := #[b 0, b 1, b 2, b 3, x 17, b 5, b 6, b 7, b 8, b 9, b 10, b 11, b 12, b 13, b 14, b 15, b 16, b 17, b 18, b 19, b 20, b 21, b 22, b 23, b 24, b 25, b 26, b 27, b 28, b 29, b 30, b 31, b 32, b 33, b 34, b 35, b 36, b 37, b 38, b 39, b 40, b 41, b 42, b 43, b 44, b 45, b 46, b 47, b 48, b 49, b 50, b 51, b 52, b 53, b 54, b 55, b 56, b 57, b 58, x 0, x 1, x 2, x 3, x 4, x 5, x 6, x 7, x 8, x 9, x 10, x 11, x 12, x 13, x 14, x 15, x 16], defers := d }

def unoVals (tx : T) (xa ya sa : Option Addr) (xc yc sc : Nat) (l : List PR) (i : Nat) (v : Value) (V : World) : Prop :=
  match i with
  | 0 => v = .bool true
  | 1 => v = .bool true
  | 2 => v = .nilIface
  | 3 => v = .bool true
  | 4 => v = .bool true
  | 5 => v = .bool true
  | 6 => v = .agg #[.int .i64 (tx).kind, .string (tx).name, .slice xa (tx).kids.length xc]
  | 7 => v = .agg #[.int .i64 (tx).kind, .string (tx).name, .slice ya (tx).kids.length yc]
  | 8 => v = .bool true
  | 9 => v = .bool true
  | 10 => v = .bool true
  | 11 => v = .agg #[.slice sa l.length sc]
  | 12 => v = .agg #[.int .i64 (tx).kind, .string (tx).name, .slice xa (tx).kids.length xc]
  | 13 => ∃ za zc, v = .agg #[.int .i64 (tx).kind, .string (tx).name, .slice za (tx).kids.length zc] ∧ TysAt V (.slice za (tx).kids.length zc) (tx).kids
  | 14 => v = .agg #[.int .i64 (tx).kind, .string (tx).name, .slice xa (tx).kids.length xc]
  | 15 => v = .bool true
  | 16 => v = .bool true
  | 17 => v = .bool true
  | _ => True

theorem unoVals_keep {tx : T} {xa ya sa : Option Addr} {xc yc sc : Nat} {l : List PR} (i : Nat) (v : Value) (V Y : World) (h : unoVals tx xa ya sa xc yc sc l i v V) (hb : Below V.heap.size V Y) : unoVals tx xa ya sa xc yc sc l i v Y := by
  unfold unoVals at *
  split at h <;> first
    | exact h
    | (obtain ⟨za, zc, e, h⟩ := h; exact ⟨za, zc, e, h.keep (KeepT.of_below hb)⟩)

theorem uno_size : unoOps.size = 18 := by kernel_rfl
theorem uno_dst_1 : (unoOps[1]?).bind (·.dst) = some 60 := by kernel_rfl
theorem uno_dst_5 : (unoOps[5]?).bind (·.dst) = some 64 := by kernel_rfl
theorem uno_dst_10 : (unoOps[10]?).bind (·.dst) = some 69 := by kernel_rfl
set_option linter.unusedSimpArgs false in
set_option maxRecDepth 100000 in
set_option maxHeartbeats 8000000 in
theorem uno_region {w : World} {b8 b12 b13 : Nat} {tx : T} {xa ya sa : Option Addr} {xc yc sc : Nat} {l : List PR} {b : Nat → Value} {d : List Deferred}
    (h5 : b 5 = .bool true) (h11 : b 11 = .nilIface) (h12 : b 12 = .pointer (some ⟨b12, 0, none⟩)) (h13 : b 13 = .pointer (some ⟨b13, 0, none⟩)) (h8 : b 8 = .pointer (some ⟨b8, 0, none⟩))
    (HC8 : ∀ V, UO w b8 b12 b13 tx xa ya xc yc sa sc l V → Calls Tryd.prog 13 #[.agg #[.int .i64 (tx).kind, .string (tx).name, .slice xa (tx).kids.length xc], .agg #[.int .i64 (tx).kind, .string (tx).name, .slice ya (tx).kids.length yc]] V fun e Y => e = .returned (.bool true) ∧ Below V.heap.size V Y)
    (HC13 : ∀ V, UO w b8 b12 b13 tx xa ya xc yc sa sc l V → Calls Tryd.prog 14 #[.agg #[.slice sa l.length sc], .agg #[.int .i64 (tx).kind, .string (tx).name, .slice xa (tx).kids.length xc]] V fun e Y => (∃ za zc, e = .returned (.agg #[.int .i64 (tx).kind, .string (tx).name, .slice za (tx).kids.length zc]) ∧ TysAt Y (.slice za (tx).kids.length zc) (tx).kids) ∧ Below V.heap.size V Y)
    (HC15 : ∀ V, UO w b8 b12 b13 tx xa ya xc yc sa sc l V → ∀ za13, ∀ zc13, TysAt V (.slice za13 (tx).kids.length zc13) (tx).kids → Calls Tryd.prog 13 #[.agg #[.int .i64 (tx).kind, .string (tx).name, .slice za13 (tx).kids.length zc13], .agg #[.int .i64 (tx).kind, .string (tx).name, .slice xa (tx).kids.length xc]] V fun e Y => e = .returned (.bool true) ∧ Below V.heap.size V Y)
    {Q : Exit → Act → World → Prop} {ops : Array Oper} (hops : ops = unoOps) (x0 : Nat → Value) (X : World) (hS : UO w b8 b12 b13 tx xa ya xc yc sa sc l X.drew)
    (hfin : ∀ x V, UO w b8 b12 b13 tx xa ya xc yc sa sc l V → x 17 = .bool true → Q .normal (unoFr b d x) V) : (Code.region 14 ops true).wp Tryd.prog Q (unoFr b d x0) X := by
  have HC := Lib.hid (And.intro HC8 (And.intro HC13 HC15))
  clear HC8 HC13 HC15
  refine region_inv (unoFr b d) (fun V => UO w b8 b12 b13 tx xa ya xc yc sa sc l V) (fun V Y => Below V.heap.size V Y) (unoVals tx xa ya sa xc yc sc l) x0 (by kernel_rfl) rfl hS (fun V Y h hb => h.below hb) (fun i v V Y _ h hb => unoVals_keep i v V Y h hb) ?_ (fun x V hV h => hfin x V hV (h 17 (by rw [hops, uno_size]; decide)))
  clear hfin hS
  obtain ⟨f, hf⟩ : ∃ f, StepAt Tryd.prog (unoFr b d) (fun V => UO w b8 b12 b13 tx xa ya xc yc sa sc l V) (fun V Y => Below V.heap.size V Y) (unoVals tx xa ya sa xc yc sc l) ops Q = f := ⟨_, rfl⟩
  rw [hf, hops]
  simp only [unoOps, Tryd.f4, regionIn, Option.getD_some, Nat.reduceBEq, Bool.false_eq_true, if_false, if_true, beq_self_eq_true, Array.append_empty, Array.empty_append, List.append_eq, List.cons_append, List.nil_append, AllAt, Nat.reduceAdd, Nat.zero_add]
  -- 0: slot 59 := Op.move t5
  refine And.intro ?_ ?_
  · rw [← hf]; clear hf
    refine ⟨by decide +kernel, fun x v => by kernel_rfl, fun x V hV hdep K hK => ?_⟩
    clear hdep
    refine run_bare (by kernel_rfl) ?_
    unfold unoFr
    go_simp
    refine kfit (hK _ _ (Below.refl _ V) rfl) ?_
    first | (simp only [unoFr, Act.put, List.setIfInBounds_toArray, List.set_cons_zero, List.set_cons_succ, h5, h11, h12, h13, h8]; done) | (simp only [unoFr, Act.put, List.setIfInBounds_toArray, List.set_cons_zero, List.set_cons_succ, h5, h11, h12, h13, h8]; rfl)
  -- 1: slot 60 := Op.move t59
  refine And.intro ?_ ?_
  · rw [← hf]; clear hf
    refine ⟨by decide +kernel, fun x v => by kernel_rfl, fun x V hV hdep K hK => ?_⟩
    have e0 : x 0 = .bool true := depOf hdep 0 (by decide +kernel)
    clear hdep
    refine run_bare (by kernel_rfl) ?_
    unfold unoFr
    go_simp
    refine kfit (hK _ _ (Below.refl _ V) rfl) ?_
    first | (simp only [unoFr, Act.put, List.setIfInBounds_toArray, List.set_cons_zero, List.set_cons_succ, h5, h11, h12, h13, h8, e0]; done) | (simp only [unoFr, Act.put, List.setIfInBounds_toArray, List.set_cons_zero, List.set_cons_succ, h5, h11, h12, h13, h8, e0]; rfl)
  -- 2: slot 61 := Op.move t11
  refine And.intro ?_ ?_
  · rw [← hf]; clear hf
    refine ⟨by decide +kernel, fun x v => by kernel_rfl, fun x V hV hdep K hK => ?_⟩
    have e1 : x 1 = .bool true := depOf hdep 1 (by decide +kernel)
    clear hdep
    refine run_guard 1 60 (x 1) (by kernel_rfl) (by rw [hops]; exact uno_dst_1) (by kernel_rfl) e1 ?_; clear hops
    unfold unoFr
    go_simp
    refine kfit (hK _ _ (Below.refl _ V) rfl) ?_
    first | (simp only [unoFr, Act.put, List.setIfInBounds_toArray, List.set_cons_zero, List.set_cons_succ, h5, h11, h12, h13, h8, e1]; done) | (simp only [unoFr, Act.put, List.setIfInBounds_toArray, List.set_cons_zero, List.set_cons_succ, h5, h11, h12, h13, h8, e1]; rfl)
  -- 3: slot 62 := Op.binOp BinOp.eql 35 t61 (const Value.nilIface) 35
  refine And.intro ?_ ?_
  · rw [← hf]; clear hf
    refine ⟨by decide +kernel, fun x v => by kernel_rfl, fun x V hV hdep K hK => ?_⟩
    have e1 : x 1 = .bool true := depOf hdep 1 (by decide +kernel)
    have e2 : x 2 = .nilIface := depOf hdep 2 (by decide +kernel)
    clear hdep
    refine run_guard 1 60 (x 1) (by kernel_rfl) (by rw [hops]; exact uno_dst_1) (by kernel_rfl) e1 ?_; clear hops
    unfold unoFr
    go_simp
    refine kfit (hK _ _ (Below.refl _ V) rfl) ?_
    first | (simp only [unoFr, Act.put, List.setIfInBounds_toArray, List.set_cons_zero, List.set_cons_succ, h5, h11, h12, h13, h8, e1, e2]; done) | (simp only [unoFr, Act.put, List.setIfInBounds_toArray, List.set_cons_zero, List.set_cons_succ, h5, h11, h12, h13, h8, e1, e2]; rfl)
  -- 4: slot 63 := Op.pick t60 t62 (const (Value.bool false))
  refine And.intro ?_ ?_
  · rw [← hf]; clear hf
    refine ⟨by decide +kernel, fun x v => by kernel_rfl, fun x V hV hdep K hK => ?_⟩
    have e1 : x 1 = .bool true := depOf hdep 1 (by decide +kernel)
    have e3 : x 3 = .bool true := depOf hdep 3 (by decide +kernel)
    clear hdep
    refine run_bare (by kernel_rfl) ?_
    unfold unoFr
    go_simp
    refine kfit (hK _ _ (Below.refl _ V) rfl) ?_
    first | (simp only [unoFr, Act.put, List.setIfInBounds_toArray, List.set_cons_zero, List.set_cons_succ, h5, h11, h12, h13, h8, e1, e3]; done) | (simp only [unoFr, Act.put, List.setIfInBounds_toArray, List.set_cons_zero, List.set_cons_succ, h5, h11, h12, h13, h8, e1, e3]; rfl)
  -- 5: slot 64 := Op.move t63
  refine And.intro ?_ ?_
  · rw [← hf]; clear hf
    refine ⟨by decide +kernel, fun x v => by kernel_rfl, fun x V hV hdep K hK => ?_⟩
    have e4 : x 4 = .bool true := depOf hdep 4 (by decide +kernel)
    clear hdep
    refine run_bare (by kernel_rfl) ?_
    unfold unoFr
    go_simp
    refine kfit (hK _ _ (Below.refl _ V) rfl) ?_
    first | (simp only [unoFr, Act.put, List.setIfInBounds_toArray, List.set_cons_zero, List.set_cons_succ, h5, h11, h12, h13, h8, e4]; done) | (simp only [unoFr, Act.put, List.setIfInBounds_toArray, List.set_cons_zero, List.set_cons_succ, h5, h11, h12, h13, h8, e4]; rfl)
  -- 6: slot 65 := Op.load 29 t12
  refine And.intro ?_ ?_
  · rw [← hf]; clear hf
    refine ⟨by decide +kernel, fun x v => by kernel_rfl, fun x V hV hdep K hK => ?_⟩
    have e5 : x 5 = .bool true := depOf hdep 5 (by decide +kernel)
    clear hdep
    refine run_guard 5 64 (x 5) (by kernel_rfl) (by rw [hops]; exact uno_dst_5) (by kernel_rfl) e5 ?_; clear hops
    unfold unoFr
    obtain ⟨⟨y0, y1, y2⟩, ⟨y3, y4, y5⟩, y6⟩ := UO.cells hV
    go_simp
    refine kfit (hK _ _ (Below.refl _ V) rfl) ?_
    first | (simp only [unoFr, Act.put, List.setIfInBounds_toArray, List.set_cons_zero, List.set_cons_succ, h5, h11, h12, h13, h8, e5]; done) | (simp only [unoFr, Act.put, List.setIfInBounds_toArray, List.set_cons_zero, List.set_cons_succ, h5, h11, h12, h13, h8, e5]; rfl)
  -- 7: slot 66 := Op.load 29 t13
  refine And.intro ?_ ?_
  · rw [← hf]; clear hf
    refine ⟨by decide +kernel, fun x v => by kernel_rfl, fun x V hV hdep K hK => ?_⟩
    have e5 : x 5 = .bool true := depOf hdep 5 (by decide +kernel)
    clear hdep
    refine run_guard 5 64 (x 5) (by kernel_rfl) (by rw [hops]; exact uno_dst_5) (by kernel_rfl) e5 ?_; clear hops
    unfold unoFr
    obtain ⟨⟨y0, y1, y2⟩, ⟨y3, y4, y5⟩, y6⟩ := UO.cells hV
    go_simp
    refine kfit (hK _ _ (Below.refl _ V) rfl) ?_
    first | (simp only [unoFr, Act.put, List.setIfInBounds_toArray, List.set_cons_zero, List.set_cons_succ, h5, h11, h12, h13, h8, e5]; done) | (simp only [unoFr, Act.put, List.setIfInBounds_toArray, List.set_cons_zero, List.set_cons_succ, h5, h11, h12, h13, h8, e5]; rfl)
  -- 8: slot 67 := Op.call { value (Operand.func 13), args := #[t65, t66], argT
  refine And.intro ?_ ?_
  · rw [← hf]; clear hf
    refine ⟨by decide +kernel, fun x v => by kernel_rfl, fun x V hV hdep K hK => ?_⟩
    have e5 : x 5 = .bool true := depOf hdep 5 (by decide +kernel)
    have e6 : x 6 = .agg #[.int .i64 (tx).kind, .string (tx).name, .slice xa (tx).kids.length xc] := depOf hdep 6 (by decide +kernel)
    have e7 : x 7 = .agg #[.int .i64 (tx).kind, .string (tx).name, .slice ya (tx).kids.length yc] := depOf hdep 7 (by decide +kernel)
    clear hdep
    refine run_guard 5 64 (x 5) (by kernel_rfl) (by rw [hops]; exact uno_dst_5) (by kernel_rfl) e5 ?_; clear hops
    unfold unoFr
    obtain ⟨HC8, HC13, HC15⟩ := HC.out
    clear HC13 HC15
    have H := HC8 V hV
    replace H := Lib.hid H; clear HC8
    go_simp
    go_at_call 13
    refine H.out.mono ?_
    rintro e Y ⟨rfl, hb⟩; refine kfit (hK _ _ hb rfl) ?_
    first | (simp only [unoFr, Act.put, List.setIfInBounds_toArray, List.set_cons_zero, List.set_cons_succ, h5, h11, h12, h13, h8, e5, e6, e7]; done) | (simp only [unoFr, Act.put, List.setIfInBounds_toArray, List.set_cons_zero, List.set_cons_succ, h5, h11, h12, h13, h8, e5, e6, e7]; rfl)
  -- 9: slot 68 := Op.pick t64 t67 (const (Value.bool false))
  refine And.intro ?_ ?_
  · rw [← hf]; clear hf
    refine ⟨by decide +kernel, fun x v => by kernel_rfl, fun x V hV hdep K hK => ?_⟩
    have e5 : x 5 = .bool true := depOf hdep 5 (by decide +kernel)
    have e8 : x 8 = .bool true := depOf hdep 8 (by decide +kernel)
    clear hdep
    refine run_bare (by kernel_rfl) ?_
    unfold unoFr
    go_simp
    refine kfit (hK _ _ (Below.refl _ V) rfl) ?_
    first | (simp only [unoFr, Act.put, List.setIfInBounds_toArray, List.set_cons_zero, List.set_cons_succ, h5, h11, h12, h13, h8, e5, e8]; done) | (simp only [unoFr, Act.put, List.setIfInBounds_toArray, List.set_cons_zero, List.set_cons_succ, h5, h11, h12, h13, h8, e5, e8]; rfl)
  -- 10: slot 69 := Op.move t68
  refine And.intro ?_ ?_
  · rw [← hf]; clear hf
    refine ⟨by decide +kernel, fun x v => by kernel_rfl, fun x V hV hdep K hK => ?_⟩
    have e9 : x 9 = .bool true := depOf hdep 9 (by decide +kernel)
    clear hdep
    refine run_bare (by kernel_rfl) ?_
    unfold unoFr
    go_simp
    refine kfit (hK _ _ (Below.refl _ V) rfl) ?_
    first | (simp only [unoFr, Act.put, List.setIfInBounds_toArray, List.set_cons_zero, List.set_cons_succ, h5, h11, h12, h13, h8, e9]; done) | (simp only [unoFr, Act.put, List.setIfInBounds_toArray, List.set_cons_zero, List.set_cons_succ, h5, h11, h12, h13, h8, e9]; rfl)
  -- 11: slot 70 := Op.load 33 t8
  refine And.intro ?_ ?_
  · rw [← hf]; clear hf
    refine ⟨by decide +kernel, fun x v => by kernel_rfl, fun x V hV hdep K hK => ?_⟩
    have e10 : x 10 = .bool true := depOf hdep 10 (by decide +kernel)
    clear hdep
    refine run_guard 10 69 (x 10) (by kernel_rfl) (by rw [hops]; exact uno_dst_10) (by kernel_rfl) e10 ?_; clear hops
    unfold unoFr
    obtain ⟨⟨y0, y1, y2⟩, ⟨y3, y4, y5⟩, y6⟩ := UO.cells hV
    go_simp
    refine kfit (hK _ _ (Below.refl _ V) rfl) ?_
    first | (simp only [unoFr, Act.put, List.setIfInBounds_toArray, List.set_cons_zero, List.set_cons_succ, h5, h11, h12, h13, h8, e10]; done) | (simp only [unoFr, Act.put, List.setIfInBounds_toArray, List.set_cons_zero, List.set_cons_succ, h5, h11, h12, h13, h8, e10]; rfl)
  -- 12: slot 71 := Op.load 29 t12
  refine And.intro ?_ ?_
  · rw [← hf]; clear hf
    refine ⟨by decide +kernel, fun x v => by kernel_rfl, fun x V hV hdep K hK => ?_⟩
    have e10 : x 10 = .bool true := depOf hdep 10 (by decide +kernel)
    clear hdep
    refine run_guard 10 69 (x 10) (by kernel_rfl) (by rw [hops]; exact uno_dst_10) (by kernel_rfl) e10 ?_; clear hops
    unfold unoFr
    obtain ⟨⟨y0, y1, y2⟩, ⟨y3, y4, y5⟩, y6⟩ := UO.cells hV
    go_simp
    refine kfit (hK _ _ (Below.refl _ V) rfl) ?_
    first | (simp only [unoFr, Act.put, List.setIfInBounds_toArray, List.set_cons_zero, List.set_cons_succ, h5, h11, h12, h13, h8, e10]; done) | (simp only [unoFr, Act.put, List.setIfInBounds_toArray, List.set_cons_zero, List.set_cons_succ, h5, h11, h12, h13, h8, e10]; rfl)
  -- 13: slot 72 := Op.call { value (Operand.func 14), args := #[t70, t71], argT
  refine And.intro ?_ ?_
  · rw [← hf]; clear hf
    refine ⟨by decide +kernel, fun x v => by kernel_rfl, fun x V hV hdep K hK => ?_⟩
    have e10 : x 10 = .bool true := depOf hdep 10 (by decide +kernel)
    have e11 : x 11 = .agg #[.slice sa l.length sc] := depOf hdep 11 (by decide +kernel)
    have e12 : x 12 = .agg #[.int .i64 (tx).kind, .string (tx).name, .slice xa (tx).kids.length xc] := depOf hdep 12 (by decide +kernel)
    clear hdep
    refine run_guard 10 69 (x 10) (by kernel_rfl) (by rw [hops]; exact uno_dst_10) (by kernel_rfl) e10 ?_; clear hops
    unfold unoFr
    obtain ⟨HC8, HC13, HC15⟩ := HC.out
    clear HC8 HC15
    have H := HC13 V hV
    replace H := Lib.hid H; clear HC13
    go_simp
    go_at_call 14
    refine H.out.mono ?_
    rintro e Y ⟨⟨za, zc, rfl, hq⟩, hb⟩; refine kfit (hK _ _ hb ⟨za, zc, rfl, hq⟩) ?_
    first | (simp only [unoFr, Act.put, List.setIfInBounds_toArray, List.set_cons_zero, List.set_cons_succ, h5, h11, h12, h13, h8, e10, e11, e12]; done) | (simp only [unoFr, Act.put, List.setIfInBounds_toArray, List.set_cons_zero, List.set_cons_succ, h5, h11, h12, h13, h8, e10, e11, e12]; rfl)
  -- 14: slot 73 := Op.load 29 t12
  refine And.intro ?_ ?_
  · rw [← hf]; clear hf
    refine ⟨by decide +kernel, fun x v => by kernel_rfl, fun x V hV hdep K hK => ?_⟩
    have e10 : x 10 = .bool true := depOf hdep 10 (by decide +kernel)
    clear hdep
    refine run_guard 10 69 (x 10) (by kernel_rfl) (by rw [hops]; exact uno_dst_10) (by kernel_rfl) e10 ?_; clear hops
    unfold unoFr
    obtain ⟨⟨y0, y1, y2⟩, ⟨y3, y4, y5⟩, y6⟩ := UO.cells hV
    go_simp
    refine kfit (hK _ _ (Below.refl _ V) rfl) ?_
    first | (simp only [unoFr, Act.put, List.setIfInBounds_toArray, List.set_cons_zero, List.set_cons_succ, h5, h11, h12, h13, h8, e10]; done) | (simp only [unoFr, Act.put, List.setIfInBounds_toArray, List.set_cons_zero, List.set_cons_succ, h5, h11, h12, h13, h8, e10]; rfl)
  -- 15: slot 74 := Op.call { value (Operand.func 13), args := #[t72, t73], argT
  refine And.intro ?_ ?_
  · rw [← hf]; clear hf
    refine ⟨by decide +kernel, fun x v => by kernel_rfl, fun x V hV hdep K hK => ?_⟩
    have e10 : x 10 = .bool true := depOf hdep 10 (by decide +kernel)
    obtain ⟨za13, zc13, e13, d13⟩ : ∃ za13 zc13, x 13 = .agg #[.int .i64 (tx).kind, .string (tx).name, .slice za13 (tx).kids.length zc13] ∧ TysAt V (.slice za13 (tx).kids.length zc13) (tx).kids := depOf hdep 13 (by decide +kernel)
    have e14 : x 14 = .agg #[.int .i64 (tx).kind, .string (tx).name, .slice xa (tx).kids.length xc] := depOf hdep 14 (by decide +kernel)
    clear hdep
    refine run_guard 10 69 (x 10) (by kernel_rfl) (by rw [hops]; exact uno_dst_10) (by kernel_rfl) e10 ?_; clear hops
    unfold unoFr
    obtain ⟨HC8, HC13, HC15⟩ := HC.out
    clear HC8 HC13
    have H := HC15 V hV _ _ d13
    replace H := Lib.hid H; clear HC15
    go_simp
    go_at_call 13
    refine H.out.mono ?_
    rintro e Y ⟨rfl, hb⟩; refine kfit (hK _ _ hb rfl) ?_
    first | (simp only [unoFr, Act.put, List.setIfInBounds_toArray, List.set_cons_zero, List.set_cons_succ, h5, h11, h12, h13, h8, e10, e13, e14]; done) | (simp only [unoFr, Act.put, List.setIfInBounds_toArray, List.set_cons_zero, List.set_cons_succ, h5, h11, h12, h13, h8, e10, e13, e14]; rfl)
  -- 16: slot 75 := Op.pick t69 t74 (const (Value.bool false))
  refine And.intro ?_ ?_
  · rw [← hf]; clear hf
    refine ⟨by decide +kernel, fun x v => by kernel_rfl, fun x V hV hdep K hK => ?_⟩
    have e10 : x 10 = .bool true := depOf hdep 10 (by decide +kernel)
    have e15 : x 15 = .bool true := depOf hdep 15 (by decide +kernel)
    clear hdep
    refine run_bare (by kernel_rfl) ?_
    unfold unoFr
    go_simp
    refine kfit (hK _ _ (Below.refl _ V) rfl) ?_
    first | (simp only [unoFr, Act.put, List.setIfInBounds_toArray, List.set_cons_zero, List.set_cons_succ, h5, h11, h12, h13, h8, e10, e15]; done) | (simp only [unoFr, Act.put, List.setIfInBounds_toArray, List.set_cons_zero, List.set_cons_succ, h5, h11, h12, h13, h8, e10, e15]; rfl)
  -- 17: slot 4 := Op.assign t75
  refine And.intro ?_ ?_
  · rw [← hf]; clear hf
    refine ⟨by decide +kernel, fun x v => by kernel_rfl, fun x V hV hdep K hK => ?_⟩
    have e16 : x 16 = .bool true := depOf hdep 16 (by decide +kernel)
    clear hdep
    refine run_bare (by kernel_rfl) ?_
    unfold unoFr
    go_simp
    refine kfit (hK _ _ (Below.refl _ V) rfl) ?_
    first | (simp only [unoFr, Act.put, List.setIfInBounds_toArray, List.set_cons_zero, List.set_cons_succ, h5, h11, h12, h13, h8, e16]; done) | (simp only [unoFr, Act.put, List.setIfInBounds_toArray, List.set_cons_zero, List.set_cons_succ, h5, h11, h12, h13, h8, e16]; rfl)
  exact trivial
theorem uno_here {w : World} {b8 b12 b13 : Nat} {tx : T} {xa ya sa : Option Addr} {xc yc sc : Nat} {l : List PR}
    (HC8 : ∀ V, UO w b8 b12 b13 tx xa ya xc yc sa sc l V → Calls Tryd.prog 13 #[.agg #[.int .i64 (tx).kind, .string (tx).name, .slice xa (tx).kids.length xc], .agg #[.int .i64 (tx).kind, .string (tx).name, .slice ya (tx).kids.length yc]] V fun e Y => e = .returned (.bool true) ∧ Below V.heap.size V Y)
    (HC13 : ∀ V, UO w b8 b12 b13 tx xa ya xc yc sa sc l V → Calls Tryd.prog 14 #[.agg #[.slice sa l.length sc], .agg #[.int .i64 (tx).kind, .string (tx).name, .slice xa (tx).kids.length xc]] V fun e Y => (∃ za zc, e = .returned (.agg #[.int .i64 (tx).kind, .string (tx).name, .slice za (tx).kids.length zc]) ∧ TysAt Y (.slice za (tx).kids.length zc) (tx).kids) ∧ Below V.heap.size V Y)
    (HC15 : ∀ V, UO w b8 b12 b13 tx xa ya xc yc sa sc l V → ∀ za13, ∀ zc13, TysAt V (.slice za13 (tx).kids.length zc13) (tx).kids → Calls Tryd.prog 13 #[.agg #[.int .i64 (tx).kind, .string (tx).name, .slice za13 (tx).kids.length zc13], .agg #[.int .i64 (tx).kind, .string (tx).name, .slice xa (tx).kids.length xc]] V fun e Y => e = .returned (.bool true) ∧ Below V.heap.size V Y)
    {Q : Exit → Act → World → Prop} {ops : Array Oper} {a : Act} (X : World) (hops : ops = unoOps)
    (h5 : a.tmps.getD 5 undef = .bool true) (h11 : a.tmps.getD 11 undef = .nilIface) (h12 : a.tmps.getD 12 undef = .pointer (some ⟨b12, 0, none⟩)) (h13 : a.tmps.getD 13 undef = .pointer (some ⟨b13, 0, none⟩)) (h8 : a.tmps.getD 8 undef = .pointer (some ⟨b8, 0, none⟩))
    (ha : a = unoFr (fun j => a.tmps.getD j undef) a.defers (fun i => a.tmps.getD (if i = 17 then 4 else 59 + i) undef)) (hS : UO w b8 b12 b13 tx xa ya xc yc sa sc l X.drew)
    (hfin : ∀ x V, UO w b8 b12 b13 tx xa ya xc yc sa sc l V → x 17 = .bool true → Q .normal (unoFr (fun j => a.tmps.getD j undef) a.defers x) V) : (Code.region 14 ops true).wp Tryd.prog Q a X :=
  cast (congrArg (fun z => (Code.region 14 ops true).wp Tryd.prog Q z X) ha.symm) (uno_region (b := fun j => a.tmps.getD j undef) (d := a.defers) h5 h11 h12 h13 h8 HC8 HC13 HC15 hops _ X hS hfin)
end Go.Proofs.YthpphjkoiipkkaaDoor
